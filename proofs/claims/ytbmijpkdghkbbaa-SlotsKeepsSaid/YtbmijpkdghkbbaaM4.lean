/- Part 4. -/
import Derived.Test.YtbmijpkdghkbbaaM1
import Derived.Test.YtbmijpkdghkbbaaM3
set_option linter.unusedSimpArgs false
set_option linter.unusedVariables false
set_option maxHeartbeats 8000000
set_option maxRecDepth 100000
namespace Go.Proofs.Ytbmijpkdghkbbaa
open Go.Conc Go.RowKit Go.Relay
open Go.ConcN (upd upd_ne upd_same)
section
variable {main : Bool}
structure CpI (T : Nat) (tv : Value) (i : Nat) (g cp : Nat → Nat) (ln : Nat → Nat) (rows : Nat → List Value) (w1 w : World) : Prop where
  size : T ≤ w.heap.size
  old : ∀ b, b < T → w.heap[b]? = w1.heap[b]?
  hd : ∃ a c, tv = .slice a i c
  hdr : w.ownsRow T 34 1 tv i ((List.range i).map fun j => .slice (some ⟨g j, 0, none⟩) (ln j) (cp j))
  row : ∀ j, j < i → w.ownsRow T 49 4 (.slice (some ⟨g j, 0, none⟩) (ln j) (cp j)) (ln j) (rows j)
  one : ∀ j k, j < i → k < i → g j = g k → j = k
theorem CpI.at {T : Nat} {tv : Value} {i : Nat} {g cp ln : Nat → Nat} {rows : Nat → List Value} {w1 w : World} (H : CpI T tv i g cp ln rows w1 w) (d : Nat) : CpI T tv i g cp ln rows w1 (w.at d) := ⟨H.size, H.old, H.hd, H.hdr, H.row, H.one⟩
theorem ks0 (st sc : Value) (X Y i n tcap T ln lc oc sb so : Nat) (ta : Option Addr) (la : Option Addr) (xs : List Value) (row : List Value) (u : Nat → Value) (cs : List Frame) (w : World) (hi : i < n) (hn : n ≤ 5864062014805) (hln : ln ≤ 4398046511104) (hX : w.cell? ⟨X, 1, none⟩ = some (.slice (some ⟨sb, so, none⟩) n lc)) (h1 : w.cell? ⟨sb, so + i, none⟩ = some (.slice la ln oc)) (hr : RwR (.slice la ln oc) ln row w) (hrl : row.length = ln * 4) (hone : ∀ x ∈ row, x.oneCell' = true)
    (hrow : w.ownsRow T 34 1 (.slice ta i tcap) i xs) (hT : T ≤ w.heap.size) :
    Walk Try.prog main (DR (fun _ => none)) (fun g' w' => ∃ (g2 c2 g c : Nat) (w2 : World), (∃ u', g' = G (hk0 st sc (.slice (some ⟨g2, 0, none⟩) (i + 1) c2) X Y (i + 1) u') cs) ∧ (∃ d, w' = w2.at d) ∧ w.heap.size ≤ w2.heap.size ∧ (∀ b, b < w.heap.size → (Value.slice ta i tcap).ownBlock ≠ some b → w2.heap[b]? = w.heap[b]?) ∧ w.heap.size ≤ g ∧
      w2.ownsRow T 49 4 (.slice (some ⟨g, 0, none⟩) ln c) ln row ∧ w2.ownsRow T 34 1 (.slice (some ⟨g2, 0, none⟩) (i + 1) c2) (i + 1) (xs ++ [.slice (some ⟨g, 0, none⟩) ln c])) (G (hk0 st sc (.slice ta i tcap) X Y i u) cs) w := by
  have hw1 : IntKind.wrap .i64 ((i : Int) + 1) = (i : Int) + 1 := by rw [IntKind.wrap_i64]; omega
  have hc : ((i + 1 : Nat) : Int) = (i : Int) + 1 := by simp
  have hiO := Option.some_get (show (Try.prog.info? 49).isSome = true by kernel_rfl)
  have hiH := Option.some_get (show (Try.prog.info? 34).isSome = true by kernel_rfl)
  conv => arg 5; unfold hk0
  repeat (first | refine Walk.c rfl ?_ | refine Walk.cRet ?_ | refine Walk.cEnd ?_ | (refine Walk.cReg ?_; simp only [size8_0, size8_1, size8_2, size8_3, size8_4, size8_5, size8_6, size8_7, size8_9, size8_8, size8_10, size8_11, size8_12, size8_13, size8_15, size8_16, size8_18, size8_19, size8_20, size8_17, size8_14, size8_21, size8_22, size8_24, size8_23, size8_25, size8_26, size8_28, size8_27, size8_29, size8_30, size8_32, size8_33, size8_35, size8_36, size8_38, size8_37, size8_39, size8_40, size8_41, size8_34, size8_42, size8_43, size8_44, size8_46, size8_45, size8_31, size8_47, size8_48, size8_50, size8_51, size8_53, size8_54, size8_52, size8_49, size8_55, size8_56, size8_57, List.range, List.range.loop]) | (refine Walk.oq ?_; try walk_nrm) | (refine Walk.un ?_; walk_nrm))
  (refine Walk.oa ?_; try walk_nrm)
  have s1 : (w.alloc (.cells #[] 49)).heap.size = w.heap.size + 1 := by simp
  have o1 : ∀ b, b < w.heap.size → (w.alloc (.cells #[] 49)).heap[b]? = w.heap[b]? := fun b hb => heap_new_lt _ _ hb
  have e1 := heap_alloc_new w (.cells #[] 49)
  have qX := cell_alloc w (.cells #[] 49) hX
  have q1 := cell_alloc w (.cells #[] 49) h1
  have hr1 := hr.old o1
  try simp only [s1]
  generalize hE : w.heap.size = E at *
  generalize w.alloc (.cells #[] 49) = x1 at *
  repeat (first | (refine Walk.oq ?_; try walk_nrm) | (refine Walk.un ?_; walk_nrm))
  refine Walk.copiedT (.tmp 46) (.tmp 51) 34 49 _ (.agg #[.int .i64 0, .int .i64 0, .int .i64 0, .int .i64 0]) 4 32 (by kernel_rfl) hiO.symm (by rfl) (by rfl) (by rfl) (by rfl) (by decide) (ho_of (by conv => lhs; whnf) (by kernel_rfl)) (by rfl) (by decide) rfl E e1 (ap0 _) (.slice la ln oc) ln row hr1 hrl hone (by simp only [maxLen]; omega) (by omega) rfl rfl (fun g c x2 r2 ho2 hs2 => ?_)
  have oo2 : ∀ b, b < E → x2.heap[b]? = w.heap[b]? := fun b hb => (ho2 b (by omega) (by omega)).trans (o1 b hb)
  have lg := r2.lt g rfl
  have hrow2 := row_same hrow (w' := x2) fun b hb => oo2 b (by have := (hrow.lt b hb).2; omega)
  clear ho2 e1 o1 hr1 qX q1 hX h1 hr
  walk_nrm
  repeat (first | (refine Walk.oq ?_; try walk_nrm) | (refine Walk.un ?_; walk_nrm))
  (refine Walk.oa ?_; try walk_nrm)
  have s3 : (x2.alloc (.cells #[.slice (some ⟨g, 0, none⟩) ln c] 34)).heap.size = x2.heap.size + 1 := by simp
  have o3 : ∀ b, b < x2.heap.size → (x2.alloc (.cells #[.slice (some ⟨g, 0, none⟩) ln c] 34)).heap[b]? = x2.heap[b]? := fun b hb => heap_new_lt _ _ hb
  have e3 := heap_alloc_new x2 (.cells #[.slice (some ⟨g, 0, none⟩) ln c] 34)
  have r3 := row_same r2 (w' := x2.alloc (.cells #[.slice (some ⟨g, 0, none⟩) ln c] 34)) fun b hb => o3 b (r2.lt b hb).2
  have hrow3 := row_same hrow2 (w' := x2.alloc (.cells #[.slice (some ⟨g, 0, none⟩) ln c] 34)) fun b hb => o3 b (hrow2.lt b hb).2
  generalize hF : x2.heap.size = F at *
  generalize x2.alloc (.cells #[.slice (some ⟨g, 0, none⟩) ln c] 34) = x3 at *
  repeat (first | (refine Walk.oq ?_; try walk_nrm) | (refine Walk.un ?_; walk_nrm))
  refine Walk.append (.tmp 45) (.tmp 53) 23 (ho_of (by conv => lhs; whnf) (by kernel_rfl)) (by rfl) (by decide) rfl T 34 _ (.slice none 0 0) 1 24 (by kernel_rfl) hiH.symm (by rfl) (by rfl) (by rfl) (by rfl) (by decide) (.slice ta i tcap) i xs rfl hrow3 ⟨F, 0, none⟩ 1 1 [.slice (some ⟨g, 0, none⟩) ln c] rfl (by rfl) (fun j x hx => ?_) (by simp [Value.oneCell']) (by decide) (by simp [maxLen]; omega) (by omega) (by omega) (fun g _ => ap0 g) (fun g2 c2 x4 r4 hg4 at4 lt4 => ?_)
  · rw [add_none, Nat.zero_add]
    refine (cell_of e3 j).trans ?_
    simpa using hx
  have Z4 := hg4.size
  have hgE : E ≤ g := lg.1
  have O4 : ∀ b, b < E → (Value.slice ta i tcap).ownBlock ≠ some b → x4.heap[b]? = w.heap[b]? := fun b hb hne => (hg4.block b (by omega) fun e => hne e.symm).trans ((o3 b (by omega)).trans (oo2 b hb))
  have hgn : (Value.slice ta i tcap).ownBlock ≠ some g := fun e => by
    have := (hrow.lt g e).2
    omega
  have R4 := row_same r3 (w' := x4) fun b hb => by
    have hb : some g = some b := hb
    cases hb
    exact hg4.block g (by omega) fun e => hgn e.symm
  have R4' := row_low R4 (show T ≤ E by omega)
  have Zb : E ≤ x4.heap.size := by omega
  clear hg4 at4 e3 r3 o3 r2 oo2 hrow2 hrow3 hrow R4
  walk_nrm
  repeat (first | refine Walk.c rfl ?_ | refine Walk.cRet ?_ | refine Walk.cEnd ?_ | (refine Walk.cReg ?_; simp only [size8_0, size8_1, size8_2, size8_3, size8_4, size8_5, size8_6, size8_7, size8_9, size8_8, size8_10, size8_11, size8_12, size8_13, size8_15, size8_16, size8_18, size8_19, size8_20, size8_17, size8_14, size8_21, size8_22, size8_24, size8_23, size8_25, size8_26, size8_28, size8_27, size8_29, size8_30, size8_32, size8_33, size8_35, size8_36, size8_38, size8_37, size8_39, size8_40, size8_41, size8_34, size8_42, size8_43, size8_44, size8_46, size8_45, size8_31, size8_47, size8_48, size8_50, size8_51, size8_53, size8_54, size8_52, size8_49, size8_55, size8_56, size8_57, List.range, List.range.loop]) | (refine Walk.oq ?_; try walk_nrm) | (refine Walk.un ?_; walk_nrm))
  refine Walk.ctl rfl (fun w => stepG_inLoop) ?_
  refine .stop fun d => ⟨g2, c2, g, c, x4, at_slots ?_, ⟨d, rfl⟩, Zb, O4, hgE, R4', r4⟩
  simp only [hk0, hc]
  rfl
theorem ks0_all (st sc : Value) (X Y n T lc sb so : Nat) (la : Nat → Option Addr) (ln oc : Nat → Nat) (rows : Nat → List Value) (cs : List Frame) (w1 : World) (hn : n ≤ 5864062014805) (hln : ∀ i, i < n → ln i ≤ 4398046511104) (hX : 0 < n → w1.cell? ⟨X, 1, none⟩ = some (.slice (some ⟨sb, so, none⟩) n lc)) (h1 : ∀ i, i < n → w1.cell? ⟨sb, so + i, none⟩ = some (.slice (la i) (ln i) (oc i))) (hr : ∀ i, i < n → RwR (.slice (la i) (ln i) (oc i)) (ln i) (rows i) w1) (hrl : ∀ i, i < n → (rows i).length = ln i * 4) (hone : ∀ i, i < n → ∀ x ∈ rows i, x.oneCell' = true) (hT : w1.heap.size = T) :
    ∀ (r i : Nat) (tv : Value) (g cp : Nat → Nat) (u : Nat → Value) (w : World), i + r = n → CpI T tv i g cp ln rows w1 w → Walk Try.prog main (DR (fun _ => none)) (fun gz w' => ∃ tv' g' cp', (∃ u', gz = G (hk0 st sc tv' X Y n u') cs) ∧ CpI T tv' n g' cp' ln rows w1 w') (G (hk0 st sc tv X Y i u) cs) w := by
  intro r
  induction r with
  | zero =>
    intro i tv g cp u w hi H
    have hi : i = n := hi
    subst hi
    exact .stop fun d => ⟨tv, g, cp, ⟨u, rfl⟩, H.at d⟩
  | succ r ih =>
    intro i tv g cp u w hi H
    have hin : i < n := by omega
    obtain ⟨ta, tcap, rfl⟩ := H.hd
    have up : ∀ {b j : Nat} {v : Value}, w1.cell? ⟨b, j, none⟩ = some v → w.cell? ⟨b, j, none⟩ = some v := fun {b j v} e => (World.cell?_of_block (a := ⟨b, j, none⟩) (H.old b (by have := cell_lt' e; omega))).trans e
    refine (ks0 st sc X Y i n tcap T (ln i) lc (oc i) sb so ta (la i) _ (rows i) u cs w hin hn (hln i hin) (up (hX (by omega))) (up (h1 i hin)) ((hr i hin).old fun b hb => H.old b (by omega)) (hrl i hin) (hone i hin) H.hdr H.size).then ?_
    rintro _ _ ⟨g2, c2, gn, cn, w2, ⟨u', rfl⟩, ⟨d, rfl⟩, z2, o2, hgn, hrow, hhdr⟩
    refine Walk.back ?_ d
    have hs := H.size
    have hlt : ∀ j, j < i → g j < w.heap.size := fun j hj => ((H.row j hj).lt (g j) rfl).2
    refine ih (i + 1) _ (upd g i gn) (upd cp i cn) u' w2 (by omega) ⟨by omega, fun b hb => (o2 b (by omega) fun e => by have := (H.hdr.lt b e).1; omega).trans (H.old b hb), ⟨_, _, rfl⟩, ?_, fun j hj => ?_, fun j k hj hk e => ?_⟩
    · rw [List.range_succ, List.map_append]
      have e1 : ((List.range i).map fun j => Value.slice (some ⟨upd g i gn j, 0, none⟩) (ln j) (upd cp i cn j)) = (List.range i).map fun j => Value.slice (some ⟨g j, 0, none⟩) (ln j) (cp j) :=
        List.map_congr_left fun j hj => by
          have := List.mem_range.1 hj
          rw [upd_ne _ _ (by omega), upd_ne _ _ (by omega)]
      rw [e1]
      simp only [List.map_cons, List.map_nil, upd_same]
      exact hhdr
    · by_cases e : j = i
      · subst e
        rw [upd_same, upd_same]
        exact hrow
      · rw [upd_ne _ _ e, upd_ne _ _ e]
        refine row_same (H.row j (by omega)) fun b hb => ?_
        have hb : some (g j) = some b := hb
        cases hb
        refine o2 (g j) (hlt j (by omega)) fun eb => ?_
        have hr1 := H.row j (by omega)
        rcases hr1.2 with ⟨e1, _⟩ | ⟨ga, _, ca, e1, _, h1, _⟩
        · cases e1
        · cases e1
          rcases H.hdr.2 with ⟨e2, _⟩ | ⟨gb, _, cb, e2, _, h2, _⟩
          · rw [e2] at eb; cases eb
          · rw [e2] at eb
            cases eb
            rw [h1] at h2
            cases h2
    · by_cases ej : j = i
      · by_cases ek : k = i
        · omega
        · subst ej
          rw [upd_same, upd_ne _ _ ek] at e
          have := hlt k (by omega)
          omega
      · by_cases ek : k = i
        · subst ek
          rw [upd_same, upd_ne _ _ ej] at e
          have := hlt j (by omega)
          omega
        · rw [upd_ne _ _ ej, upd_ne _ _ ek] at e
          exact H.one j k (by omega) (by omega) e
end
section
def OldK (w0 w : World) : Prop := w0.heap.size ≤ w.heap.size ∧ ∀ b, b < w0.heap.size → w.heap[b]? = w0.heap[b]?
theorem OldK.refl (w : World) : OldK w w := ⟨Nat.le_refl _, fun _ _ => rfl⟩
theorem OldK.at {w0 w : World} (h : OldK w0 w) (d : Nat) : OldK w0 (w.at d) := h
theorem OldK.trans {w0 w1 w2 : World} (h1 : OldK w0 w1) (h2 : OldK w1 w2) : OldK w0 w2 := ⟨Nat.le_trans h1.1 h2.1, fun b hb => (h2.2 b (Nat.lt_of_lt_of_le hb h1.1)).trans (h1.2 b hb)⟩
def zTk : Obj := .cells #[.slice none 0 0, .slice none 0 0, .slice none 0 0, .bool false] 31
noncomputable def tmK (k1 k2 xl sl c1 c2 X Y : Nat) (tv : Value) (u : Nat → Value) : Array Value := #[u 0, u 1, .pointer (some ⟨X, 0, none⟩), .pointer (some ⟨Y, 0, none⟩), .bool false, .slice (some ⟨k1, 0, none⟩) (xl + 1) c1, .slice (some ⟨k2, 0, none⟩) (sl + 1) c2, tv, u 8, u 9, u 10, u 11, u 12, u 13, u 14, u 15, u 16, u 17, u 18, u 19, u 20, u 21, u 22, u 23, u 24, u 25, u 26, u 27, u 28, u 29, u 30, u 31, u 32, u 33, u 34, u 35, u 36, u 37, u 38, u 39, u 40, u 41, u 42, u 43, u 44, u 45, u 46, u 47, u 48, u 49, u 50, u 51, u 52, u 53, u 54, u 55, u 56, u 57, u 58, u 59, u 60, u 61, u 62, u 63, u 64, u 65, u 66, u 67, u 68, u 69, u 70, u 71, u 72, u 73, u 74, u 75, u 76, u 77, u 78, u 79, u 80, u 81, u 82, u 83, u 84, u 85, u 86, u 87, u 88, u 89, u 90, u 91, u 92, u 93, u 94, u 95, u 96, u 97, u 98, u 99, u 100, u 101, u 102, u 103, u 104, u 105, u 106, u 107, u 108, u 109, u 110, u 111, u 112, u 113, u 114, u 115, u 116, u 117, u 118, u 119, u 120, u 121, u 122, u 123, u 124, u 125, u 126, u 127, u 128, u 129, u 130, u 131, u 132, u 133, u 134, u 135, u 136, u 137, u 138, u 139, u 140, u 141, u 142, u 143, u 144, u 145, u 146, u 147, u 148, u 149, u 150, u 151, u 152, u 153, u 154, u 155, u 156, u 157, u 158, u 159, u 160, u 161, u 162, u 163, u 164, u 165, u 166, u 167, u 168, u 169, u 170, u 171, u 172, u 173, u 174, u 175, u 176, u 177, u 178, u 179, u 180, u 181, u 182, u 183, u 184, u 185, u 186, u 187, u 188, u 189, u 190, u 191, u 192, u 193, u 194, u 195, u 196, u 197, u 198, u 199, u 200, u 201, u 202, u 203, u 204, u 205, u 206, u 207, u 208, u 209, u 210, u 211, u 212, u 213, u 214, u 215, u 216, u 217, u 218, u 219, u 220, u 221, u 222, u 223, u 224, u 225, u 226, u 227, u 228, u 229, u 230, u 231, u 232, u 233, u 234, u 235, u 236, u 237, u 238, u 239, u 240, u 241, u 242, u 243, u 244, u 245, u 246, u 247, u 248, u 249, u 250, u 251, u 252, u 253, u 254, u 255, u 256, u 257, u 258, u 259, u 260, u 261, u 262, u 263, u 264, u 265, u 266, u 267, u 268, u 269, u 270, u 271, u 272, u 273, u 274, u 275, u 276, u 277, u 278, u 279, u 280, u 281, u 282, u 283, u 284, u 285, u 286, u 287, u 288, u 289, u 290, u 291, u 292, u 293, u 294, u 295, u 296, u 297, u 298, u 299, u 300]
def dsK : List Nat := [55, 56, 57, 58, 59, 60, 61, 62, 63, 64, 65, 66, 67, 68, 9]
def vsK (k1 k2 xl sl c1 c2 X xc sc' : Nat) (xa sa : Option Addr) (tv : Value) (most : Int) (vA : Value) (A : Nat) : List Value := [.slice (some ⟨k1, 0, none⟩) (xl + 1) c1, .pointer (some ⟨X, 0, none⟩), (.slice xa xl xc : Value), .int .i64 xl, .slice (some ⟨k1, 0, none⟩) xl c1, tv, .slice (some ⟨k2, 0, none⟩) (sl + 1) c2, .pointer (some ⟨X, 2, none⟩), (.slice sa sl sc' : Value), .int .i64 sl, .slice (some ⟨k2, 0, none⟩) sl c2, .pointer (some ⟨X, 3, none⟩), .int .i64 most, vA, .pointer (some ⟨A, 0, none⟩)]
theorem facts_valsK {dsts : List Nat} {vals vals' : List Value} {f : Nat → Bool} {u : Nat → Value} (F : Facts dsts vals f u) (h : ∀ j v, f j = true → vals'[j]? = some v → vals[j]? = some v) : Facts dsts vals' f u := fun j d v hf hd hv => F j d v hf hd (h j v hf hv)
structure RK10 (TX : Array Value → World → Prop) (w0 : World) (f : Nat → Bool) (vA : Value) (A : Nat) (w : World) : Prop where
  old : OldK w0 w
  blk : f 14 = true → w0.heap.size ≤ A ∧ A < w.heap.size ∧ (f 15 = false → w.heap[A]? = some zTk)
  tr : f 13 = true → ∃ cells, vA = .agg cells ∧ TX cells w ∧ (f 15 = true → w.heap[A]? = some (.cells cells 31))
section
variable {TX : Array Value → World → Prop} {w0 w : World} {f : Nat → Bool} {vA : Value} {A : Nat}
theorem RK10.quiet (h : RK10 TX w0 f vA A w) {i : Nat} (h1 : i ≠ 13) (h2 : i ≠ 14) (h3 : i ≠ 15) : RK10 TX w0 (upd f i true) vA A w :=
  ⟨h.old, by rw [upd_ne _ _ (Ne.symm h2), upd_ne _ _ (Ne.symm h3)]; exact h.blk, by rw [upd_ne _ _ (Ne.symm h1), upd_ne _ _ (Ne.symm h3)]; exact h.tr⟩
end
theorem kr10 (k1 k2 xl sl c1 c2 X Y xc sc' : Nat) (xa sa : Option Addr) (tv tv0 : Value) (most : Int) (w0 : World) (hX : w0.heap[X]? = some (.cells #[.slice xa xl xc, tv0, .slice sa sl sc', .int .i64 most] 26)) (hc1 : xl ≤ c1) (hc2 : sl ≤ c2)
    (TX : Array Value → World → Prop) (hTX : ∀ cells w w', TX cells w → (∀ (b : Nat) (cur : Array Value) (t : TypeId), w.heap[b]? = some (.cells cur t (0, 0)) → t ≠ 31 → w'.heap[b]? = w.heap[b]?) → TX cells w') (hT4 : ∀ cells w, TX cells w → cells.size = 4 ∧ cells.all (·.oneCell') = true)
    {Post : Goroutine → World → Prop} (hP : ∀ w, OldK w0 w → ∀ d fr, Runs (fun g w' => ∃ cells, g = G (fr.finish (.agg cells)) [] ∧ TX cells w' ∧ OldK w w') (G (Frame.enter Try.prog 16 #[.slice (some ⟨k1, 0, none⟩) xl c1, tv, .slice (some ⟨k2, 0, none⟩) sl c2, .int .i64 most] .normal) [fr]) (w.at d))
    (u0 : Nat → Value) (kx : List Item)
    (hk : ∀ u cells A w, u 9 = .pointer (some ⟨A, 0, none⟩) → OldK w0 w → w0.heap.size ≤ A → A < w.heap.size → w.heap[A]? = some (.cells cells 31) → TX cells w → Runs Post (G ((base 8).at ⟨tmK k1 k2 xl sl c1 c2 X Y tv u, []⟩ (.inRegion reg8_10 [] :: kx)) []) w) :
    Runs Post (G ((base 8).at ⟨tmK k1 k2 xl sl c1 c2 X Y tv u0, []⟩ (.code (.region 10 reg8_10 true) :: kx)) []) w0 := by
  have hu64 : Try.prog.underlying 22 = some (.slice 2) := by kernel_rfl
  have huin : Try.prog.underlying 24 = some (.slice 3) := by kernel_rfl
  have hi64 := Option.some_get (show (Try.prog.info? 2).isSome = true by kernel_rfl)
  have hiin := Option.some_get (show (Try.prog.info? 3).isSome = true by kernel_rfl)
  have ha := fun w => (run_slx hu64 hi64.symm (some ⟨k1, 0, none⟩) (xl + 1) c1 xl hc1 (.inr ⟨_, rfl⟩) w #[]).1
  have hae := fun w es => (run_slx hu64 hi64.symm (some ⟨k1, 0, none⟩) (xl + 1) c1 xl hc1 (.inr ⟨_, rfl⟩) w es).2
  have hb := fun w => (run_slx huin hiin.symm (some ⟨k2, 0, none⟩) (sl + 1) c2 sl hc2 (.inr ⟨_, rfl⟩) w #[]).1
  have hbe := fun w es => (run_slx huin hiin.symm (some ⟨k2, 0, none⟩) (sl + 1) c2 sl hc2 (.inr ⟨_, rfl⟩) w es).2
  have hXl := (Array.getElem?_eq_some_iff.1 hX).1
  refine Runs.drawnR (Inv := fun f a' w => ∃ u vA A, a' = ⟨tmK k1 k2 xl sl c1 c2 X Y tv u, []⟩ ∧ Facts dsK (vsK k1 k2 xl sl c1 c2 X xc sc' xa sa tv most vA A) f u ∧ RK10 TX w0 f vA A w) (by kernel_rfl) (by kernel_rfl) (fun d => ⟨u0, undef, 0, rfl, Facts.none _ _ _, (OldK.refl w0).at d, fun h => (by cases h), fun h => (by cases h)⟩) ?_ ?_
  · rintro f i op act w ⟨u, vA, A, rfl, F0, L⟩ hC hfi ho hdeps rest hr0
    have hi : i < 16 := by have := (Array.getElem?_eq_some_iff.1 ho).1; rw [size8_10] at this; exact this
    have hX' := (L.old.2 X hXl).trans hX
    have c0 : w.cell? ⟨X, 0, none⟩ = some (.slice xa xl xc) := (cell_of hX' 0).trans rfl
    have c2x : w.cell? ⟨X, 2, none⟩ = some (.slice sa sl sc') := (cell_of hX' 2).trans rfl
    have c3 : w.cell? ⟨X, 3, none⟩ = some (.int .i64 most) := (cell_of hX' 3).trans rfl
    have hbeq : RK10 TX w0 f vA A w := L
    by_cases e13 : i = 13
    · subst e13
      have hd := deps_of (l := [4, 5, 10, 12]) (by kernel_rfl) ho hdeps
      have e59 := F0 4 59 _ (hd 4 (by simp)) rfl rfl
      have e60 := F0 5 60 _ (hd 5 (by simp)) rfl rfl
      have e65 := F0 10 65 _ (hd 10 (by simp)) rfl rfl
      have e67 := F0 12 67 _ (hd 12 (by simp)) rfl rfl
      have h15 : f 15 = false := by
        cases h : f 15 with
        | false => rfl
        | true => have := hC.deps (i := 15) (l := [14, 13]) h (by kernel_rfl) 13 (by simp); rw [hfi] at this; cases this
      refine Runs.walk (Stop := fun g w'' => ∃ d fr, w'' = w.at d ∧ g = G (Frame.enter Try.prog 16 #[.slice (some ⟨k1, 0, none⟩) xl c1, tv, .slice (some ⟨k2, 0, none⟩) sl c2, .int .i64 most] .normal) [fr] ∧ ∀ (cells : Array Value) (w3 : World), (∀ x, Runs Post (G ((base 8).at ⟨tmK k1 k2 xl sl c1 c2 X Y tv (upd u 68 (.agg cells)), []⟩ (.inRegion reg8_10 rest :: kx)) []) (w3.at x)) → Runs Post (G (fr.finish (.agg cells)) []) w3) ?_ ?_
      · clear hdeps hC L hbeq hP hr0 hk hTX hT4 c0 c2x c3 hX' ha hae hb hbe
        simp only [tmK]
        refine Walk.callE (ho_of (by conv => lhs; whnf) (by kernel_rfl)) (by rfl) (by decide) rfl Try.func16 (by kernel_rfl) (by rfl) ?_
        walk_nrm
        simp only [e59, e60, e65, e67]
        refine .stop fun d => ⟨d, _, rfl, rfl, fun cells w3 hh => ?_⟩
        refine Runs.walk (Stop := fun g w4 => ∃ x, g = G ((base 8).at ⟨tmK k1 k2 xl sl c1 c2 X Y tv (upd u 68 (.agg cells)), []⟩ (.inRegion reg8_10 rest :: kx)) [] ∧ w4 = w3.at x) ?_ ?_
        · refine Walk.finish (ho_of (by conv => lhs; whnf) (by kernel_rfl)) ?_
          walk_nrm
          refine .stop fun x => ⟨x, ?_, rfl⟩
          simp [tmK, upd, e59, e60, e65, e67]
        · rintro _ _ ⟨x, rfl, rfl⟩
          exact hh x
      · rintro _ _ ⟨d, fr, rfl, rfl, hfr⟩
        refine Runs.then (hP w L.old d fr) ?_
        rintro _ w3 ⟨cells, rfl, hT, O3⟩
        refine hfr cells w3 fun x => hr0 _ _ ⟨upd u 68 (.agg cells), .agg cells, A, rfl, Facts.set (facts_valsK F0 fun j v hf hv => ?_) (by decide) rfl rfl, L.old.trans (O3.at x), fun h => ?_, fun _ => ⟨cells, rfl, hTX _ _ _ hT fun _ _ _ _ _ => rfl, fun h => ?_⟩⟩
        · exact match j, hf, hv with
          | 0, _, hv => hv
          | 1, _, hv => hv
          | 2, _, hv => hv
          | 3, _, hv => hv
          | 4, _, hv => hv
          | 5, _, hv => hv
          | 6, _, hv => hv
          | 7, _, hv => hv
          | 8, _, hv => hv
          | 9, _, hv => hv
          | 10, _, hv => hv
          | 11, _, hv => hv
          | 12, _, hv => hv
          | 13, hf, hv => by rw [hfi] at hf; cases hf
          | 14, _, hv => hv
          | j + 15, _, hv => hv
        · rw [upd_ne _ _ (by decide)] at h
          obtain ⟨b1, b2, b3⟩ := L.blk h
          refine ⟨b1, Nat.lt_of_lt_of_le b2 O3.1, fun _ => (O3.2 A b2).trans (b3 h15)⟩
        · rw [upd_ne _ _ (by decide), h15] at h
          cases h
    refine Runs.walk (Stop := fun g w'' => ∃ a', g = G ((base 8).at a' (.inRegion reg8_10 rest :: kx)) [] ∧ ∃ u vA A, a' = ⟨tmK k1 k2 xl sl c1 c2 X Y tv u, []⟩ ∧ Facts dsK (vsK k1 k2 xl sl c1 c2 X xc sc' xa sa tv most vA A) (upd f i true) u ∧ RK10 TX w0 (upd f i true) vA A w'') ?_ ?_
    rotate_left
    · rintro _ w3 ⟨a', rfl, h⟩
      exact hr0 a' w3 h
    have hr : ∀ a' w'', (∃ u vA A, a' = ⟨tmK k1 k2 xl sl c1 c2 X Y tv u, []⟩ ∧ Facts dsK (vsK k1 k2 xl sl c1 c2 X xc sc' xa sa tv most vA A) (upd f i true) u ∧ RK10 TX w0 (upd f i true) vA A w'') → Walk Try.prog true (DR (fun _ => none)) (fun g w'' => ∃ a', g = G ((base 8).at a' (.inRegion reg8_10 rest :: kx)) [] ∧ ∃ u vA A, a' = ⟨tmK k1 k2 xl sl c1 c2 X Y tv u, []⟩ ∧ Facts dsK (vsK k1 k2 xl sl c1 c2 X xc sc' xa sa tv most vA A) (upd f i true) u ∧ RK10 TX w0 (upd f i true) vA A w'') (G ((base 8).at a' (.inRegion reg8_10 rest :: kx)) []) w'' := by
      rintro a' w'' ⟨u, vA, A, h1, h2, h3⟩
      exact .stop fun d => ⟨a', rfl, u, vA, A, h1, h2, h3.old.at d, h3.blk, fun h => (h3.tr h).imp fun c hc => ⟨hc.1, hTX c w'' (w''.at d) hc.2.1 (fun _ _ _ _ _ => rfl), hc.2.2⟩⟩
    clear hr0 hP hk
    have hcs : i = 0 ∨ i = 1 ∨ i = 2 ∨ i = 3 ∨ i = 4 ∨ i = 5 ∨ i = 6 ∨ i = 7 ∨ i = 8 ∨ i = 9 ∨ i = 10 ∨ i = 11 ∨ i = 12 ∨ i = 14 ∨ i = 15 := by omega
    rcases hcs with rfl | rfl | rfl | rfl | rfl | rfl | rfl | rfl | rfl | rfl | rfl | rfl | rfl | rfl | rfl
    · clear hdeps hC ho hTX hT4 hbeq
      simp only [tmK] at hr ⊢
      (refine Walk.oq ?_; try walk_nrm)
      refine hr _ _ ⟨upd u 55 (.slice (some ⟨k1, 0, none⟩) (xl + 1) c1), vA, A, ?_, F0.set (by decide) rfl rfl, L.quiet (by decide) (by decide) (by decide)⟩
      simp [upd]
    · clear hdeps hC ho hTX hT4 hbeq
      simp only [tmK] at hr ⊢
      (refine Walk.oq ?_; try walk_nrm)
      refine hr _ _ ⟨upd u 56 (.pointer (some ⟨X, 0, none⟩)), vA, A, ?_, F0.set (by decide) rfl rfl, L.quiet (by decide) (by decide) (by decide)⟩
      simp [upd]
    · have hd := deps_of (l := [1]) (by kernel_rfl) ho hdeps
      have e56 := F0 1 56 _ (hd 1 (by simp)) rfl rfl
      clear hdeps hC ho hTX hT4 hbeq
      simp only [tmK] at hr ⊢
      simp only [e56]
      (refine Walk.oq ?_; try walk_nrm)
      refine hr _ _ ⟨upd u 57 ((.slice xa xl xc : Value)), vA, A, ?_, F0.set (by decide) rfl rfl, L.quiet (by decide) (by decide) (by decide)⟩
      simp [upd, e56]
    · have hd := deps_of (l := [2]) (by kernel_rfl) ho hdeps
      have e57 := F0 2 57 _ (hd 2 (by simp)) rfl rfl
      clear hdeps hC ho hTX hT4 hbeq
      simp only [tmK] at hr ⊢
      simp only [e57]
      (refine Walk.oq ?_; try walk_nrm)
      refine hr _ _ ⟨upd u 58 (.int .i64 xl), vA, A, ?_, F0.set (by decide) rfl rfl, L.quiet (by decide) (by decide) (by decide)⟩
      simp [upd, e57]
    · have hd := deps_of (l := [0, 3]) (by kernel_rfl) ho hdeps
      have e55 := F0 0 55 _ (hd 0 (by simp)) rfl rfl
      have e58 := F0 3 58 _ (hd 3 (by simp)) rfl rfl
      clear hdeps hC ho hTX hT4 hbeq
      simp only [tmK] at hr ⊢
      simp only [e55, e58]
      (refine Walk.oq ?_; try walk_nrm)
      refine hr _ _ ⟨upd u 59 (.slice (some ⟨k1, 0, none⟩) xl c1), vA, A, ?_, F0.set (by decide) rfl rfl, L.quiet (by decide) (by decide) (by decide)⟩
      simp [upd, e55, e58]
    · clear hdeps hC ho hTX hT4 hbeq
      simp only [tmK] at hr ⊢
      (refine Walk.oq ?_; try walk_nrm)
      refine hr _ _ ⟨upd u 60 (tv), vA, A, ?_, F0.set (by decide) rfl rfl, L.quiet (by decide) (by decide) (by decide)⟩
      simp [upd]
    · clear hdeps hC ho hTX hT4 hbeq
      simp only [tmK] at hr ⊢
      (refine Walk.oq ?_; try walk_nrm)
      refine hr _ _ ⟨upd u 61 (.slice (some ⟨k2, 0, none⟩) (sl + 1) c2), vA, A, ?_, F0.set (by decide) rfl rfl, L.quiet (by decide) (by decide) (by decide)⟩
      simp [upd]
    · clear hdeps hC ho hTX hT4 hbeq
      simp only [tmK] at hr ⊢
      (refine Walk.oq ?_; try walk_nrm)
      refine hr _ _ ⟨upd u 62 (.pointer (some ⟨X, 2, none⟩)), vA, A, ?_, F0.set (by decide) rfl rfl, L.quiet (by decide) (by decide) (by decide)⟩
      simp [upd]
    · have hd := deps_of (l := [7]) (by kernel_rfl) ho hdeps
      have e62 := F0 7 62 _ (hd 7 (by simp)) rfl rfl
      clear hdeps hC ho hTX hT4 hbeq
      simp only [tmK] at hr ⊢
      simp only [e62]
      (refine Walk.oq ?_; try walk_nrm)
      refine hr _ _ ⟨upd u 63 ((.slice sa sl sc' : Value)), vA, A, ?_, F0.set (by decide) rfl rfl, L.quiet (by decide) (by decide) (by decide)⟩
      simp [upd, e62]
    · have hd := deps_of (l := [8]) (by kernel_rfl) ho hdeps
      have e63 := F0 8 63 _ (hd 8 (by simp)) rfl rfl
      clear hdeps hC ho hTX hT4 hbeq
      simp only [tmK] at hr ⊢
      simp only [e63]
      (refine Walk.oq ?_; try walk_nrm)
      refine hr _ _ ⟨upd u 64 (.int .i64 sl), vA, A, ?_, F0.set (by decide) rfl rfl, L.quiet (by decide) (by decide) (by decide)⟩
      simp [upd, e63]
    · have hd := deps_of (l := [6, 9]) (by kernel_rfl) ho hdeps
      have e61 := F0 6 61 _ (hd 6 (by simp)) rfl rfl
      have e64 := F0 9 64 _ (hd 9 (by simp)) rfl rfl
      clear hdeps hC ho hTX hT4 hbeq
      simp only [tmK] at hr ⊢
      simp only [e61, e64]
      (refine Walk.oq ?_; try walk_nrm)
      refine hr _ _ ⟨upd u 65 (.slice (some ⟨k2, 0, none⟩) sl c2), vA, A, ?_, F0.set (by decide) rfl rfl, L.quiet (by decide) (by decide) (by decide)⟩
      simp [upd, e61, e64]
    · clear hdeps hC ho hTX hT4 hbeq
      simp only [tmK] at hr ⊢
      (refine Walk.oq ?_; try walk_nrm)
      refine hr _ _ ⟨upd u 66 (.pointer (some ⟨X, 3, none⟩)), vA, A, ?_, F0.set (by decide) rfl rfl, L.quiet (by decide) (by decide) (by decide)⟩
      simp [upd]
    · have hd := deps_of (l := [11]) (by kernel_rfl) ho hdeps
      have e66 := F0 11 66 _ (hd 11 (by simp)) rfl rfl
      clear hdeps hC ho hTX hT4 hbeq
      simp only [tmK] at hr ⊢
      simp only [e66]
      (refine Walk.oq ?_; try walk_nrm)
      refine hr _ _ ⟨upd u 67 (.int .i64 most), vA, A, ?_, F0.set (by decide) rfl rfl, L.quiet (by decide) (by decide) (by decide)⟩
      simp [upd, e66]
    · have hC15 : f 15 = true → f 14 = true := fun h => hC.deps (i := 15) (l := [14, 13]) h (by kernel_rfl) 14 (by simp)
      clear hdeps hC ho
      simp only [tmK] at hr ⊢
      (refine Walk.oa ?_; try walk_nrm)
      have ez : w.alloc (.cells #[.slice none 0 0, .slice none 0 0, .slice none 0 0, .bool false] 31) = w.alloc zTk := rfl
      try rw [ez]
      clear ez
      have sz : (w.alloc zTk).heap.size = w.heap.size + 1 := by simp
      have oz : ∀ b, b < w.heap.size → (w.alloc zTk).heap[b]? = w.heap[b]? := fun b hb => heap_new_lt _ _ hb
      have dz := heap_alloc_new w zTk
      have h15 : f 15 = false := by
        cases h : f 15 with
        | false => rfl
        | true => have := hC15 h; rw [hfi] at this; cases this
      refine hr _ _ ⟨upd u 9 (.pointer (some ⟨w.heap.size, 0, none⟩)), vA, w.heap.size, ?_, Facts.set (facts_valsK F0 fun j v hf hv => ?_) (by decide) rfl rfl, L.old.trans ⟨by omega, oz⟩, fun _ => ⟨L.old.1, by omega, fun _ => dz⟩, fun h => ?_⟩
      · simp [upd]
      · exact match j, hf, hv with
        | 0, _, hv => hv
        | 1, _, hv => hv
        | 2, _, hv => hv
        | 3, _, hv => hv
        | 4, _, hv => hv
        | 5, _, hv => hv
        | 6, _, hv => hv
        | 7, _, hv => hv
        | 8, _, hv => hv
        | 9, _, hv => hv
        | 10, _, hv => hv
        | 11, _, hv => hv
        | 12, _, hv => hv
        | 13, _, hv => hv
        | 14, hf, hv => by rw [hfi] at hf; cases hf
        | j + 15, _, hv => hv
      · rw [upd_ne _ _ (by decide)] at h
        exact (L.tr h).imp fun c hc => ⟨hc.1, hTX _ _ _ hc.2.1 fun b cur t hb _ => oz b (Array.getElem?_eq_some_iff.1 hb).1, fun h => by rw [upd_ne _ _ (by decide), h15] at h; cases h⟩
    · have hd := deps_of (l := [14, 13]) (by kernel_rfl) ho hdeps
      have e9 := F0 14 9 _ (hd 14 (by simp)) rfl rfl
      have e68 := F0 13 68 _ (hd 13 (by simp)) rfl rfl
      obtain ⟨cells, rfl, hT, _⟩ := L.tr (hd 13 (by simp))
      obtain ⟨b1, b2, b3⟩ := L.blk (hd 14 (by simp))
      have hz := b3 hfi
      obtain ⟨h4, h41⟩ := hT4 cells w hT
      unfold zTk at hz
      clear hdeps hC ho
      simp only [tmK] at hr ⊢
      simp only [e9, e68]
      refine Walk.storeS 31 (.tmp 9) (.tmp 68) (ho_of (by conv => lhs; whnf) (by kernel_rfl)) (by rfl) (by decide) rfl A cells _ 31 rfl rfl hz (by rw [h4]; kernel_rfl) (by rw [h4]; rfl) h41 (ap0 _) ?_
      have dz := setRow_self (cells := cells) hz
      have oz : ∀ b, b ≠ A → (w.setRow A cells).heap[b]? = w.heap[b]? := fun b hb => setRow_other _ _ hb
      have sz := setRow_size w A cells
      walk_nrm
      refine hr _ _ ⟨u, .agg cells, A, ?_, ?_, ?_, fun _ => ⟨b1, by omega, fun h => ?_⟩, fun _ => ⟨cells, rfl, ?_, fun _ => dz⟩⟩
      · simp [e9, e68]
      · intro j d v hf hd hv
        have hj : j < 15 := (List.getElem?_eq_some_iff.1 hd).1
        rw [upd_ne _ _ (by omega)] at hf
        exact F0 j d v hf hd hv
      · exact ⟨by have := L.old.1; omega, fun b hb => (oz b (by omega)).trans (L.old.2 b hb)⟩
      · rw [upd_same] at h
        cases h
      · exact hTX _ _ _ hT fun b cur t hb ht => oz b fun e => by
          subst e
          rw [hz] at hb
          cases hb
          exact ht rfl
  · rintro f act w ⟨u, vA, A, rfl, F0, L⟩ hall
    have hall' : ∀ i, i < 16 → f i = true := fun i hi => hall i (by rw [size8_10]; exact hi)
    obtain ⟨b1, b2, _⟩ := L.blk (hall' 14 (by decide))
    obtain ⟨cells, rfl, hT, hA⟩ := L.tr (hall' 13 (by decide))
    exact hk u cells A w (F0 14 9 _ (hall' 14 (by decide)) rfl rfl) L.old b1 b2 (hA (hall' 15 (by decide))) hT
end
section
section
variable {X : Type} {A : Abs X} {Q : X × List Nat → Prop}
theorem rest_keep (h : ∀ st z, Q st → Q (stepA A st z)) : ∀ (f : Nat) (st : X × List Nat), Q st → Q (restA A f st)
  | 0, _, hq => hq
  | f + 1, st, hq => by
    unfold restA
    split
    · exact hq
    · rename_i hov
      clear hov
      refine rest_keep h f _ ?_
      unfold roundA
      generalize List.range A.n = l
      induction l generalizing st with
      | nil => exact hq
      | cons a l ih => exact ih _ (h _ _ hq)
theorem follow_keep (h : ∀ st z, Q st → Q (stepA A st z)) (l : List Int) (st : X × List Nat) (hq : Q st) : Q (followA A st l) := by
  unfold followA
  refine rest_keep h _ _ ?_
  induction l generalizing st with
  | nil => exact hq
  | cons a l ih => exact ih _ (h _ _ hq)
end
section
variable {X X' : Type} {C : Abs X} {C' : Abs X'} {e : X → X'}
theorem over_sim (hn : C'.n = C.n) (hm : C'.most = C.most) (ho : ∀ x i, C'.out (e x) i = C.out x i) (st : X × List Nat) : overA C' (e st.1, st.2) = overA C st := by
  have hg : goingA C' (e st.1) = goingA C st.1 := by
    unfold goingA
    simp only [hn, ho]
  simp only [overA, hg, hm]
theorem step_sim (hn : C'.n = C.n) (hm : C'.most = C.most) (hx : ∀ x i, C'.next (e x) i = e (C.next x i)) (ho : ∀ x i, C'.out (e x) i = C.out x i) (st : X × List Nat) (z : Int) : stepA C' (e st.1, st.2) z = (e (stepA C st z).1, (stepA C st z).2) := by
  have hcond : (overA C' (e st.1, st.2) = false ∧ 0 ≤ z ∧ z < C'.n ∧ C'.out (e st.1, st.2).1 z.toNat = none) ↔ (overA C st = false ∧ 0 ≤ z ∧ z < C.n ∧ C.out st.1 z.toNat = none) := by rw [over_sim hn hm ho, hn, ho]
  unfold stepA
  by_cases h : overA C st = false ∧ 0 ≤ z ∧ z < C.n ∧ C.out st.1 z.toNat = none
  · rw [if_pos (hcond.2 h), if_pos h, hx]
  · rw [if_neg fun q => h (hcond.1 q), if_neg h]
theorem folds_sim (hn : C'.n = C.n) (hm : C'.most = C.most) (hx : ∀ x i, C'.next (e x) i = e (C.next x i)) (ho : ∀ x i, C'.out (e x) i = C.out x i) : ∀ (l : List Int) (st : X × List Nat), l.foldl (stepA C') (e st.1, st.2) = (e (l.foldl (stepA C) st).1, (l.foldl (stepA C) st).2)
  | [], st => rfl
  | z :: l, st => by
    simp only [List.foldl_cons]
    rw [step_sim hn hm hx ho]
    exact folds_sim hn hm hx ho l _
theorem foldn_sim (hn : C'.n = C.n) (hm : C'.most = C.most) (hx : ∀ x i, C'.next (e x) i = e (C.next x i)) (ho : ∀ x i, C'.out (e x) i = C.out x i) : ∀ (l : List Nat) (st : X × List Nat), l.foldl (fun st i => stepA C' st (i : Nat)) (e st.1, st.2) = (e (l.foldl (fun st i => stepA C st (i : Nat)) st).1, (l.foldl (fun st i => stepA C st (i : Nat)) st).2)
  | [], st => rfl
  | z :: l, st => by
    simp only [List.foldl_cons]
    rw [step_sim hn hm hx ho]
    exact foldn_sim hn hm hx ho l _
theorem rest_sim (hn : C'.n = C.n) (hm : C'.most = C.most) (hx : ∀ x i, C'.next (e x) i = e (C.next x i)) (ho : ∀ x i, C'.out (e x) i = C.out x i) : ∀ (f : Nat) (st : X × List Nat), restA C' f (e st.1, st.2) = (e (restA C f st).1, (restA C f st).2)
  | 0, st => rfl
  | f + 1, st => by
    unfold restA
    rw [over_sim hn hm ho]
    split
    · rfl
    · unfold roundA
      rw [hn, foldn_sim hn hm hx ho]
      exact rest_sim hn hm hx ho f _
theorem borns_sim (hb : ∀ x i, C'.born (e x) i = e (C.born x i)) : ∀ (n k : Nat) (x : X), bornsA C' n k (e x) = e (bornsA C n k x)
  | 0, _, _ => rfl
  | n + 1, k, x => by
    unfold bornsA
    rw [hb]
    exact borns_sim hb n (k + 1) _
theorem run_sim (hn : C'.n = C.n) (hm : C'.most = C.most) (hb : ∀ x i, C'.born (e x) i = e (C.born x i)) (hx : ∀ x i, C'.next (e x) i = e (C.next x i)) (ho : ∀ x i, C'.out (e x) i = C.out x i) (x0 : X) (l : List Int) : runA C' (e x0) l = (e (runA C x0 l).1, (runA C x0 l).2) := by
  unfold runA followA
  rw [hn, borns_sim hb, hm]
  have h := folds_sim hn hm hx ho l (bornsA C C.n 0 x0, [])
  rw [h]
  exact rest_sim hn hm hx ho _ _
end
section
variable {L : La}
def wgt (t : Tst L) : Nat := t.ans.length + t.left.length + (if t.d.isSome then 1 else 0)
theorem wgt_settle (th : Int) : ∀ (l : List OpV) (s : L.Sg) (az : List Ans), wgt (settleO L th s l az).2 ≤ az.length + l.length
  | [], s, az => by simp [settleO, wgt]
  | o :: l, s, az => by
    rw [settleO_cons]
    cases L.enter s th o with
    | mk s' r =>
      cases r with
      | inl a =>
        have := wgt_settle th l s' (az ++ [a])
        simp only [landO, List.length_append, List.length_cons, List.length_nil] at *
        omega
      | inr d => simp [landO, wgt]; omega
theorem wgt_land (th : Int) (r : L.Sg × (Ans ⊕ L.D)) (left : List OpV) (az : List Ans) : wgt (landO L th r left az).2 ≤ az.length + left.length + 1 := by
  cases r with
  | mk s' r =>
    cases r with
    | inl a =>
      have := wgt_settle (L := L) th left s' (az ++ [a])
      simp only [landO, List.length_append, List.length_cons, List.length_nil] at *
      omega
    | inr d => simp [landO, wgt]
theorem play_len (s0 : L.Sg) (ops : Nat → List OpV) (n : Nat) (most : Int) (sl : List Int) : (∀ i, ((playO L s0 ops n most sl).1.th i).ans.length ≤ (ops i).length) ∧ (playO L s0 ops n most sl).2.length ≤ 1048576 := by
  let A := absO L n (min (max most 0) 1048576) ops
  let Q : OX L × List Nat → Prop := fun st => (∀ i, wgt (st.1.th i) ≤ (ops i).length) ∧ (st.2.length : Int) ≤ min (max most 0) 1048576
  have hput : ∀ (x : OX L) (i : Nat) (r : L.Sg × Tst L) (c : Nat), (∀ j, wgt (x.th j) ≤ (ops j).length) → wgt r.2 ≤ (ops i).length → ∀ j, wgt ((putO x i r c).th j) ≤ (ops j).length := fun x i r c h hr j => by
    by_cases e : j = i
    · subst e
      simp only [putO, upd_same]
      exact hr
    · simp only [putO, upd_ne _ _ e]
      exact h j
  have hstep : ∀ st z, Q st → Q (stepA A st z) := fun st z ⟨h1, h2⟩ => by
    unfold stepA
    split
    · rename_i hc
      refine ⟨?_, ?_⟩
      · show ∀ i, wgt ((nextO st.1 z.toNat).th i) ≤ (ops i).length
        unfold nextO
        split
        · exact h1
        · rename_i d hd
          refine hput _ _ _ _ h1 ?_
          refine Nat.le_trans (wgt_land _ _ _ _) ?_
          have := h1 z.toNat
          unfold wgt at this
          rw [hd] at this
          simpa using this
      · have ho := hc.1
        unfold overA at ho
        simp only [Bool.or_eq_false_iff, decide_eq_false_iff_not] at ho
        have hlt : ¬ min (max most 0) 1048576 ≤ (st.2.length : Int) := ho.2
        show ((st.2 ++ [z.toNat]).length : Int) ≤ min (max most 0) 1048576
        simp only [List.length_append, List.length_cons, List.length_nil]
        omega
    · exact ⟨h1, h2⟩
  have hb : ∀ (m k : Nat) (x : OX L), (∀ i, wgt (x.th i) ≤ (ops i).length) → ∀ i, wgt ((bornsA A m k x).th i) ≤ (ops i).length := fun m => by
    induction m with
    | zero => intro k x h; exact h
    | succ m ih =>
      intro k x h
      unfold bornsA
      refine ih (k + 1) _ ?_
      show ∀ i, wgt ((bornO ops x k).th i) ≤ (ops i).length
      unfold bornO
      refine hput _ _ _ _ h ?_
      have := wgt_settle (L := L) (k : Nat) (ops k) x.s []
      simpa using this
  have h := follow_keep (Q := Q) hstep sl (bornsA A A.n 0 (x0O L s0), []) ⟨hb A.n 0 _ fun i => by simp [x0O, t0, wgt], by show ((0 : Nat) : Int) ≤ _; omega⟩
  have h' : Q (playO L s0 ops n most sl) := h
  refine ⟨fun i => ?_, ?_⟩
  · have := h'.1 i
    unfold wgt at this
    omega
  · have := h'.2
    omega
end
end
section
def NoR (rv : Value) (w : World) : Prop := rv = .pointer none ∨ ∃ zb, rv = .pointer (some ⟨zb, 0, none⟩) ∧ w.heap[zb]? = some (.cells #[.slice none 0 0] 72)
section
variable {main : Bool} {V : Nat → Option Wait}
theorem size_zero (zb : Nat) (w : World) (h : w.heap[zb]? = some (.cells #[.slice none 0 0] 72)) : CallV Try.prog main V 20 #[.pointer (some ⟨zb, 0, none⟩)] w (.int .i64 0) w := by
  have c1 : w.cell? ⟨zb, 0, none⟩ = some (.slice none 0 0) := (cell_of h 0).trans rfl
  have hp1 := fun w => run_eql_ptr (P := Try.prog) 35 undRing (some ⟨zb, 0, none⟩) w
  have hp2 := fun w es => ev_eql_ptr (P := Try.prog) 35 undRing (some ⟨zb, 0, none⟩) w es
  simp only [Option.isNone_some] at hp1
  clear h
  refine callW_in Try.func20 code20_is fun fr cs => ?_
  simp only [Try.ntmps20, List.size_toArray, List.length_cons, List.length_nil, Nat.reduceAdd, Nat.reduceSub, Array.replicate_succ, Array.replicate_zero, List.push_toArray, List.append_toArray, List.nil_append, List.cons_append]
  repeat (first | refine Walk.c rfl ?_ | refine Walk.cRet ?_ | refine Walk.cEnd ?_ | (refine Walk.cReg ?_; simp only [size20_0, size20_1, size20_2, size20_3, List.range, List.range.loop]) | (refine Walk.oq ?_; try walk_nrm) | (refine Walk.un ?_; walk_nrm))
  exact Walk.ret1 rfl rfl Try.func20 rfl fun d => ⟨rfl, d, rfl⟩
theorem size_z (rv : Value) (w : World) (h : NoR rv w) : CallV Try.prog main V 20 #[rv] w (.int .i64 0) w := by
  rcases h with rfl | ⟨zb, rfl, h2⟩
  · exact size_nil w
  · exact size_zero zb w h2
end
end
section
def nrLa : La where
  Sg := Unit
  D := Empty
  Gh := Unit
  le := fun _ _ => True
  refl := fun _ => trivial
  trans := fun _ _ => trivial
  enter := fun s _ _ => (s, .inl ⟨false, 0, []⟩)
  act := fun s d => (s, .inl ⟨false, 0, []⟩)
  sh := fun _ _ => False
  mono := fun _ h => h
  I := fun _ _ _ => True
  stable := fun _ _ => trivial
  lt := fun _ hb => hb.elim
section
variable {sv : Value}
theorem ndo_s (K : Lg nrLa sv) (e : K.E) (th ok oa ob oc : Int) (ht : K.tgt e = (K.s e, .inl ⟨false, 0, []⟩)) :
    SCall K.toLb 59 #[.pointer none, sv, .int .i64 th, .agg #[.int .i64 ok, .int .i64 oa, .int .i64 ob, .int .i64 oc]] e (DoOutG K) := by
  intro fr l hp hl hk
  have hp1 := fun w => run_eql_ptr (P := Try.prog) 35 undRing none w
  have hp2 := fun w es => ev_eql_ptr (P := Try.prog) 35 undRing none w es
  simp only [Option.isNone_none] at hp1
  unfold LW
  rw [enter_at _ Try.func59 code59_is]
  simp only [Try.ntmps59, List.size_toArray, List.length_cons, List.length_nil, Nat.reduceAdd, Nat.reduceSub, Array.replicate_succ, Array.replicate_zero, List.push_toArray, List.append_toArray, List.nil_append, List.cons_append]
  repeat (first | refine Walk.c rfl ?_ | refine Walk.cRet ?_ | refine Walk.cEnd ?_ | (refine Walk.cReg ?_; simp only [size59_0, size59_1, size59_2, size59_3, size59_4, size59_5, size59_6, size59_7, size59_8, size59_9, size59_10, size59_11, size59_12, size59_13, size59_14, size59_15, List.range, List.range.loop]) | (refine Walk.oq ?_; try walk_nrm) | (refine Walk.un ?_; walk_nrm))
  (refine Walk.oa ?_; try walk_nrm)
  (refine Walk.oa ?_; try walk_nrm)
  have hA1 : ((K.w e).alloc (.cells #[.int .i64 ok, .int .i64 oa, .int .i64 ob, .int .i64 oc] 49)).heap.size = (K.w e).heap.size + 1 := by simp
  have c2 : (((K.w e).alloc (.cells #[.int .i64 ok, .int .i64 oa, .int .i64 ob, .int .i64 oc] 49)).alloc (.cells #[.bool false, .int .i64 0, .slice none 0 0] 46)).heap[(K.w e).heap.size + 1]? = some (.cells #[.bool false, .int .i64 0, .slice none 0 0] 46) := by
    have := heap_alloc_new ((K.w e).alloc (.cells #[.int .i64 ok, .int .i64 oa, .int .i64 ob, .int .i64 oc] 49)) (.cells #[.bool false, .int .i64 0, .slice none 0 0] 46)
    rwa [hA1] at this
  have hs2 : (((K.w e).alloc (.cells #[.int .i64 ok, .int .i64 oa, .int .i64 ob, .int .i64 oc] 49)).alloc (.cells #[.bool false, .int .i64 0, .slice none 0 0] 46)).heap.size = (K.w e).heap.size + 2 := by simp
  obtain ⟨e1, m1⟩ := K.grow e (w' := ((K.w e).alloc (.cells #[.int .i64 ok, .int .i64 oa, .int .i64 ob, .int .i64 oc] 49)).alloc (.cells #[.bool false, .int .i64 0, .slice none 0 0] 46)) (by omega) (fun b hb' => by
    rw [heap_new_lt _ _ (by omega)]
    exact heap_new_lt _ _ hb')
  try simp only [hA1]
  generalize hw2 : ((K.w e).alloc (.cells #[.int .i64 ok, .int .i64 oa, .int .i64 ob, .int .i64 oc] 49)).alloc (.cells #[.bool false, .int .i64 0, .slice none 0 0] 46) = w2 at *
  generalize hN : (K.w e).heap.size = N at *
  have hmn : K.mine e1 (N + 1) := m1.new (by omega) (by omega)
  have ht1 : K.tgt e1 = (K.s e1, .inl aNoR) := by rw [m1.tgt, m1.s]; exact ht
  have hw1 := m1.w
  refine LW.to (l := fr :: l) m1 ?_
  unfold LW
  clear hw2 m1 ht
  subst hw1
  have hapN := (K.mineA e1 _ hmn).1
  repeat (first | refine Walk.c rfl ?_ | refine Walk.cRet ?_ | refine Walk.cEnd ?_ | (refine Walk.cReg ?_; simp only [size59_0, size59_1, size59_2, size59_3, size59_4, size59_5, size59_6, size59_7, size59_8, size59_9, size59_10, size59_11, size59_12, size59_13, size59_14, size59_15, List.range, List.range.loop]) | (refine Walk.oq ?_; try walk_nrm) | (refine Walk.un ?_; walk_nrm))
  refine Walk.storeS 46 (.tmp 8) (.tmp 13) (ho_of (by conv => lhs; whnf) (by kernel_rfl)) (by rfl) (by decide) rfl (N + 1) #[.bool false, .int .i64 0, .slice none 0 0] _ 46 rfl rfl c2 (by kernel_rfl) (by rfl) (by simp [Value.oneCell']) hapN ?_
  walk_nrm
  repeat (first | refine Walk.c rfl ?_ | refine Walk.cRet ?_ | refine Walk.cEnd ?_ | (refine Walk.cReg ?_; simp only [size59_0, size59_1, size59_2, size59_3, size59_4, size59_5, size59_6, size59_7, size59_8, size59_9, size59_10, size59_11, size59_12, size59_13, size59_14, size59_15, List.range, List.range.loop]) | (refine Walk.oq ?_; try walk_nrm) | (refine Walk.un ?_; walk_nrm))
  exact cell_backG K (a := aNoR) (sl := .slice none 0 0) hmn c2 ht1 (GatL.nil K e1) (fun e' h h' => hk _ e' ⟨_, _, h, rfl, h', by simp [aNoR]⟩) Try.func59 rfl ⟨rfl, rfl, rfl, rfl, rfl⟩
theorem ndo_ok : DoFn nrLa 59 #[.pointer none] #[] :=
  ⟨⟨_, Try.func59, by kernel_rfl, by rfl⟩, fun sv K e th op ht => (ndo_s K e th op.k op.a op.b op.c ht).mono fun v e' ⟨a, sl, h1, h2, h3, h4⟩ => ⟨a, sl, h1, h2, h3.lsR, by omega⟩⟩
end
section
variable {main : Bool} {V : Nat → Option Wait}
theorem each_z0 (rv fv : Value) (w : World) (h : NoR rv w) : CallW Try.prog main V 67 #[rv, fv] w (NewN 0 (fun _ => 0) w) := by
  intro c cs
  have k1 := size_z (main := main) (V := V) rv w h
  have hi1 := Option.some_get (show (Try.prog.info? 2).isSome = true by kernel_rfl)
  clear h
  rw [enter_at _ Try.func67 code67_is]
  simp only [Try.ntmps67, List.size_toArray, List.length_cons, List.length_nil, Nat.reduceAdd, Nat.reduceSub, Array.replicate_succ, Array.replicate_zero, List.push_toArray, List.append_toArray, List.nil_append, List.cons_append]
  repeat (first | refine Walk.c rfl ?_ | refine Walk.cRet ?_ | refine Walk.cEnd ?_ | (refine Walk.cReg ?_; simp only [size67_0, size67_1, size67_2, size67_3, size67_4, size67_5, size67_6, size67_7, List.range, List.range.loop]) | (refine Walk.oq ?_; try walk_nrm) | (refine Walk.un ?_; walk_nrm))
  refine Walk.callV (x := .int .i64 0) (W := w) ?_ (ho_of (by conv => lhs; whnf) (by kernel_rfl)) (by rfl) (by decide) rfl Try.func20 (by kernel_rfl) (by rfl) ?_
  · walk_nrm
    exact k1
  walk_nrm
  repeat (first | refine Walk.c rfl ?_ | refine Walk.cRet ?_ | refine Walk.cEnd ?_ | (refine Walk.cReg ?_; simp only [size67_0, size67_1, size67_2, size67_3, size67_4, size67_5, size67_6, size67_7, List.range, List.range.loop]) | (refine Walk.oq ?_; try walk_nrm) | (refine Walk.un ?_; walk_nrm))
  refine Walk.make 22 (.tmp 8) (.tmp 8) (ho_of (by conv => lhs; whnf) (by kernel_rfl)) (by rfl) (by decide) rfl 2 _ (.int .i64 0) 1 8 (by kernel_rfl) hi1.symm (by rfl) (by rfl) (by rfl) 0 (by rfl) (by rfl) (by omega) (by omega) ?_
  have d0 : NumB (w.alloc (.cells (madeCells #[Value.int .i64 0] 0) 2)) w.heap.size [] := by
    have := heap_alloc_new w (.cells (madeCells #[Value.int .i64 0] 0) 2)
    rw [made_zero] at this
    rw [made_zero]
    exact this
  walk_nrm
  have hob : Obj.cells (madeCells #[Value.int .i64 0] 0) 2 = Obj.cells (madeCells (Value.int .i64 0).cells 0) 2 := rfl
  try simp only [Value.cells]
  have o1 : ∀ b, b < w.heap.size → (w.alloc (.cells (madeCells #[Value.int .i64 0] 0) 2)).heap[b]? = w.heap[b]? := fun b hb => heap_new_lt _ _ hb
  have s1 : (w.alloc (.cells (madeCells #[Value.int .i64 0] 0) 2)).heap.size = w.heap.size + 1 := by simp
  clear k1 hob
  generalize hR : w.heap.size = R at *
  generalize w.alloc (.cells (madeCells #[Value.int .i64 0] 0) 2) = w1 at *
  repeat (first | refine Walk.c rfl ?_ | refine Walk.cRet ?_ | refine Walk.cEnd ?_ | (refine Walk.cReg ?_; simp only [size67_0, size67_1, size67_2, size67_3, size67_4, size67_5, size67_6, size67_7, List.range, List.range.loop]) | (refine Walk.oq ?_; try walk_nrm) | (refine Walk.un ?_; walk_nrm))
  refine Walk.ctl rfl (fun w => stepG_loop) ?_
  repeat (first | refine Walk.c rfl ?_ | refine Walk.cRet ?_ | refine Walk.cEnd ?_ | (refine Walk.cReg ?_; simp only [size67_0, size67_1, size67_2, size67_3, size67_4, size67_5, size67_6, size67_7, List.range, List.range.loop]) | (refine Walk.oq ?_; try walk_nrm) | (refine Walk.un ?_; walk_nrm))
  refine Walk.on1 rfl rfl Try.func67 rfl (.stop fun d => ⟨_, ⟨by rw [hR]; rfl, by rw [hR]; exact d0, fun b hb => o1 b (by omega), by show w.heap.size < w1.heap.size; omega⟩, rfl⟩)
theorem stamps_z0 (rv : Value) (w : World) (h : NoR rv w) : CallW Try.prog main V 27 #[rv] w (NewN 0 (fun _ => 0) w) := by
  intro c cs
  have hE := fun fv => each_z0 (main := main) (V := V) rv fv w h
  clear h
  rw [enter_at _ Try.func27 code27_is]
  simp only [Try.ntmps27, List.size_toArray, List.length_cons, List.length_nil, Nat.reduceAdd, Nat.reduceSub, Array.replicate_succ, Array.replicate_zero, List.push_toArray, List.append_toArray, List.nil_append, List.cons_append]
  repeat (first | refine Walk.c rfl ?_ | refine Walk.cRet ?_ | refine Walk.cEnd ?_ | (refine Walk.cReg ?_; simp only [size27_0, size27_1, List.range, List.range.loop]) | (refine Walk.oq ?_; try walk_nrm) | (refine Walk.un ?_; walk_nrm))
  refine Walk.callW (Post := NewN 0 (fun _ => 0) w) ?_ (ho_of (by conv => lhs; whnf) (by kernel_rfl)) (by rfl) (by decide) rfl Try.func67 (by kernel_rfl) (by rfl) ?_
  · walk_nrm
    exact hE _
  rintro v w2 ⟨rfl, n2, o2, z2⟩
  walk_nrm
  repeat (first | refine Walk.c rfl ?_ | refine Walk.cRet ?_ | refine Walk.cEnd ?_ | (refine Walk.cReg ?_; simp only [size27_0, size27_1, List.range, List.range.loop]) | (refine Walk.oq ?_; try walk_nrm) | (refine Walk.un ?_; walk_nrm))
  exact Walk.on1 rfl rfl Try.func27 rfl (.stop fun d => ⟨_, ⟨rfl, n2, o2, z2⟩, rfl⟩)
theorem values_z0 (rv : Value) (w : World) (h : NoR rv w) : CallW Try.prog main V 28 #[rv] w (NewN 0 (fun _ => 0) w) := by
  intro c cs
  have hE := fun fv => each_z0 (main := main) (V := V) rv fv w h
  clear h
  rw [enter_at _ Try.func28 code28_is]
  simp only [Try.ntmps28, List.size_toArray, List.length_cons, List.length_nil, Nat.reduceAdd, Nat.reduceSub, Array.replicate_succ, Array.replicate_zero, List.push_toArray, List.append_toArray, List.nil_append, List.cons_append]
  repeat (first | refine Walk.c rfl ?_ | refine Walk.cRet ?_ | refine Walk.cEnd ?_ | (refine Walk.cReg ?_; simp only [size28_0, size28_1, List.range, List.range.loop]) | (refine Walk.oq ?_; try walk_nrm) | (refine Walk.un ?_; walk_nrm))
  refine Walk.callW (Post := NewN 0 (fun _ => 0) w) ?_ (ho_of (by conv => lhs; whnf) (by kernel_rfl)) (by rfl) (by decide) rfl Try.func67 (by kernel_rfl) (by rfl) ?_
  · walk_nrm
    exact hE _
  rintro v w2 ⟨rfl, n2, o2, z2⟩
  walk_nrm
  repeat (first | refine Walk.c rfl ?_ | refine Walk.cRet ?_ | refine Walk.cEnd ?_ | (refine Walk.cReg ?_; simp only [size28_0, size28_1, List.range, List.range.loop]) | (refine Walk.oq ?_; try walk_nrm) | (refine Walk.un ?_; walk_nrm))
  exact Walk.on1 rfl rfl Try.func28 rfl (.stop fun d => ⟨_, ⟨rfl, n2, o2, z2⟩, rfl⟩)
def StZ (w : World) (v : Value) (w' : World) : Prop := ∃ B, v = .slice (some ⟨B, 0, none⟩) 0 0 ∧ NumB w' B [] ∧ w.heap.size ≤ B ∧ (∀ b, b < w.heap.size → w'.heap[b]? = w.heap[b]?) ∧ w.heap.size ≤ w'.heap.size
theorem nstate_w (w : World) : CallW Try.prog main V 60 #[.pointer none] w (StZ w) := by
  intro c cs
  have hi1 := Option.some_get (show (Try.prog.info? 2).isSome = true by kernel_rfl)
  have k1 := stamps_z0 (main := main) (V := V) (.pointer none) w (.inl rfl)
  have k2 := fun w => values_z0 (main := main) (V := V) (.pointer none) w (.inl rfl)
  rw [enter_at _ Try.func60 code60_is]
  simp only [Try.ntmps60, List.size_toArray, List.length_cons, List.length_nil, Nat.reduceAdd, Nat.reduceSub, Array.replicate_succ, Array.replicate_zero, List.push_toArray, List.append_toArray, List.nil_append, List.cons_append]
  repeat (first | refine Walk.c rfl ?_ | refine Walk.cRet ?_ | refine Walk.cEnd ?_ | (refine Walk.cReg ?_; simp only [size60_0, size60_1, List.range, List.range.loop]) | (refine Walk.oq ?_; try walk_nrm) | (refine Walk.un ?_; walk_nrm))
  refine Walk.callW (Post := NewN 0 (fun _ => 0) w) ?_ (ho_of (by conv => lhs; whnf) (by kernel_rfl)) (by rfl) (by decide) rfl Try.func27 (by kernel_rfl) (by rfl) ?_
  · walk_nrm
    exact k1
  rintro v w2 ⟨rfl, n2, o2, z2⟩
  clear k1
  walk_nrm
  repeat (first | refine Walk.c rfl ?_ | refine Walk.cRet ?_ | refine Walk.cEnd ?_ | (refine Walk.cReg ?_; simp only [size60_0, size60_1, List.range, List.range.loop]) | (refine Walk.oq ?_; try walk_nrm) | (refine Walk.un ?_; walk_nrm))
  refine Walk.callW (Post := NewN 0 (fun _ => 0) w2) ?_ (ho_of (by conv => lhs; whnf) (by kernel_rfl)) (by rfl) (by decide) rfl Try.func28 (by kernel_rfl) (by rfl) ?_
  · walk_nrm
    exact k2 w2
  rintro v w3 ⟨rfl, n3, o3, z3⟩
  clear k2
  have hz := fun w es => run_app0 (P := Try.prog) huI64s hi1.symm 22 ⟨w.heap.size, 0, none⟩ (some ⟨w2.heap.size, 0, none⟩) 0 w es
  have hB := n2.same (w' := w3) (o3 _ (by omega))
  have ho : ∀ b, b < w.heap.size → w3.heap[b]? = w.heap[b]? := fun b hb => (o3 b (by omega)).trans (o2 b hb)
  have hzr := fun w' => (hz w' #[]).1
  have hze := fun w' es => (hz w' es).2
  clear hz n2 n3
  walk_nrm
  repeat (first | refine Walk.c rfl ?_ | refine Walk.cRet ?_ | refine Walk.cEnd ?_ | (refine Walk.cReg ?_; simp only [size60_0, size60_1, List.range, List.range.loop]) | (refine Walk.oq ?_; try walk_nrm) | (refine Walk.un ?_; walk_nrm))
  exact Walk.on1 rfl rfl Try.func60 rfl (.stop fun d => ⟨_, ⟨w.heap.size, rfl, hB, Nat.le_refl _, ho, by show w.heap.size ≤ w3.heap.size; omega⟩, rfl⟩)
end
end
def NPBack (T0 : Nat) (fr c : Frame) (cs : List Frame) : Prop := ∀ (A na : Nat) (oo : Option Addr) (ol ok : Nat) (stuck : Bool) (w : World), w.heap[T0]? = some (.cells #[.slice none 0 0, .slice none 0 0, .slice none 0 0, .bool false] 31) →
  Walk Try.prog true (DR (fun _ => none)) (fun g w' => ∃ B, g = G (c.finish (.agg #[.slice (some ⟨A, 0, none⟩) na na, .slice oo ol ok, .slice (some ⟨B, 0, none⟩) 0 0, .bool stuck])) cs ∧ NumB w' B [] ∧ w.heap.size ≤ B ∧ (∀ b, b < w.heap.size → b ≠ T0 → w'.heap[b]? = w.heap[b]?) ∧ w.heap.size ≤ w'.heap.size)
    (G (fr.finish (.agg #[.slice (some ⟨A, 0, none⟩) na na, .slice oo ol ok, .slice none 0 0, .bool stuck])) (c :: cs)) w
theorem nplay_in (sl : Value) (xs : List Int) (tv sv : Value) (most : Int) (c : Frame) (cs : List Frame) (w : World) (hx : LsR sl xs w) (hr : ¬ isR xs) :
    Walk Try.prog true (DR (fun _ => none)) (fun g w' => ∃ fr, g = G (Frame.enter Try.prog 58 #[tv, .func (.func 59) #[.pointer none] #[], sv, .int .i64 most] .normal) (fr :: c :: cs) ∧ (∀ b, b < w.heap.size → w'.heap[b]? = w.heap[b]?) ∧ w.heap.size + 1 ≤ w'.heap.size ∧
        w'.heap[w.heap.size]? = some (.cells #[.slice none 0 0, .slice none 0 0, .slice none 0 0, .bool false] 31) ∧ NPBack w.heap.size fr c cs)
      (G (Frame.enter Try.prog 16 #[sl, tv, sv, .int .i64 most] .normal) (c :: cs)) w := by
  have hA : ∀ b, Apart (fun _ => none) b := fun b => ⟨fun _ _ _ _ h => (by cases h), fun _ _ h => (by cases h)⟩
  obtain ⟨fsT, huT⟩ := structT 31 (by kernel_rfl)
  rw [enter_at _ Try.func16 code16_is]
  simp only [Try.ntmps16, List.size_toArray, List.length_cons, List.length_nil, Nat.reduceAdd, Nat.reduceSub, Array.replicate_succ, Array.replicate_zero, List.push_toArray, List.append_toArray, List.nil_append, List.cons_append]
  repeat (first | refine Walk.c rfl ?_ | refine Walk.cRet ?_ | refine Walk.cEnd ?_ | (refine Walk.cReg ?_; simp only [size16_0, size16_1, size16_2, size16_3, size16_4, List.range, List.range.loop]) | (refine Walk.oq ?_; try walk_nrm) | (refine Walk.un ?_; walk_nrm))
  (refine Walk.oa ?_; try walk_nrm)
  have s1 : (w.alloc (.cells #[.slice none 0 0, .slice none 0 0, .slice none 0 0, .bool false] 31)).heap.size = w.heap.size + 1 := by simp
  have o1 : ∀ b, b < w.heap.size → (w.alloc (.cells #[.slice none 0 0, .slice none 0 0, .slice none 0 0, .bool false] 31)).heap[b]? = w.heap[b]? := fun b hb => heap_new_lt _ _ hb
  have d1 := heap_alloc_new w (.cells #[.slice none 0 0, .slice none 0 0, .slice none 0 0, .bool false] 31)
  generalize hN : w.heap.size = T0 at *
  generalize w.alloc (.cells #[.slice none 0 0, .slice none 0 0, .slice none 0 0, .bool false] 31) = w1 at *
  repeat (first | refine Walk.c rfl ?_ | refine Walk.cRet ?_ | refine Walk.cEnd ?_ | (refine Walk.cReg ?_; simp only [size16_0, size16_1, size16_2, size16_3, size16_4, List.range, List.range.loop]) | (refine Walk.oq ?_; try walk_nrm) | (refine Walk.un ?_; walk_nrm))
  have hx1 : LsR sl xs w1 := hx.same (fun b hb => o1 b (by omega))
  obtain ⟨xa, xc, rfl, hxr⟩ := hx
  clear hxr
  refine Walk.callV (x := .pointer none) (W := w1) ?_ (ho_of (by conv => lhs; whnf) (by kernel_rfl)) (by rfl) (by decide) rfl Try.func57 (by kernel_rfl) (by rfl) ?_
  · walk_nrm
    exact newRing_no xa xs xc hr w1 hx1
  clear hx1
  walk_nrm
  repeat (first | refine Walk.c rfl ?_ | refine Walk.cRet ?_ | refine Walk.cEnd ?_ | (refine Walk.cReg ?_; simp only [size16_0, size16_1, size16_2, size16_3, size16_4, List.range, List.range.loop]) | (refine Walk.oq ?_; try walk_nrm) | (refine Walk.un ?_; walk_nrm))
  refine Walk.callE (ho_of (by conv => lhs; whnf) (by kernel_rfl)) (by rfl) (by decide) rfl Try.func58 (by kernel_rfl) (by rfl) ?_
  walk_nrm
  refine .stop fun d => ⟨_, rfl, fun b hb => o1 b hb, show T0 + 1 ≤ w1.heap.size by omega, d1, ?_⟩
  clear d1 o1 s1
  intro A na oo ol ok stuck w4 hT
  refine Walk.finish (ho_of (by conv => lhs; whnf) (by kernel_rfl)) ?_
  walk_nrm
  (refine Walk.oa ?_; try walk_nrm)
  have d5 := heap_alloc_new w4 (.cells #[.slice none 0 0, .slice none 0 0, .slice none 0 0, .bool false] 31)
  have s5 : (w4.alloc (.cells #[.slice none 0 0, .slice none 0 0, .slice none 0 0, .bool false] 31)).heap.size = w4.heap.size + 1 := by simp
  have o5 : ∀ b, b < w4.heap.size → (w4.alloc (.cells #[.slice none 0 0, .slice none 0 0, .slice none 0 0, .bool false] 31)).heap[b]? = w4.heap[b]? := fun b hb => heap_new_lt _ _ hb
  have hT0 : T0 < w4.heap.size := (Array.getElem?_eq_some_iff.1 hT).1
  generalize hT1 : w4.heap.size = T1 at *
  generalize w4.alloc (.cells #[.slice none 0 0, .slice none 0 0, .slice none 0 0, .bool false] 31) = w5 at *
  refine Walk.storeS 31 (.tmp 10) (.tmp 18) (ho_of (by conv => lhs; whnf) (by kernel_rfl)) (by rfl) (by decide) rfl T1 #[.slice (some ⟨A, 0, none⟩) na na, .slice oo ol ok, .slice none 0 0, .bool stuck] _ 31 rfl rfl d5 (by kernel_rfl) (by rfl) (by simp [Value.oneCell']) (hA _) ?_
  have d6 := setRow_self (cells := #[.slice (some ⟨A, 0, none⟩) na na, .slice oo ol ok, .slice none 0 0, .bool stuck]) d5
  have o6 : ∀ b, b < T1 → (w5.setRow T1 #[.slice (some ⟨A, 0, none⟩) na na, .slice oo ol ok, .slice none 0 0, .bool stuck]).heap[b]? = w4.heap[b]? := fun b hb => (setRow_other _ _ (by omega)).trans (o5 b (by omega))
  have s6 := setRow_size w5 T1 #[.slice (some ⟨A, 0, none⟩) na na, .slice oo ol ok, .slice none 0 0, .bool stuck]
  rw [s5] at s6
  generalize w5.setRow T1 #[.slice (some ⟨A, 0, none⟩) na na, .slice oo ol ok, .slice none 0 0, .bool stuck] = w6 at *
  walk_nrm
  repeat (first | refine Walk.c rfl ?_ | refine Walk.cRet ?_ | refine Walk.cEnd ?_ | (refine Walk.cReg ?_; simp only [size16_0, size16_1, size16_2, size16_3, size16_4, List.range, List.range.loop]) | (refine Walk.oq ?_; try walk_nrm) | (refine Walk.un ?_; walk_nrm))
  refine Walk.callW (Post := StZ w6) ?_ (ho_of (by conv => lhs; whnf) (by kernel_rfl)) (by rfl) (by decide) rfl Try.func60 (by kernel_rfl) (by rfl) ?_
  · walk_nrm
    exact nstate_w w6
  rintro v w7 ⟨B, rfl, hrow, hBge, hold7, hs7⟩
  have hrB := hrow.lt
  have d7 := (hold7 T1 (by omega)).trans d6
  have c7 := (cell_of d7 2).trans rfl
  have z7 := frozen_of d7 2
  walk_nrm
  repeat (first | (refine Walk.oq ?_; try walk_nrm) | (refine Walk.un ?_; walk_nrm))
  (have hfr := (hA T1).1 ⟨T1, 2, none⟩ rfl; refine Walk.os hfr c7 ?_; clear hfr; try walk_nrm)
  have d8 : (w7.setCell ⟨T1, 2, none⟩ (.slice (some ⟨B, 0, none⟩) 0 0)).heap[T1]? = some (.cells #[.slice (some ⟨A, 0, none⟩) na na, .slice oo ol ok, .slice (some ⟨B, 0, none⟩) 0 0, .bool stuck] 31) := by
    rw [heap_set_self _ _ d7]
    simp
  have o8 : ∀ b, b ≠ T1 → (w7.setCell ⟨T1, 2, none⟩ (.slice (some ⟨B, 0, none⟩) 0 0)).heap[b]? = w7.heap[b]? := fun b hb => heap_set_other _ _ _ _ hb
  have s8 := size_set w7 ⟨T1, 2, none⟩ (.slice (some ⟨B, 0, none⟩) 0 0)
  clear c7 z7
  generalize w7.setCell ⟨T1, 2, none⟩ (.slice (some ⟨B, 0, none⟩) 0 0) = w8 at *
  repeat (first | refine Walk.c rfl ?_ | refine Walk.cRet ?_ | refine Walk.cEnd ?_ | (refine Walk.cReg ?_; simp only [size16_0, size16_1, size16_2, size16_3, size16_4, List.range, List.range.loop]) | (refine Walk.oq ?_; try walk_nrm) | (refine Walk.un ?_; walk_nrm))
  refine Walk.loadS 31 (.tmp 10) (ho_of (by conv => lhs; whnf) (by kernel_rfl)) (by rfl) (by decide) rfl T1 0 [.slice (some ⟨A, 0, none⟩) na na, .slice oo ol ok, .slice (some ⟨B, 0, none⟩) 0 0, .bool stuck] (.struct fsT) rfl (fun j v hj => ?_) huT rfl (by kernel_rfl) ?_
  · rw [Nat.zero_add, cell_of d8]
    simpa using hj
  have dT : w8.heap[T0]? = some (.cells #[.slice none 0 0, .slice none 0 0, .slice none 0 0, .bool false] 31) := (o8 T0 (by omega)).trans ((hold7 T0 (by omega)).trans ((o6 T0 (by omega)).trans hT))
  walk_nrm
  refine Walk.storeS 31 (.tmp 8) (.tmp 22) (ho_of (by conv => lhs; whnf) (by kernel_rfl)) (by rfl) (by decide) rfl T0 #[.slice (some ⟨A, 0, none⟩) na na, .slice oo ol ok, .slice (some ⟨B, 0, none⟩) 0 0, .bool stuck] _ 31 rfl rfl dT (by kernel_rfl) (by rfl) (by simp [Value.oneCell']) (hA _) ?_
  have d9 := setRow_self (cells := #[.slice (some ⟨A, 0, none⟩) na na, .slice oo ol ok, .slice (some ⟨B, 0, none⟩) 0 0, .bool stuck]) dT
  walk_nrm
  repeat (first | refine Walk.c rfl ?_ | refine Walk.cRet ?_ | refine Walk.cEnd ?_ | (refine Walk.cReg ?_; simp only [size16_0, size16_1, size16_2, size16_3, size16_4, List.range, List.range.loop]) | (refine Walk.oq ?_; try walk_nrm) | (refine Walk.un ?_; walk_nrm))
  refine Walk.onCell (T := T0) rfl rfl rfl Try.func16 rfl (by rfl) d9 (by kernel_rfl) (by kernel_rfl) (.stop fun d => ⟨B, rfl, ?_, by omega, fun b hb hbT => ?_, ?_⟩)
  · exact hrow.same ((setRow_other _ _ (by omega)).trans (o8 B (by omega)))
  · exact (setRow_other _ _ hbT).trans ((o8 b (by omega)).trans ((hold7 b (by omega)).trans (o6 b hb)))
  · show T1 ≤ (w8.setRow _ _).heap.size
    rw [setRow_size]
    omega
theorem nplay_any (xsl : Value) (xs : List Int) (tv : Value) (most : Int) (ta : Option Addr) (tb toff tc n : Nat) (hta : 0 < n → ta = some ⟨tb, toff, none⟩) (hn : n ≤ 64) (oa : Nat → Option Addr) (ln oc : Nat → Nat) (ops : Nat → List OpV) (sa : Option Addr) (sc : Nat) (sl : List Int) (hsl : sl.length ≤ 17592186044416) (c : Frame) (cs : List Frame) (w : World) (hx : LsR xsl xs w) (hr : ¬ isR xs)
    (I : OpsIn tb toff n oa ln oc ops w)
    (hsc : ∀ (j : Nat) (z : Int), sl[j]? = some z → ∃ s so, sa = some ⟨s, so, none⟩ ∧ w.cell? ⟨s, so + j, none⟩ = some (.int .i64 z))
    (hp : ∀ w' : World, (∀ b, b < w.heap.size → w'.heap[b]? = w.heap[b]?) → CallV Try.prog true (fun _ => none) 113 #[tv] w' (.slice ta n tc) w') :
    Runs (fun g w' => ∃ cells, SPAny n nrLa (fun _ => []) (playO nrLa () ops n most sl) w w' cells ∧ g = G (c.finish (.agg cells)) cs) (G (Frame.enter Try.prog 16 #[xsl, tv, .slice sa sl.length sc, .int .i64 most] .normal) (c :: cs)) w := by
  refine Runs.walk (nplay_in xsl xs tv (.slice sa sl.length sc) most c cs w hx hr) ?_
  rintro _ w1 ⟨fr, rfl, hO, hS, hT, hB⟩
  have hc1 : ∀ {b j : Nat} {v : Value}, w.cell? ⟨b, j, none⟩ = some v → w1.cell? ⟨b, j, none⟩ = some v := fun {b j v} e => (World.cell?_of_block (a := ⟨b, j, none⟩) (hO b (cell_lt' e))).trans e
  have I1 : OpsIn tb toff n oa ln oc ops w1 := I.old hO
  refine Runs.then (ops_any (L := nrLa) ndo_ok () () tv most ta tb toff tc n hta hn oa ln oc ops sa sc sl hsl fr (c :: cs) w1 I1 trivial (fun i hi j o ho b off e => fun h => h) (fun j z hz => ?_) (fun w' hw' => hp w' fun b hb => (hw' b (by omega)).trans (hO b hb))) ?_
  · obtain ⟨s, so, e, hc⟩ := hsc j z hz
    exact ⟨s, so, e, hc1 hc, fun h => h⟩
  · rintro _ w4 ⟨cells, H, rfl⟩
    obtain ⟨y, A, oo, ok, hd, own, O⟩ := H.all
    have hold := H.old
    have hsz := H.size
    generalize playO nrLa () ops n most sl = F at *
    obtain rfl := O.eq
    obtain ⟨arr, hAr, hAz, hAi⟩ := O.heads
    have hAl := O.Alo
    have hAlt : A < w4.heap.size := (Array.getElem?_eq_some_iff.1 hAr).1
    have hT4 : w4.heap[w.heap.size]? = some (.cells #[.slice none 0 0, .slice none 0 0, .slice none 0 0, .bool false] 31) := (hold _ (by omega) (fun h => h)).trans hT
    refine Runs.walk (hB A n oo _ ok _ w4 hT4) ?_
    rintro _ w5 ⟨B, rfl, hnum, hBge, hold5, hsz5⟩
    have hrow := hnum.row (base := w4.heap.size) hBge (by simp)
    simp only [List.length_nil, List.map_nil] at hrow
    have hrowlt : ∀ (v : Value) (e : TypeId) (sz m : Nat) (ys : List Value), w4.ownsRow w1.heap.size e sz v m ys → w5.ownsRow w.heap.size e sz v m ys := fun v e sz m ys h => row_low (row_same h fun b hb => hold5 b (h.lt b hb).2 (by have := (h.lt b hb).1; omega)) (by omega)
    have hBb := fun b (h : (Value.slice (some (⟨B, 0, none⟩ : Addr)) 0 0).ownBlock = some b) => (hrow.lt b h).1
    refine .now ⟨_, ⟨⟨A, oo, ok, .slice (some ⟨B, 0, none⟩) 0 0, hd, fun i b => own i b ∧ w1.heap.size ≤ b ∧ b < w4.heap.size, rfl, by omega, hrowlt _ _ _ _ _ O.orow, ?_, ⟨arr, (hold5 A hAlt (by omega)).trans hAr, hAz, hAi⟩, fun i hi => ?_, fun i j b h1 h2 => O.one i j b h1.1 h2.1, fun i b h => ⟨(O.ownA i b h.1).1, O.ownO i b h.1, fun e => ?_⟩, O.Aord, fun e => ?_, fun b h e => ?_⟩, fun b hb => ?_, by omega⟩, rfl⟩
    · exact row_low hrow (by omega)
    · obtain ⟨ta2, tc2, z, hz1, hz2, hz3, hz4, hz5⟩ := O.rows i hi
      refine ⟨ta2, tc2, z, hz1, hz2, hrowlt _ _ _ _ _ hz3, fun b hb => ⟨hz4 b hb, hz3.lt b hb⟩, fun p hp' => ?_⟩
      obtain ⟨la, lc, e, hlen, hl⟩ := hz5 p hp'
      exact ⟨la, lc, e, hlen, fun hne => ⟨hrowlt _ _ _ _ _ (hl hne).1, fun b hb => ⟨(hl hne).2 b hb, (hl hne).1.lt b hb⟩⟩⟩
    · have := hBb b e; omega
    · have := hBb A e; omega
    · have := hBb b e; have := (O.orow.lt b h).2; omega
    · exact (hold5 b (by omega) (by omega)).trans ((hold b (by omega) (fun h => h)).trans (hO b hb))
end Go.Proofs.Ytbmijpkdghkbbaa
