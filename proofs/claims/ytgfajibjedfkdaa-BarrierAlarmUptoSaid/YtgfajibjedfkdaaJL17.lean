/- Part 17. -/
import Derived.Test.YtgfajibjedfkdaaJL16
import Derived.Laws.LoneSync
import Derived.LaidEql
set_option linter.unusedSimpArgs false
set_option linter.unusedVariables false
set_option maxHeartbeats 8000000
set_option maxRecDepth 100000
namespace Go.Relay
section
open Go.Conc
section
variable {P : Program} {main : Bool} {V : Nat → Option Wait} {Stop : Goroutine → World → Prop} {w : World} {b : Frame} {a : Act} {k : List Item} {cs : List Frame} {ops : Array Oper} {i : Nat} {rest : List Nat} {o : Oper}
theorem Walk.appendY (s x : Operand) (t tn e : TypeId) (kk kn : IntKind) (ho : ops[i]? = some o) (hw : Region.wanted o (yielded ops a.tmps) = true) (hk : b.kind ≠ .early) (hop : o.op = .call { callee := .builtin .append, args := #[s, x], argTypes := #[t, tn] })
    (ti : TypeInfo) (z : Value) (ht : P.underlying t = some (.slice e)) (htn : P.underlying tn = some (.int kn)) (hi : P.info? e = some ti) (hz : ti.zero = some z) (hsize : ti.size = 1) (hby : ti.bytes ≤ 16) (hzs : z.cells.size = 1)
    (n : Nat) (hs : a.eval s = .slice none 0 0) (hx : a.eval x = .int kk n) (h0 : 0 < n) (hn : n ≤ 1048576)
    (h : ∀ cap w', w'.ownsRow w.heap.size e 1 (.slice (some ⟨w.heap.size, 0, none⟩) 0 cap) 0 [] → n ≤ cap → (∀ b, b < w.heap.size → w'.heap[b]? = w.heap[b]?) → w.heap.size < w'.heap.size →
      Walk P main (DR V) Stop (G (b.at (a.put o.dst (.slice (some ⟨w.heap.size, 0, none⟩) n cap)) (.inRegion ops rest :: k)) cs) w') :
    Walk P main (DR V) Stop (G (b.at a (.inRegion ops (i :: rest) :: k)) cs) w := by
  refine Walk.go rfl fun d => goes_oper_k ho hw hk fun K hK => ?_
  have hr := Lib.run_append_nil_zeros (P := P) (w.at d) t tn o.type e ti z kk kn ht htn hi hz n h0 (by omega) (by omega) (Nat.le_trans (Nat.mul_le_mul_left n hby) (by omega))
  have hev := ev_append_zeros (P := P) (w.at d) t tn o.type e ti z kk kn ht htn hi hz n h0 (by omega) (by omega) (Nat.le_trans (Nat.mul_le_mul_left n hby) (by omega))
  have hcap := grownCap_ge (w.at d) n 0 e
  have hmax := grownCap_le_maxLen (w.at d) n 0 e (by simp [maxLen]; omega)
  generalize grownCap (w.at d) n 0 e = cap at *
  have hzc : ∀ m, (Builtin.zeroCells z.cells m).size = m := fun m => by simp [Builtin.zeroCells, hzs]
  have hsz : ((w.at d).drew.alloc (.cells (Builtin.zeroCells z.cells n ++ Builtin.zeroCells z.cells (cap - n)) e)).heap.size = w.heap.size + 1 := by
    show (w.heap.push _).size = _
    simp
  have hold : ∀ g, g < w.heap.size → ((w.at d).drew.alloc (.cells (Builtin.zeroCells z.cells n ++ Builtin.zeroCells z.cells (cap - n)) e)).heap[g]? = w.heap[g]? := fun g hg => by
    show (w.heap.push _)[g]? = _
    rw [Array.getElem?_push, if_neg (by omega)]
  have hnew : ((w.at d).drew.alloc (.cells (Builtin.zeroCells z.cells n ++ Builtin.zeroCells z.cells (cap - n)) e)).heap[w.heap.size]? = some (.cells (Builtin.zeroCells z.cells n ++ Builtin.zeroCells z.cells (cap - n)) e) := by
    show (w.heap.push _)[w.heap.size]? = _
    simp
  refine uponK_append2 s x t tn hop hs hx hr (hK _ _ ⟨DR.grown (row := none) ⟨rfl, rfl, rfl, by rw [hsz]; exact Nat.le_succ _, fun g hg _ => hold g hg⟩ (fun g h => by cases h) (fun ev hev' => ?_), h cap _ ⟨rfl, .inr ⟨w.heap.size, cap, _, rfl, Nat.le_refl _, hnew, Nat.zero_le _, hmax, by simp [hzc]; omega, by simp⟩⟩ hcap hold (by rw [hsz]; exact Nat.lt_succ_self _)⟩)
  have hm' := mem_listed hev'
  rw [events_append_op2 s x t tn hop hs hx, hev] at hm'
  split at hm'
  · simp at hm'
    rw [hm']
    exact evR_noRoom
  · simp at hm'
end
end
end Go.Relay
namespace Go.Proofs.Ytgfajibjedfkdaa
open Go.Conc Go.RowKit Go.Relay
open Go.ConcN (upd upd_ne upd_same)
structure Hl where
  p : Option Nat
  sl : Value
  l : List Int
def Hl.no : Hl := ⟨none, .slice none 0 0, []⟩
def Hl.sh (h : Hl) (b : Nat) : Prop := h.p = some b ∨ h.sl.ownBlock = some b
def ptrV (x : Option Nat) : Value := .pointer (x.map fun b => ⟨b, 0, none⟩)
def Hl.v (h : Hl) : Value := ptrV h.p
def okL (l : List Int) : Prop := l.Nodup ∧ ∀ z ∈ l, 0 ≤ z ∧ z < 64
theorem okL.nil : okL [] := ⟨List.nodup_nil, fun z h => (by cases h)⟩
theorem okLen : ∀ (n : Nat) (l : List Int), l.Nodup → (∀ z ∈ l, 0 ≤ z ∧ z < n) → l.length ≤ n := by
  intro n
  induction n with
  | zero =>
    intro l _ h
    cases l with
    | nil => simp
    | cons a t => have := h a (by simp); omega
  | succ n ih =>
    intro l hn h
    by_cases hm : (n : Int) ∈ l
    · have h1 := ih (l.erase n) (hn.erase _) (fun z hz => by
        have h2 := (hn.mem_erase_iff).1 hz
        have := h z h2.2
        have := h2.1
        omega)
      have := List.length_erase_of_mem hm
      omega
    · have := ih l hn (fun z hz => by
        have := h z hz
        have : z ≠ n := fun e => hm (e ▸ hz)
        omega)
      omega
theorem okL.len {l : List Int} (h : okL l) : l.length ≤ 64 := okLen 64 l h.1 h.2
theorem okL.filter {l : List Int} (h : okL l) (q : Int → Bool) : okL (l.filter q) := ⟨List.Pairwise.filter q h.1, fun z hz => h.2 z (List.mem_filter.1 hz).1⟩
structure HlI (h : Hl) (w : World) : Prop where
  ok : okL h.l
  row : w.ownsRow 0 3 1 h.sl h.l.length (h.l.map fun z => .int .i64 z)
  blk : ∀ b, h.p = some b → w.heap[b]? = some (.cells #[h.sl, .int .u8 0] 213)
  no : h.p = none → h.sl = .slice none 0 0 ∧ h.l = []
theorem HlI.same {h : Hl} {w w' : World} (H : HlI h w) (hb : ∀ b, h.sh b → w'.heap[b]? = w.heap[b]?) : HlI h w' :=
  ⟨H.ok, row_same H.row fun b e => hb b (.inr e), fun b e => (hb b (.inl e)).trans (H.blk b e), H.no⟩
theorem HlI.none (w : World) : HlI Hl.no w := ⟨okL.nil, ⟨rfl, .inl ⟨rfl, rfl⟩⟩, fun b e => (by cases e), fun _ => ⟨rfl, rfl⟩⟩
theorem HlI.lt {h : Hl} {w : World} (H : HlI h w) {b : Nat} (hb : h.sh b) : b < w.heap.size := by
  rcases hb with e | e
  · exact (Array.getElem?_eq_some_iff.1 (H.blk b e)).1
  · exact (H.row.lt b e).2
structure Gt where
  k : Nat
  l : List Int
  n : Nat → Int
def Gt.put (s : Gt) (i : Nat) (v : Int) : Gt := ⟨s.k, s.l, upd s.n i v⟩
structure GtI (gb : Nat) (y : List Hl) (s : Gt) (w : World) : Prop where
  len : y.length = s.k + 1
  top : ∃ (arr : Array Value) (h : Hl), w.heap[gb]? = some (.cells arr 105) ∧ arr.size = 65 ∧ y[s.k]? = some h ∧ h.l = s.l ∧ arr[0]? = some h.v ∧ ∀ i, i < 64 → arr[1 + i]? = some (.int .i64 (s.n i))
  held : ∀ h : Hl, h ∈ y → HlI h w
  one : ∀ (i j : Nat) (h h' : Hl), y[i]? = some h → y[j]? = some h' → h.p = h'.p → i = j
  ne : ∀ h : Hl, h ∈ y → ¬ h.sh gb
def gtSh (gb : Nat) (y : List Hl) (b : Nat) : Prop := b = gb ∨ ∃ h ∈ y, h.sh b
theorem GtI.same {gb : Nat} {y : List Hl} {s : Gt} {w w' : World} (I : GtI gb y s w) (hb : ∀ b, gtSh gb y b → w'.heap[b]? = w.heap[b]?) : GtI gb y s w' := by
  obtain ⟨arr, h, h1, h2⟩ := I.top
  exact ⟨I.len, ⟨arr, h, (hb gb (.inl rfl)).trans h1, h2⟩, fun h hm => (I.held h hm).same fun b e => hb b (.inr ⟨h, hm, e⟩), I.one, I.ne⟩
theorem GtI.lt {gb : Nat} {y : List Hl} {s : Gt} {w : World} (I : GtI gb y s w) {b : Nat} (h : gtSh gb y b) : b < w.heap.size := by
  rcases h with rfl | ⟨h, hm, e⟩
  · obtain ⟨arr, h, h1, h2⟩ := I.top
    exact (Array.getElem?_eq_some_iff.1 h1).1
  · exact (I.held h hm).lt e
def LsI (base : Nat) (P : Nat → Prop) (sl : Value) (l : List Int) (w : World) : Prop := ∃ a c, sl = .slice a l.length c ∧ l.length ≤ 1048576 ∧ (∀ {p : Prop}, p → w.ownsRow base 3 1 sl l.length (l.map fun z => .int .i64 z) ∧ ∀ b, sl.ownBlock = some b → P b)
theorem LsI.same {base : Nat} {P : Nat → Prop} {sl : Value} {l : List Int} {w w' : World} (h : LsI base P sl l w) (hb : ∀ b, P b → w'.heap[b]? = w.heap[b]?) : LsI base P sl l w' := by
  obtain ⟨a, c, e, hn, hr⟩ := h
  exact ⟨a, c, e, hn, fun hl => ⟨row_same (hr hl).1 fun b e => hb b ((hr hl).2 b e), (hr hl).2⟩⟩
theorem LsI.imp {base : Nat} {P P' : Nat → Prop} {sl : Value} {l : List Int} {w : World} (h : LsI base P sl l w) (hP : ∀ b, P b → P' b) : LsI base P' sl l w := by
  obtain ⟨a, c, e, hn, hr⟩ := h
  exact ⟨a, c, e, hn, fun hl => ⟨(hr hl).1, fun b e => hP b ((hr hl).2 b e)⟩⟩
theorem LsI.low {base base' : Nat} {P : Nat → Prop} {sl : Value} {l : List Int} {w : World} (h : LsI base P sl l w) (hb : base' ≤ base) : LsI base' P sl l w := by
  obtain ⟨a, c, e, hn, hr⟩ := h
  exact ⟨a, c, e, hn, fun hl => ⟨⟨(hr hl).1.1, (hr hl).1.2.imp id fun ⟨g, cap, cur, h1, h2, h3⟩ => ⟨g, cap, cur, h1, Nat.le_trans hb h2, h3⟩⟩, (hr hl).2⟩⟩
section
section
variable {main : Bool} {V : Nat → Option Wait}
structure DfM (g n c : Nat) (f : Nat → Int) (w : World) : Prop where
  row : ∃ cur : Array Value, w.heap[g]? = some (.cells cur 3) ∧ cur.size = c ∧ ∀ k, k < n → cur[k]? = some (.int .i64 (f k))
  le : n ≤ c ∧ c ≤ maxLen
theorem DfM.cell {g n c : Nat} {f : Nat → Int} {w : World} (h : DfM g n c f w) {k : Nat} (hk : k < n) : w.cell? ⟨g, k, none⟩ = some (.int .i64 (f k)) ∧ w.frozen? ⟨g, k, none⟩ = false := by
  obtain ⟨cur, h1, h2, h3⟩ := h.row
  exact ⟨(cell_of h1 k).trans (h3 k hk), frozen_of h1 k⟩
theorem DfM.set {g n c : Nat} {f : Nat → Int} {w : World} (h : DfM g n c f w) {k : Nat} (hk : k < n) (v : Int) : DfM g n c (upd f k v) (w.setCell ⟨g, k, none⟩ (.int .i64 v)) := by
  obtain ⟨cur, h1, h2, h3⟩ := h.row
  have := h.le
  refine ⟨⟨_, heap_set_self _ _ h1, by simp [h2], fun j hj => ?_⟩, h.le⟩
  by_cases e : j = k
  · subst e
    rw [upd_same]
    exact Array.getElem?_setIfInBounds_self_of_lt (by omega)
  · rw [upd_ne _ _ e, Array.getElem?_setIfInBounds_ne (by omega)]
    exact h3 j hj
end
end
section
section
variable {P : Program}
theorem run_upto_nil {t e : TypeId} {ti : TypeInfo} (hu : P.underlying t = some (.slice e)) (hi : P.info? e = some ti) (hz : ti.size = 1) (w : World) (es : Array Event) : (Instr.sliceAt t (.slice none 0 0) none (some (.int .i64 0)) none).run P w = .ok (.slice none 0 0) w ∧ (Instr.sliceAt t (.slice none 0 0) none (some (.int .i64 0)) none).events P w es = es := by
  constructor <;> simp [Instr.sliceAt, Instr.slice, run_underlying hu, Instr.sliceBounds, Instr.sliceBound, asIntOf, sizeOf, typeInfo, hi, hz, Addr.add]
theorem run_appN {t e : TypeId} {ti : TypeInfo} (hu : P.underlying t = some (.slice e)) (hi : P.info? e = some ti) (ty : TypeId) (a : Addr) (m cap : Nat) (hm : m ≤ cap) (x : Option Addr) (c : Nat) (w : World) (es : Array Event) : (Builtin.append_ #[t, t] ty #[.slice (some a) m cap, .slice x 0 c]).run P w = .ok (.slice (some a) m cap) w ∧ (Builtin.append_ #[t, t] ty #[.slice (some a) m cap, .slice x 0 c]).events P w es = es := by
  constructor <;> cases x <;> simp [Builtin.append_, run_underlying hu, sizeOf, typeInfo, hi, Builtin.lenOf, Builtin.firstCells, loadCells, hm] <;> rfl
end
theorem undInt : ∃ k, Try.prog.underlying 3 = some (.int k) := by
  have h : (match Try.prog.underlying 3 with | some (.int _) => true | _ => false) = true := by kernel_rfl
  revert h
  cases Try.prog.underlying 3 with
  | none => simp
  | some d =>
    cases d with
    | int k => exact fun _ => ⟨k, rfl⟩
    | _ => simp
end
section
noncomputable def reg75_0 : Array Oper := match Try.f75.body with | some (.seq (.region _ ops _) _) => ops | _ => #[]
theorem size75_0 : reg75_0.size = 1 := by kernel_rfl
noncomputable def reg75_1 : Array Oper := match Try.f75.body with | some (.seq _ (.seq (.seq (.region _ ops _) _) _)) => ops | _ => #[]
theorem size75_1 : reg75_1.size = 2 := by kernel_rfl
noncomputable def reg75_2 : Array Oper := match Try.f75.body with | some (.seq _ (.seq (.seq _ (.cond _ (.region _ ops _) _)) _)) => ops | _ => #[]
theorem size75_2 : reg75_2.size = 2 := by kernel_rfl
noncomputable def reg75_3 : Array Oper := match Try.f75.body with | some (.seq _ (.seq _ (.seq (.seq (.region _ ops _) _) _))) => ops | _ => #[]
theorem size75_3 : reg75_3.size = 8 := by kernel_rfl
noncomputable def reg75_4 : Array Oper := match Try.f75.body with | some (.seq _ (.seq _ (.seq (.seq _ (.seq (.region _ ops _) _)) _))) => ops | _ => #[]
theorem size75_4 : reg75_4.size = 2 := by kernel_rfl
noncomputable def reg75_5 : Array Oper := match Try.f75.body with | some (.seq _ (.seq _ (.seq (.seq _ (.seq _ (.cond _ (.region _ ops _) _))) _))) => ops | _ => #[]
theorem size75_5 : reg75_5.size = 10 := by kernel_rfl
noncomputable def reg75_6 : Array Oper := match Try.f75.body with | some (.seq _ (.seq _ (.seq _ (.seq (.region _ ops _) _)))) => ops | _ => #[]
theorem size75_6 : reg75_6.size = 2 := by kernel_rfl
theorem code75_is : Try.f75.body = some (.seq (.region 0 reg75_0 false) (.seq (.seq (.region 1 reg75_1 false) (.cond (.tmp 6 ) (.region 2 reg75_2 false) (.skip))) (.seq (.seq (.region 3 reg75_3 false) (.seq (.region 4 reg75_4 false) (.cond (.tmp 16 ) (.region 5 reg75_5 false) (.skip)))) (.seq (.region 6 reg75_6 false) (.ret))))) := by kernel_rfl
noncomputable def reg38_0 : Array Oper := match Try.f38.body with | some (.seq (.region _ ops _) _) => ops | _ => #[]
theorem size38_0 : reg38_0.size = 1 := by kernel_rfl
noncomputable def reg38_1 : Array Oper := match Try.f38.body with | some (.seq _ (.seq (.region _ ops _) _)) => ops | _ => #[]
theorem size38_1 : reg38_1.size = 1 := by kernel_rfl
noncomputable def reg38_2 : Array Oper := match Try.f38.body with | some (.seq _ (.seq _ (.seq (.seq (.region _ ops _) _) _))) => ops | _ => #[]
theorem size38_2 : reg38_2.size = 3 := by kernel_rfl
noncomputable def reg38_3 : Array Oper := match Try.f38.body with | some (.seq _ (.seq _ (.seq (.seq _ (.block _ (.loop (.seq (.region _ ops _) _)))) _))) => ops | _ => #[]
theorem size38_3 : reg38_3.size = 1 := by kernel_rfl
noncomputable def reg38_4 : Array Oper := match Try.f38.body with | some (.seq _ (.seq _ (.seq (.seq _ (.block _ (.loop (.seq _ (.seq _ (.seq (.block _ (.seq (.region _ ops _) _)) _)))))) _))) => ops | _ => #[]
theorem size38_4 : reg38_4.size = 3 := by kernel_rfl
noncomputable def reg38_5 : Array Oper := match Try.f38.body with | some (.seq _ (.seq _ (.seq (.seq _ (.block _ (.loop (.seq _ (.seq _ (.seq (.block _ (.seq _ (.seq (.region _ ops _) _))) _)))))) _))) => ops | _ => #[]
theorem size38_5 : reg38_5.size = 5 := by kernel_rfl
noncomputable def reg38_6 : Array Oper := match Try.f38.body with | some (.seq _ (.seq _ (.seq (.seq _ (.block _ (.loop (.seq _ (.seq _ (.seq (.block _ (.seq _ (.seq _ (.seq (.region _ ops _) _)))) _)))))) _))) => ops | _ => #[]
theorem size38_6 : reg38_6.size = 2 := by kernel_rfl
noncomputable def reg38_7 : Array Oper := match Try.f38.body with | some (.seq _ (.seq _ (.seq (.seq _ (.block _ (.loop (.seq _ (.seq _ (.seq (.block _ (.seq _ (.seq _ (.seq _ (.cond _ (.region _ ops _) _))))) _)))))) _))) => ops | _ => #[]
theorem size38_7 : reg38_7.size = 2 := by kernel_rfl
noncomputable def reg38_8 : Array Oper := match Try.f38.body with | some (.seq _ (.seq _ (.seq (.seq _ (.block _ (.loop (.seq _ (.seq _ (.seq _ (.region _ ops _))))))) _))) => ops | _ => #[]
theorem size38_8 : reg38_8.size = 2 := by kernel_rfl
noncomputable def reg38_9 : Array Oper := match Try.f38.body with | some (.seq _ (.seq _ (.seq _ (.seq (.region _ ops _) _)))) => ops | _ => #[]
theorem size38_9 : reg38_9.size = 3 := by kernel_rfl
noncomputable def reg38_10 : Array Oper := match Try.f38.body with | some (.seq _ (.seq _ (.seq _ (.seq _ (.seq (.seq (.region _ ops _) _) _))))) => ops | _ => #[]
theorem size38_10 : reg38_10.size = 3 := by kernel_rfl
noncomputable def reg38_11 : Array Oper := match Try.f38.body with | some (.seq _ (.seq _ (.seq _ (.seq _ (.seq (.seq _ (.block _ (.loop (.seq (.region _ ops _) _)))) _))))) => ops | _ => #[]
theorem size38_11 : reg38_11.size = 1 := by kernel_rfl
noncomputable def reg38_12 : Array Oper := match Try.f38.body with | some (.seq _ (.seq _ (.seq _ (.seq _ (.seq (.seq _ (.block _ (.loop (.seq _ (.seq _ (.seq (.block _ (.seq (.region _ ops _) _)) _)))))) _))))) => ops | _ => #[]
theorem size38_12 : reg38_12.size = 3 := by kernel_rfl
noncomputable def reg38_13 : Array Oper := match Try.f38.body with | some (.seq _ (.seq _ (.seq _ (.seq _ (.seq (.seq _ (.block _ (.loop (.seq _ (.seq _ (.seq (.block _ (.seq _ (.region _ ops _))) _)))))) _))))) => ops | _ => #[]
theorem size38_13 : reg38_13.size = 4 := by kernel_rfl
noncomputable def reg38_14 : Array Oper := match Try.f38.body with | some (.seq _ (.seq _ (.seq _ (.seq _ (.seq (.seq _ (.block _ (.loop (.seq _ (.seq _ (.seq _ (.region _ ops _))))))) _))))) => ops | _ => #[]
theorem size38_14 : reg38_14.size = 2 := by kernel_rfl
noncomputable def reg38_15 : Array Oper := match Try.f38.body with | some (.seq _ (.seq _ (.seq _ (.seq _ (.seq _ (.seq (.region _ ops _) _)))))) => ops | _ => #[]
theorem size38_15 : reg38_15.size = 2 := by kernel_rfl
theorem code38_is : Try.f38.body = some (.seq (.region 0 reg38_0 false) (.seq (.region 1 reg38_1 false) (.seq (.seq (.region 2 reg38_2 false) (.block 0 (.loop (.seq (.region 3 reg38_3 false) (.seq (.cond (.tmp 12 ) (.skip) (.exit 0)) (.seq (.block 1 (.seq (.region 4 reg38_4 false) (.seq (.region 5 reg38_5 false) (.seq (.region 6 reg38_6 false) (.cond (.tmp 20 ) (.region 7 reg38_7 false) (.skip)))))) (.region 8 reg38_8 false))))))) (.seq (.region 9 reg38_9 false) (.seq (.seq (.region 10 reg38_10 false) (.block 2 (.loop (.seq (.region 11 reg38_11 false) (.seq (.cond (.tmp 28 ) (.skip) (.exit 2)) (.seq (.block 3 (.seq (.region 12 reg38_12 false) (.region 13 reg38_13 false))) (.region 14 reg38_14 false))))))) (.seq (.region 15 reg38_15 false) (.ret))))))) := by kernel_rfl
noncomputable def hdSa (B : Nat) (s i : Nat) (u : Nat → Value) : Frame :=
  (base 38).at { tmps := #[.slice (some ⟨B, 0, none⟩) 2 2, u 1, u 2, .int .i64 s, u 4, u 5, u 6, u 7, u 8, .slice (some ⟨B, 0, none⟩) 2 2, .int .i64 2, .int .i64 i, u 12, u 13, u 14, u 15, u 16, u 17, u 18, u 19, u 20, u 21, u 22, u 23, u 24, u 25, u 26, u 27, u 28, u 29, u 30, u 31, u 32, u 33, u 34, u 35], defers := [] } [.code (.seq (.region 3 reg38_3 false) (.seq (.cond (.tmp 12 ) (.skip) (.exit 0)) (.seq (.block 1 (.seq (.region 4 reg38_4 false) (.seq (.region 5 reg38_5 false) (.seq (.region 6 reg38_6 false) (.cond (.tmp 20 ) (.region 7 reg38_7 false) (.skip)))))) (.region 8 reg38_8 false)))), .inLoop (.seq (.region 3 reg38_3 false) (.seq (.cond (.tmp 12 ) (.skip) (.exit 0)) (.seq (.block 1 (.seq (.region 4 reg38_4 false) (.seq (.region 5 reg38_5 false) (.seq (.region 6 reg38_6 false) (.cond (.tmp 20 ) (.region 7 reg38_7 false) (.skip)))))) (.region 8 reg38_8 false)))), .inBlock 0, .code (.seq (.region 9 reg38_9 false) (.seq (.seq (.region 10 reg38_10 false) (.block 2 (.loop (.seq (.region 11 reg38_11 false) (.seq (.cond (.tmp 28 ) (.skip) (.exit 2)) (.seq (.block 3 (.seq (.region 12 reg38_12 false) (.region 13 reg38_13 false))) (.region 14 reg38_14 false))))))) (.seq (.region 15 reg38_15 false) (.ret))))]
noncomputable def hdSb (B : Nat) (v : Value) (i : Nat) (u : Nat → Value) : Frame :=
  (base 38).at { tmps := #[.slice (some ⟨B, 0, none⟩) 2 2, u 1, u 2, u 3, u 4, u 5, v, u 7, u 8, u 9, u 10, u 11, u 12, u 13, u 14, u 15, u 16, u 17, u 18, u 19, u 20, u 21, u 22, u 23, u 24, .slice (some ⟨B, 0, none⟩) 2 2, .int .i64 2, .int .i64 i, u 28, u 29, u 30, u 31, u 32, u 33, u 34, u 35], defers := [] } [.code (.seq (.region 11 reg38_11 false) (.seq (.cond (.tmp 28 ) (.skip) (.exit 2)) (.seq (.block 3 (.seq (.region 12 reg38_12 false) (.region 13 reg38_13 false))) (.region 14 reg38_14 false)))), .inLoop (.seq (.region 11 reg38_11 false) (.seq (.cond (.tmp 28 ) (.skip) (.exit 2)) (.seq (.block 3 (.seq (.region 12 reg38_12 false) (.region 13 reg38_13 false))) (.region 14 reg38_14 false)))), .inBlock 2, .code (.seq (.region 15 reg38_15 false) (.ret))]
section
variable {main : Bool} {V : Nat → Option Wait}
theorem growS_w (n : Nat) (h0 : 0 < n) (hn : n ≤ 1048576) (w : World) : CallW Try.prog main V 75 #[.slice none 0 0, .int .i64 n] w (fun v w' => ∃ cap, v = .slice (some ⟨w.heap.size, 0, none⟩) 0 cap ∧ w'.ownsRow w.heap.size 32 1 (.slice (some ⟨w.heap.size, 0, none⟩) 0 cap) 0 [] ∧ n ≤ cap ∧ (∀ b, b < w.heap.size → w'.heap[b]? = w.heap[b]?) ∧ w.heap.size < w'.heap.size) := by
  obtain ⟨ti, hti, htz, htv, htb⟩ := tiSrc
  obtain ⟨kn, hkn⟩ := undInt
  have hn1 : decide ((n : Int) < 0) = false := decide_eq_false (by omega)
  have hn2 : decide ((0 : Int) < n) = true := by simp; omega
  have hn3 : decide (0 < n) = true := by simp; omega
  have hw0 : IntKind.wrap .i64 0 = 0 := by decide
  have hw1 : IntKind.wrap .i64 ((n : Int) - 0) = n := by rw [IntKind.wrap_i64]; omega
  have hw2 : IntKind.wrap .i64 (n : Int) = n := by rw [IntKind.wrap_i64]; omega
  have hc1 : ∀ (ty : TypeId) (w : World), (Builtin.cap_ #[25] ty #[.slice none 0 0]).run Try.prog w = .ok (.int .i64 0) w := fun ty w => by simp [Builtin.cap_, run_underlying huSrc, goInt]
  have hc2 : ∀ (ty : TypeId) (w : World) (es : Array Event), (Builtin.cap_ #[25] ty #[.slice none 0 0]).events Try.prog w es = es := fun ty w es => by simp [Builtin.cap_, run_underlying huSrc, goInt]
  have hz1 := fun w => (run_upto_nil (P := Try.prog) huSrc hti htz w #[]).1
  have hz2 := fun w es => (run_upto_nil (P := Try.prog) huSrc hti htz w es).2
  refine callW_in Try.func75 code75_is fun fr cs => ?_
  simp only [Try.ntmps75, List.size_toArray, List.length_cons, List.length_nil, Nat.reduceAdd, Nat.reduceSub, Array.replicate_succ, Array.replicate_zero, List.push_toArray, List.append_toArray, List.nil_append, List.cons_append]
  repeat (first | refine Walk.c rfl ?_ | refine Walk.cRet ?_ | refine Walk.cEnd ?_ | (refine Walk.cReg ?_; simp only [size75_0, size75_1, size75_2, size75_3, size75_4, size75_5, size75_6, List.range, List.range.loop]) | (refine Walk.oq ?_; try walk_nrm) | (refine Walk.un ?_; walk_nrm))
  refine Walk.appendY (.tmp 20) (.tmp 21) 25 3 32 .i64 kn (ho_of (by conv => lhs; whnf) (by kernel_rfl)) (by rfl) (by decide) rfl ti .nilIface huSrc hkn hti htv htz (by omega) (by rfl) n rfl rfl h0 hn ?_
  intro cap w1 hown hcap hold hsz
  have hu1 : ∀ w0 : World, (Instr.sliceAt 25 (.slice (some ⟨w.heap.size, 0, none⟩) n cap) none (some (.int .i64 0)) none).run Try.prog w0 = .ok (.slice (some ⟨w.heap.size, 0, none⟩) 0 cap) w0 := fun w0 => (run_upto (P := Try.prog) huSrc hti htz w.heap.size 0 0 n cap (by omega) h0 hcap w0 #[]).1
  have hu2 : ∀ (w0 : World) (es : Array Event), (Instr.sliceAt 25 (.slice (some ⟨w.heap.size, 0, none⟩) n cap) none (some (.int .i64 0)) none).events Try.prog w0 es = es := fun w0 es => (run_upto (P := Try.prog) huSrc hti htz w.heap.size 0 0 n cap (by omega) h0 hcap w0 es).2
  generalize hT : w.heap.size = T at *
  walk_nrm
  repeat (first | refine Walk.c rfl ?_ | refine Walk.cRet ?_ | refine Walk.cEnd ?_ | (refine Walk.cReg ?_; simp only [size75_0, size75_1, size75_2, size75_3, size75_4, size75_5, size75_6, List.range, List.range.loop]) | (refine Walk.oq ?_; try walk_nrm) | (refine Walk.un ?_; walk_nrm))
  exact Walk.on1 rfl rfl Try.func75 rfl (.stop fun d => ⟨_, ⟨cap, rfl, row_same hown fun _ _ => rfl, hcap, hold, hsz⟩, rfl⟩)
end
section
variable {main : Bool} {V : Nat → Option Wait}
theorem sa_in (B : Nat) (cs : List Frame) (w : World) :
    Walk Try.prog main (DR V) (fun g w' => (∃ u, g = G (hdSa B 0 0 u) cs) ∧ ∃ d, w' = w.at d) (G (Frame.enter Try.prog 38 #[.slice (some ⟨B, 0, none⟩) 2 2] .normal) cs) w := by
  rw [enter_at _ Try.func38 code38_is]
  simp only [Try.ntmps38, List.size_toArray, List.length_cons, List.length_nil, Nat.reduceAdd, Nat.reduceSub, Array.replicate_succ, Array.replicate_zero, List.push_toArray, List.append_toArray, List.nil_append, List.cons_append]
  repeat (first | refine Walk.c rfl ?_ | refine Walk.cRet ?_ | refine Walk.cEnd ?_ | (refine Walk.cReg ?_; simp only [size38_0, size38_1, size38_2, size38_3, size38_4, size38_5, size38_6, size38_7, size38_8, size38_9, size38_10, size38_11, size38_12, size38_13, size38_14, size38_15, List.range, List.range.loop]) | (refine Walk.oq ?_; try walk_nrm) | (refine Walk.un ?_; walk_nrm))
  refine Walk.ctl rfl (fun w => stepG_loop) ?_
  refine .stop fun d => ⟨at_slots ?_, d, rfl⟩
  simp only [hdSa]
  rfl
theorem sa_go (B s i : Nat) (hi : i < 2) (a : Option Addr) (n c : Nat) (hs : s + n ≤ 1048576) (u : Nat → Value) (cs : List Frame) (w : World) (hc : w.cell? ⟨B, i, none⟩ = some (.slice a n c)) :
    Walk Try.prog main (DR V) (fun g w' => (∃ u, g = G (hdSa B (s + n) (i + 1) u) cs) ∧ ∃ d, w' = w.at d) (G (hdSa B s i u) cs) w := by
  have hi1 : decide ((i : Int) < 2) = true := by simp; omega
  have hi4 : (i : Int) < 2 := by omega
  have hi0 : (0 : Int) ≤ i := by omega
  have hw1 : IntKind.wrap .i64 ((i : Int) + 1) = (i : Int) + 1 := by rw [IntKind.wrap_i64]; omega
  have hw2 : IntKind.wrap .i64 ((s : Int) + n) = (s : Int) + n := by rw [IntKind.wrap_i64]; omega
  have hn : decide ((s : Int) + n < 0) = false := decide_eq_false (by omega)
  have hc1 : ((i + 1 : Nat) : Int) = (i : Int) + 1 := by simp
  have hc2 : ((s + n : Nat) : Int) = (s : Int) + n := by simp
  conv => arg 5; unfold hdSa
  repeat (first | refine Walk.c rfl ?_ | refine Walk.cRet ?_ | refine Walk.cEnd ?_ | (refine Walk.cReg ?_; simp only [size38_0, size38_1, size38_2, size38_3, size38_4, size38_5, size38_6, size38_7, size38_8, size38_9, size38_10, size38_11, size38_12, size38_13, size38_14, size38_15, List.range, List.range.loop]) | (refine Walk.oq ?_; try walk_nrm) | (refine Walk.un ?_; walk_nrm))
  refine Walk.ctl rfl (fun w => stepG_inLoop) ?_
  refine .stop fun d => ⟨at_slots ?_, d, rfl⟩
  simp only [hdSa, hc1, hc2]
  rfl
theorem sa_out (B s : Nat) (h0 : 0 < s) (hs : s ≤ 1048576) (u : Nat → Value) (cs : List Frame) (w : World) :
    Walk Try.prog main (DR V) (fun g w' => ∃ cap, (∃ u, g = G (hdSb B (.slice (some ⟨w.heap.size, 0, none⟩) 0 cap) 0 u) cs) ∧ w'.ownsRow w.heap.size 32 1 (.slice (some ⟨w.heap.size, 0, none⟩) 0 cap) 0 [] ∧ (∀ b, b < w.heap.size → w'.heap[b]? = w.heap[b]?) ∧ w.heap.size < w'.heap.size) (G (hdSa B s 2 u) cs) w := by
  have hg := growS_w (main := main) (V := V) s h0 hs w
  generalize hT : w.heap.size = T at *
  clear hT
  conv => arg 5; unfold hdSa
  repeat (first | refine Walk.c rfl ?_ | refine Walk.cRet ?_ | refine Walk.cEnd ?_ | (refine Walk.cReg ?_; simp only [size38_0, size38_1, size38_2, size38_3, size38_4, size38_5, size38_6, size38_7, size38_8, size38_9, size38_10, size38_11, size38_12, size38_13, size38_14, size38_15, List.range, List.range.loop]) | (refine Walk.oq ?_; try walk_nrm) | (refine Walk.un ?_; walk_nrm))
  refine Walk.callW (Post := fun v w' => ∃ cap, v = .slice (some ⟨T, 0, none⟩) 0 cap ∧ w'.ownsRow T 32 1 (.slice (some ⟨T, 0, none⟩) 0 cap) 0 [] ∧ s ≤ cap ∧ (∀ b, b < T → w'.heap[b]? = w.heap[b]?) ∧ T < w'.heap.size) ?_ (ho_of (by conv => lhs; whnf) (by kernel_rfl)) (by rfl) (by decide) rfl Try.func75 (by kernel_rfl) (by rfl) ?_
  · walk_nrm
    exact hg
  rintro v w1 ⟨cap, rfl, hown, hcap, hold, hsz⟩
  clear hg
  walk_nrm
  repeat (first | refine Walk.c rfl ?_ | refine Walk.cRet ?_ | refine Walk.cEnd ?_ | (refine Walk.cReg ?_; simp only [size38_0, size38_1, size38_2, size38_3, size38_4, size38_5, size38_6, size38_7, size38_8, size38_9, size38_10, size38_11, size38_12, size38_13, size38_14, size38_15, List.range, List.range.loop]) | (refine Walk.oq ?_; try walk_nrm) | (refine Walk.un ?_; walk_nrm))
  refine Walk.ctl rfl (fun w => stepG_loop) ?_
  refine .stop fun d => ⟨cap, at_slots ?_, row_same hown fun _ _ => rfl, hold, hsz⟩
  simp only [hdSb]
  rfl
structure SbI (T : Nat) (w0 : World) (g m cap : Nat) (xs : List (Option Nat)) (w : World) : Prop where
  row : w.ownsRow T 32 1 (.slice (some ⟨g, 0, none⟩) m cap) m (xs.map srcO)
  len : xs.length = m
  old : ∀ b, b < T → w.heap[b]? = w0.heap[b]?
theorem SbI.at {T : Nat} {w0 w : World} {g m cap : Nat} {xs : List (Option Nat)} (h : SbI T w0 g m cap xs w) (d : Nat) : SbI T w0 g m cap xs (w.at d) := ⟨row_same h.row fun _ _ => rfl, h.len, h.old⟩
theorem SbI.lt {T : Nat} {w0 w : World} {g m cap : Nat} {xs : List (Option Nat)} (h : SbI T w0 g m cap xs w) : T ≤ g ∧ g < w.heap.size := h.row.lt g rfl
theorem sb_go (B i T : Nat) (hi : i < 2) (w0 : World) (a : Option Addr) (l : List (Option Nat)) (c : Nat) (hl : l.length ≤ 1000) (g m cap : Nat) (hm : m ≤ 1000) (xs : List (Option Nat)) (u : Nat → Value) (cs : List Frame) (w : World) (I : SbI T w0 g m cap xs w) (hc : w.cell? ⟨B, i, none⟩ = some (.slice a l.length c)) (ha : SrcA a l w) (hA : ∀ b, T ≤ b → Apart V b) :
    Walk Try.prog main (DR V) (fun gr w' => ∃ g' cap', (∃ u, gr = G (hdSb B (.slice (some ⟨g', 0, none⟩) (m + l.length) cap') (i + 1) u) cs) ∧ SbI T w0 g' (m + l.length) cap' (xs ++ l) w') (G (hdSb B (.slice (some ⟨g, 0, none⟩) m cap) i u) cs) w := by
  have hi1 : decide ((i : Int) < 2) = true := by simp; omega
  have hi4 : (i : Int) < 2 := by omega
  have hi0 : (0 : Int) ≤ i := by omega
  have hw1 : IntKind.wrap .i64 ((i : Int) + 1) = (i : Int) + 1 := by rw [IntKind.wrap_i64]; omega
  have hc1 : ((i + 1 : Nat) : Int) = (i : Int) + 1 := by simp
  obtain ⟨ti, hti, htz, htv, htb⟩ := tiSrc
  obtain ⟨hgT, hgl⟩ := I.lt
  have hcap : m ≤ cap := by
    rcases I.row.2 with ⟨e, _⟩ | ⟨g', cap', cur, e, _, _, hle, _⟩
    · cases e
    · injection e with _ _ e3
      rw [e3]; exact hle
  conv => arg 5; unfold hdSb
  cases l with
  | nil =>
    have hz := fun ty w es => run_appN (P := Try.prog) huSrc hti ty ⟨g, 0, none⟩ m cap hcap a c w es
    have hc0 : w.cell? ⟨B, i, none⟩ = some (.slice a 0 c) := hc
    clear hc hcap ha
    repeat (first | refine Walk.c rfl ?_ | refine Walk.cRet ?_ | refine Walk.cEnd ?_ | (refine Walk.cReg ?_; simp only [size38_0, size38_1, size38_2, size38_3, size38_4, size38_5, size38_6, size38_7, size38_8, size38_9, size38_10, size38_11, size38_12, size38_13, size38_14, size38_15, List.range, List.range.loop]) | (refine Walk.oq ?_; try walk_nrm) | (refine Walk.un ?_; walk_nrm))
    refine Walk.opq (ho_of (by conv => lhs; whnf) (by kernel_rfl)) (by rfl) (by decide) (fun dd e he => ?_) (fun dd K hK => uponK_append (.tmp 31) (.tmp 32) 25 rfl rfl rfl (hz _ (w.at dd) #[]).1 (hK _ ?_))
    · rw [events_append_op (v := .slice (some ⟨g, 0, none⟩) m cap) (xv := .slice a 0 c) (.tmp 31) (.tmp 32) 25 rfl (by rfl) (by rfl), (hz _ (w.at dd) #[]).2] at he
      simp at he
    clear hz hK
    walk_nrm
    repeat (first | refine Walk.c rfl ?_ | refine Walk.cRet ?_ | refine Walk.cEnd ?_ | (refine Walk.cReg ?_; simp only [size38_0, size38_1, size38_2, size38_3, size38_4, size38_5, size38_6, size38_7, size38_8, size38_9, size38_10, size38_11, size38_12, size38_13, size38_14, size38_15, List.range, List.range.loop]) | (refine Walk.oq ?_; try walk_nrm) | (refine Walk.un ?_; walk_nrm))
    refine Walk.ctl rfl (fun w => stepG_inLoop) ?_
    refine .stop fun d => ⟨g, cap, at_slots ?_, ?_⟩
    · simp only [hdSb, hc1, List.length_nil, Nat.add_zero]
      rfl
    · rw [List.append_nil]
      exact I.at d
  | cons z l =>
    obtain ⟨b, off, rfl, _⟩ := ha 0 z rfl
    have hn0 : 0 < (z :: l).length := by simp
    generalize hn : (z :: l).length = n at *
    repeat (first | refine Walk.c rfl ?_ | refine Walk.cRet ?_ | refine Walk.cEnd ?_ | (refine Walk.cReg ?_; simp only [size38_0, size38_1, size38_2, size38_3, size38_4, size38_5, size38_6, size38_7, size38_8, size38_9, size38_10, size38_11, size38_12, size38_13, size38_14, size38_15, List.range, List.range.loop]) | (refine Walk.oq ?_; try walk_nrm) | (refine Walk.un ?_; walk_nrm))
    refine Walk.append (.tmp 31) (.tmp 32) 25 (ho_of (by conv => lhs; whnf) (by kernel_rfl)) (by rfl) (by decide) rfl T 32 ti .nilIface 1 16 huSrc hti htv htz htb (by rfl) (by decide) (.slice (some ⟨g, 0, none⟩) m cap) m (xs.map srcO) rfl I.row ⟨b, off, none⟩ n c ((z :: l).map srcO) rfl (by simp [← hn]) (fun j u hu => ?_) (fun u hu => ?_) hn0 (by simp only [maxLen]; omega) (by omega) (by omega) (fun g' hg' => ?_) (fun g' cap' w' hown' hgr hat hlt => ?_)
    · rw [List.getElem?_map, Option.map_eq_some_iff] at hu
      obtain ⟨y, hy, rfl⟩ := hu
      obtain ⟨b', off', e, h⟩ := ha j y hy
      obtain ⟨rfl, rfl, _⟩ := Addr.mk.inj (Option.some.inj e)
      rw [add_none]; exact h
    · obtain ⟨y, _, rfl⟩ := List.mem_map.1 hu
      exact srcO_one y
    · simp only [Value.ownBlock, Option.some.injEq] at hg'
      rw [← hg']; exact hA g hgT
    · walk_nrm
      repeat (first | refine Walk.c rfl ?_ | refine Walk.cRet ?_ | refine Walk.cEnd ?_ | (refine Walk.cReg ?_; simp only [size38_0, size38_1, size38_2, size38_3, size38_4, size38_5, size38_6, size38_7, size38_8, size38_9, size38_10, size38_11, size38_12, size38_13, size38_14, size38_15, List.range, List.range.loop]) | (refine Walk.oq ?_; try walk_nrm) | (refine Walk.un ?_; walk_nrm))
      refine Walk.ctl rfl (fun w => stepG_inLoop) ?_
      refine .stop fun d => ⟨g', cap', at_slots ?_, ⟨?_, ?_, fun b' hb' => ?_⟩⟩
      · simp only [hdSb, hc1]
        rfl
      · rw [List.map_append]
        exact row_same hown' fun _ _ => rfl
      · rw [List.length_append, I.len, hn]
      · exact (hgr.block b' (by omega) (by simp [Value.ownBlock]; omega)).trans (I.old b' hb')
theorem sb_out (B : Nat) (v : Value) (u : Nat → Value) (c : Frame) (cs : List Frame) (w : World) :
    Walk Try.prog main (DR V) (fun g w' => g = G (c.finish v) cs ∧ ∃ d, w' = w.at d) (G (hdSb B v 2 u) (c :: cs)) w := by
  unfold hdSb
  repeat (first | refine Walk.c rfl ?_ | refine Walk.cRet ?_ | refine Walk.cEnd ?_ | (refine Walk.cReg ?_; simp only [size38_0, size38_1, size38_2, size38_3, size38_4, size38_5, size38_6, size38_7, size38_8, size38_9, size38_10, size38_11, size38_12, size38_13, size38_14, size38_15, List.range, List.range.loop]) | (refine Walk.oq ?_; try walk_nrm) | (refine Walk.un ?_; walk_nrm))
  exact Walk.on1 rfl rfl Try.func38 rfl (.stop fun d => ⟨rfl, d, rfl⟩)
theorem concatS_w (B : Nat) (a1 a2 : Option Addr) (l1 l2 : List (Option Nat)) (c1 c2 : Nat) (h1 : l1.length ≤ 500) (h2 : l2.length ≤ 500) (h0 : 0 < l1.length + l2.length) (w : World) (hB : w.heap[B]? = some (.cells #[.slice a1 l1.length c1, .slice a2 l2.length c2] 25)) (n1 : SrcA a1 l1 w) (n2 : SrcA a2 l2 w) (hA : ∀ b, w.heap.size ≤ b → Apart V b) :
    CallW Try.prog main V 38 #[.slice (some ⟨B, 0, none⟩) 2 2] w (fun v w' => ∃ g cap, v = .slice (some ⟨g, 0, none⟩) (l1.length + l2.length) cap ∧ SbI w.heap.size w g (l1.length + l2.length) cap (l1 ++ l2) w') := by
  intro fr cs
  have x1 := (cell_of hB 0).trans rfl
  have x2 := (cell_of hB 1).trans rfl
  refine (sa_in B (fr :: cs) w).then ?_
  rintro _ _ ⟨⟨u, rfl⟩, d, rfl⟩
  refine Walk.back ?_ d
  refine (sa_go B 0 0 (by omega) a1 l1.length c1 (by omega) u (fr :: cs) w x1).then ?_
  rintro _ _ ⟨⟨u, rfl⟩, d, rfl⟩
  refine Walk.back ?_ d
  refine (sa_go B (0 + l1.length) (0 + 1) (by omega) a2 l2.length c2 (by omega) u (fr :: cs) w x2).then ?_
  rintro _ _ ⟨⟨u, rfl⟩, d, rfl⟩
  refine Walk.back ?_ d
  refine (sa_out B (0 + l1.length + l2.length) (by omega) (by omega) u (fr :: cs) w).then ?_
  rintro _ w1 ⟨cap, ⟨u, rfl⟩, hown, hold, hsz⟩
  have I1 : SbI w.heap.size w w.heap.size 0 cap [] w1 := ⟨hown, rfl, hold⟩
  have hBl : B < w.heap.size := (Array.getElem?_eq_some_iff.1 hB).1
  have y1 := (World.cell?_of_block (a := ⟨B, 0, none⟩) (hold B hBl)).trans x1
  refine (sb_go B 0 w.heap.size (by omega) w a1 l1 c1 (by omega) w.heap.size 0 cap (by omega) [] u (fr :: cs) w1 I1 y1 (n1.same hold) hA).then ?_
  rintro _ w2 ⟨g2, cap2, ⟨u, rfl⟩, I2⟩
  have y2 := (World.cell?_of_block (a := ⟨B, 1, none⟩) (I2.old B hBl)).trans x2
  refine (sb_go B (0 + 1) w.heap.size (by omega) w a2 l2 c2 (by omega) g2 (0 + l1.length) cap2 (by omega) ([] ++ l1) u (fr :: cs) w2 I2 y2 (n2.same I2.old) hA).then ?_
  rintro _ w3 ⟨g3, cap3, ⟨u, rfl⟩, I3⟩
  refine (sb_out B _ u fr cs w3).mono ?_
  rintro _ _ ⟨rfl, d, rfl⟩
  rw [Nat.zero_add, List.nil_append] at I3
  exact ⟨_, ⟨g3, cap3, by rw [Nat.zero_add], I3.at d⟩, rfl⟩
end
end
end Go.Proofs.Ytgfajibjedfkdaa
