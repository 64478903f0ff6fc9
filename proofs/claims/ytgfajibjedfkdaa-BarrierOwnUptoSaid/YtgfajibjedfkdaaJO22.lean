/- Part 22. -/
import Derived.Test.YtgfajibjedfkdaaJO7
import Derived.Test.YtgfajibjedfkdaaJO21
import Derived.LaidEql
set_option linter.unusedSimpArgs false
set_option linter.unusedVariables false
set_option linter.unusedVariables false
set_option maxHeartbeats 8000000
set_option maxRecDepth 100000
namespace Go.Proofs.Ytgfajibjedfkdaa
open Go.Conc Go.RowKit Go.Relay
open Go.ConcN (upd upd_ne upd_same)
section
section
variable {P : Program} {w : World}
theorem run_eqIn_same (d : Nat) (t s e : TypeId) (ad : Addr) {ms} {i j : TypeInfo} (hu : P.underlying t = some (.interface ms)) (hs : P.underlying s = some (.pointer e)) (hi : P.info? s = some i) (hc : i.comparable = true) (he : P.info? e = some j) : (Op.equalIn (d + 2) t (.iface s (.pointer (some ad))) (.iface s (.pointer (some ad)))).run P w = .ok true w := run_equalIn_iface_ptr_same w d ad hu hs hi hc he
theorem ev_sameAddr_same (ad : Addr) (es : Array Event) : (sameAddr ad ad).events P w es = es := by simp [sameAddr]
theorem ev_eqIn_same (d : Nat) (t s e : TypeId) (ad : Addr) (es : Array Event) {ms} {i j : TypeInfo} (hu : P.underlying t = some (.interface ms)) (hs : P.underlying s = some (.pointer e)) (hi : P.info? s = some i) (hc : i.comparable = true) (he : P.info? e = some j) : (Op.equalIn (d + 2) t (.iface s (.pointer (some ad))) (.iface s (.pointer (some ad)))).events P w es = es := by
  simp [Op.equalIn, run_underlying hu, run_underlying hs, typeInfo, hi, hc, sizeOf, he, run_sameAddr_same, ev_sameAddr_same]
theorem run_neq_same (t s e : TypeId) (ad : Addr) {ms} {i j : TypeInfo} (hu : P.underlying t = some (.interface ms)) (hs : P.underlying s = some (.pointer e)) (hi : P.info? s = some i) (hc : i.comparable = true) (he : P.info? e = some j) : (binOp .neq t (.iface s (.pointer (some ad))) (.iface s (.pointer (some ad)))).run P w = .ok (.bool false) w := by
  simp only [binOp]
  simp [Op.equal, Op.maxDepth, run_eqIn_same (w := w) 9998 t s e ad hu hs hi hc he]
theorem ev_neq_same (t s e : TypeId) (ad : Addr) (es : Array Event) {ms} {i j : TypeInfo} (hu : P.underlying t = some (.interface ms)) (hs : P.underlying s = some (.pointer e)) (hi : P.info? s = some i) (hc : i.comparable = true) (he : P.info? e = some j) : (binOp .neq t (.iface s (.pointer (some ad))) (.iface s (.pointer (some ad)))).events P w es = es := by
  simp only [binOp]
  simp [Op.equal, Op.maxDepth, run_eqIn_same (w := w) 9998 t s e ad hu hs hi hc he, ev_eqIn_same (w := w) 9998 t s e ad es hu hs hi hc he]
end
theorem tiRp : ∃ ti, Try.prog.info? 27 = some ti ∧ ti.comparable = true := by
  obtain ⟨ti, h⟩ := Option.isSome_iff_exists.1 (show (Try.prog.info? 27).isSome = true by kernel_rfl)
  have h2 : (Try.prog.info? 27).map (·.comparable) = some true := by kernel_rfl
  rw [h] at h2
  exact ⟨ti, h, Option.some.inj h2⟩
theorem tiR : ∃ ti, Try.prog.info? 30 = some ti :=
  Option.isSome_iff_exists.1 (show (Try.prog.info? 30).isSome = true by kernel_rfl)
structure OvI (gb off n i : Nat) (bl : List (Option Nat)) (w5 w : World) : Prop where
  row : ∃ cur : Array Value, w.heap[gb]? = some (.cells cur 32) ∧ ∀ (j : Nat) (o : Option Nat), i ≤ j → bl[j]? = some o → cur[off + j]? = some (srcO o)
  old : ∀ b, b < w5.heap.size → b ≠ gb → w.heap[b]? = w5.heap[b]?
  size : w5.heap.size ≤ w.heap.size
theorem OvI.at {gb off n i : Nat} {bl : List (Option Nat)} {w5 w : World} (h : OvI gb off n i bl w5 w) (d : Nat) : OvI gb off n i bl w5 (w.at d) := ⟨h.row, h.old, h.size⟩
theorem OvI.next {gb off n i : Nat} {bl : List (Option Nat)} {w5 w w' : World} (h : OvI gb off n i bl w5 w) (hg : gb < w.heap.size) (v : Value) (hb : ∀ b, b < w.heap.size → w'.heap[b]? = w.heap[b]?) (hs : w.heap.size ≤ w'.heap.size) : OvI gb off n (i + 1) bl w5 (w'.setCell ⟨gb, off + i, none⟩ v) := by
  obtain ⟨cur, h1, h2⟩ := h.row
  have hz := h.size
  refine ⟨⟨_, heap_set_self _ _ ((hb gb hg).trans h1), fun j o hj ho => ?_⟩, fun b hlt hne => (heap_set_other _ _ _ _ hne).trans ((hb b (by omega)).trans (h.old b hlt hne)), by rw [size_set]; omega⟩
  show (cur.setIfInBounds (off + i) v)[off + j]? = _
  rw [Array.getElem?_setIfInBounds_ne (by omega)]
  exact h2 j o (by omega) ho
section
variable {main : Bool} {V : Nat → Option Wait}
theorem ov_n (hA : ∀ b, Apart V b) (vo bp : Value) (gb off n bc kb kc i r : Nat) (q tries way : Int) (hi : i < n) (hn : n ≤ 100) (w5 w : World) (hc : w.cell? ⟨gb, off + i, none⟩ = some (srcO none)) (hz : w.frozen? ⟨gb, off + i, none⟩ = false) (hk : w.cell? ⟨kb, i, none⟩ = some (srcO none)) (D : World → Prop) (hD : ∀ w d, D w → D (w.at d))
    (hnext : ∀ w2 : World, (∀ b, b < w.heap.size → w2.heap[b]? = w.heap[b]?) → w.heap.size ≤ w2.heap.size → ∀ v, D (w2.setCell ⟨gb, off + i, none⟩ v)) (hg : gb < w.heap.size) (u : Nat → Value) (cs : List Frame) :
    Walk Try.prog main (DR V) (fun gr w' => (∃ u, gr = G (hdOc vo (.slice (some ⟨gb, off, none⟩) n bc) (.slice (some ⟨kb, 0, none⟩) n kc) bp q tries way n (i + 1) u) cs) ∧ D w') (G (hdOc vo (.slice (some ⟨gb, off, none⟩) n bc) (.slice (some ⟨kb, 0, none⟩) n kc) bp q tries way n i u) cs) w := by
  have hi1 : decide ((i : Int) < n) = true := by simp; omega
  have hi3 : decide (i < n) = true := by simp; omega
  have hi4 : (i : Int) < n := by omega
  have hi0 : (0 : Int) ≤ i := by omega
  have hw1 : IntKind.wrap .i64 ((i : Int) + 1) = (i : Int) + 1 := by rw [IntKind.wrap_i64]; omega
  have hcc : ((i + 1 : Nat) : Int) = (i : Int) + 1 := by simp
  have r1 := run_ifaceR
  have r2 := ev_ifaceR
  obtain ⟨ms, hu⟩ := undSource
  unfold srcO at hc hk
  try unfold srcV at hc hk
  have e1 := fun w => run_eql_nilI (P := Try.prog) (w := w) 32 hu
  have e2 := fun w es => ev_eql_nilI (P := Try.prog) (w := w) 32 es hu
  have e3 := fun w => run_neq_nilIface (P := Try.prog) (w := w) 32 hu
  have e4 := fun w es => ev_neq_nilIface (P := Try.prog) (w := w) 32 es hu
  conv => arg 5; unfold hdOc
  repeat (first | refine Walk.cx ?_ | (refine Walk.cReg ?_; simp only [z3]) | (refine Walk.oq ?_; try walk_nrm) | (refine Walk.un ?_; walk_nrm))
  clear e1 e2 e3 e4 hk
  (refine Walk.oa ?_; try walk_nrm)
  have s1 : (w.alloc (.cells #[.int .i64 (-99)] 2)).heap.size = w.heap.size + 1 := by simp
  have o1 : ∀ b, b < w.heap.size → (w.alloc (.cells #[.int .i64 (-99)] 2)).heap[b]? = w.heap[b]? := fun b hb => heap_new_lt _ _ hb
  have c1 := (World.cell?_of_block (a := ⟨gb, off + i, none⟩) (o1 gb hg)).trans hc
  have z1 := (World.frozen?_of_block (a := ⟨gb, off + i, none⟩) (o1 gb hg)).trans hz
  obtain ⟨T, hT⟩ : ∃ T, w.heap.size = T := ⟨_, rfl⟩
  rw [hT] at s1 o1 hnext hg ⊢
  generalize w.alloc (.cells #[.int .i64 (-99)] 2) = w1 at *
  clear hc hz
  repeat (first | (refine Walk.oq ?_; try walk_nrm) | (refine Walk.un ?_; walk_nrm))
  (refine Walk.oa ?_; try walk_nrm)
  have s2 : (w1.alloc (.cells #[.slice (some ⟨T, 0, none⟩) 1 1, .int .i64 0] 30)).heap.size = w1.heap.size + 1 := by simp
  have o2 : ∀ b, b < w1.heap.size → (w1.alloc (.cells #[.slice (some ⟨T, 0, none⟩) 1 1, .int .i64 0] 30)).heap[b]? = w1.heap[b]? := fun b hb => heap_new_lt _ _ hb
  have c2 := (World.cell?_of_block (a := ⟨gb, off + i, none⟩) (o2 gb (by omega))).trans c1
  have z2 := (World.frozen?_of_block (a := ⟨gb, off + i, none⟩) (o2 gb (by omega))).trans z1
  have hD2 := hnext (w1.alloc (.cells #[.slice (some ⟨T, 0, none⟩) 1 1, .int .i64 0] 30)) (fun b hb => (o2 b (by omega)).trans (o1 b hb)) (by omega) (.iface 27 (.pointer (some ⟨T + 1, 0, none⟩)))
  try rw [s1]
  change Walk Try.prog main _ _ _ (w1.alloc (.cells #[.slice (some ⟨T, 0, none⟩) 1 1, .int .i64 0] 30))
  generalize w1.alloc (.cells #[.slice (some ⟨T, 0, none⟩) 1 1, .int .i64 0] 30) = w2 at *
  clear c1 z1 s1 o1 s2 o2 hnext
  repeat (first | (refine Walk.oq ?_; try walk_nrm) | (refine Walk.un ?_; walk_nrm))
  have hev : ∀ (w' : World) (es : Array Event), (store ⟨gb, off + i, none⟩ (.iface 27 (.pointer (some ⟨T + 1, 0, none⟩))) .plain).events Try.prog w' es = storedEv Try.prog w' es ⟨gb, off + i, none⟩ (.iface 27 (.pointer (some ⟨T + 1, 0, none⟩))) .plain := fun w' es => events_store Try.prog w' es _ _ .plain rfl
  (have hfr := (hA gb).1 ⟨gb, off + i, none⟩ rfl; refine Walk.os hfr c2 ?_; clear hfr; try walk_nrm)
  clear hev r1 r2
  generalize w2.setCell ⟨gb, off + i, none⟩ (.iface 27 (.pointer (some ⟨T + 1, 0, none⟩))) = w3 at *
  clear c2 z2
  repeat (first | refine Walk.cx ?_ | (refine Walk.cReg ?_; simp only [z3]) | (refine Walk.oq ?_; try walk_nrm) | (refine Walk.un ?_; walk_nrm))
  refine Walk.ctl rfl (fun w => stepG_inLoop) ?_
  refine .stop fun d => ⟨at_slots ?_, hD _ d hD2⟩
  simp only [hdOc, hcc]
  rfl
theorem ov_s (hA : ∀ b, Apart V b) (vo bp : Value) (gb off n bc kb kc i r : Nat) (q tries way : Int) (hi : i < n) (hn : n ≤ 100) (w5 w : World) (hc : w.cell? ⟨gb, off + i, none⟩ = some (srcO (some r))) (hz : w.frozen? ⟨gb, off + i, none⟩ = false) (hk : w.cell? ⟨kb, i, none⟩ = some (srcO (some r))) (D : World → Prop) (hD : ∀ w d, D w → D (w.at d))
    (hnext : ∀ w2 : World, (∀ b, b < w.heap.size → w2.heap[b]? = w.heap[b]?) → w.heap.size ≤ w2.heap.size → ∀ v, D (w2.setCell ⟨gb, off + i, none⟩ v)) (hg : gb < w.heap.size) (u : Nat → Value) (cs : List Frame) :
    Walk Try.prog main (DR V) (fun gr w' => (∃ u, gr = G (hdOc vo (.slice (some ⟨gb, off, none⟩) n bc) (.slice (some ⟨kb, 0, none⟩) n kc) bp q tries way n (i + 1) u) cs) ∧ D w') (G (hdOc vo (.slice (some ⟨gb, off, none⟩) n bc) (.slice (some ⟨kb, 0, none⟩) n kc) bp q tries way n i u) cs) w := by
  have hi1 : decide ((i : Int) < n) = true := by simp; omega
  have hi3 : decide (i < n) = true := by simp; omega
  have hi4 : (i : Int) < n := by omega
  have hi0 : (0 : Int) ≤ i := by omega
  have hw1 : IntKind.wrap .i64 ((i : Int) + 1) = (i : Int) + 1 := by rw [IntKind.wrap_i64]; omega
  have hcc : ((i + 1 : Nat) : Int) = (i : Int) + 1 := by simp
  have r1 := run_ifaceR
  have r2 := ev_ifaceR
  obtain ⟨ms, hu⟩ := undSource
  unfold srcO at hc hk
  try unfold srcV at hc hk
  have e1 := fun w => run_eql_ifaceN (P := Try.prog) (w := w) 32 27 (.pointer (some ⟨r, 0, none⟩)) hu
  have e2 := fun w es => ev_eql_ifaceN (P := Try.prog) (w := w) 32 27 (.pointer (some ⟨r, 0, none⟩)) es hu
  obtain ⟨ip, hip, hicp⟩ := tiRp
  obtain ⟨ie, hie⟩ := tiR
  have e3 := fun w => run_neq_same (P := Try.prog) (w := w) 32 27 _ ⟨r, 0, none⟩ hu und15r hip hicp hie
  have e4 := fun w es => ev_neq_same (P := Try.prog) (w := w) 32 27 _ ⟨r, 0, none⟩ es hu und15r hip hicp hie
  clear hip hicp hie
  conv => arg 5; unfold hdOc
  repeat (first | refine Walk.cx ?_ | (refine Walk.cReg ?_; simp only [z3]) | (refine Walk.oq ?_; try walk_nrm) | (refine Walk.un ?_; walk_nrm))
  (refine Walk.drawnC (by kernel_rfl) size3_30 (by kernel_rfl) (by kernel_rfl) (by decide) ?_; simp only [List.range, List.range.loop]; repeat (first | (refine Cm.oq ?_) | (refine Cm.unw (ho_of (by conv => lhs; whnf) (by kernel_rfl)) (by rfl) ?_; walk_nrm)))
  refine Cm.done ?_
  try walk_nrm
  repeat (first | refine Walk.cx ?_ | (refine Walk.cReg ?_; simp only [z3]) | (refine Walk.oq ?_; try walk_nrm) | (refine Walk.un ?_; walk_nrm))
  clear e1 e2 e3 e4 hk
  (refine Walk.oa ?_; try walk_nrm)
  have s1 : (w.alloc (.cells #[.int .i64 (-99)] 2)).heap.size = w.heap.size + 1 := by simp
  have o1 : ∀ b, b < w.heap.size → (w.alloc (.cells #[.int .i64 (-99)] 2)).heap[b]? = w.heap[b]? := fun b hb => heap_new_lt _ _ hb
  have c1 := (World.cell?_of_block (a := ⟨gb, off + i, none⟩) (o1 gb hg)).trans hc
  have z1 := (World.frozen?_of_block (a := ⟨gb, off + i, none⟩) (o1 gb hg)).trans hz
  obtain ⟨T, hT⟩ : ∃ T, w.heap.size = T := ⟨_, rfl⟩
  rw [hT] at s1 o1 hnext hg ⊢
  generalize w.alloc (.cells #[.int .i64 (-99)] 2) = w1 at *
  clear hc hz
  repeat (first | (refine Walk.oq ?_; try walk_nrm) | (refine Walk.un ?_; walk_nrm))
  (refine Walk.oa ?_; try walk_nrm)
  have s2 : (w1.alloc (.cells #[.slice (some ⟨T, 0, none⟩) 1 1, .int .i64 0] 30)).heap.size = w1.heap.size + 1 := by simp
  have o2 : ∀ b, b < w1.heap.size → (w1.alloc (.cells #[.slice (some ⟨T, 0, none⟩) 1 1, .int .i64 0] 30)).heap[b]? = w1.heap[b]? := fun b hb => heap_new_lt _ _ hb
  have c2 := (World.cell?_of_block (a := ⟨gb, off + i, none⟩) (o2 gb (by omega))).trans c1
  have z2 := (World.frozen?_of_block (a := ⟨gb, off + i, none⟩) (o2 gb (by omega))).trans z1
  have hD2 := hnext (w1.alloc (.cells #[.slice (some ⟨T, 0, none⟩) 1 1, .int .i64 0] 30)) (fun b hb => (o2 b (by omega)).trans (o1 b hb)) (by omega) (.iface 27 (.pointer (some ⟨T + 1, 0, none⟩)))
  try rw [s1]
  change Walk Try.prog main _ _ _ (w1.alloc (.cells #[.slice (some ⟨T, 0, none⟩) 1 1, .int .i64 0] 30))
  generalize w1.alloc (.cells #[.slice (some ⟨T, 0, none⟩) 1 1, .int .i64 0] 30) = w2 at *
  clear c1 z1 s1 o1 s2 o2 hnext
  repeat (first | (refine Walk.oq ?_; try walk_nrm) | (refine Walk.un ?_; walk_nrm))
  have hev : ∀ (w' : World) (es : Array Event), (store ⟨gb, off + i, none⟩ (.iface 27 (.pointer (some ⟨T + 1, 0, none⟩))) .plain).events Try.prog w' es = storedEv Try.prog w' es ⟨gb, off + i, none⟩ (.iface 27 (.pointer (some ⟨T + 1, 0, none⟩))) .plain := fun w' es => events_store Try.prog w' es _ _ .plain rfl
  (have hfr := (hA gb).1 ⟨gb, off + i, none⟩ rfl; refine Walk.os hfr c2 ?_; clear hfr; try walk_nrm)
  clear hev r1 r2
  generalize w2.setCell ⟨gb, off + i, none⟩ (.iface 27 (.pointer (some ⟨T + 1, 0, none⟩))) = w3 at *
  clear c2 z2
  repeat (first | refine Walk.cx ?_ | (refine Walk.cReg ?_; simp only [z3]) | (refine Walk.oq ?_; try walk_nrm) | (refine Walk.un ?_; walk_nrm))
  refine Walk.ctl rfl (fun w => stepG_inLoop) ?_
  refine .stop fun d => ⟨at_slots ?_, hD _ d hD2⟩
  simp only [hdOc, hcc]
  rfl
end
end
structure Closing (f : FuncId) (t : Tmp) (v : Value) (g : Goroutine) : Prop where
  all : ∃ fr, g = G fr [] ∧ fr.mode = .returning ∧ fr.kind = .normal ∧ fr.defers = [] ∧ fr.fn = f ∧ fr.tmps.getD t undef = v
noncomputable def hdOd (oa : Option Addr) (K oc : Nat) (bp : Value) (P : Nat) (q tries way n e ld : Int) (i : Nat) (u : Nat → Value) : Frame :=
  (base 3).at { tmps := #[u 0, .int .i64 q, .int .i64 tries, .int .i64 way, u 4, u 5, u 6, u 7, u 8, .slice oa K oc, u 10, u 11, u 12, u 13, u 14, u 15, u 16, u 17, u 18, bp, u 20, .pointer (some ⟨P, 0, none⟩), .int .i64 n, .int .i64 e, .int .i64 ld, u 25, u 26, u 27, u 28, u 29, u 30, u 31, u 32, u 33, u 34, u 35, u 36, u 37, u 38, u 39, u 40, u 41, u 42, u 43, u 44, u 45, u 46, u 47, u 48, u 49, u 50, u 51, u 52, u 53, u 54, u 55, u 56, u 57, u 58, u 59, u 60, u 61, u 62, u 63, u 64, u 65, u 66, u 67, u 68, u 69, u 70, u 71, u 72, u 73, u 74, u 75, u 76, u 77, u 78, u 79, u 80, u 81, u 82, u 83, u 84, u 85, u 86, u 87, u 88, u 89, u 90, u 91, u 92, u 93, u 94, u 95, u 96, u 97, u 98, u 99, u 100, u 101, u 102, u 103, u 104, u 105, u 106, u 107, u 108, u 109, u 110, u 111, u 112, u 113, u 114, u 115, u 116, u 117, u 118, u 119, u 120, u 121, u 122, u 123, u 124, u 125, u 126, u 127, u 128, u 129, u 130, u 131, u 132, u 133, u 134, u 135, u 136, u 137, u 138, u 139, u 140, u 141, u 142, u 143, u 144, u 145, u 146, u 147, u 148, .slice oa K oc, .int .i64 K, .int .i64 i, u 152, u 153, u 154, u 155, u 156, u 157, u 158, u 159, u 160, u 161, u 162, u 163, u 164, u 165, u 166, u 167, u 168, u 169, u 170, u 171, u 172, u 173, u 174, u 175, u 176, u 177, u 178, u 179, u 180, u 181, u 182, u 183, u 184, u 185, u 186, u 187, u 188, u 189, u 190, u 191, u 192, u 193, u 194, u 195, u 196, u 197, u 198, u 199, u 200, u 201, u 202, u 203, u 204, u 205, u 206, u 207, u 208, u 209, u 210, u 211, u 212, u 213, u 214, u 215, u 216, u 217, u 218, u 219, u 220, u 221, u 222, u 223, u 224, u 225, u 226, u 227, u 228, u 229, u 230, u 231, u 232, u 233, u 234, u 235, u 236, u 237, u 238, u 239, u 240, u 241, u 242, u 243, u 244, u 245, u 246, u 247, u 248, u 249, u 250, u 251, u 252, u 253, u 254, u 255, u 256, u 257, u 258, u 259, u 260, u 261, u 262, u 263, u 264, u 265, u 266, u 267, u 268, u 269, u 270, u 271, u 272, u 273, u 274, u 275, u 276, u 277, u 278, u 279, u 280, u 281, u 282, u 283, u 284, u 285, u 286, u 287, u 288, u 289, u 290, u 291, u 292, u 293, u 294, u 295, u 296, u 297], defers := [] } [.code (.seq (.region 38 reg3_38 false) (.seq (.cond (.tmp 152 ) (.skip) (.exit 6)) (.seq (.block 7 (.seq (.region 39 reg3_39 false) (.region 40 reg3_40 false))) (.region 41 reg3_41 false)))), .inLoop (.seq (.region 38 reg3_38 false) (.seq (.cond (.tmp 152 ) (.skip) (.exit 6)) (.seq (.block 7 (.seq (.region 39 reg3_39 false) (.region 40 reg3_40 false))) (.region 41 reg3_41 false)))), .inBlock 6, .code (.seq (.block 8 (.seq (.region 42 reg3_42 false) (.cond (.tmp 162 ) (.seq (.region 43 reg3_43 false) (.ret)) (.seq (.region 44 reg3_44 false) (.cond (.tmp 182 ) (.seq (.region 45 reg3_45 false) (.ret)) (.seq (.region 46 reg3_46 false) (.cond (.tmp 213 ) (.seq (.region 47 reg3_47 false) (.ret)) (.skip)))))))) (.seq (.region 48 reg3_48 false) (.seq (.region 49 reg3_49 false) (.seq (.seq (.region 50 reg3_50 false) (.cond (.tmp 243 ) (.seq (.region 51 reg3_51 false) (.ret)) (.skip))) (.seq (.region 52 reg3_52 false) (.seq (.seq (.region 53 reg3_53 false) (.cond (.tmp 287 ) (.seq (.region 54 reg3_54 false) (.ret)) (.skip))) (.seq (.seq (.region 55 reg3_55 false) (.cond (.tmp 289 ) (.seq (.region 56 reg3_56 false) (.ret)) (.skip))) (.seq (.region 57 reg3_57 false) (.ret)))))))))]
end Go.Proofs.Ytgfajibjedfkdaa
