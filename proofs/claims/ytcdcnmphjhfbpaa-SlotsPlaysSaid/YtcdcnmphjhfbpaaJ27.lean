/- Part 27. -/
import Derived.Test.YtcdcnmphjhfbpaaJ13
import Derived.Test.YtcdcnmphjhfbpaaJ19
import Derived.Test.YtcdcnmphjhfbpaaJ26
set_option linter.unusedSimpArgs false
set_option linter.unusedVariables false
set_option maxHeartbeats 8000000
set_option maxRecDepth 100000
namespace Go.Proofs.Ytcdcnmphjhfbpaa
open Go.Conc Go.RowKit Go.Relay
open Go.ConcN (upd upd_ne upd_same)
section
structure EaI (w0 : World) (N n : Nat) (g : Nat -> Int) (j : Nat) (w : World) : Prop where
 row : NumB w N (Mz ((List.range j).map g) n)
 old : ∀ b, b < N -> w.heap[b]? = w0.heap[b]?
 size : N < w.heap.size
section
variable {main : Bool} {V : Nat -> Option Wait} {rb sb n : Nat} {s : Rg}
theorem EaI.at {w0 w : World} {N j : Nat} {g : Nat -> Int} (h : EaI w0 N n g j w) (d : Nat) : EaI w0 N n g j (w.at d) := ⟨h.row, h.old, h.size⟩
theorem Qcq (f : Nat) (g : Nat -> Int) (cs : List Frame) (w : World) (I : RgI rb sb n s w) (hA : ∀ b, w.heap.size <= b -> Bd V b) :
  Walk Try.prog main (DR V) (fun gr w' => (∃ u, gr = G (hdEa rb f w.heap.size n 0 u) cs) /\ EaI w w.heap.size n g 0 w') (G (Frame.enter Try.prog 76 #[.pointer (some ⟨rb, 0, none⟩), .func (.func f) #[] #[]] .normal) cs) w := by
 have hsz := Hj (main := main) (V := V) w I
 have hn := I.pos
 have hi1 := Option.some_get (show (Try.prog.info? 2).isSome = true by kernel_rfl)
 clear I
 rw [enter_at _ Try.func76 code76_is]
 simp only [Try.ntmps76, ez, Nat.reduceAdd, Nat.reduceSub]
 refine Aa z76 ?_
 refine Walk.callV (x := .int .i64 (n : Nat)) (W := w) ?_ Aj (by rfl) (by decide) rfl Try.func19 (by kernel_rfl) (by rfl) ?_
 ·walk_nrm
  exact hsz
 walk_nrm
 refine Aa z76 ?_
 refine Ek 22 (.tmp 8) (.tmp 8) Aj (by rfl) (by decide) rfl 2 _ (.int .i64 0) 1 8 (by kernel_rfl) hi1.symm (by rfl) (by rfl) (by rfl) n (by rfl) (by rfl) (by omega) (by omega) ?_
 walk_nrm
 simp only [Value.cells, Nat.mul_one, Ka]
 have s1 : (w.alloc (.cells ((List.replicate n (0 : Int)).map fun z => Value.int .i64 z).toArray 2)).heap.size = w.heap.size + 1 := by simp
 have o1 : ∀ b, b < w.heap.size -> (w.alloc (.cells ((List.replicate n (0 : Int)).map fun z => Value.int .i64 z).toArray 2)).heap[b]? = w.heap[b]? := fun b hb => Ad _ _ hb
 have d1 := heap_alloc_new w (.cells ((List.replicate n (0 : Int)).map fun z => Value.int .i64 z).toArray 2)
 generalize hN : w.heap.size = N at *
 generalize w.alloc (.cells ((List.replicate n (0 : Int)).map fun z => Value.int .i64 z).toArray 2) = w1 at *
 refine Aa z76 ?_
 refine Walk.ctl rfl (fun w => stepG_loop) ?_
 refine .stop fun d => ⟨Ak ?_, EaI.at ⟨by rw [show Mz ((List.range 0).map g) n = List.replicate n 0 from padL_nil n]; exact d1, o1, by omega⟩ d⟩
 simp only [hdEa]
 rfl
theorem Qcr (f : Nat) {fn : Func} (hf : Try.prog.funcs[f]? = some fn) (hname : (fn.name == "runtime.NumGoroutine") = false) (hb : fn.body.isNone = false) (g : Nat -> Int) (N j : Nat) (hj : j < n) (u : Nat -> Value) (cs : List Frame) (w0 w : World) (I : RgI rb sb n s w) (hap : Bd V N) (E : EaI w0 N n g j w)
  (hask : As Try.prog main V f #[.pointer (some ⟨sb, j * 2, none⟩)] w (.int .i64 (g j)) w) :
  Walk Try.prog main (DR V) (fun gr w' => (∃ u, gr = G (hdEa rb f N n (j + 1) u) cs) /\ EaI w0 N n g (j + 1) w') (G (hdEa rb f N n j u) cs) w := by
 have hn := I.pos
 have c1 := I.size
 have hlen : ((List.range j).map g).length = j := by simp
 have hcell : w.cell? ⟨N, j, none⟩ = some (.int .i64 0) := E.row.cell (by
  unfold Mz
  rw [List.getElem?_append_right (by omega), hlen, Nat.sub_self, List.getElem?_replicate, if_pos (by omega)])
 have hfz := E.row.frozen j
 have hfree : Di V ⟨N, j, none⟩ := hap.1 _ rfl
 have hrow : NumB (w.setCell ⟨N, j, none⟩ (.int .i64 (g j))) N (Mz ((List.range (j + 1)).map g) n) := by
  have h := E.row.set j (g j)
  have h2 := padL_set (l := (List.range j).map g) (n := n) (by omega) (g j)
  rw [hlen] at h2
  rw [h2] at h
  rw [range_snoc]
  exact h
 have hold : ∀ b, b < N -> (w.setCell ⟨N, j, none⟩ (.int .i64 (g j))).heap[b]? = w0.heap[b]? := fun b hb => (Ab _ _ _ _ (fun e : b = N => by omega)).trans (E.old b hb)
 have hsz : N < (w.setCell ⟨N, j, none⟩ (.int .i64 (g j))).heap.size := by rw [Af]; exact E.size
 have hj0 : (0 : Int) <= j := by omega
 have hj1 : decide ((j : Int) < n) = true := by simp; omega
 have hj3 : decide (j < n) = true := by simp; omega
 have hj4 : (j : Int) < n := by omega
 have hw1 : IntKind.wrap .i64 ((j : Int) + 1) = (j : Int) + 1 := by rw [IntKind.wrap_i64]; omega
 have hc : ((j + 1 : Nat) : Int) = (j : Int) + 1 := by simp
 clear E I hlen
 generalize g j = x at *
 conv => arg 5; unfold hdEa
 refine Aa z76 ?_
 refine Walk.ctl rfl (fun w' => Dm Aj (by rfl) (by decide) rfl rfl hf hname hb) ?_
 walk_nrm
 generalize hX : Frame.at _ _ _ = X
 refine (hask X cs).then ?_
 rintro _ _ ⟨v, ⟨rfl, d, rfl⟩, rfl⟩
 refine Walk.back ?_ d
 rw [<- hX]
 clear hX hask
 refine Walk.finish Aj ?_
 walk_nrm
 refine Aa z76 ?_
 (refine Walk.os hfree hcell ?_; try walk_nrm)
 generalize w.setCell ⟨N, j, none⟩ (.int .i64 x) = w2 at *
 clear hcell hfz hfree c1
 refine Aa z76 ?_
 refine Walk.ctl rfl (fun w => stepG_inLoop) ?_
 refine .stop fun d' => ⟨Ak ?_, EaI.at ⟨hrow, hold, hsz⟩ d'⟩
 simp only [hdEa, hc]
 rfl
theorem Qbu (f N : Nat) (u : Nat -> Value) (c : Frame) (cs : List Frame) (w : World) :
  Walk Try.prog main (DR V) (fun gr w' => gr = G (c.finish (.slice (some ⟨N, 0, none⟩) n n)) cs /\ ∃ d, w' = w.at d) (G (hdEa rb f N n n u) (c :: cs)) w := by
 have hj1 : decide ((n : Int) < n) = false := by simp
 have hj3 : decide (n < n) = false := by simp
 conv => arg 5; unfold hdEa
 refine Aa z76 ?_
 exact Be rfl rfl Try.func76 rfl (.stop fun d => ⟨rfl, d, rfl⟩)
theorem Yx (f : Nat) {fn : Func} (hf : Try.prog.funcs[f]? = some fn) (hname : (fn.name == "runtime.NumGoroutine") = false) (hb : fn.body.isNone = false) (g : Nat -> Int) (cs : List Frame) (w0 : World) (I0 : RgI rb sb n s w0) (hap : Bd V w0.heap.size)
  (hask : ∀ w i, RgI rb sb n s w -> i < n -> As Try.prog main V f #[.pointer (some ⟨sb, i * 2, none⟩)] w (.int .i64 (g i)) w) :
  ∀ (r j : Nat) (u : Nat -> Value) (w : World), j + r = n -> EaI w0 w0.heap.size n g j w -> Walk Try.prog main (DR V) (fun gr w' => (∃ u, gr = G (hdEa rb f w0.heap.size n n u) cs) /\ EaI w0 w0.heap.size n g n w') (G (hdEa rb f w0.heap.size n j u) cs) w := by
 intro r
 induction r with
 | zero =>
  intro j u w hj E
  have hj : j = n := hj
  subst hj
  exact .stop fun d => ⟨⟨u, rfl⟩, E.at d⟩
 | succ r ih =>
  intro j u w hj E
  have I : RgI rb sb n s w := I0.old (E.old _ I0.lt.1) (E.old _ I0.lt.2)
  refine (Qcr f hf hname hb g w0.heap.size j (by omega) u cs w0 w I hap E (hask w j I (by omega))).then ?_
  rintro _ w2 ⟨⟨u2, rfl⟩, E2⟩
  exact ih (j + 1) u2 w2 (by omega) E2
def Jq (n : Nat) (g : Nat -> Int) (w : World) (v : Value) (w' : World) : Prop := v = .slice (some ⟨w.heap.size, 0, none⟩) n n /\ NumB w' w.heap.size ((List.range n).map g) /\ (∀ b, b < w.heap.size -> w'.heap[b]? = w.heap[b]?) /\ w.heap.size < w'.heap.size
theorem Qbt (f : Nat) {fn : Func} (hf : Try.prog.funcs[f]? = some fn) (hname : (fn.name == "runtime.NumGoroutine") = false) (hb : fn.body.isNone = false) (g : Nat -> Int) (w : World) (I : RgI rb sb n s w) (hA : ∀ b, w.heap.size <= b -> Bd V b)
  (hask : ∀ w i, RgI rb sb n s w -> i < n -> As Try.prog main V f #[.pointer (some ⟨sb, i * 2, none⟩)] w (.int .i64 (g i)) w) : CallW Try.prog main V 76 #[.pointer (some ⟨rb, 0, none⟩), .func (.func f) #[] #[]] w (Jq n g w) := fun fr cs => by
 refine (Qcq f g (fr :: cs) w I hA).then ?_
 rintro _ w1 ⟨⟨u, rfl⟩, E1⟩
 refine (Yx f hf hname hb g (fr :: cs) w I (hA _ (Nat.le_refl _)) hask n 0 u w1 (Nat.zero_add _) E1).then ?_
 rintro _ w2 ⟨⟨u2, rfl⟩, E2⟩
 refine (Qbu f w.heap.size u2 fr cs w2).mono ?_
 rintro _ _ ⟨rfl, d, rfl⟩
 refine ⟨_, ⟨rfl, ?_, E2.old, E2.size⟩, rfl⟩
 have h := E2.row
 rw [padL_full (by simp)] at h
 exact h
theorem Qai (w : World) (I : RgI rb sb n s w) (hA : ∀ b, w.heap.size <= b -> Bd V b) : CallW Try.prog main V 26 #[.pointer (some ⟨rb, 0, none⟩)] w (Jq n s.st w) := by
 have he := Qbt (main := main) (V := V) 77 Try.func77 (by kernel_rfl) (by rfl) s.st w I hA fun w i I hi => stamps1_w w I i hi
 refine Ap Try.func26 code26_is fun fr cs => ?_
 simp only [Try.ntmps26, ez, Nat.reduceAdd, Nat.reduceSub]
 refine Aa z26 ?_
 refine Ah (Post := Jq n s.st w) ?_ Aj (by rfl) (by decide) rfl Try.func76 (by kernel_rfl) (by rfl) ?_
 ·walk_nrm
  exact he
 rintro v w1 ⟨rfl, h1, h2, h3⟩
 walk_nrm
 refine Aa z26 ?_
 exact An rfl rfl Try.func26 rfl fun d => ⟨rfl, h1, h2, h3⟩
theorem Qaf (w : World) (I : RgI rb sb n s w) (hA : ∀ b, w.heap.size <= b -> Bd V b) : CallW Try.prog main V 27 #[.pointer (some ⟨rb, 0, none⟩)] w (Jq n s.va w) := by
 have he := Qbt (main := main) (V := V) 79 Try.func79 (by kernel_rfl) (by rfl) s.va w I hA fun w i I hi => values1_w w I i hi
 refine Ap Try.func27 code27_is fun fr cs => ?_
 simp only [Try.ntmps27, ez, Nat.reduceAdd, Nat.reduceSub]
 refine Aa z27 ?_
 refine Ah (Post := Jq n s.va w) ?_ Aj (by rfl) (by decide) rfl Try.func76 (by kernel_rfl) (by rfl) ?_
 ·walk_nrm
  exact he
 rintro v w1 ⟨rfl, h1, h2, h3⟩
 walk_nrm
 refine Aa z27 ?_
 exact An rfl rfl Try.func27 rfl fun d => ⟨rfl, h1, h2, h3⟩
end
end
section
noncomputable def reg68_0 := rk Try.f68.body 0
noncomputable def reg68_1 := rk Try.f68.body 1
theorem z68 : reg68_0.size = 1 /\ reg68_1.size = 6 := by and_intros <;> kernel_rfl
theorem Qs : Try.f68.body = some (.seq (.region 0 reg68_0 false) (.seq (.region 1 reg68_1 false) (.ret))) := by kernel_rfl
def Lc (n : Nat) (s : Rg) : List Int := (List.range n).map s.st ++ (List.range n).map s.va
theorem Nn (n : Nat) (s : Rg) : (Lc n s).length = n + n := by simp [Lc]
section
variable {main : Bool} {V : Nat -> Option Wait} {rb sb n : Nat} {s : Rg}
def StR (n : Nat) (s : Rg) (w : World) (v : Value) (w' : World) : Prop := ∃ B c, v = .slice (some ⟨B, 0, none⟩) (n + n) c /\ w'.ownsRow w.heap.size 2 1 (.slice (some ⟨B, 0, none⟩) (n + n) c) (n + n) ((Lc n s).map fun z => .int .i64 z) /\ (∀ b, b < w.heap.size -> w'.heap[b]? = w.heap[b]?) /\ w.heap.size <= w'.heap.size
theorem Qaq (w : World) (I : RgI rb sb n s w) (hA : ∀ b, w.heap.size <= b -> Bd V b) : CallW Try.prog main V 68 #[.pointer (some ⟨rb, 0, none⟩)] w (StR n s w) := by
 have hi1 := Option.some_get (show (Try.prog.info? 2).isSome = true by kernel_rfl)
 have hn := I.pos
 have hst := Qai (main := main) (V := V) w I hA
 have hl1 : ((List.range n).map s.st).length = n := by simp
 have hl2 : ((List.range n).map s.va).length = n := by simp
 refine Ap Try.func68 Qs fun fr cs => ?_
 simp only [Try.ntmps68, ez, Nat.reduceAdd, Nat.reduceSub]
 refine Aa z68 ?_
 refine Ah (Post := Jq n s.st w) ?_ Aj (by rfl) (by decide) rfl Try.func26 (by kernel_rfl) (by rfl) ?_
 ·walk_nrm
  exact hst
 rintro v w1 ⟨rfl, h1, h2, h3⟩
 have hva := Qaf (main := main) (V := V) w1 (I.old (h2 _ I.lt.1) (h2 _ I.lt.2)) (fun b hb => hA b (by omega))
 clear hst
 walk_nrm
 refine Aa z68 ?_
 refine Ah (Post := Jq n s.va w1) ?_ Aj (by rfl) (by decide) rfl Try.func27 (by kernel_rfl) (by rfl) ?_
 ·walk_nrm
  exact hva
 rintro v w2 ⟨rfl, k1, k2, k3⟩
 clear hva
 walk_nrm
 have hN : NumB w2 w.heap.size ((List.range n).map s.st) := h1.same (k2 _ (by omega))
 have hrow := hN.row (base := w.heap.size) (Nat.le_refl _) (by rw [hl1]; simp [maxLen]; omega)
 rw [hl1] at hrow
 have hap := hA w.heap.size (Nat.le_refl _)
 repeat (first | (refine Walk.oq ?_; try walk_nrm) | (refine Bn ?_; walk_nrm))
 refine Walk.append (.tmp 4) (.tmp 6) 22 Aj (by rfl) (by decide) rfl w.heap.size 2 _ (.int .i64 0) 1 8 (by kernel_rfl) hi1.symm (by rfl) (by rfl) (by rfl) (by rfl) (by decide) (.slice (some ⟨w.heap.size, 0, none⟩) n n) n _ rfl hrow ⟨w1.heap.size, 0, none⟩ n n (((List.range n).map s.va).map fun z => .int .i64 z) rfl (by simp) (fun j x hx => ?_) (fun x hx => by obtain ⟨y, _, rfl⟩ := List.mem_map.1 hx; rfl) (by omega) (by simp [maxLen]; omega) (by omega) (by omega) (fun g hg => by
  have hg : some w.heap.size = some g := hg
  cases hg
  exact hap) (fun g cap w3 r3 hg3 at3 lt3 => ?_)
 ·rw [Bm, Nat.zero_add]
  rw [List.getElem?_map, Option.map_eq_some_iff] at hx
  obtain ⟨y, hy, rfl⟩ := hx
  exact k1.cell hy
 have z3 := hg3.size
 have o3 : ∀ b, b < w.heap.size -> w3.heap[b]? = w.heap[b]? := fun b hb => (hg3.block b (by omega) fun e => by
  have e : some b = some w.heap.size := e
  injection e with e
  omega).trans ((k2 b (by omega)).trans (h2 b hb))
 have r3' : w3.ownsRow w.heap.size 2 1 (.slice (some ⟨g, 0, none⟩) (n + n) cap) (n + n) ((Lc n s).map fun z => .int .i64 z) := by
  unfold Lc
  rw [List.map_append]
  exact r3
 clear r3 hrow hg3 at3 hN h1 h2 k1 k2
 walk_nrm
 refine Aa z68 ?_
 exact An rfl rfl Try.func68 rfl fun d => ⟨g, cap, rfl, r3', o3, by show w.heap.size <= w3.heap.size; omega⟩
end
end
section
noncomputable def reg119_0 := rk Try.f119.body 0
noncomputable def reg119_1 := rk Try.f119.body 1
noncomputable def reg119_2 := rk Try.f119.body 2
noncomputable def reg119_3 := rk Try.f119.body 3
theorem z119 : reg119_0.size = 1 /\ reg119_1.size = 1 /\ reg119_2.size = 7 /\ reg119_3.size = 7 := by and_intros <;> kernel_rfl
theorem Zu : Try.f119.body = some (.seq (.region 0 reg119_0 false) (.seq (.region 1 reg119_1 false) (.seq (.region 2 reg119_2 false) (.seq (.region 3 reg119_3 false) (.ret))))) := by kernel_rfl
section
variable {a0 M tb tc n m : Nat} {cb : CB} {ta : Option Addr} {S : Rg} {T : Nat -> R11} {main : Bool}
theorem Qo (f : Nat -> Int) (m j : Nat) (x : Value) (h : (Bb ((List.range m).map f))[j]? = some x) : j < m /\ x = .int .i64 (f j) := by
 simp only [Bb, List.getElem?_map, Option.map_eq_some_iff] at h
 obtain ⟨y, ⟨z, hz, rfl⟩, rfl⟩ := h
 have hj := (List.getElem?_eq_some_iff.1 hz).1
 simp at hj
 have : z = j := by simpa [hj] using hz.symm
 exact ⟨hj, by rw [this]⟩
theorem Yl (w : World) (I : M11 a0 M cb tb tc n m ta S T w) (hm : m <= 65536) (hz : m = 0 -> cb.sc = 0 /\ cb.vc = 0) : CallW Try.prog main (fun _ => none) 119 #[.pointer (some ⟨M, 0, none⟩)] w (fun v w' => ∃ sa sc, v = .slice sa (m + m) sc /\ w'.ownsRow w.heap.size 2 1 (.slice sa (m + m) sc) (m + m) (Bb (Lc m S)) /\ Chg (fun _ => False) w w') := by
 intro kf cs
 have c1 : w.cell? ⟨M, 1, none⟩ = some (.slice (cb.sa m) m cb.sc) := (Ac I.hd 1).trans rfl
 have c2 : w.cell? ⟨M, 2, none⟩ = some (.slice (cb.va m) m cb.vc) := (Ac I.hd 2).trans rfl
 have hi2 := Option.some_get (show (Try.prog.info? 2).isSome = true by kernel_rfl)
 have hl := I.lt
 have n1 : ∀ ad, cb.sa m = some ad -> ∀ (j : Nat) (u : Value), (Bb ((List.range m).map S.st))[j]? = some u -> w.cell? (ad.add j) = some u := fun ad had j u hu => by
  obtain ⟨hj, rfl⟩ := Qo S.st m j u hu
  unfold CB.sa at had
  rw [if_pos (by omega)] at had
  cases had
  rw [Bm, Nat.zero_add]
  exact I.scell hj
 have n2 : ∀ w' : World, (∀ b, b < w.heap.size -> w'.heap[b]? = w.heap[b]?) -> ∀ ad, cb.va m = some ad -> ∀ (j : Nat) (u : Value), (Bb ((List.range m).map S.va))[j]? = some u -> w'.cell? (ad.add j) = some u := fun w' ho ad had j u hu => by
  obtain ⟨hj, rfl⟩ := Qo S.va m j u hu
  unfold CB.va at had
  rw [if_pos (by omega)] at had
  cases had
  rw [Bm, Nat.zero_add]
  exact (World.cell?_of_block (a := ⟨cb.vg, j, none⟩) (ho _ (hl.2.1 _ ⟨by omega, .inr rfl⟩))).trans (I.vcell hj)
 have k1 : cb.sa m = none -> m = 0 /\ cb.sc = 0 := fun h => by
  by_cases h0 : m = 0
  ·exact ⟨h0, (hz h0).1⟩
  ·unfold CB.sa at h; rw [if_pos (by omega)] at h; cases h
 have k2 : cb.va m = none -> m = 0 /\ cb.vc = 0 := fun h => by
  by_cases h0 : m = 0
  ·exact ⟨h0, (hz h0).2⟩
  ·unfold CB.va at h; rw [if_pos (by omega)] at h; cases h
 have hMl := hl.1
 generalize hE : w.heap.size = E at *
 clear I hl
 generalize cb.sa m = sa0 at *
 generalize cb.va m = va0 at *
 rw [enter_at _ Try.func119 Zu]
 simp only [Try.ntmps119, ez, Nat.reduceAdd, Nat.reduceSub]
 refine Aa z119 ?_
 refine Ik (.tmp 4) (.tmp 8) 22 Aj (by rfl) (by decide) rfl E 2 _ (.int .i64 0) 1 8 Gr hi2.symm (by rfl) (by rfl) (by rfl) (by rfl) (by decide) (.slice none 0 0) 0 [] rfl ⟨rfl, .inl ⟨rfl, rfl⟩⟩ sa0 m cb.sc (Bb ((List.range m).map S.st)) rfl k1 (by simp [Bb]) n1 (by simp [Bb, Value.oneCell']) (by simp [maxLen]; omega) (by omega) (by omega) (fun g hg => Nx g) (fun v1 w1 r1 hg1 hat1 => ?_)
 have o1 : ∀ b, b < E -> w1.heap[b]? = w.heap[b]? := fun b hb => hg1.block b (by omega) (fun e => by cases e)
 have s1 := hg1.size
 rw [Nat.zero_add, List.nil_append] at r1
 obtain ⟨a1, p1, rfl⟩ := Hz r1
 have c2' : w1.cell? ⟨M, 2, none⟩ = some (.slice va0 m cb.vc) := (World.cell?_of_block (a := ⟨M, 2, none⟩) (o1 M hMl)).trans c2
 have hn2 := n2 w1 o1
 clear n1 n2 c1 c2
 walk_nrm
 refine Aa z119 ?_
 refine Ik (.tmp 10) (.tmp 14) 22 Aj (by rfl) (by decide) rfl E 2 _ (.int .i64 0) 1 8 Gr hi2.symm (by rfl) (by rfl) (by rfl) (by rfl) (by decide) (.slice a1 m p1) m (Bb ((List.range m).map S.st)) rfl r1 va0 m cb.vc (Bb ((List.range m).map S.va)) rfl k2 (by simp [Bb]) hn2 (by simp [Bb, Value.oneCell']) (by simp [maxLen]; omega) (by omega) (by omega) (fun g hg => Nx g) (fun v2 w2 r2 hg2 hat2 => ?_)
 have hr1 := fun g hg => (r1.lt g hg).1
 obtain ⟨a2, p2, rfl⟩ := Hz r2
 have s2 := hg2.size
 have hC : Chg (fun _ => False) w w2 := ⟨by omega, fun b hb _ => (hg2.block b (by omega) (fun e => by have := hr1 b e.symm; omega)).trans (o1 b (by omega))⟩
 rw [show Bb ((List.range m).map S.st) ++ Bb ((List.range m).map S.va) = Bb (Lc m S) from by simp [Bb, Lc]] at r2
 clear hn2 c2' r1
 walk_nrm
 refine Aa z119 ?_
 exact Be rfl rfl Try.func119 rfl (.stop fun d => ⟨_, ⟨a2, p2, rfl, r2, hC.at d⟩, rfl⟩)
end
end
section
theorem Qj (w : World) (cs old : Array Value) (t : TypeId) : (w.alloc (.cells old t)).setRow w.heap.size cs = w.alloc (.cells cs t) := by
 simp only [World.setRow, World.alloc]
 congr 1
 apply Array.ext
 ·simp
 ·intro i h1 h2
  rw [Array.getElem_modify]
  by_cases e : w.heap.size = i
  ·subst e; simp
  ·rw [if_neg e, Array.getElem_push, Array.getElem_push]
   simp only [Array.size_push] at h2
   have : i < w.heap.size := by omega
   simp [this]
def Hr (hv : Nat -> Value) (n : Nat) : List Value := (List.range n).map hv
theorem Zq (hv : Nat -> Value) (n : Nat) : Hr hv (n + 1) = Hr hv n ++ [hv n] := by simp [Hr, List.range_succ]
section
variable {main : Bool}
theorem Qco (M R n m : Nat) (oa : Option Addr) (on oc : Nat) (lf : Bool) (l : List Int) (u : Nat -> Value) (cs : List Frame) (w : World) (hl : As Try.prog main (fun _ => none) 118 #[.pointer (some ⟨M, 0, none⟩)] w (.bool lf) w)
  (hs : CallW Try.prog main (fun _ => none) 119 #[.pointer (some ⟨M, 0, none⟩)] w (fun v w' => ∃ sa sc, v = .slice sa m sc /\ w'.ownsRow w.heap.size 2 1 (.slice sa m sc) m (Bb l) /\ Chg (fun _ => False) w w')) :
  Walk Try.prog main (DR (fun _ => none)) (fun g w' => ∃ sa sc Q, (∃ u, g = G (hdRun4 M R n Q 0 u) cs) /\ w.heap.size <= Q /\ w'.heap[Q]? = some (.cells (Ih (.slice none 0 0) (.slice oa on oc) (.slice sa m sc) lf) 31) /\ Chg (fun _ => False) w w' /\ w'.ownsRow w.heap.size 2 1 (.slice sa m sc) m (Bb l) /\ w'.heap.size = Q + 1 /\ ∀ b, (Value.slice sa m sc).ownBlock = some b -> b < Q) (G (hdRunE M R n (.slice oa on oc) u) cs) w := by
 conv => arg 5; unfold hdRunE
 refine Aa z70 ?_
 refine Walk.callV (x := .bool lf) (W := w) ?_ Aj (by rfl) (by decide) rfl Try.func118 (by kernel_rfl) (by rfl) ?_
 ·walk_nrm
  exact hl
 walk_nrm
 repeat (first | (refine Walk.oq ?_; try walk_nrm) | (refine Bn ?_; walk_nrm))
 refine Ah (Post := fun v w' => ∃ sa sc, v = .slice sa m sc /\ w'.ownsRow w.heap.size 2 1 (.slice sa m sc) m (Bb l) /\ Chg (fun _ => False) w w') ?_ Aj (by rfl) (by decide) rfl Try.func119 (by kernel_rfl) (by rfl) ?_
 ·walk_nrm
  exact hs
 rintro v w1 ⟨sa, sc, rfl, hrow, hC⟩
 walk_nrm
 repeat (first | (refine Walk.oq ?_; try walk_nrm) | (refine Bn ?_; walk_nrm))
 (refine Walk.oa ?_; try walk_nrm)
 have hC1 := hC.size
 have hst : (w1.alloc Ga).setRow w1.heap.size (Ih (.slice none 0 0) (.slice oa on oc) (.slice sa m sc) lf) = w1.alloc (.cells (Ih (.slice none 0 0) (.slice oa on oc) (.slice sa m sc) lf) 31) := Qj _ _ _ _
 refine Az 31 (.tmp 16) (.tmp 142) Aj (by rfl) (by decide) rfl w1.heap.size (Ih (.slice none 0 0) (.slice oa on oc) (.slice sa m sc) lf) #[.slice none 0 0, .slice none 0 0, .slice none 0 0, .bool false] 31 rfl rfl (heap_alloc_new _ _) (by kernel_rfl) rfl (by simp [Ih, Value.oneCell']) (Nx _) ?_
 have e1 : w1.alloc (.cells #[.slice none 0 0, .slice none 0 0, .slice none 0 0, .bool false] 31) = w1.alloc Ga := rfl
 try rw [e1]
 rw [hst]
 have d2 := heap_alloc_new w1 (.cells (Ih (.slice none 0 0) (.slice oa on oc) (.slice sa m sc) lf) 31)
 have o2 : ∀ x, x < w1.heap.size -> (w1.alloc (.cells (Ih (.slice none 0 0) (.slice oa on oc) (.slice sa m sc) lf) 31)).heap[x]? = w1.heap[x]? := fun x hx => Ad _ _ hx
 have s2 : (w1.alloc (.cells (Ih (.slice none 0 0) (.slice oa on oc) (.slice sa m sc) lf) 31)).heap.size = w1.heap.size + 1 := by simp
 clear hst e1
 have hrow2 := Ao hrow (w' := w1.alloc (.cells (Ih (.slice none 0 0) (.slice oa on oc) (.slice sa m sc) lf) 31)) fun g hg => o2 g (hrow.lt g hg).2
 have hlt : ∀ b, (Value.slice sa m sc).ownBlock = some b -> b < w1.heap.size := fun b hb => (hrow.lt b hb).2
 generalize w1.alloc (.cells (Ih (.slice none 0 0) (.slice oa on oc) (.slice sa m sc) lf) 31) = w2 at *
 generalize hQ : w1.heap.size = Q at *
 try walk_nrm
 refine Aa z70 ?_
 refine Walk.ctl rfl (fun w => stepG_loop) ?_
 refine .stop fun d => ⟨sa, sc, Q, Ak ?_, hC1, d2, ⟨by show w.heap.size <= w2.heap.size; omega, fun x hx hn => (o2 x (by omega)).trans (hC.same x hx hn)⟩, hrow2, s2, hlt⟩
 simp only [hdRun4]
 rfl
theorem Qcp (M R n Q i tb tc : Nat) (b c : Value) (k : Bool) (ha : Option Addr) (hc : Nat) (aa : Option Addr) (al ac : Nat) (hv : Nat -> Value) (u : Nat -> Value) (cs : List Frame) (a1 : Nat) (w : World) (ho : w.heap[Q]? = some (.cells (Ih (.slice ha i hc) b c k) 31)) (hrow : w.ownsRow a1 44 1 (.slice ha i hc) i (Hr hv i)) (hi : i < n) (hn : n <= 64) (hvi : hv i = .slice aa al ac)
  (hQ : Q < a1) (ha1 : a1 <= w.heap.size) (hl : w.cell? ⟨M, 3, none⟩ = some (.slice (some ⟨tb, 0, none⟩) n tc)) (hq : w.cell? ⟨tb, i * 9 + 1, none⟩ = some (.slice aa al ac)) (hM : M < a1) (htb : tb < a1) :
  Walk Try.prog main (DR (fun _ => none)) (fun g' w' => ∃ g cap, (∃ u', g' = G (hdRun4 M R n Q (i + 1) u') cs) /\ w'.heap[Q]? = some (.cells (Ih (.slice (some ⟨g, 0, none⟩) (i + 1) cap) b c k) 31) /\ w'.ownsRow a1 44 1 (.slice (some ⟨g, 0, none⟩) (i + 1) cap) (i + 1) (Hr hv (i + 1)) /\ Chg (fun x => x = Q ∨ a1 <= x) w w')
   (G (hdRun4 M R n Q i u) cs) w := by
 have hi0 : (0 : Int) <= i := by omega
 have hi1 : decide ((i : Int) < n) = true := by simp; omega
 have hi3 : decide (i < n) = true := by simp; omega
 have hi4 : (i : Int) < n := by omega
 have hw1 : IntKind.wrap .i64 ((i : Int) + 1) = (i : Int) + 1 := by rw [IntKind.wrap_i64]; omega
 have h0 : w.cell? ⟨Q, 0, none⟩ = some (.slice ha i hc) := (Ac ho 0).trans rfl
 have hlo : Q < w.heap.size := by omega
 have hsz1 : w.heap.size + 1 <= (w.alloc (.cells #[.slice aa al ac] 44)).heap.size /\ (w.alloc (.cells #[.slice aa al ac] 44)).heap.size <= w.heap.size + 1 := by simp
 have hrow' : (w.alloc (.cells #[.slice aa al ac] 44)).ownsRow a1 44 1 (.slice ha i hc) i (Hr hv i) := Ao hrow fun g hg => Ad _ _ (hrow.lt g hg).2
 have hnews : ∀ (j : Nat) (x : Value), ([.slice aa al ac] : List Value)[j]? = some x -> (w.alloc (.cells #[.slice aa al ac] 44)).cell? ((⟨w.heap.size, 0, none⟩ : Addr).add j) = some x := fun j x hx => by
  rw [Bm, Nat.zero_add]
  refine (Ac (heap_alloc_new _ _) j).trans ?_
  simpa using hx
 have hne : ∀ x, x < a1 -> (Value.slice ha i hc).ownBlock ≠ some x := fun x hx e => by have := (hrow.lt x e).1; omega
 have hfar : ∀ (x : Nat) (w2 : World), x < w.heap.size -> (Value.slice ha i hc).ownBlock ≠ some x -> (w.alloc (.cells #[.slice aa al ac] 44)).grownBy w2 (Value.slice ha i hc).ownBlock -> w2.heap[x]? = w.heap[x]? := fun x w2 hx hn hg => (hg.block x (by omega) (fun e => hn e.symm)).trans (Ad _ _ hx)
 conv => arg 5; unfold hdRun4
 refine Aa z70 ?_
 refine Du (iA := 10) (iB := 11) (w1 := w.alloc (.cells #[.slice aa al ac] 44)) (vA := .slice (some ⟨w.heap.size, 0, none⟩) 1 1) (Z := fun x => x.cell? ⟨Q, 0, none⟩ = some (.slice ha i hc) /\ x.cell? ⟨M, 3, none⟩ = some (.slice (some ⟨tb, 0, none⟩) n tc) /\ x.cell? ⟨tb, i * 9 + 1, none⟩ = some (.slice aa al ac))
  (fun v w2 => ∃ g cap, v = .slice (some ⟨g, 0, none⟩) (i + 1) cap /\ w2.ownsRow a1 44 1 (.slice (some ⟨g, 0, none⟩) (i + 1) cap) (i + 1) (Hr hv i ++ [.slice aa al ac]) /\ (w.alloc (.cells #[.slice aa al ac] 44)).grownBy w2 (Value.slice ha i hc).ownBlock /\ ((Value.slice ha i hc).ownBlock = some g ∨ g = (w.alloc (.cells #[.slice aa al ac] 44)).heap.size)) (by kernel_rfl) size70_37 (by kernel_rfl) (by kernel_rfl) (by kernel_rfl) (by kernel_rfl) (by decide) Aj Aj ⟨h0, hl, hq⟩ ⟨Ai _ _ h0, Ai _ _ hl, Ai _ _ hq⟩ ?_ ?_
 ·rintro v w2 ⟨g, cap, _, _, hg, _⟩
  exact ⟨(World.cell?_of_block (a := ⟨Q, 0, none⟩) (hfar Q w2 hlo (hne Q hQ) hg)).trans h0, (World.cell?_of_block (a := ⟨M, 3, none⟩) (hfar M w2 (by omega) (hne M hM) hg)).trans hl, (World.cell?_of_block (a := ⟨tb, i * 9 + 1, none⟩) (hfar tb w2 (by omega) (hne tb htb) hg)).trans hq⟩
 rw [show List.filter (Bw 10 11) (List.range 13) = [0, 1, 2, 3, 4, 5, 6, 7, 8, 9, 12] from by decide]
 repeat (first | (refine Gw Aj (by rfl) (fun wz hz dd e he => ?_) ?_; (· (obtain ⟨z1, z2, z3⟩ := hz; simp [go_sem, *] at he; try (subst he; exact Cb _ _))); apply Exists.intro; apply And.intro; (· (intro wz hz dd K hK; obtain ⟨z1, z2, z3⟩ := hz; go_simp; exact hK))) | (refine Al Aj (by rfl) ?_; walk_nrm))
 refine Cm.done ⟨?_, ?_, ?_⟩
 ·intro x hev rest hr'
  have e0 : x.eval (.tmp 157) = .slice aa al ac := (hev (.tmp 157) (by simp [Op.operands])).trans rfl
  have e1 : x.tmps[157]?.getD undef = .slice aa al ac := by
   rw [<- Array.getD_eq_getD_getElem?]
   exact e0
  clear e0 hev
  (refine Walk.oa ?_; try walk_nrm)
  exact hr' _ _ ⟨rfl, _, rfl⟩
 ·intro x hev rest hr'
  have e1 : x.eval (.tmp 149) = .slice ha i hc := (hev (.tmp 149) (by simp [Op.operands, Call.operands])).trans rfl
  have e2 : x.eval (.tmp 158) = .slice (some ⟨w.heap.size, 0, none⟩) 1 1 := (hev (.tmp 158) (by simp [Op.operands, Call.operands])).trans rfl
  have hiA := Option.some_get (show (Try.prog.info? 44).isSome = true by kernel_rfl)
  refine Walk.append (.tmp 149) (.tmp 158) 29 Aj (by rfl) (by decide) rfl a1 44 _ (.slice none 0 0) 1 24 (by kernel_rfl) hiA.symm (by rfl) (by rfl) (by rfl) (by rfl) (by decide) (.slice ha i hc) i (Hr hv i) e1 hrow' ⟨w.heap.size, 0, none⟩ 1 1 [.slice aa al ac] e2 (by rfl) hnews (by simp [Value.oneCell']) (by decide) (by simp [maxLen]; omega) (by omega) (by omega) (fun g _ => Nx g) (fun g cap w3 hown hg hat hlt => ?_)
  exact hr' _ _ ⟨_, w3, ⟨g, cap, rfl, hown, hg, hat⟩, rfl, w3.drawn, rfl⟩
 rintro v w2 ⟨g, cap, rfl, hown, hg, hat⟩ rest hr'
 have hb := hfar Q w2 hlo (hne Q hQ) hg
 have h0' : w2.cell? ⟨Q, 0, none⟩ = some (.slice ha i hc) := (World.cell?_of_block (a := ⟨Q, 0, none⟩) hb).trans h0
 have hz0 : w2.frozen? ⟨Q, 0, none⟩ = false := Aq (hb.trans ho) 0
 have hgs := hg.size
 have hga : a1 <= g := (hown.lt g rfl).1
 (have hfr := Dq Q 0; refine Walk.os hfr h0' ?_; clear hfr; try walk_nrm)
 refine hr' _ _ ?_
 have hbo : (w2.setCell ⟨Q, 0, none⟩ (.slice (some ⟨g, 0, none⟩) (i + 1) cap)).heap[Q]? = some (.cells (Ih (.slice (some ⟨g, 0, none⟩) (i + 1) cap) b c k) 31) := by
  rw [Am _ _ (hb.trans ho)]
  simp [Ih]
 have hown2 : (w2.setCell ⟨Q, 0, none⟩ (.slice (some ⟨g, 0, none⟩) (i + 1) cap)).ownsRow a1 44 1 (.slice (some ⟨g, 0, none⟩) (i + 1) cap) (i + 1) (Hr hv (i + 1)) := by
  rw [Zq, hvi]
  exact Ao hown fun x hx => Ab _ _ _ _ (by
   simp only [Value.ownBlock, Option.some.injEq] at hx
   show x ≠ Q
   omega)
 have hC : Chg (fun x => x = Q ∨ a1 <= x) w (w2.setCell ⟨Q, 0, none⟩ (.slice (some ⟨g, 0, none⟩) (i + 1) cap)) := by
  refine ⟨by rw [Af]; omega, fun x hx hn => ?_⟩
  rw [Ab _ _ _ _ (fun e => hn (.inl e))]
  exact hfar x w2 hx (hne x (by omega)) hg
 clear h0' hz0 hb hown hg hat hfar hnews hrow' hrow hl hq h0 ho
 generalize w2.setCell ⟨Q, 0, none⟩ (.slice (some ⟨g, 0, none⟩) (i + 1) cap) = w3 at *
 try walk_nrm
 refine Aa z70 ?_
 refine Walk.ctl rfl (fun w => stepG_inLoop) ?_
 refine .stop fun d => ⟨g, cap, Ak ?_, hbo, hown2, hC.at d⟩
 have hc : ((i + 1 : Nat) : Int) = (i : Int) + 1 := by simp
 simp only [hdRun4, hc]
 rfl
theorem Qbl (M R n Q : Nat) (x0 x1 x2 x3 : Value) (u : Nat -> Value) (c : Frame) (cs : List Frame) (w : World) (ho : w.heap[Q]? = some (.cells #[x0, x1, x2, x3] 31)) (hr : w.heap[R]? = some Ga) (h1 : (#[x0, x1, x2, x3] : Array Value).all (·.oneCell') = true) :
  Walk Try.prog main (DR (fun _ => none)) (fun g w' => g = G (c.finish (.agg #[x0, x1, x2, x3])) cs /\ Chg (fun x => x = R) w w') (G (hdRun4 M R n Q n u) (c :: cs)) w := by
 have hj1 : decide ((n : Int) < n) = false := by simp
 have hj3 : decide (n < n) = false := by simp
 obtain ⟨fsT, huT⟩ := Co 31 (by kernel_rfl)
 have hc : ∀ (j : Nat) (v : Value), [x0, x1, x2, x3][j]? = some v -> w.cell? ⟨Q, 0 + j, none⟩ = some v := fun j v hv => by
  rw [Nat.zero_add]
  refine (Ac ho j).trans ?_
  simpa using hv
 have hT := Bk (cells := #[x0, x1, x2, x3]) hr
 have hC : Chg (fun x => x = R) w (w.setRow R #[x0, x1, x2, x3]) := ⟨by rw [Bg]; exact Nat.le_refl _, fun x hx hn => Av _ _ hn⟩
 conv => arg 5; unfold hdRun4
 refine Aa z70 ?_
 refine Walk.loadS 31 (.tmp 16) Aj (by rfl) (by decide) rfl Q 0 [x0, x1, x2, x3] (.struct fsT) rfl hc huT rfl (by kernel_rfl) ?_
 walk_nrm
 refine Az 31 (.tmp 8) (.tmp 161) Aj (by rfl) (by decide) rfl R #[x0, x1, x2, x3] #[.slice none 0 0, .slice none 0 0, .slice none 0 0, .bool false] 31 rfl rfl hr (by kernel_rfl) rfl h1 (Nx _) ?_
 clear hc ho hr
 generalize w.setRow R #[x0, x1, x2, x3] = w2 at *
 try walk_nrm
 refine Aa z70 ?_
 exact Cj (T := R) rfl rfl rfl Try.func70 rfl (by rfl) hT (by kernel_rfl) (by kernel_rfl) (.stop fun d => ⟨rfl, hC.at d⟩)
end
end
section
section
variable {main : Bool} {V : Nat -> Option Wait}
theorem Yk (b q : Nat) (u : Value) (v : Int) (w : World) (hc : w.cell? ⟨b, q, none⟩ = some u) (hz : w.frozen? ⟨b, q, none⟩ = false) (hf : Di V ⟨b, q, none⟩) : As Try.prog main V 71 #[.pointer (some ⟨b, q, none⟩), .nilIface, .int .i64 v] w (.tuple #[]) (w.setCell ⟨b, q, none⟩ (.int .i64 v)) := by
 have hp1 := fun w => Bz (P := Try.prog) 193 Fj (some ⟨b, q, none⟩) w
 have hp2 := fun w es => Cn (P := Try.prog) 193 Fj (some ⟨b, q, none⟩) w es
 simp only [Option.isNone_some] at hp1
 refine Ap Try.func71 code71_is fun fr cs => ?_
 simp only [Try.ntmps71, ez, Nat.reduceAdd, Nat.reduceSub]
 refine Aa z71 ?_
 refine Walk.callV (x := .tuple #[]) (W := w) ?_ Aj (by rfl) (by decide) rfl Try.func120 (by kernel_rfl) (by rfl) ?_
 ·walk_nrm
  exact step_nil w
 walk_nrm
 refine Aa z71 ?_
 refine Walk.callV (x := .tuple #[]) (W := w.setCell ⟨b, q, none⟩ (.int .i64 v)) ?_ Aj (by rfl) (by decide) rfl Try.func121 (by kernel_rfl) (by rfl) ?_
 ·walk_nrm
  exact atStore b q u v w hc hz hf
 walk_nrm
 refine Aa z71 ?_
 exact Ke rfl rfl Try.func71 rfl fun d => ⟨rfl, d, rfl⟩
end
theorem Qct (n j : Nat) (hj : j < n * 2) : (madeCells #[.int .i64 0, .int .i64 0] (n * 2))[j]? = some (.int .i64 0) := by
 unfold madeCells
 simp [hj]
 have : j % 2 = 0 ∨ j % 2 = 1 := by omega
 rcases this with h | h <;> simp [h]
noncomputable def reg17_0 := rk Try.f17.body 0
noncomputable def reg17_1 := rk Try.f17.body 1
noncomputable def reg17_2 := rk Try.f17.body 2
noncomputable def reg17_3 := rk Try.f17.body 3
noncomputable def reg17_4 := rk Try.f17.body 4
noncomputable def reg17_5 := rk Try.f17.body 5
noncomputable def reg17_6 := rk Try.f17.body 6
noncomputable def reg17_7 := rk Try.f17.body 7
noncomputable def reg17_8 := rk Try.f17.body 8
noncomputable def reg17_9 := rk Try.f17.body 9
theorem z17 : reg17_0.size = 2 /\ reg17_1.size = 13 /\ reg17_2.size = 2 /\ reg17_3.size = 5 /\ reg17_4.size = 6 /\ reg17_5.size = 1 /\ reg17_6.size = 2 /\ reg17_7.size = 8 /\ reg17_8.size = 2 /\ reg17_9.size = 3 := by and_intros <;> kernel_rfl
theorem Qd : Try.f17.body = some (.seq (.region 0 reg17_0 false) (.seq (.seq (.region 1 reg17_1 false) (.cond (.tmp 18 ) (.seq (.region 2 reg17_2 false) (.ret)) (.skip))) (.seq (.region 3 reg17_3 false) (.seq (.seq (.region 4 reg17_4 false) (.block 0 (.loop (.seq (.region 5 reg17_5 false) (.seq (.cond (.tmp 29 ) (.skip) (.exit 0)) (.seq (.block 1 (.seq (.region 6 reg17_6 false) (.region 7 reg17_7 false))) (.region 8 reg17_8 false))))))) (.seq (.region 9 reg17_9 false) (.ret)))))) := by kernel_rfl
noncomputable def Ql (rb n j : Nat) (u : Nat -> Value) : Frame :=
 (base 17).at { tmps := #[u 0, u 1, .pointer none, .int .i64 0, .pointer (some ⟨rb, 0, none⟩), u 5, u 6, u 7, u 8, u 9, u 10, u 11, u 12, u 13, u 14, u 15, u 16, u 17, u 18, u 19, u 20, u 21, u 22, u 23, u 24, u 25, u 26, .int .i64 n, .int .i64 j, u 29, u 30, u 31, u 32, u 33, u 34, u 35, u 36, u 37, u 38, u 39, u 40], defers := [] } [.code (.seq (.region 5 reg17_5 false) (.seq (.cond (.tmp 29 ) (.skip) (.exit 0)) (.seq (.block 1 (.seq (.region 6 reg17_6 false) (.region 7 reg17_7 false))) (.region 8 reg17_8 false)))), .inLoop (.seq (.region 5 reg17_5 false) (.seq (.cond (.tmp 29 ) (.skip) (.exit 0)) (.seq (.block 1 (.seq (.region 6 reg17_6 false) (.region 7 reg17_7 false))) (.region 8 reg17_8 false)))), .inBlock 0, .code (.seq (.region 9 reg17_9 false) (.ret))]
def okS (sz : Int) : Prop := 1 <= sz /\ sz <= 65536 /\ bits .and .i64 sz (sz - 1) = 0
instance (sz : Int) : Decidable (okS sz) := inferInstanceAs (Decidable (_ /\ _ /\ _))
def Oj (j : Nat) : Rg := ⟨fun i => if i < j then -2 else 0, fun _ => 0⟩
theorem Qch (j : Nat) : Cg (Oj j) j (-2) = Oj (j + 1) := by
 unfold Cg Oj
 congr 1
 funext i
 simp only [upd]
 by_cases e : i = j
 ·rw [if_pos e, if_pos (by omega)]
 ·rw [if_neg e]
  by_cases h : i < j
  ·rw [if_pos h, if_pos (by omega)]
  ·rw [if_neg h, if_neg (by omega)]
section
variable {main : Bool} {V : Nat -> Option Wait}
theorem Yt (sz : Int) (h1 : sz < 1) (w : World) : As Try.prog main V 17 #[.int .i64 sz] w (.tuple #[.pointer none, .int .i64 1]) w := by
 have g1 : decide (sz < 1) = true := by simp; omega
 refine Ap Try.func17 Qd fun fr cs => ?_
 simp only [Try.ntmps17, ez, Nat.reduceAdd, Nat.reduceSub]
 refine Aa z17 ?_
 exact By rfl rfl Try.func17 rfl (.stop fun d => ⟨_, ⟨rfl, d, rfl⟩, rfl⟩)
theorem Yu (sz : Int) (h1 : 1 <= sz) (h2 : 65536 < sz) (w : World) : As Try.prog main V 17 #[.int .i64 sz] w (.tuple #[.pointer none, .int .i64 1]) w := by
 have g1 : decide (sz < 1) = false := by simp; omega
 have g2 : decide (65536 < sz) = true := by simp; omega
 refine Ap Try.func17 Qd fun fr cs => ?_
 simp only [Try.ntmps17, ez, Nat.reduceAdd, Nat.reduceSub]
 refine Aa z17 ?_
 exact By rfl rfl Try.func17 rfl (.stop fun d => ⟨_, ⟨rfl, d, rfl⟩, rfl⟩)
theorem Qcl (sz : Int) (h1 : 1 <= sz) (h2 : sz <= 65536) (h3 : bits .and .i64 sz (sz - 1) ≠ 0) (w : World) : As Try.prog main V 17 #[.int .i64 sz] w (.tuple #[.pointer none, .int .i64 1]) w := by
 have hw1 : IntKind.wrap .i64 (sz - 1) = sz - 1 := by rw [IntKind.wrap_i64]; omega
 have g1 : decide (sz < 1) = false := by simp; omega
 have g2 : decide (65536 < sz) = false := by simp; omega
 have g3 : (bits .and .i64 sz (sz - 1) != 0) = true := by simp [h3]
 refine Ap Try.func17 Qd fun fr cs => ?_
 simp only [Try.ntmps17, ez, Nat.reduceAdd, Nat.reduceSub]
 refine Aa z17 ?_
 exact By rfl rfl Try.func17 rfl (.stop fun d => ⟨_, ⟨rfl, d, rfl⟩, rfl⟩)
theorem Qdm (sz : Int) (h : ¬ okS sz) (w : World) : As Try.prog main V 17 #[.int .i64 sz] w (.tuple #[.pointer none, .int .i64 1]) w := by
 by_cases h1 : sz < 1
 ·exact Yt sz h1 w
 ·by_cases h2 : 65536 < sz
  ·exact Yu sz (by omega) h2 w
  ·exact Qcl sz (by omega) (by omega) (fun e => h ⟨by omega, by omega, e⟩) w
end
end
end Go.Proofs.Ytcdcnmphjhfbpaa
