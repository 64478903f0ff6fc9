/- Part 17. -/
import Derived.Test.YtflcclneedldoaaJ12
import Derived.Test.YtflcclneedldoaaJ16
set_option linter.unusedSimpArgs false
set_option linter.unusedVariables false
set_option maxHeartbeats 8000000
set_option maxRecDepth 100000
namespace Go.Proofs.Ytflcclneedldoaa
open Go.Conc Go.RowKit Go.Relay Try
open Go.ConcN (upd upd_ne upd_same)
structure EaI (w0 : World) (N n : Nat) (g : Nat -> Int) (j : Nat) (w : World) : Prop where
 row : NumB w N (Pd ((List.range j).map g) n)
 old : ∀ b, b < N -> w.heap[b]? = w0.heap[b]?
 size : N < w.heap.size
section
variable {main : Bool} {V : Nat -> Option Wait} {rb sb n : Nat} {s : Rg}
theorem EaI.at {w0 w : World} {N j : Nat} {g : Nat -> Int} (h : EaI w0 N n g j w) (d : Nat) : EaI w0 N n g j (w.at d) := ⟨h.row, h.old, h.size⟩
theorem each_in (f : Nat) (g : Nat -> Int) (cs : List Frame) (w : World) (I : RgI rb sb n s w) (hA : ∀ b, w.heap.size <= b -> Az V b) :
  Walk prog main (DR V) (fun gr w' => (∃ u, gr = G (hdEa rb f w.heap.size n 0 u) cs) /\ EaI w w.heap.size n g 0 w') (G (Frame.enter prog 64 #[.pointer (some ⟨rb, 0, none⟩), .func (.func f) #[] #[]] .normal) cs) w := by
 have hsz := Gw (main := main) (V := V) w I
 have hn := I.pos
 have hi1 := Option.some_get (show (prog.info? 2).isSome = true by kernel_rfl)
 clear I
 rw [enter_at _ func64 code64_is]
 simp only [ntmps64, ez, Nat.reduceAdd, Nat.reduceSub]
 refine Aa z64 ?_
 refine qV (x := .int .i64 (n : Nat)) (W := w) func17 ?_ ?_
 ·walk_nrm
  exact hsz
 walk_nrm
 refine Aa z64 ?_
 refine Fj 31 (.tmp 8) (.tmp 8) Ah (by rfl) (by decide) rfl 2 _ (.int .i64 0) 1 8 (by kernel_rfl) hi1.symm (by rfl) (by rfl) (by rfl) n (by rfl) (by rfl) (by omega) (by omega) ?_
 walk_nrm
 simp only [Value.cells, Nat.mul_one, made_zero]
 have s1 : (w.alloc (.cells ((List.replicate n (0 : Int)).map fun z => Value.int .i64 z).toArray 2)).heap.size = w.heap.size + 1 := by simp
 have o1 : ∀ b, b < w.heap.size -> (w.alloc (.cells ((List.replicate n (0 : Int)).map fun z => Value.int .i64 z).toArray 2)).heap[b]? = w.heap[b]? := fun b hb => Ad _ _ hb
 have d1 := hAw w (.cells ((List.replicate n (0 : Int)).map fun z => Value.int .i64 z).toArray 2)
 generalize hN : w.heap.size = N at *
 generalize w.alloc (.cells ((List.replicate n (0 : Int)).map fun z => Value.int .i64 z).toArray 2) = w1 at *
 refine Aa z64 ?_
 refine cLp ?_
 refine .stop fun d => ⟨Ak ?_, EaI.at ⟨by rw [show Pd ((List.range 0).map g) n = List.replicate n 0 from padL_nil n]; exact d1, o1, by omega⟩ d⟩
 simp only [hdEa]
 rfl
theorem each_go (f : Nat) {fn : Func} (hf : prog.funcs[f]? = some fn) (hname : (fn.name == "runtime.NumGoroutine") = false) (hb : fn.body.isNone = false) (g : Nat -> Int) (N j : Nat) (hj : j < n) (u : Nat -> Value) (cs : List Frame) (w0 w : World) (I : RgI rb sb n s w) (hap : Az V N) (E : EaI w0 N n g j w)
  (hask : Aw prog main V f #[.pointer (some ⟨sb, j * 2, none⟩)] w (.int .i64 (g j)) w) :
  Walk prog main (DR V) (fun gr w' => (∃ u, gr = G (hdEa rb f N n (j + 1) u) cs) /\ EaI w0 N n g (j + 1) w') (G (hdEa rb f N n j u) cs) w := by
 have hn := I.pos
 have c1 := I.size
 have hlen : ((List.range j).map g).length = j := by simp
 have hcell : w.cell? ⟨N, j, none⟩ = some (.int .i64 0) := E.row.cell (by
  unfold Pd
  rw [List.getElem?_append_right (by omega), hlen, Nat.sub_self, List.getElem?_replicate, if_pos (by omega)])
 have hfz := E.row.frozen j
 have hfree : Dm V ⟨N, j, none⟩ := hap.1 _ rfl
 have hrow : NumB (w.setCell ⟨N, j, none⟩ (.int .i64 (g j))) N (Pd ((List.range (j + 1)).map g) n) := by
  have h := E.row.set j (g j)
  have h2 := padL_set (l := (List.range j).map g) (n := n) (by omega) (g j)
  rw [hlen] at h2
  rw [h2] at h
  rw [range_snoc]
  exact h
 have hold : ∀ b, b < N -> (w.setCell ⟨N, j, none⟩ (.int .i64 (g j))).heap[b]? = w0.heap[b]? := fun b hb => (Ac _ _ _ _ (fun e : b = N => by omega)).trans (E.old b hb)
 have hsz : N < (w.setCell ⟨N, j, none⟩ (.int .i64 (g j))).heap.size := by rw [Ai]; exact E.size
 obtain ⟨hj0, hj1, hj3, hj4⟩ := hIx j n
 have hw1 := wI ((j : Int) + 1)
 have hc : ((j + 1 : Nat) : Int) = (j : Int) + 1 := by simp
 clear E I hlen
 generalize g j = x at *
 conv => arg 5; unfold hdEa
 refine Aa z64 ?_
 refine Walk.ctl rfl (fun w' => Ds Ah (by rfl) (by decide) rfl rfl hf hname hb) ?_
 walk_nrm
 generalize hX : Frame.at _ _ _ = X
 refine (hask X cs).then ?_
 rintro _ _ ⟨v, ⟨rfl, d, rfl⟩, rfl⟩
 refine Walk.back ?_ d
 rw [<- hX]
 clear hX hask
 refine Walk.finish Ah ?_
 walk_nrm
 refine Aa z64 ?_
 (refine Ws hfree hcell ?_; try walk_nrm)
 generalize w.setCell ⟨N, j, none⟩ (.int .i64 x) = w2 at *
 clear hcell hfz hfree c1
 refine Aa z64 ?_
 refine cIL ?_
 refine .stop fun d' => ⟨Ak ?_, EaI.at ⟨hrow, hold, hsz⟩ d'⟩
 simp only [hdEa, hc]
 rfl
theorem each_out (f N : Nat) (u : Nat -> Value) (c : Frame) (cs : List Frame) (w : World) :
  Walk prog main (DR V) (fun gr w' => gr = G (c.finish (.slice (some ⟨N, 0, none⟩) n n)) cs /\ ∃ d, w' = w.at d) (G (hdEa rb f N n n u) (c :: cs)) w := by
 have hj1 : decide ((n : Int) < n) = false := by simp
 have hj3 : decide (n < n) = false := by simp
 conv => arg 5; unfold hdEa
 refine Aa z64 ?_
 exact Bk rfl rfl func64 rfl (.stop fun d => ⟨rfl, d, rfl⟩)
theorem each_loop (f : Nat) {fn : Func} (hf : prog.funcs[f]? = some fn) (hname : (fn.name == "runtime.NumGoroutine") = false) (hb : fn.body.isNone = false) (g : Nat -> Int) (cs : List Frame) (w0 : World) (I0 : RgI rb sb n s w0) (hap : Az V w0.heap.size)
  (hask : ∀ w i, RgI rb sb n s w -> i < n -> Aw prog main V f #[.pointer (some ⟨sb, i * 2, none⟩)] w (.int .i64 (g i)) w) :
  ∀ (r j : Nat) (u : Nat -> Value) (w : World), j + r = n -> EaI w0 w0.heap.size n g j w -> Walk prog main (DR V) (fun gr w' => (∃ u, gr = G (hdEa rb f w0.heap.size n n u) cs) /\ EaI w0 w0.heap.size n g n w') (G (hdEa rb f w0.heap.size n j u) cs) w := by
 intro r
 induction r with
 | zero =>
  intro j u w hj E
  have hj : j = n := hj
  subst hj
  exact .stop fun d => ⟨⟨u, rfl⟩, E.at d⟩
 | succ r ih =>
  intro j u w hj E
  have I : RgI rb sb n s w := I0.old (E.old _ I0.lt.1) (E.old _ I0.lt.2)
  refine (each_go f hf hname hb g w0.heap.size j (by omega) u cs w0 w I hap E (hask w j I (by omega))).then ?_
  rintro _ w2 ⟨⟨u2, rfl⟩, E2⟩
  exact ih (j + 1) u2 w2 (by omega) E2
def Mk (n : Nat) (g : Nat -> Int) (w : World) (v : Value) (w' : World) : Prop := v = .slice (some ⟨w.heap.size, 0, none⟩) n n /\ NumB w' w.heap.size ((List.range n).map g) /\ (∀ b, b < w.heap.size -> w'.heap[b]? = w.heap[b]?) /\ w.heap.size < w'.heap.size
theorem each_w (f : Nat) {fn : Func} (hf : prog.funcs[f]? = some fn) (hname : (fn.name == "runtime.NumGoroutine") = false) (hb : fn.body.isNone = false) (g : Nat -> Int) (w : World) (I : RgI rb sb n s w) (hA : ∀ b, w.heap.size <= b -> Az V b)
  (hask : ∀ w i, RgI rb sb n s w -> i < n -> Aw prog main V f #[.pointer (some ⟨sb, i * 2, none⟩)] w (.int .i64 (g i)) w) : CallW prog main V 64 #[.pointer (some ⟨rb, 0, none⟩), .func (.func f) #[] #[]] w (Mk n g w) := fun fr cs => by
 refine (each_in f g (fr :: cs) w I hA).then ?_
 rintro _ w1 ⟨⟨u, rfl⟩, E1⟩
 refine (each_loop f hf hname hb g (fr :: cs) w I (hA _ (Nat.le_refl _)) hask n 0 u w1 (Nat.zero_add _) E1).then ?_
 rintro _ w2 ⟨⟨u2, rfl⟩, E2⟩
 refine (each_out f w.heap.size u2 fr cs w2).mono ?_
 rintro _ _ ⟨rfl, d, rfl⟩
 refine ⟨_, ⟨rfl, ?_, E2.old, E2.size⟩, rfl⟩
 have h := E2.row
 rw [padL_full (by simp)] at h
 exact h
theorem stamps_w (w : World) (I : RgI rb sb n s w) (hA : ∀ b, w.heap.size <= b -> Az V b) : CallW prog main V 24 #[.pointer (some ⟨rb, 0, none⟩)] w (Mk n s.st w) := by
 have he := each_w (main := main) (V := V) 65 func65 (by kernel_rfl) (by rfl) s.st w I hA fun w i I hi => stamps1_w w I i hi
 refine Aq func24 code24_is fun fr cs => ?_
 simp only [ntmps24, ez, Nat.reduceAdd, Nat.reduceSub]
 refine Aa z24 ?_
 refine qW (Post := Mk n s.st w) func64 ?_ ?_
 ·walk_nrm
  exact he
 rintro v w1 ⟨rfl, h1, h2, h3⟩
 walk_nrm
 refine Aa z24 ?_
 exact Ar rfl rfl func24 rfl fun d => ⟨rfl, h1, h2, h3⟩
theorem values_w (w : World) (I : RgI rb sb n s w) (hA : ∀ b, w.heap.size <= b -> Az V b) : CallW prog main V 25 #[.pointer (some ⟨rb, 0, none⟩)] w (Mk n s.va w) := by
 have he := each_w (main := main) (V := V) 67 func67 (by kernel_rfl) (by rfl) s.va w I hA fun w i I hi => values1_w w I i hi
 refine Aq func25 code25_is fun fr cs => ?_
 simp only [ntmps25, ez, Nat.reduceAdd, Nat.reduceSub]
 refine Aa z25 ?_
 refine qW (Post := Mk n s.va w) func64 ?_ ?_
 ·walk_nrm
  exact he
 rintro v w1 ⟨rfl, h1, h2, h3⟩
 walk_nrm
 refine Aa z25 ?_
 exact Ar rfl rfl func25 rfl fun d => ⟨rfl, h1, h2, h3⟩
end
noncomputable def reg110_0 := rk f110.body 0
noncomputable def reg110_1 := rk f110.body 1
theorem z110 : reg110_0.size = 1 /\ reg110_1.size = 6 := by and_intros <;> kernel_rfl
theorem code110_is : f110.body = some (.seq (.region 0 reg110_0 false) (.seq (.region 1 reg110_1 false) (.ret))) := by kernel_rfl
def It (n : Nat) (s : Rg) : List Int := (List.range n).map s.st ++ (List.range n).map s.va
theorem Mo (n : Nat) (s : Rg) : (It n s).length = n + n := by simp [It]
section
variable {main : Bool} {V : Nat -> Option Wait} {rb sb n : Nat} {s : Rg}
def StR (n : Nat) (s : Rg) (w : World) (v : Value) (w' : World) : Prop := ∃ B c, v = .slice (some ⟨B, 0, none⟩) (n + n) c /\ w'.ownsRow w.heap.size 2 1 (.slice (some ⟨B, 0, none⟩) (n + n) c) (n + n) ((It n s).map fun z => .int .i64 z) /\ (∀ b, b < w.heap.size -> w'.heap[b]? = w.heap[b]?) /\ w.heap.size <= w'.heap.size
theorem rstate_w (w : World) (I : RgI rb sb n s w) (hA : ∀ b, w.heap.size <= b -> Az V b) : CallW prog main V 110 #[.pointer (some ⟨rb, 0, none⟩)] w (StR n s w) := by
 have hi1 := Option.some_get (show (prog.info? 2).isSome = true by kernel_rfl)
 have hn := I.pos
 have hst := stamps_w (main := main) (V := V) w I hA
 have hl1 : ((List.range n).map s.st).length = n := by simp
 have hl2 : ((List.range n).map s.va).length = n := by simp
 refine Aq func110 code110_is fun fr cs => ?_
 simp only [ntmps110, ez, Nat.reduceAdd, Nat.reduceSub]
 refine Aa z110 ?_
 refine qW (Post := Mk n s.st w) func24 ?_ ?_
 ·walk_nrm
  exact hst
 rintro v w1 ⟨rfl, h1, h2, h3⟩
 have hva := values_w (main := main) (V := V) w1 (I.old (h2 _ I.lt.1) (h2 _ I.lt.2)) (fun b hb => hA b (by omega))
 clear hst
 walk_nrm
 refine Aa z110 ?_
 refine qW (Post := Mk n s.va w1) func25 ?_ ?_
 ·walk_nrm
  exact hva
 rintro v w2 ⟨rfl, k1, k2, k3⟩
 clear hva
 walk_nrm
 have hN : NumB w2 w.heap.size ((List.range n).map s.st) := h1.same (k2 _ (by omega))
 have hrow := hN.row (base := w.heap.size) (Nat.le_refl _) (by rw [hl1]; simp [maxLen]; omega)
 rw [hl1] at hrow
 have hap := hA w.heap.size (Nat.le_refl _)
 repeat (first | (refine Wq ?_; try walk_nrm) | (refine Bh ?_; walk_nrm))
 refine Walk.append (.tmp 4) (.tmp 6) 31 Ah (by rfl) (by decide) rfl w.heap.size 2 _ (.int .i64 0) 1 8 (by kernel_rfl) hi1.symm (by rfl) (by rfl) (by rfl) (by rfl) (by decide) (.slice (some ⟨w.heap.size, 0, none⟩) n n) n _ rfl hrow ⟨w1.heap.size, 0, none⟩ n n (((List.range n).map s.va).map fun z => .int .i64 z) rfl (by simp) (fun j x hx => ?_) (fun x hx => by obtain ⟨y, _, rfl⟩ := List.mem_map.1 hx; rfl) (by omega) (by simp [maxLen]; omega) (by omega) (by omega) (fun g hg => by
  have hg : some w.heap.size = some g := hg
  cases hg
  exact hap) (fun g cap w3 r3 hg3 at3 lt3 => ?_)
 ·rw [Bs, Nat.zero_add]
  rw [List.getElem?_map, Option.map_eq_some_iff] at hx
  obtain ⟨y, hy, rfl⟩ := hx
  exact k1.cell hy
 have z3 := hg3.size
 have o3 : ∀ b, b < w.heap.size -> w3.heap[b]? = w.heap[b]? := fun b hb => (hg3.block b (by omega) fun e => by
  have e : some b = some w.heap.size := e
  injection e with e
  omega).trans ((k2 b (by omega)).trans (h2 b hb))
 have r3' : w3.ownsRow w.heap.size 2 1 (.slice (some ⟨g, 0, none⟩) (n + n) cap) (n + n) ((It n s).map fun z => .int .i64 z) := by
  unfold It
  rw [List.map_append]
  exact r3
 clear r3 hrow hg3 at3 hN h1 h2 k1 k2
 walk_nrm
 refine Aa z110 ?_
 exact Ar rfl rfl func110 rfl fun d => ⟨g, cap, rfl, r3', o3, by show w.heap.size <= w3.heap.size; omega⟩
end
section
variable {main : Bool} {V : Nat -> Option Wait}
theorem store_nil (b q : Nat) (u : Value) (v : Int) (w : World) (hc : w.cell? ⟨b, q, none⟩ = some u) (hz : w.frozen? ⟨b, q, none⟩ = false) (hf : Dm V ⟨b, q, none⟩) : Aw prog main V 57 #[.pointer (some ⟨b, q, none⟩), .nilIface, .int .i64 v] w (.tuple #[]) (w.setCell ⟨b, q, none⟩ (.int .i64 v)) := by
 have hp1 := fun w => Ce (P := prog) 183 Ft (some ⟨b, q, none⟩) w
 have hp2 := fun w es => Cp (P := prog) 183 Ft (some ⟨b, q, none⟩) w es
 simp only [Option.isNone_some] at hp1
 refine Aq func57 code57_is fun fr cs => ?_
 simp only [ntmps57, ez, Nat.reduceAdd, Nat.reduceSub]
 refine Aa z57 ?_
 refine qV (x := .tuple #[]) (W := w) func112 ?_ ?_
 ·walk_nrm
  exact step_nil w
 walk_nrm
 refine Aa z57 ?_
 refine qV (x := .tuple #[]) (W := w.setCell ⟨b, q, none⟩ (.int .i64 v)) func113 ?_ ?_
 ·walk_nrm
  exact atStore b q u v w hc hz hf
 walk_nrm
 refine Aa z57 ?_
 exact Jd rfl rfl func57 rfl fun d => ⟨rfl, d, rfl⟩
end
theorem made2 (n j : Nat) (hj : j < n * 2) : (madeCells #[.int .i64 0, .int .i64 0] (n * 2))[j]? = some (.int .i64 0) := by
 unfold madeCells
 simp [hj]
 have : j % 2 = 0 ∨ j % 2 = 1 := by omega
 rcases this with h | h <;> simp [h]
noncomputable def reg14_0 := rk f14.body 0
noncomputable def reg14_1 := rk f14.body 1
noncomputable def reg14_2 := rk f14.body 2
noncomputable def reg14_3 := rk f14.body 3
noncomputable def reg14_4 := rk f14.body 4
noncomputable def reg14_5 := rk f14.body 5
noncomputable def reg14_6 := rk f14.body 6
noncomputable def reg14_7 := rk f14.body 7
noncomputable def reg14_8 := rk f14.body 8
noncomputable def reg14_9 := rk f14.body 9
theorem z14 : reg14_0.size = 2 /\ reg14_1.size = 13 /\ reg14_2.size = 2 /\ reg14_3.size = 5 /\ reg14_4.size = 6 /\ reg14_5.size = 1 /\ reg14_6.size = 2 /\ reg14_7.size = 8 /\ reg14_8.size = 2 /\ reg14_9.size = 3 := by and_intros <;> kernel_rfl
theorem code14_is : f14.body = some (.seq (.region 0 reg14_0 false) (.seq (.seq (.region 1 reg14_1 false) (.cond (.tmp 18 ) (.seq (.region 2 reg14_2 false) (.ret)) (.skip))) (.seq (.region 3 reg14_3 false) (.seq (.seq (.region 4 reg14_4 false) (.block 0 (.loop (.seq (.region 5 reg14_5 false) (.seq (.cond (.tmp 29 ) (.skip) (.exit 0)) (.seq (.block 1 (.seq (.region 6 reg14_6 false) (.region 7 reg14_7 false))) (.region 8 reg14_8 false))))))) (.seq (.region 9 reg14_9 false) (.ret)))))) := by kernel_rfl
noncomputable def hdNw (rb n j : Nat) (u : Nat -> Value) : Frame :=
 (base 14).at { tmps := #[u 0, u 1, .pointer none, .int .i64 0, .pointer (some ⟨rb, 0, none⟩), u 5, u 6, u 7, u 8, u 9, u 10, u 11, u 12, u 13, u 14, u 15, u 16, u 17, u 18, u 19, u 20, u 21, u 22, u 23, u 24, u 25, u 26, .int .i64 n, .int .i64 j, u 29, u 30, u 31, u 32, u 33, u 34, u 35, u 36, u 37, u 38, u 39, u 40], defers := [] } [.code (.seq (.region 5 reg14_5 false) (.seq (.cond (.tmp 29 ) (.skip) (.exit 0)) (.seq (.block 1 (.seq (.region 6 reg14_6 false) (.region 7 reg14_7 false))) (.region 8 reg14_8 false)))), .inLoop (.seq (.region 5 reg14_5 false) (.seq (.cond (.tmp 29 ) (.skip) (.exit 0)) (.seq (.block 1 (.seq (.region 6 reg14_6 false) (.region 7 reg14_7 false))) (.region 8 reg14_8 false)))), .inBlock 0, .code (.seq (.region 9 reg14_9 false) (.ret))]
def Qw (sz : Int) : Prop := 1 <= sz /\ sz <= 65536 /\ bits .and .i64 sz (sz - 1) = 0
instance (sz : Int) : Decidable (Qw sz) := inferInstanceAs (Decidable (_ /\ _ /\ _))
def Ho (j : Nat) : Rg := ⟨fun i => if i < j then -2 else 0, fun _ => 0⟩
theorem rgJ_put (j : Nat) : Cj (Ho j) j (-2) = Ho (j + 1) := by
 unfold Cj Ho
 congr 1
 funext i
 simp only [upd]
 by_cases e : i = j
 ·rw [if_pos e, if_pos (by omega)]
 ·rw [if_neg e]
  by_cases h : i < j
  ·rw [if_pos h, if_pos (by omega)]
  ·rw [if_neg h, if_neg (by omega)]
section
variable {main : Bool} {V : Nat -> Option Wait}
theorem new_small (sz : Int) (h1 : sz < 1) (w : World) : Aw prog main V 14 #[.int .i64 sz] w (.tuple #[.pointer none, .int .i64 1]) w := by
 have g1 : decide (sz < 1) = true := by simp; omega
 refine Aq func14 code14_is fun fr cs => ?_
 simp only [ntmps14, ez, Nat.reduceAdd, Nat.reduceSub]
 refine Aa z14 ?_
 exact Cb rfl rfl func14 rfl (.stop fun d => ⟨_, ⟨rfl, d, rfl⟩, rfl⟩)
theorem new_large (sz : Int) (h1 : 1 <= sz) (h2 : 65536 < sz) (w : World) : Aw prog main V 14 #[.int .i64 sz] w (.tuple #[.pointer none, .int .i64 1]) w := by
 have g1 : decide (sz < 1) = false := by simp; omega
 have g2 : decide (65536 < sz) = true := by simp; omega
 refine Aq func14 code14_is fun fr cs => ?_
 simp only [ntmps14, ez, Nat.reduceAdd, Nat.reduceSub]
 refine Aa z14 ?_
 exact Cb rfl rfl func14 rfl (.stop fun d => ⟨_, ⟨rfl, d, rfl⟩, rfl⟩)
theorem new_odd (sz : Int) (h1 : 1 <= sz) (h2 : sz <= 65536) (h3 : bits .and .i64 sz (sz - 1) ≠ 0) (w : World) : Aw prog main V 14 #[.int .i64 sz] w (.tuple #[.pointer none, .int .i64 1]) w := by
 have hw1 : IntKind.wrap .i64 (sz - 1) = sz - 1 := by rw [IntKind.wrap_i64]; omega
 have g1 : decide (sz < 1) = false := by simp; omega
 have g2 : decide (65536 < sz) = false := by simp; omega
 have g3 : (bits .and .i64 sz (sz - 1) != 0) = true := by simp [h3]
 refine Aq func14 code14_is fun fr cs => ?_
 simp only [ntmps14, ez, Nat.reduceAdd, Nat.reduceSub]
 refine Aa z14 ?_
 exact Cb rfl rfl func14 rfl (.stop fun d => ⟨_, ⟨rfl, d, rfl⟩, rfl⟩)
theorem new_no (sz : Int) (h : ¬ Qw sz) (w : World) : Aw prog main V 14 #[.int .i64 sz] w (.tuple #[.pointer none, .int .i64 1]) w := by
 by_cases h1 : sz < 1
 ·exact new_small sz h1 w
 ·by_cases h2 : 65536 < sz
  ·exact new_large sz (by omega) h2 w
  ·exact new_odd sz (by omega) (by omega) (fun e => h ⟨by omega, by omega, e⟩) w
end
section
variable {main : Bool} {V : Nat -> Option Wait} {n : Nat}
structure NwR (w0 : World) (rb sb n j : Nat) (w : World) : Prop where
 I : RgI rb sb n (Ho j) w
 old : ∀ b, b < w0.heap.size -> w.heap[b]? = w0.heap[b]?
 size : w0.heap.size <= w.heap.size
theorem NwR.at {w0 w : World} {rb sb j : Nat} (h : NwR w0 rb sb n j w) (d : Nat) : NwR w0 rb sb n j (w.at d) := ⟨⟨h.I.hd, h.I.sl, h.I.pos⟩, h.old, h.size⟩
theorem new_in (sz : Int) (hz : sz = (n : Nat)) (hok : Qw sz) (cs : List Frame) (w : World) :
  Walk prog main (DR V) (fun gr w' => (∃ u, gr = G (hdNw (w.heap.size + 1) n 0 u) cs) /\ NwR w (w.heap.size + 1) w.heap.size n 0 w') (G (Frame.enter prog 14 #[.int .i64 sz] .normal) cs) w := by
 have hi1 := Option.some_get (show (prog.info? 124).isSome = true by kernel_rfl)
 subst hz
 obtain ⟨h1, h2, h3⟩ := hok
 have hw1 := wI ((n : Int) - 1)
 have g1 : decide ((n : Int) < 1) = false := decide_eq_false (by omega)
 have g2 : decide (65536 < (n : Int)) = false := decide_eq_false (by omega)
 have g3 : (bits .and .i64 (n : Int) ((n : Int) - 1) != 0) = false := by rw [h3]; rfl
 rw [enter_at _ func14 code14_is]
 simp only [ntmps14, ez, Nat.reduceAdd, Nat.reduceSub]
 refine Aa z14 ?_
 clear g1 g2 g3 h3 hw1
 refine Fj 120 (.tmp 19) (.tmp 19) Ah (by rfl) (by decide) rfl 124 _ (.agg #[.int .i64 0, .int .i64 0]) 2 16 (by kernel_rfl) hi1.symm (by rfl) (by rfl) (by rfl) n (by rfl) (by rfl) (by omega) (by omega) ?_
 walk_nrm
 simp only [Value.cells]
 have s1 : (w.alloc (.cells (madeCells #[.int .i64 0, .int .i64 0] (n * 2)) 124)).heap.size = w.heap.size + 1 := by simp
 have o1 : ∀ b, b < w.heap.size -> (w.alloc (.cells (madeCells #[.int .i64 0, .int .i64 0] (n * 2)) 124)).heap[b]? = w.heap[b]? := fun b hb => Ad _ _ hb
 have d1 := hAw w (.cells (madeCells #[.int .i64 0, .int .i64 0] (n * 2)) 124)
 generalize hN : w.heap.size = N at *
 generalize w.alloc (.cells (madeCells #[.int .i64 0, .int .i64 0] (n * 2)) 124) = w1 at *
 repeat (first | (refine Wq ?_; try walk_nrm) | (refine Bh ?_; walk_nrm))
 (refine Wa ?_; try walk_nrm)
 have s2 : (w1.alloc (.cells #[.slice (some ⟨N, 0, none⟩) n n] 122)).heap.size = w1.heap.size + 1 := by simp
 have o2 : ∀ b, b < w1.heap.size -> (w1.alloc (.cells #[.slice (some ⟨N, 0, none⟩) n n] 122)).heap[b]? = w1.heap[b]? := fun b hb => Ad _ _ hb
 have d2 := hAw w1 (.cells #[.slice (some ⟨N, 0, none⟩) n n] 122)
 try simp only [s1]
 rw [s1] at d2
 generalize w1.alloc (.cells #[.slice (some ⟨N, 0, none⟩) n n] 122) = w2 at *
 have I : RgI (N + 1) N n (Ho 0) w2 := ⟨d2, ⟨_, (o2 N (by omega)).trans d1, by rw [size_madeCells]; omega, fun i hi => ⟨(made2 n (i * 2) (by omega)).trans (by simp [Ho]), (made2 n (i * 2 + 1) (by omega)).trans (by simp [Ho])⟩⟩, by omega⟩
 have c1 := I.size
 refine Aa z14 ?_
 refine cLp ?_
 refine .stop fun d => ⟨Ak ?_, NwR.at ⟨I, fun b hb => (o2 b (by omega)).trans (o1 b (by omega)), by omega⟩ d⟩
 simp only [hdNw]
 rfl
theorem new_go (w0 : World) (rb sb j : Nat) (hj : j < n) (u : Nat -> Value) (cs : List Frame) (w : World) (hap : Az V sb) (E : NwR w0 rb sb n j w) (hsb : w0.heap.size <= sb) :
  Walk prog main (DR V) (fun gr w' => (∃ u, gr = G (hdNw rb n (j + 1) u) cs) /\ NwR w0 rb sb n (j + 1) w') (G (hdNw rb n j u) cs) w := by
 have hn := E.I.pos
 have c1 := E.I.size
 obtain ⟨hc0, hz0⟩ := E.I.rdS hj
 have hst := store_nil (main := main) (V := V) sb (j * 2) _ (-2) w hc0 hz0 (hap.1 _ rfl)
 have I2 := E.I.wrS hj (-2)
 rw [rgJ_put] at I2
 have E2 : NwR w0 rb sb n (j + 1) (w.setCell ⟨sb, j * 2, none⟩ (.int .i64 (-2))) := ⟨I2, fun b hb => (Ac _ _ _ _ (fun e : b = sb => by omega)).trans (E.old b hb), by rw [Ai]; exact E.size⟩
 obtain ⟨hj0, hj1, hj3, hj4⟩ := hIx j n
 have hw1 := wI ((j : Int) + 1)
 have hc : ((j + 1 : Nat) : Int) = (j : Int) + 1 := by simp
 clear E I2 hc0 hz0
 conv => arg 5; unfold hdNw
 refine Aa z14 ?_
 refine qV (x := .tuple #[]) (W := w.setCell ⟨sb, j * 2, none⟩ (.int .i64 (-2))) func57 ?_ ?_
 ·walk_nrm
  exact hst
 clear hst c1
 generalize w.setCell ⟨sb, j * 2, none⟩ (.int .i64 (-2)) = w2 at *
 walk_nrm
 refine Aa z14 ?_
 refine cIL ?_
 refine .stop fun d' => ⟨Ak ?_, E2.at d'⟩
 simp only [hdNw, hc]
 rfl
theorem new_out (rb : Nat) (u : Nat -> Value) (c : Frame) (cs : List Frame) (w : World) :
  Walk prog main (DR V) (fun gr w' => gr = G (c.finish (.tuple #[.pointer (some ⟨rb, 0, none⟩), .int .i64 0])) cs /\ ∃ d, w' = w.at d) (G (hdNw rb n n u) (c :: cs)) w := by
 have hj1 : decide ((n : Int) < n) = false := by simp
 have hj3 : decide (n < n) = false := by simp
 conv => arg 5; unfold hdNw
 refine Aa z14 ?_
 exact Cb rfl rfl func14 rfl (.stop fun d => ⟨rfl, d, rfl⟩)
theorem new_loop (w0 : World) (rb sb : Nat) (cs : List Frame) (hap : Az V sb) (hsb : w0.heap.size <= sb) :
  ∀ (r j : Nat) (u : Nat -> Value) (w : World), j + r = n -> NwR w0 rb sb n j w -> Walk prog main (DR V) (fun gr w' => (∃ u, gr = G (hdNw rb n n u) cs) /\ NwR w0 rb sb n n w') (G (hdNw rb n j u) cs) w := by
 intro r
 induction r with
 | zero =>
  intro j u w hj E
  have hj : j = n := hj
  subst hj
  exact .stop fun d => ⟨⟨u, rfl⟩, E.at d⟩
 | succ r ih =>
  intro j u w hj E
  refine (new_go w0 rb sb j (by omega) u cs w hap E hsb).then ?_
  rintro _ w2 ⟨⟨u2, rfl⟩, E2⟩
  exact ih (j + 1) u2 w2 (by omega) E2
theorem new_w (sz : Int) (hok : Qw sz) (w : World) (hA : ∀ b, w.heap.size <= b -> Az V b) : CallW prog main V 14 #[.int .i64 sz] w (fun v w' => v = .tuple #[.pointer (some ⟨w.heap.size + 1, 0, none⟩), .int .i64 0] /\ NwR w (w.heap.size + 1) w.heap.size sz.toNat sz.toNat w') := fun fr cs => by
 have hz : sz = ((sz.toNat : Nat) : Int) := by have := hok.1; omega
 refine (new_in sz hz hok (fr :: cs) w).then ?_
 rintro _ w1 ⟨⟨u, rfl⟩, E1⟩
 refine (new_loop w (w.heap.size + 1) w.heap.size (fr :: cs) (hA _ (Nat.le_refl _)) (Nat.le_refl _) sz.toNat 0 u w1 (Nat.zero_add _) E1).then ?_
 rintro _ w2 ⟨⟨u2, rfl⟩, E2⟩
 refine (new_out (w.heap.size + 1) u2 fr cs w2).mono ?_
 rintro _ _ ⟨rfl, d, rfl⟩
 exact ⟨_, ⟨rfl, E2.at d⟩, rfl⟩
end
section
variable {P : Program} {t e : TypeId} {ti : TypeInfo}
theorem run_tail (hu : P.underlying t = some (.slice e)) (hi : P.info? e = some ti) (hz : ti.size = 1) (b o y cap : Nat) (hc : y + 1 <= cap) : ∃ a' : Option Addr, (0 < y -> a' = some ⟨b, o + 1, none⟩) /\ ∀ (w : World) (es : Array Event), (Instr.sliceAt t (.slice (some ⟨b, o, none⟩) (y + 1) cap) (some (.int .i64 1)) none none).run P w = .ok (.slice a' y (cap - 1)) w /\
  (Instr.sliceAt t (.slice (some ⟨b, o, none⟩) (y + 1) cap) (some (.int .i64 1)) none none).events P w es = es := by
 have g1 : (1 : Int) <= ((y + 1 : Nat) : Int) := by omega
 have g3 : (1 : Int) <= (y : Int) + 1 := by omega
 have g4 : ¬ ((y : Int) + 1 < 1) := by omega
 by_cases g2 : cap = 1
 ·subst g2
  have hy : y = 0 := by omega
  subst hy
  refine ⟨some ⟨b, o, none⟩, fun h => by omega, fun w es => ?_⟩
  constructor <;> simp [Instr.sliceAt, Instr.slice, run_underlying hu, Instr.sliceBounds, Instr.sliceBound, asIntOf, sizeOf, typeInfo, hi, hz, Addr.add]
 ·refine ⟨some ⟨b, o + 1, none⟩, fun _ => rfl, fun w es => ?_⟩
  constructor <;> simp [Instr.sliceAt, Instr.slice, run_underlying hu, Instr.sliceBounds, Instr.sliceBound, asIntOf, sizeOf, typeInfo, hi, hz, g1, g2, g3, g4, Addr.add]
end
def Hx (n : Nat) (s : Rg) (q v : Int) : Rg := Cj (Fa (Cj s (Bl n q) (Bx n q - 1)) (Bl n q) v) (Bl n q) (Bx n q)
theorem rgLay_run (rb sb n : Nat) (s : Rg) (q v : Int) : runN (Br rb sb n) 3 (s, .inr (.p1 q v)) = some (Hx n s q v, ⟨true, 0, []⟩) := rfl
def rgAll (n : Nat) : Nat -> List Int -> Rg -> Rg
 | _, [], s => s
 | q, v :: l, s => rgAll n (q + 1) l (Hx n s (q : Nat) v)
noncomputable def reg108_0 := rk f108.body 0
noncomputable def reg108_1 := rk f108.body 1
noncomputable def reg108_2 := rk f108.body 2
noncomputable def reg108_3 := rk f108.body 3
noncomputable def reg108_4 := rk f108.body 4
noncomputable def reg108_5 := rk f108.body 5
noncomputable def reg108_6 := rk f108.body 6
noncomputable def reg108_7 := rk f108.body 7
noncomputable def reg108_8 := rk f108.body 8
noncomputable def reg108_9 := rk f108.body 9
noncomputable def reg108_10 := rk f108.body 10
noncomputable def reg108_11 := rk f108.body 11
theorem z108 : reg108_0.size = 1 /\ reg108_1.size = 9 /\ reg108_2.size = 1 /\ reg108_3.size = 10 /\ reg108_4.size = 2 /\ reg108_5.size = 1 /\ reg108_6.size = 4 /\ reg108_7.size = 1 /\ reg108_8.size = 5 /\ reg108_9.size = 4 /\ reg108_10.size = 2 /\ reg108_11.size = 2 := by and_intros <;> kernel_rfl
theorem code108_is : f108.body = some (.seq (.region 0 reg108_0 false) (.seq (.seq (.region 1 reg108_1 false) (.cond (.tmp 15 ) (.seq (.region 2 reg108_2 false) (.ret)) (.skip))) (.seq (.region 3 reg108_3 false) (.seq (.seq (.region 4 reg108_4 false) (.cond (.tmp 25 ) (.seq (.region 5 reg108_5 false) (.ret)) (.skip))) (.seq (.seq (.region 6 reg108_6 false) (.block 0 (.loop (.seq (.region 7 reg108_7 false) (.seq (.cond (.tmp 30 ) (.skip) (.exit 0)) (.seq (.block 1 (.seq (.region 8 reg108_8 false) (.region 9 reg108_9 false))) (.region 10 reg108_10 false))))))) (.seq (.region 11 reg108_11 false) (.ret))))))) := by kernel_rfl
noncomputable def hdNr (st : Value) (rb : Nat) (rv : Value) (m j : Nat) (u : Nat -> Value) : Frame :=
 (base 108).at { tmps := #[st, u 1, .pointer none, .pointer (some ⟨rb, 0, none⟩), .int .i64 0, u 5, u 6, u 7, u 8, u 9, u 10, u 11, u 12, u 13, u 14, u 15, u 16, u 17, u 18, u 19, u 20, u 21, u 22, u 23, u 24, u 25, u 26, rv, .int .i64 m, .int .i64 j, u 30, u 31, u 32, u 33, u 34, u 35, u 36, u 37, u 38, u 39], defers := [] } [.code (.seq (.region 7 reg108_7 false) (.seq (.cond (.tmp 30 ) (.skip) (.exit 0)) (.seq (.block 1 (.seq (.region 8 reg108_8 false) (.region 9 reg108_9 false))) (.region 10 reg108_10 false)))), .inLoop (.seq (.region 7 reg108_7 false) (.seq (.cond (.tmp 30 ) (.skip) (.exit 0)) (.seq (.block 1 (.seq (.region 8 reg108_8 false) (.region 9 reg108_9 false))) (.region 10 reg108_10 false)))), .inBlock 0, .code (.seq (.region 11 reg108_11 false) (.ret))]
section
variable {main : Bool} {V : Nat -> Option Wait} {rb sb n : Nat}
theorem nr_go (hA : ∀ b, Az V b) (st : Value) (b o m c j : Nat) (z : Int) (s : Rg) (hj : j < m) (hm : m <= 17592186044416) (u : Nat -> Value) (cs : List Frame) (w : World) (I : RgI rb sb n s w) (hz : w.cell? ⟨b, o + j, none⟩ = some (.int .i64 z)) :
  Walk prog main (DR V) (fun gr w' => (∃ u, gr = G (hdNr st rb (.slice (some ⟨b, o, none⟩) m c) m (j + 1) u) cs) /\ RgI rb sb n (Hx n s (j : Nat) z) w' /\ (∀ x, x < w.heap.size -> x ≠ rb -> x ≠ sb -> w'.heap[x]? = w.heap[x]?) /\ w.heap.size <= w'.heap.size) (G (hdNr st rb (.slice (some ⟨b, o, none⟩) m c) m j u) cs) w := by
 have hq : good (j : Nat) := ⟨by omega, by omega⟩
 have hrun := rgLay_run rb sb n s (j : Nat) z
 obtain ⟨hj0, hj1, hj3, hj4⟩ := hIx j m
 have hw1 := wI ((j : Int) + 1)
 have hc : ((j + 1 : Nat) : Int) = (j : Int) + 1 := by simp
 conv => arg 5; unfold hdNr
 refine Aa z108 ?_
 clear hz
 refine Walk.callLone (L := Br rb sb n) (Rel := fun v x w' P => v = .int .i64 0) 3 () s (.inr (.p1 (j : Nat) z)) hA I hrun (fun K e ht => ?_) Ah (by rfl) (by decide) rfl func53 (by kernel_rfl) (by rfl) ⟨rfl, rfl, _, func108⟩ ?_
 ·walk_nrm
  exact (put_s K e (j : Nat) z hq ht).mono fun v e' ⟨h1, h2⟩ => ⟨⟨true, 0, []⟩, h1, h2⟩
 rintro v w' y rfl hL
 have I2 : RgI rb sb n (Hx n s (j : Nat) z) w' := hL.I
 have hold : ∀ x, x < w.heap.size -> x ≠ rb -> x ≠ sb -> w'.heap[x]? = w.heap[x]? := fun x hx h1 h2 => hL.old x hx fun h => h.elim h1 h2
 have hsz := hL.size
 clear hL hrun I
 walk_nrm
 refine Aa z108 ?_
 refine cIL ?_
 refine .stop fun d' => ⟨Ak ?_, ⟨I2.hd, I2.sl, I2.pos⟩, hold, hsz⟩
 simp only [hdNr, hc]
 rfl
theorem nr_out (st rv : Value) (m : Nat) (u : Nat -> Value) (c : Frame) (cs : List Frame) (w : World) :
  Walk prog main (DR V) (fun gr w' => gr = G (c.finish (.pointer (some ⟨rb, 0, none⟩))) cs /\ ∃ d, w' = w.at d) (G (hdNr st rb rv m m u) (c :: cs)) w := by
 have hj1 : decide ((m : Int) < m) = false := by simp
 have hj3 : decide (m < m) = false := by simp
 conv => arg 5; unfold hdNr
 refine Aa z108 ?_
 exact Bk rfl rfl func108 rfl (.stop fun d => ⟨rfl, d, rfl⟩)
theorem nr_loop (hA : ∀ b, Az V b) (st : Value) (b o m c : Nat) (a' : Option Addr) (ha : 0 < m -> a' = some ⟨b, o, none⟩) (l : List Int) (hl : l.length = m) (hm : m <= 17592186044416) (cs : List Frame) (w0 : World) (hne : b ≠ rb /\ b ≠ sb) (hz : ∀ (j : Nat) (z : Int), l[j]? = some z -> w0.cell? ⟨b, o + j, none⟩ = some (.int .i64 z)) :
  ∀ (r j : Nat) (s : Rg) (u : Nat -> Value) (w : World), j + r = m -> RgI rb sb n s w -> (∀ x, x < w0.heap.size -> x ≠ rb -> x ≠ sb -> w.heap[x]? = w0.heap[x]?) -> w0.heap.size <= w.heap.size ->
   Walk prog main (DR V) (fun gr w' => (∃ u, gr = G (hdNr st rb (.slice a' m c) m m u) cs) /\ RgI rb sb n (rgAll n j (l.drop j) s) w' /\ (∀ x, x < w0.heap.size -> x ≠ rb -> x ≠ sb -> w'.heap[x]? = w0.heap[x]?) /\ w0.heap.size <= w'.heap.size) (G (hdNr st rb (.slice a' m c) m j u) cs) w := by
 intro r
 induction r with
 | zero =>
  intro j s u w hj I hO hS
  have hj : j = m := hj
  subst hj
  refine .stop fun d => ⟨⟨u, rfl⟩, ?_, hO, hS⟩
  rw [List.drop_eq_nil_of_le (by omega)]
  exact ⟨I.hd, I.sl, I.pos⟩
 | succ r ih =>
  intro j s u w hj I hO hS
  have hjm : j < m := by omega
  obtain rfl := ha (by omega)
  obtain ⟨z, hzz⟩ : ∃ z, l[j]? = some z := ⟨_, List.getElem?_eq_getElem (by omega)⟩
  have hc0 := hz j z hzz
  have hb : b < w0.heap.size := Al hc0
  have hc1 : w.cell? ⟨b, o + j, none⟩ = some (.int .i64 z) := (cBk (a := ⟨b, o + j, none⟩) (hO b hb hne.1 hne.2)).trans hc0
  refine (nr_go hA st b o m c j z s hjm hm u cs w I hc1).then ?_
  rintro _ w2 ⟨⟨u2, rfl⟩, I2, O2, S2⟩
  refine (ih (j + 1) _ u2 w2 (by omega) I2 (fun x hx h1 h2 => (O2 x (by omega) h1 h2).trans (hO x hx h1 h2)) (by omega)).mono ?_
  rintro _ w3 ⟨hu, I3, O3, S3⟩
  refine ⟨hu, ?_, O3, S3⟩
  have hd : l.drop j = z :: l.drop (j + 1) := by
   obtain ⟨h, e⟩ := lEs hzz
   rw [<- e]
   exact List.drop_eq_getElem_cons h
  rw [hd]
  exact I3
end
section
variable {main : Bool} {V : Nat -> Option Wait}
theorem nr_in (b o y c : Nat) (hcap : y + 1 <= c) (x : Int) (hx : x <= 65536) (hok : Qw (max x 0)) (hA : ∀ b, Az V b) (cs : List Frame) (w : World) (hc : w.cell? ⟨b, o, none⟩ = some (.int .i64 x)) :
  Walk prog main (DR V) (fun gr w' => (∃ u a', (0 < y -> a' = some ⟨b, o + 1, none⟩) /\ gr = G (hdNr (.slice (some ⟨b, o, none⟩) (y + 1) c) (w.heap.size + 1) (.slice a' y (c - 1)) y 0 u) cs) /\ NwR w (w.heap.size + 1) w.heap.size (max x 0).toNat (max x 0).toNat w') (G (Frame.enter prog 108 #[.slice (some ⟨b, o, none⟩) (y + 1) c] .normal) cs) w := by
 have hmx := @Hl prog
 have i0 : (0 : Int) <= 0 := by omega
 have hnew := new_w (main := main) (V := V) (max x 0) hok w (fun b _ => hA b)
 have hu64 : prog.underlying 31 = some (.slice 2) := by kernel_rfl
 have hi64 := Option.some_get (show (prog.info? 2).isSome = true by kernel_rfl)
 obtain ⟨a', ha', htl⟩ := run_tail (P := prog) hu64 hi64.symm (by rfl) b o y c hcap
 have ht1 := fun w => (htl w #[]).1
 have ht2 := fun w es => (htl w es).2
 clear htl hok hi64
 generalize hln : y + 1 = ln at *
 have i1 : (0 : Int) < (ln : Int) := by omega
 have i5 : 0 < ln := by omega
 have i2 : ((ln : Int) == 0) = false := by simp; omega
 have i3 : (ln == 0) = false := by simp; omega
 have i4 : decide (65536 < x) = false := by simp [hx]
 rw [enter_at _ func108 code108_is]
 simp only [ntmps108, ez, Nat.reduceAdd, Nat.reduceSub]
 refine Aa z108 ?_
 refine qW (Post := fun v w' => v = .tuple #[.pointer (some ⟨w.heap.size + 1, 0, none⟩), .int .i64 0] /\ NwR w (w.heap.size + 1) w.heap.size (max x 0).toNat (max x 0).toNat w') func14 ?_ ?_
 ·walk_nrm
  exact hnew
 rintro v w1 ⟨rfl, E⟩
 clear hnew hc
 walk_nrm
 refine Aa z108 ?_
 refine cLp ?_
 refine .stop fun d => ⟨?_, E.at d⟩
 refine (Ak (F := fun u => G (hdNr (.slice (some ⟨b, o, none⟩) ln c) (w.heap.size + 1) (.slice a' y (c - 1)) y 0 u) cs) ?_).imp fun u hu => ⟨a', ha', hu⟩
 simp only [hdNr]
 rfl
end
def Qx (xs : List Int) : Prop := ∃ x l, xs = x :: l /\ x <= 65536 /\ Qw (max x 0)
def Lv (xs : List Int) : Nat := (max (xs.headD 0) 0).toNat
def r0R (xs : List Int) : Rg := rgAll (Lv xs) 0 xs.tail (Ho (Lv xs))
section
variable {main : Bool} {V : Nat -> Option Wait}
theorem newRing_w (hA : ∀ b, Az V b) (xa : Option Addr) (xs : List Int) (xc : Nat) (hr : Qx xs) (hxn : xs.length <= 17592186044416) (w : World) (hx : LsR (.slice xa xs.length xc) xs w) :
  CallW prog main V 108 #[.slice xa xs.length xc] w (fun v w' => v = .pointer (some ⟨w.heap.size + 1, 0, none⟩) /\ RgI (w.heap.size + 1) w.heap.size (Lv xs) (r0R xs) w' /\ (∀ b, b < w.heap.size -> w'.heap[b]? = w.heap[b]?) /\ w.heap.size <= w'.heap.size) := fun fr cs => by
 obtain ⟨x, l, rfl, h1, hok⟩ := hr
 obtain ⟨a, c, e, hcap, _, h⟩ := hx
 injection e with e1 _ e3
 obtain ⟨b, o, e2, hc⟩ := h 0 x rfl
 subst e1 e3 e2
 have hb : b < w.heap.size := Al hc
 have hz : ∀ (j : Nat) (z : Int), l[j]? = some z -> w.cell? ⟨b, o + 1 + j, none⟩ = some (.int .i64 z) := fun j z hz => by
  obtain ⟨b', o', e', hc'⟩ := h (j + 1) z (by simpa using hz)
  cases e'
  rw [show o + 1 + j = o + (j + 1) by omega]
  exact hc'
 have hl : l.length <= 17592186044416 := by simp only [List.length_cons] at hxn; omega
 refine (nr_in b o l.length xc hcap x h1 hok hA (fr :: cs) w hc).then ?_
 rintro _ w1 ⟨⟨u, a', ha', rfl⟩, E⟩
 refine (nr_loop hA _ b (o + 1) l.length (xc - 1) a' ha' l rfl hl (fr :: cs) w1 ⟨by omega, by omega⟩ (fun j z hj => (cBk (a := ⟨b, o + 1 + j, none⟩) (E.old b hb)).trans (hz j z hj)) l.length 0 _ u w1 (Nat.zero_add _) E.I (fun _ _ _ _ => rfl) (Nat.le_refl _)).then ?_
 rintro _ w2 ⟨⟨u2, rfl⟩, I2, O2, S2⟩
 refine (nr_out _ _ l.length u2 fr cs w2).mono ?_
 rintro _ _ ⟨rfl, d, rfl⟩
 have hs := E.size
 exact ⟨_, ⟨rfl, ⟨I2.hd, I2.sl, I2.pos⟩, fun x hx => (O2 x (by omega) (by omega) (by omega)).trans (E.old x hx), by show w.heap.size <= w2.heap.size; omega⟩, rfl⟩
end
end Go.Proofs.Ytflcclneedldoaa
