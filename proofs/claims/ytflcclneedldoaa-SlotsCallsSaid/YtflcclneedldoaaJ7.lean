/- Part 7. -/
import Derived.Test.YtflcclneedldoaaJ3
import Derived.Test.YtflcclneedldoaaJ4
import Derived.Test.YtflcclneedldoaaJ6
set_option linter.unusedSimpArgs false
set_option linter.unusedVariables false
set_option maxHeartbeats 8000000
set_option maxRecDepth 100000
namespace Go.Proofs.Ytflcclneedldoaa
noncomputable section
open Go.Conc Go.RowKit Go.Relay Try
open Go.ConcN (upd upd_ne upd_same)
section
variable {main : Bool} {V : Nat -> Option Wait}
def Ep : Code := match f171.body with | some (.seq _ (.seq _ (.seq (.seq _ (.block _ (.loop c))) _))) => c | _ => .skip
def Gd : Code := match f171.body with | some (.seq _ (.seq _ (.seq _ c))) => c | _ => .skip
def Hp (B sb n scap q j : Nat) (u : Nat -> Value) : Frame :=
 (base 171).at { tmps := #[.pointer (some ⟨B, 0, none⟩), undef, .slice none 0 0, .slice (some ⟨q, 0, none⟩) n n, u 4, u 5, .pointer (some ⟨B, 0, none⟩), .pointer (some ⟨B, 0, none⟩), .pointer (some ⟨B, 0, none⟩), .slice (some ⟨sb, 0, none⟩) n scap, .int .i64 n, .slice (some ⟨q, 0, none⟩) n n, .pointer (some ⟨B, 0, none⟩), .pointer (some ⟨B, 0, none⟩), .pointer (some ⟨B, 0, none⟩), .slice (some ⟨sb, 0, none⟩) n scap, .int .i64 n, .int .i64 j, u 18, u 19, u 20, u 21, u 22, u 23, u 24, u 25, u 26, u 27, u 28, u 29, u 30, u 31, u 32, u 33, u 34, u 35, u 36, u 37], defers := [] } [.code Ep, .inLoop Ep, .inBlock 0, .code Gd]
def Mz : Code := match Ep with | .seq _ (.seq _ (.seq (.block _ (.seq _ c)) _)) => c | _ => .skip
def ops56w : Array Oper := match Mz with | .seq (.seq _ (.cond _ (.region _ ops _) _)) _ => ops | _ => #[]
def Ps : Code := match Mz with | .seq _ c => c | _ => .skip
def post56 : Code := match Ep with | .seq _ (.seq _ (.seq _ c)) => c | _ => .skip
def Qq (B sb n scap q j p : Nat) (u : Nat -> Value) : Frame :=
 (base 171).at { tmps := #[.pointer (some ⟨B, 0, none⟩), undef, .slice none 0 0, .slice (some ⟨q, 0, none⟩) n n, .int .i64 j, .pointer (some ⟨p, 0, none⟩), .pointer (some ⟨B, 0, none⟩), .pointer (some ⟨B, 0, none⟩), .pointer (some ⟨B, 0, none⟩), .slice (some ⟨sb, 0, none⟩) n scap, .int .i64 n, .slice (some ⟨q, 0, none⟩) n n, .pointer (some ⟨B, 0, none⟩), .pointer (some ⟨B, 0, none⟩), .pointer (some ⟨B, 0, none⟩), .slice (some ⟨sb, 0, none⟩) n scap, .int .i64 n, .int .i64 j, .bool true, .int .i64 j, .pointer (some ⟨sb, j, none⟩), .pointer (some ⟨p, 0, none⟩), .pointer (some ⟨p, 0, none⟩), .pointer (some ⟨p, 0, none⟩), .pointer (some ⟨p, 2, none⟩), .bool false, .bool true, .pointer (some ⟨p, 0, none⟩), u 28, u 29, u 30, u 31, u 32, u 33, u 34, u 35, u 36, u 37], defers := [] } [.inRegion ops56w [1], .code Ps, .inBlock 1, .code post56, .inLoop Ep, .inBlock 0, .code Gd]
theorem end_in (B sb n scap : Nat) (cs : List Frame) (w : World) (hn : n <= 64) (h0 : w.cell? ⟨B, 0, none⟩ = some (.slice (some ⟨sb, 0, none⟩) n scap)) :
  Walk prog main (DR V) (fun g w' => g = G (Hp B sb n scap w.heap.size 0 (fun _ => undef)) cs /\ ∃ d, w' = (w.alloc (.cells (madeCells #[.bool false] n) 4)).at d) (G (Frame.enter prog 171 #[.pointer (some ⟨B, 0, none⟩)] .normal) cs) w := by
 rw [enter_at _ func171 rfl]
 simp only [f171, ez, Nat.reduceAdd, Nat.reduceSub]
 refine Ae ?_
 have hi4 := Option.some_get (show (prog.info? 4).isSome = true by kernel_rfl)
 refine Fj 204 (.tmp 10) (.tmp 10) rfl (by rfl) (by decide) rfl 4 _ (.bool false) 1 1 (by kernel_rfl) hi4.symm (by rfl) (by rfl) (by rfl) n (by rfl) (by rfl) (by omega) (by omega) ?_
 have h0' := Aj w (.cells (madeCells #[.bool false] n) 4) h0
 walk_nrm
 simp only [Value.cells, Nat.mul_one]
 refine Ae ?_
 refine cLp ?_
 refine .stop fun d => ⟨?_, d, rfl⟩
 simp only [Hp, Ep, Gd, f171]
 rfl
theorem end_go {Stop : Goroutine -> World -> Prop} (B sb n scap q j p : Nat) (u : Nat -> Value) (cs : List Frame) (w : World) (hj : j < n) (hp : w.cell? ⟨sb, j, none⟩ = some (.pointer (some ⟨p, 0, none⟩))) (hpe : w.cell? ⟨p, 2, none⟩ = some (.bool false))
  (hk : Walk prog main (DR V) Stop (G (Frame.enter prog 207 #[.pointer (some ⟨p, 0, none⟩)] .normal) (Qq B sb n scap q j p u :: cs)) w) :
  Walk prog main (DR V) Stop (G (Hp B sb n scap q j u) cs) w := by
 unfold Hp
 simp only [Qq, ops56w, Ps, Mz, post56, Ep, Gd, f171] at hk
 simp only [Ep, Gd, f171]
 have hi0 : (0 : Int) <= j := by omega
 have hi1 : decide ((j : Int) < n) = true := by simp; omega
 have hi2 : decide (n <= j) = false := by simp; omega
 have hi3 : decide (j < n) = true := by simp; omega
 refine Ae ?_
 refine Walk.callE rfl (by rfl) (by decide) rfl func207 (by kernel_rfl) (by rfl) ?_
 walk_nrm
 exact hk
theorem end_back (B sb n scap q j p : Nat) (br x : Bool) (u : Nat -> Value) (cs : List Frame) (w : World) (hj : j < n) (hn : n <= 64) (hpb : w.cell? ⟨p, 3, none⟩ = some (.bool br))
  (hq : w.cell? ⟨q, j, none⟩ = some (.bool x)) (hqz : w.frozen? ⟨q, j, none⟩ = false) (hqf : Dm V ⟨q, j, none⟩) :
  Walk prog main (DR V) (fun g w' => (∃ u', g = G (Hp B sb n scap q (j + 1) u') cs) /\ ∃ d, w' = (w.setCell ⟨q, j, none⟩ (.bool br)).at d) (G ((Qq B sb n scap q j p u).finish (.tuple #[])) cs) w := by
 unfold Qq
 rw [Frame.finish_at]
 simp only [ops56w, Ps, Mz, post56, Ep, Gd, f171]
 have hi0 : (0 : Int) <= j := by omega
 have hi2 : decide (n <= j) = false := by simp; omega
 have hw1 := wI ((j : Int) + 1)
 walk_nrm
 refine Ae ?_
 (refine Ws hqf hq ?_; try walk_nrm)
 refine Ae ?_
 refine cIL ?_
 refine .stop fun d' => ⟨⟨fun k => ([undef, undef, undef, undef, .int .i64 j, .pointer (some ⟨p, 0, none⟩), undef, undef, undef, undef, undef, undef, undef, undef, undef, undef, undef, undef, .bool true, .int .i64 j, .pointer (some ⟨sb, j, none⟩), .pointer (some ⟨p, 0, none⟩), .pointer (some ⟨p, 0, none⟩), .pointer (some ⟨p, 0, none⟩), .pointer (some ⟨p, 2, none⟩), .bool false, .bool true, .pointer (some ⟨p, 0, none⟩), .tuple #[], .slice (some ⟨q, 0, none⟩) n n, .int .i64 j, .pointer (some ⟨p, 0, none⟩), .pointer (some ⟨p, 0, none⟩), .pointer (some ⟨p, 3, none⟩), .bool br, .pointer (some ⟨q, j, none⟩), .int .i64 ((j : Int) + 1), u 37] : List Value).getD k undef, ?_⟩, d', rfl⟩
 have hc : ((j + 1 : Nat) : Int) = (j : Int) + 1 := by simp
 simp only [Hp, Ep, Gd, f171, hc]
 rfl
theorem end_out (B sb n scap q : Nat) (u : Nat -> Value) (c : Frame) (cs : List Frame) (w : World) :
  Walk prog main (DR V) (fun g w' => g = G (c.finish (.slice (some ⟨q, 0, none⟩) n n)) cs /\ ∃ d, w' = w.at d) (G (Hp B sb n scap q n u) (c :: cs)) w := by
 unfold Hp
 simp only [Ep, Gd, f171]
 have hi1 : decide ((n : Int) < n) = false := by simp
 have hi3 : decide (n < n) = false := by simp
 refine Ae ?_
 exact (Ar (Post := fun v w' => v = .slice (some ⟨q, 0, none⟩) n n /\ ∃ d, w' = w.at d) rfl rfl func171 rfl fun d => ⟨by simp, d, rfl⟩).mono fun g w' ⟨v, ⟨e, d, e'⟩, hg⟩ => ⟨by rw [hg, e], d, e'⟩
theorem end_skip (B sb n scap q j p : Nat) (br x : Bool) (u : Nat -> Value) (cs : List Frame) (w : World) (hj : j < n) (hn : n <= 64) (hp : w.cell? ⟨sb, j, none⟩ = some (.pointer (some ⟨p, 0, none⟩))) (hpe : w.cell? ⟨p, 2, none⟩ = some (.bool true)) (hpb : w.cell? ⟨p, 3, none⟩ = some (.bool br))
  (hq : w.cell? ⟨q, j, none⟩ = some (.bool x)) (hqz : w.frozen? ⟨q, j, none⟩ = false) (hqf : Dm V ⟨q, j, none⟩) :
  Walk prog main (DR V) (fun g w' => (∃ u', g = G (Hp B sb n scap q (j + 1) u') cs) /\ ∃ d, w' = (w.setCell ⟨q, j, none⟩ (.bool br)).at d) (G (Hp B sb n scap q j u) cs) w := by
 unfold Hp
 simp only [Ep, Gd, f171]
 have hi0 : (0 : Int) <= j := by omega
 have hi1 : decide ((j : Int) < n) = true := by simp; omega
 have hi2 : decide (n <= j) = false := by simp; omega
 have hi3 : decide (j < n) = true := by simp; omega
 have hw1 := wI ((j : Int) + 1)
 refine Ae ?_
 (refine Ws hqf hq ?_; try walk_nrm)
 refine Ae ?_
 refine cIL ?_
 refine .stop fun d' => ⟨⟨fun k => ([undef, undef, undef, undef, .int .i64 j, .pointer (some ⟨p, 0, none⟩), undef, undef, undef, undef, undef, undef, undef, undef, undef, undef, undef, undef, .bool true, .int .i64 j, .pointer (some ⟨sb, j, none⟩), .pointer (some ⟨p, 0, none⟩), .pointer (some ⟨p, 0, none⟩), .pointer (some ⟨p, 0, none⟩), .pointer (some ⟨p, 2, none⟩), .bool true, .bool false, u 27, u 28, .slice (some ⟨q, 0, none⟩) n n, .int .i64 j, .pointer (some ⟨p, 0, none⟩), .pointer (some ⟨p, 0, none⟩), .pointer (some ⟨p, 3, none⟩), .bool br, .pointer (some ⟨q, j, none⟩), .int .i64 ((j : Int) + 1), u 37] : List Value).getD k undef, ?_⟩, d', rfl⟩
 have hc : ((j + 1 : Nat) : Int) = (j : Int) + 1 := by simp
 simp only [Hp, Ep, Gd, f171, hc]
 rfl
end
theorem Ou {fr : Frame} {fn : Func} (h : prog.funcs[fr.fn]? = some fn) : fr.catches prog = false := by
 unfold Frame.catches
 rw [h]
section
variable {main : Bool} {V : Nat -> Option Wait}
theorem pops {Stop : Goroutine -> World -> Prop} {ch : List PanicEntry} {f : Frame} {fs : List Frame} {w : World} (hk : Walk prog main (DR V) Stop (G (f.raise ch) fs) w) (l : List Frame) (hl : ∀ f ∈ l, Cf f) {fr : Frame} (hm : fr.mode = .panicking ch) (hd : fr.defers = []) (hc : fr.catches prog = false) :
  Walk prog main (DR V) Stop (G fr (l ++ f :: fs)) w := by
 induction l generalizing fr with
 | nil =>
  rw [List.nil_append]
  exact Walk.ctl rfl (fun w => stepG_pop hm hd hc) hk
 | cons c l ih =>
  obtain ⟨h1, h2, fn, h3⟩ := hl c (by simp)
  have hr : c.raise ch = { c with mode := .panicking ch } := by unfold Frame.raise; rw [h2]
  rw [List.cons_append]
  refine Walk.ctl rfl (fun w => stepG_pop hm hd hc) ?_
  exact ih (fun f hf => hl f (by simp [hf])) (by rw [hr]) (by rw [hr]; exact h1) (Ou (fn := fn) (by rw [hr]; exact h3))
end
structure Fini {S : Stile} {X : Type} (C : Crew S X) (n0 : Nat) (D : Dyn) (x : X) (w : World) (q j : Nat) : Prop where
 sys : Sys S n0 D w
 inv : C.inv D.k (upd D.own q (some .ord)) x D.cs w
 qo : D.own q = none
 qh : ∃ arr, w.heap[q]? = some (.cells arr 4 (0, 0)) /\ ∀ i, i < S.n -> arr[i]? = some (.bool (decide (i < j) && (C.out x i == some true)))
 hi : ∀ i, j <= i -> i < S.n -> D.f i = D.e i /\ D.e i = (C.out x i).isSome
 lo : ∀ i, i < j -> D.e i = true
 b : ∀ i, i < S.n -> D.b i = (C.out x i == some true)
 k : D.k = S.n
section
variable {S : Stile} {X : Type} {C : Crew S X} {n0 : Nat} {D D' : Dyn} {w w' : World} {i j q nG : Nat} {m : Machine} {T : Trace} {l : List Frame} {x : X} {home : Goroutine -> Prop}
theorem Keeps.more {o o' : Nat -> Option Role} {w w' : World} (h : Keeps o o w w') (ho : ∀ b, o' b = none -> o b = none) : Keeps o' o' w w' := ⟨h.size, fun b hb hn => ⟨hn, (h.same b hb (ho b hn)).2⟩⟩
theorem Sys.weak (H : Sys S n0 D w) (j : Nat) : Sys S n0 { D with e := upd D.e j true } w := by
 refine H.put rfl rfl rfl rfl rfl rfl (Nat.le_refl _) (fun b x _ h => ?_) fun _ _ => rfl
 refine h.of_same (fun i _ => ⟨rfl, rfl⟩) (fun _ => ⟨rfl, rfl, rfl, rfl⟩) fun i _ z => ?_
 by_cases ei : i = j
 ·subst ei; simp only [upd_same] at z; cases z
 ·simpa only [upd_ne _ _ ei] using z
theorem Fini.lt (H : Fini C n0 D x w q j) : q < w.heap.size := by
 obtain ⟨arr, h, _⟩ := H.qh
 exact (aEs h).1
theorem free_q (qo : D.own q = none) (H : Sys S n0 D w) (i : Nat) : Dm (VV S D none none) ⟨q, i, none⟩ :=
 Kw (fun v h => by cases h) fun i' hi' e => by
  have h1 := H.op i' (Nat.lt_of_lt_of_le hi' H.kn)
  rw [<- show q = S.p i' from congrArg Addr.block e, qo] at h1
  cases h1
theorem Fini.next (hs : Sys S n0 D' w) (hi : C.inv D'.k (upd D'.own q (some .ord)) x D'.cs w) (qo : D'.own q = none) (qh : ∃ arr, w.heap[q]? = some (.cells arr 4 (0, 0)) /\ ∀ i, i < S.n -> arr[i]? = some (.bool (decide (i < j) && (C.out x i == some true))))
  (hhi : ∀ i, j + 1 <= i -> i < S.n -> D'.f i = D'.e i /\ D'.e i = (C.out x i).isSome) (hlo : ∀ i, i < j + 1 -> D'.e i = true) (hb : ∀ i, i < S.n -> D'.b i = (C.out x i == some true)) (hk : D'.k = S.n) (hj : j < S.n) {br : Bool} (hbr : br = (C.out x j == some true)) (d : Nat) :
  Fini C n0 D' x ((w.setCell ⟨q, j, none⟩ (.bool br)).at d) q (j + 1) := by
 obtain ⟨arr, h, ha⟩ := qh
 refine ⟨Sys.at (hs.same (Nat.le_of_eq (Ai ..).symm) fun b x hx => Ac w _ b _ fun e => ?_) d, C.keep hi ((Keeps.set (a := ⟨q, j, none⟩) (r := .ord) _ (upd_same _ q _)).at d), qo, ⟨_, Ao w _ h, fun i hi => ?_⟩, hhi, hlo, hb, hk⟩
 ·subst e; rw [qo] at hx; cases hx
 ·have hl : j < arr.size := (aEs (ha j hj)).1
  by_cases e : i = j
  ·subst e
   rw [Array.getElem?_setIfInBounds_self_of_lt hl, hbr]
   simp
  ·rw [Array.getElem?_setIfInBounds_ne (Ne.symm e), ha i hi]
   have : decide (i < j) = decide (i < j + 1) := by
    by_cases h : i < j
    ·simp [h, Nat.lt_succ_of_lt h]
    ·have : ¬ i < j + 1 := by omega
     simp [h, this]
   rw [this]
theorem end_one {u : Nat -> Value} {cs0 : List Frame} (hF : Fini C n0 D x w q j) (hj : j < S.n)
  (A : At prog (VV S D none none) 0 (S.g0 + S.n) (G (Hp S.B S.sb S.n S.scap q j u) cs0) w m T) :
  Relay.Comes prog (fun m' T' => ∃ D' w' u', At prog (VV S D' none none) 0 (S.g0 + S.n) (G (Hp S.B S.sb S.n S.scap q (j + 1) u') cs0) w' m' T' /\ Fini C n0 D' x w' q (j + 1) /\ D'.ord = D.ord /\ D'.oa = D.oa /\ D'.oc = D.oc) m T := by
 have hs := hF.sys
 have hg0 := hs.hg0
 have hjk : j < D.k := by rw [hF.k]; exact hj
 obtain ⟨hfe, heo⟩ := hF.hi j (Nat.le_refl _) hj
 have hqf := free_q hF.qo hs j
 cases he : D.e j with
 | true =>
  obtain ⟨arr, h, ha⟩ := id hF.qh
  refine (At.walk (h := 0) (end_skip S.B S.sb S.n S.scap q j (S.p j) (D.b j) _ u cs0 w hj hs.n64 (hs.ss hj) (by rw [hs.p2 hj, hfe, he]) (hs.p3 hj) ((Ab h j).trans (ha j hj)) (Av h j) hqf) A).mono ?_
  rintro m1 T1 ⟨_, _, ⟨⟨u', rfl⟩, d, rfl⟩, A1⟩
  exact ⟨D, _, u', A1, Fini.next hs hF.inv hF.qo hF.qh (fun i h1 h2 => hF.hi i (by omega) h2) (fun i hi => by
   by_cases e : i = j
   ·subst e; exact he
   ·exact hF.lo i (by omega)) hF.b hF.k hj (hF.b j hj) d, rfl, rfl, rfl⟩
 | false =>
  have hf : D.f j = false := hfe.trans he
  have hout : C.out x j = none := by rw [he] at heo; exact Option.not_isSome_iff_eq_none.1 (by rw [<- heo]; simp)
  have hjb : D.b j = false := by rw [hF.b j hj, hout]; rfl
  refine (At.walk (h := 0) (Stop := fun g w' => g = rec82 (S.p j) (S.t j) (Qq S.B S.sb S.n S.scap q j (S.p j) u :: cs0) /\ ∃ d, w' = w.at d) (end_go S.B S.sb S.n S.scap q j (S.p j) u cs0 w hj (hs.ss hj) (hf ▸ hs.p2 hj) (end1_in _ _ _ _ (hs.p0 hj))) A).bind ?_
  rintro m1 T1 ⟨_, _, ⟨rfl, d1, rfl⟩, A1⟩
  generalize hmw : Gq S j (fun g => g = rec107 (S.p j) (S.r j) (fr82 (S.p j) (S.t j) :: Qq S.B S.sb S.n S.scap q j (S.p j) u :: cs0)) = mw
  have hm : MW S j mw := hmw ▸ Py _ _ _
  refine (A1.shut (v := wT S D j) (j := S.g0 + j) (a' := rec82a (S.p j) (S.t j) (Qq S.B S.sb S.n S.scap q j (S.p j) u :: cs0)) (new := some mw) (by omega) (by omega) (VV_at hg0 hjk he (by simp)) rfl (wake82 ..) rfl (fun d k hk => close82 _ _ _ _ k hk) ?_).bind ?_
  ·rw [<- hmw]
   exact Lj (hs.at d1) hj he hf fun main => end1_way _ _ _ _ _ rfl rfl rfl (Lk hs hj).2.2.1 (Lk hs hj).2.2.2 rfl
  rintro m2 T2 ⟨_, d2, k, rfl, A2⟩
  rw [after_main.resolve_right (by omega)] at A2
  simp only [wT] at A2
  have H2 : Sys S n0 { D with e := upd D.e j true } (((w.at d1).at d2).setChan (S.t j) 0 #[] true k k false) := (((hs.at d1).at d2).weak j).shut (j := j) (upd_same _ _ _) (.inl (hs.ot j hj))
  have K2 : Keeps D.own D.own w (((w.at d1).at d2).setChan (S.t j) 0 #[] true k k false) := (((Keeps.refl D.own w).at d1).at d2).trans (Keeps.chan (hs.ot j hj) true k)
  have N2 : (((w.at d1).at d2).setChan (S.t j) 0 #[] true k k false).heap[D.N j]? = some (.cells #[.bool false] 4) := by
   rw [heap_setChan_ne _ _ _ _ _ _ _ (hs.two (hs.ot j hj) (hs.oN j hjk) (by simp))]
   exact hs.good _ _ (hs.oN j hjk) he
  generalize ((w.at d1).at d2).setChan (S.t j) 0 #[] true k k false = w2 at A2 H2 K2 N2
  generalize hD1 : ({ D with e := upd D.e j true } : Dyn) = D1 at H2
  have h1k : D1.k = D.k := by rw [<- hD1]
  have h1e : D1.e = upd D.e j true := by rw [<- hD1]
  have h1b : D1.b = D.b := by rw [<- hD1]
  have h1f : D1.f = D.f := by rw [<- hD1]
  have h1c : D1.cs = D.cs := by rw [<- hD1]
  have h1N : D1.N = D.N := by rw [<- hD1]
  have h1o : D1.own = D.own := by rw [<- hD1]
  have h1r : D1.ord = D.ord /\ D1.oa = D.oa /\ D1.oc = D.oc := by rw [<- hD1]; exact ⟨rfl, rfl, rfl⟩
  rw [<- Pj (D' := D1) (D := D) h1k (fun i _ hx => by
   have : i ≠ j := fun e => hx (e ▸ rfl)
   rw [h1e, h1c, h1N, upd_ne _ _ this]; exact ⟨rfl, rfl, rfl⟩)] at A2
  have hj1 : j < D1.k := h1k ▸ hjk
  have hNj : D1.N j = D.N j := by rw [h1N]
  have hN3 : (w2.alloc (.cells #[] 68)).heap[D1.N j]? = some (.cells #[.bool false] 4) := by
   rw [hNj, Ad _ _ (h1N ▸ (H2.lt _ _ (H2.oN j hj1)).2)]; exact N2
  have hplain := (C.shape hF.inv hjk hout).2
  refine (Hf H2 hj1 (by omega) hm false (W := ((w2.alloc (.cells #[] 68)).alloc (.cells #[] 300)).setCell ⟨D1.N j, 0, none⟩ (.bool false)) (((Keeps.alloc _ w2 (.cells #[] 68)).trans (Keeps.alloc _ _ (.cells #[] 300))).trans (Keeps.set _ (H2.oN j hj1)))
   (((H2.alloc (.cells #[] 68)).alloc (.cells #[] 300)).ride hj1 _) (by
    refine (stop139 (S.p j) (S.r j) (S.t j) (D.cs j ++ bot S (D.N j) j) w2).then ?_
    rintro _ _ ⟨rfl, d, rfl⟩
    refine Walk.back ?_ d
    unfold Pu bot
    rw [<- hNj]
    refine pops ?_ (D.cs j) hplain rfl rfl (Ou func245)
    refine (ride_stopped (D1.N j) _ _ _ _ (w2.alloc (.cells #[] 68)) false ((Ab hN3 0).trans rfl) (Av hN3 0) (Kk H2 hj hm (H2.oN j hj1) (.inl ⟨_, rfl⟩))).mono ?_
    rintro g w' ⟨rfl, d, rfl⟩
    exact ⟨false, rfl, d, rfl⟩) A2 (D.cs j)).bind ?_
  rintro m5 T5 ⟨g₂, w5, hh, A5, H5, K5⟩
  rw [<- hmw] at hh
  simp only [Gq] at hh
  subst hh
  rw [h1o] at K5
  have KA := K2.trans K5
  have q5 : w5.heap[q]? = w.heap[q]? := (KA.same q hF.lt hF.qo).2
  have hql : q < w5.heap.size := Nat.lt_of_lt_of_le hF.lt KA.size
  have hqo5 : (Bf D1 j (D.cs j) (some false)).own q = none := by simp only [Bf]; rw [h1o]; exact hF.qo
  have hqp : q ≠ S.p j := fun e => by have := hs.op j hj; rw [<- e, hF.qo] at this; cases this
  have H6 := (H5.alloc (.cells #[] 68)).flag hj true
  have K6 : Keeps D.own D.own w5 ((w5.alloc (.cells #[] 68)).setCell ⟨S.p j, 2, none⟩ (.bool true)) := (Keeps.alloc _ w5 (.cells #[] 68)).trans (Keeps.set _ (hs.op j hj))
  have q6 : ((w5.alloc (.cells #[] 68)).setCell ⟨S.p j, 2, none⟩ (.bool true)).heap[q]? = w.heap[q]? := by
   rw [Ac _ _ _ _ hqp, Ad _ _ hql]; exact q5
  obtain ⟨arr, h, ha⟩ := id hF.qh
  refine (At.walk (h := 0) (Stop := fun g w' => (∃ u', g = G (Hp S.B S.sb S.n S.scap q (j + 1) u') cs0) /\ ∃ d, w' = (((w5.alloc (.cells #[] 68)).setCell ⟨S.p j, 2, none⟩ (.bool true)).setCell ⟨q, j, none⟩ (.bool false)).at d)
   ((end1_back (S.p j) (S.t j) (S.r j) (Qq S.B S.sb S.n S.scap q j (S.p j) u) cs0 _ w5 (H5.p2 hj) (H5.pz hj 2) (Fi H5 (H5.op j hj) (.inr (by omega)))).then (by
    rintro _ _ ⟨rfl, d, rfl⟩
    refine Walk.back ?_ d
    refine end_back S.B S.sb S.n S.scap q j (S.p j) false _ u cs0 _ hj hs.n64 ?_ ((Ab (q6.trans h) j).trans (ha j hj)) (Av (q6.trans h) j) (free_q hqo5 H5 j)
    have := H6.p3 hj
    simp only [Bf, upd_same] at this
    exact this)) A5).mono ?_
  rintro m6 T6 ⟨_, _, ⟨⟨u', rfl⟩, d6, rfl⟩, A6⟩
  refine ⟨{ Bf D1 j (D.cs j) (some false) with f := upd (Bf D1 j (D.cs j) (some false)).f j true }, _, u', A6, Fini.next H6 ?_ hqo5 ⟨arr, q6.trans h, ha⟩ (fun i h1 h2 => ?_) (fun i hi => ?_) (fun i hi => ?_) (h1k.trans hF.k) hj (by rw [hout]; rfl) d6, h1r⟩
  ·simp only [Bf, h1k, h1o, h1c]
   rw [Pm _ rfl]
   refine C.keep hF.inv ((KA.trans K6).more fun b hb => ?_)
   by_cases e : b = q
   ·subst e; exact hF.qo
   ·rwa [upd_ne _ _ e] at hb
  ·have e : i ≠ j := by omega
   simp only [Bf, h1e, h1f, upd_ne _ _ e]
   exact hF.hi i (by omega) h2
  ·simp only [Bf, h1e]
   by_cases e : i = j
   ·subst e; rw [upd_same]; rfl
   ·rw [upd_ne _ _ e, upd_ne _ _ e]; exact hF.lo i (by omega)
  ·simp only [Bf, h1b]
   by_cases e : i = j
   ·subst e; rw [upd_same, hout]; rfl
   ·rw [upd_ne _ _ e]; exact hF.b i hi
theorem end_all {cs0 : List Frame} : ∀ (r j : Nat) {D : Dyn} {w : World} {u : Nat -> Value} {m : Machine} {T : Trace}, j + r = S.n -> Fini C n0 D x w q j ->
  At prog (VV S D none none) 0 (S.g0 + S.n) (G (Hp S.B S.sb S.n S.scap q j u) cs0) w m T ->
  Relay.Comes prog (fun m' T' => ∃ D' w' u', At prog (VV S D' none none) 0 (S.g0 + S.n) (G (Hp S.B S.sb S.n S.scap q S.n u') cs0) w' m' T' /\ Fini C n0 D' x w' q S.n /\ D'.ord = D.ord /\ D'.oa = D.oa /\ D'.oc = D.oc) m T
 | 0, j, D, w, u, m, T, hj, hF, A => by
  have hj : j = S.n := hj
  rw [hj] at A hF
  exact .now ⟨D, w, u, A, hF, rfl, rfl, rfl⟩
 | r + 1, j, D, w, u, m, T, hj, hF, A => by
  refine (end_one hF (by omega) A).bind ?_
  rintro m1 T1 ⟨D1, w1, u1, A1, hF1, ho, ha, hc⟩
  refine (end_all r (j + 1) (by omega) hF1 A1).mono ?_
  rintro m2 T2 ⟨D2, w2, u2, A2, hF2, ho2, ha2, hc2⟩
  exact ⟨D2, w2, u2, A2, hF2, ho2.trans ho, ha2.trans ha, hc2.trans hc⟩
end
section
variable {main : Bool} {V : Nat -> Option Wait}
def Fc : Code := match f170.body with | some (.seq (.seq _ (.block _ (.loop c))) _) => c | _ => .skip
def Ct : Code := match f170.body with | some (.seq _ c) => c | _ => .skip
def Qi : Code := match Fc with | .seq _ (.seq _ (.seq (.block _ (.seq _ (.seq _ c))) _)) => c | _ => .skip
def ops55a : Array Oper := match Qi with | .region _ ops _ => ops | _ => #[]
def post55 : Code := match Fc with | .seq _ (.seq _ (.seq _ c)) => c | _ => .skip
def Cx : Code := match Ct with | .block _ (.loop c) => c | _ => .skip
def Ln (B : Nat) (sa : Option Addr) (m c j : Nat) (u : Nat -> Value) : Frame :=
 (base 170).at { tmps := #[.pointer (some ⟨B, 0, none⟩), .slice sa m c, undef, undef, undef, u 5, u 6, .slice sa m c, .int .i64 m, .int .i64 j, u 10, u 11, u 12, u 13, u 14, u 15, u 16, u 17, u 18, u 19, u 20, u 21, u 22, u 23, u 24, u 25, u 26, u 27, u 28, u 29, u 30, u 31, u 32, u 33], defers := [] } [.code Fc, .inLoop Fc, .inBlock 0, .code Ct]
def fr55 (B s so m c j : Nat) (x : Int) (u : Nat -> Value) : Frame :=
 (base 170).at { tmps := #[.pointer (some ⟨B, 0, none⟩), .slice (some ⟨s, so, none⟩) m c, undef, undef, undef, .int .i64 x, u 6, .slice (some ⟨s, so, none⟩) m c, .int .i64 m, .int .i64 j, .bool true, .pointer (some ⟨s, so + j, none⟩), .int .i64 x, .pointer (some ⟨B, 0, none⟩), .bool false, .pointer (some ⟨B, 0, none⟩), .int .i64 x, u 17, u 18, u 19, u 20, u 21, u 22, u 23, u 24, u 25, u 26, u 27, u 28, u 29, u 30, u 31, u 32, u 33], defers := [] } [.inRegion ops55a [2], .inBlock 1, .code post55, .inLoop Fc, .inBlock 0, .code Ct]
def Ii (B : Nat) (sa : Option Addr) (m c : Nat) (u : Nat -> Value) : Frame :=
 (base 170).at { tmps := #[.pointer (some ⟨B, 0, none⟩), .slice sa m c, undef, undef, undef, u 5, u 6, .slice sa m c, u 8, u 9, u 10, u 11, u 12, u 13, u 14, u 15, u 16, u 17, u 18, u 19, u 20, u 21, u 22, u 23, u 24, u 25, u 26, u 27, u 28, u 29, u 30, u 31, u 32, u 33], defers := [] } [.code Cx, .inLoop Cx, .inBlock 2]
theorem follow_in (B : Nat) (sa : Option Addr) (m c : Nat) (cs : List Frame) (w : World) :
  Walk prog main (DR V) (fun g w' => (∃ u, g = G (Ln B sa m c 0 u) cs) /\ ∃ d, w' = w.at d) (G (Frame.enter prog 170 #[.pointer (some ⟨B, 0, none⟩), .slice sa m c] .normal) cs) w := by
 rw [enter_at _ func170 rfl]
 simp only [f170, ez, Nat.reduceAdd, Nat.reduceSub]
 refine Ae ?_
 refine cLp ?_
 refine .stop fun d => ⟨⟨fun _ => undef, ?_⟩, d, rfl⟩
 simp only [Ln, Fc, Ct, f170]
 rfl
theorem Md (B s so m c j : Nat) (x : Int) (going most : Int) (oa : Option Addr) (on oc : Nat) (u : Nat -> Value) (c' : Frame) (cs : List Frame) (w : World) (hj : j < m) (hs : w.cell? ⟨s, so + j, none⟩ = some (.int .i64 x))
  (h1 : w.cell? ⟨B, 1, none⟩ = some (.int .i64 going)) (h2 : w.cell? ⟨B, 2, none⟩ = some (.int .i64 most)) (h3 : w.cell? ⟨B, 3, none⟩ = some (.slice oa on oc)) (hov : (decide (going = 0) || decide (most <= on)) = true) :
  Walk prog main (DR V) (fun g w' => g = G (c'.finish (.tuple #[])) cs /\ ∃ d, w' = w.at d) (G (Ln B (some ⟨s, so, none⟩) m c j u) (c' :: cs)) w := by
 unfold Ln
 simp only [Fc, Ct, f170]
 have hi0 : (0 : Int) <= j := by omega
 have hi1 : decide ((j : Int) < m) = true := by simp; omega
 have hi2 : decide (m <= j) = false := by simp; omega
 have hi3 : decide (j < m) = true := by simp; omega
 refine Ae ?_
 refine Walk.callV (x := .bool true) (W := w) ?_ rfl (by rfl) (by decide) rfl func205 (by kernel_rfl) (by rfl) ?_
 ·walk_nrm
  have := Lh (main := main) (V := V) B going most oa on oc w h1 h2 h3
  rwa [hov] at this
 walk_nrm
 refine Ae ?_
 exact Walk.ctl rfl (fun w => stepG_leave rfl rfl func170 (results_none rfl _ _ w) (events_results_none rfl _ _)) (.stop fun d => ⟨rfl, d, rfl⟩)
theorem follow_go {Stop : Goroutine -> World -> Prop} (B s so m c j : Nat) (x : Int) (going most : Int) (oa : Option Addr) (on oc : Nat) (u : Nat -> Value) (cs : List Frame) (w : World) (hj : j < m) (hs : w.cell? ⟨s, so + j, none⟩ = some (.int .i64 x))
  (h1 : w.cell? ⟨B, 1, none⟩ = some (.int .i64 going)) (h2 : w.cell? ⟨B, 2, none⟩ = some (.int .i64 most)) (h3 : w.cell? ⟨B, 3, none⟩ = some (.slice oa on oc)) (hov : (decide (going = 0) || decide (most <= on)) = false)
  (hk : Walk prog main (DR V) Stop (G (Frame.enter prog 206 #[.pointer (some ⟨B, 0, none⟩), .int .i64 x] .normal) (fr55 B s so m c j x u :: cs)) w) :
  Walk prog main (DR V) Stop (G (Ln B (some ⟨s, so, none⟩) m c j u) cs) w := by
 unfold Ln
 simp only [fr55, ops55a, Qi, post55, Fc, Ct, f170] at hk
 simp only [Fc, Ct, f170]
 have hi0 : (0 : Int) <= j := by omega
 have hi1 : decide ((j : Int) < m) = true := by simp; omega
 have hi2 : decide (m <= j) = false := by simp; omega
 have hi3 : decide (j < m) = true := by simp; omega
 refine Ae ?_
 refine Walk.callV (x := .bool false) (W := w) ?_ rfl (by rfl) (by decide) rfl func205 (by kernel_rfl) (by rfl) ?_
 ·walk_nrm
  have := Lh (main := main) (V := V) B going most oa on oc w h1 h2 h3
  rwa [hov] at this
 walk_nrm
 refine Ae ?_
 refine Walk.callE rfl (by rfl) (by decide) rfl func206 (by kernel_rfl) (by rfl) ?_
 walk_nrm
 exact hk
theorem follow_next (B s so m c j : Nat) (x : Int) (u : Nat -> Value) (cs : List Frame) (w : World) (hj : j < m) (hm : m <= 17592186044416) :
  Walk prog main (DR V) (fun g w' => (∃ u', g = G (Ln B (some ⟨s, so, none⟩) m c (j + 1) u') cs) /\ ∃ d, w' = w.at d) (G ((fr55 B s so m c j x u).finish (.tuple #[])) cs) w := by
 unfold fr55
 rw [Frame.finish_at]
 simp only [ops55a, Qi, post55, Fc, Ct, f170]
 have hw1 := wI ((j : Int) + 1)
 walk_nrm
 refine Ae ?_
 refine cIL ?_
 refine .stop fun d' => ⟨⟨fun k => ([.pointer (some ⟨B, 0, none⟩), .slice (some ⟨s, so, none⟩) m c, undef, undef, undef, .int .i64 x, u 6, .slice (some ⟨s, so, none⟩) m c, .int .i64 m, .int .i64 ((j : Int) + 1), .bool true, .pointer (some ⟨s, so + j, none⟩), .int .i64 x, .pointer (some ⟨B, 0, none⟩), .bool false, .pointer (some ⟨B, 0, none⟩), .int .i64 x, .tuple #[], .int .i64 ((j : Int) + 1), u 19, u 20, u 21, u 22, u 23, u 24, u 25, u 26, u 27, u 28, u 29, u 30, u 31, u 32, u 33] : List Value).getD k undef, ?_⟩, d', rfl⟩
 have hc : ((j + 1 : Nat) : Int) = (j : Int) + 1 := by simp
 simp only [Ln, Fc, Ct, f170, hc]
 rfl
theorem Mc (B : Nat) (sa : Option Addr) (m c : Nat) (u : Nat -> Value) (cs : List Frame) (w : World) :
  Walk prog main (DR V) (fun g w' => (∃ u', g = G (Ii B sa m c u') cs) /\ ∃ d, w' = w.at d) (G (Ln B sa m c m u) cs) w := by
 unfold Ln
 simp only [Fc, Ct, f170]
 have hi1 : decide ((m : Int) < m) = false := by simp
 have hi3 : decide (m < m) = false := by simp
 refine Ae ?_
 refine cLp ?_
 refine .stop fun d' => ⟨⟨fun k => ([.pointer (some ⟨B, 0, none⟩), .slice sa m c, undef, undef, undef, u 5, u 6, .slice sa m c, .int .i64 m, .int .i64 m, .bool false, u 11, u 12, u 13, u 14, u 15, u 16, u 17, u 18, u 19, u 20, u 21, u 22, u 23, u 24, u 25, u 26, u 27, u 28, u 29, u 30, u 31, u 32, u 33] : List Value).getD k undef, ?_⟩, d', rfl⟩
 simp only [Ii, Cx, Ct, f170]
 rfl
def Ed : Code := match Cx with | .seq _ (.block _ (.seq _ (.block _ (.loop c)))) => c | _ => .skip
def ops55c : Array Oper := match Ed with | .seq _ (.seq _ (.seq (.block _ (.seq _ (.region _ ops _))) _)) => ops | _ => #[]
def Pv : Code := match Ed with | .seq _ (.seq _ (.seq _ c)) => c | _ => .skip
def Ki (B : Nat) (sa : Option Addr) (m c n j : Nat) (u : Nat -> Value) : Frame :=
 (base 170).at { tmps := #[.pointer (some ⟨B, 0, none⟩), .slice sa m c, undef, undef, undef, u 5, u 6, .slice sa m c, u 8, u 9, u 10, u 11, u 12, u 13, u 14, u 15, u 16, u 17, u 18, u 19, u 20, u 21, u 22, u 23, u 24, u 25, .int .i64 n, .int .i64 j, u 28, u 29, u 30, u 31, u 32, u 33], defers := [] } [.code Ed, .inLoop Ed, .inBlock 4, .inBlock 3, .inLoop Cx, .inBlock 2]
def Qr (B : Nat) (sa : Option Addr) (m c n j : Nat) (u : Nat -> Value) : Frame :=
 (base 170).at { tmps := #[.pointer (some ⟨B, 0, none⟩), .slice sa m c, undef, undef, undef, u 5, .int .i64 j, .slice sa m c, u 8, u 9, u 10, u 11, u 12, u 13, u 14, u 15, u 16, u 17, u 18, u 19, u 20, u 21, u 22, u 23, u 24, u 25, .int .i64 n, .int .i64 j, .bool true, .int .i64 j, .pointer (some ⟨B, 0, none⟩), .int .i64 j, u 32, u 33], defers := [] } [.inRegion ops55c [2], .inBlock 5, .code Pv, .inLoop Ed, .inBlock 4, .inBlock 3, .inLoop Cx, .inBlock 2]
theorem Nm (B : Nat) (sa : Option Addr) (m c : Nat) (going most : Int) (oa : Option Addr) (on oc : Nat) (u : Nat -> Value) (c' : Frame) (cs : List Frame) (w : World)
  (h1 : w.cell? ⟨B, 1, none⟩ = some (.int .i64 going)) (h2 : w.cell? ⟨B, 2, none⟩ = some (.int .i64 most)) (h3 : w.cell? ⟨B, 3, none⟩ = some (.slice oa on oc)) (hov : (decide (going = 0) || decide (most <= on)) = true) :
  Walk prog main (DR V) (fun g w' => g = G (c'.finish (.tuple #[])) cs /\ ∃ d, w' = w.at d) (G (Ii B sa m c u) (c' :: cs)) w := by
 unfold Ii
 simp only [Cx, Ct, f170]
 refine Ae ?_
 refine Walk.callV (x := .bool true) (W := w) ?_ rfl (by rfl) (by decide) rfl func205 (by kernel_rfl) (by rfl) ?_
 ·walk_nrm
  have := Lh (main := main) (V := V) B going most oa on oc w h1 h2 h3
  rwa [hov] at this
 walk_nrm
 refine Ae ?_
 exact Walk.ctl rfl (fun w => stepG_leave rfl rfl func170 (results_none rfl _ _ w) (events_results_none rfl _ _)) (.stop fun d => ⟨rfl, d, rfl⟩)
theorem round_in (B sb n scap : Nat) (sa : Option Addr) (m c : Nat) (going most : Int) (oa : Option Addr) (on oc : Nat) (u : Nat -> Value) (cs : List Frame) (w : World) (h0 : w.cell? ⟨B, 0, none⟩ = some (.slice (some ⟨sb, 0, none⟩) n scap))
  (h1 : w.cell? ⟨B, 1, none⟩ = some (.int .i64 going)) (h2 : w.cell? ⟨B, 2, none⟩ = some (.int .i64 most)) (h3 : w.cell? ⟨B, 3, none⟩ = some (.slice oa on oc)) (hov : (decide (going = 0) || decide (most <= on)) = false) :
  Walk prog main (DR V) (fun g w' => (∃ u', g = G (Ki B sa m c n 0 u') cs) /\ ∃ d, w' = w.at d) (G (Ii B sa m c u) cs) w := by
 unfold Ii
 simp only [Cx, Ct, f170]
 refine Ae ?_
 refine Walk.callV (x := .bool false) (W := w) ?_ rfl (by rfl) (by decide) rfl func205 (by kernel_rfl) (by rfl) ?_
 ·walk_nrm
  have := Lh (main := main) (V := V) B going most oa on oc w h1 h2 h3
  rwa [hov] at this
 walk_nrm
 refine Ae ?_
 refine cLp ?_
 refine .stop fun d' => ⟨⟨fun k => ([.pointer (some ⟨B, 0, none⟩), .slice sa m c, undef, undef, undef, u 5, u 6, .slice sa m c, u 8, u 9, u 10, u 11, u 12, u 13, u 14, u 15, u 16, u 17, u 18, .pointer (some ⟨B, 0, none⟩), .bool false, .bool true, .pointer (some ⟨B, 0, none⟩), .pointer (some ⟨B, 0, none⟩), .pointer (some ⟨B, 0, none⟩), .slice (some ⟨sb, 0, none⟩) n scap, .int .i64 n, .int .i64 0, u 28, u 29, u 30, u 31, u 32, u 33] : List Value).getD k undef, ?_⟩, d', rfl⟩
 simp only [Ki, Ed, Cx, Ct, f170]
 rfl
theorem round_go {Stop : Goroutine -> World -> Prop} (B n j : Nat) (sa : Option Addr) (m c : Nat) (u : Nat -> Value) (cs : List Frame) (w : World) (hj : j < n)
  (hk : Walk prog main (DR V) Stop (G (Frame.enter prog 206 #[.pointer (some ⟨B, 0, none⟩), .int .i64 j] .normal) (Qr B sa m c n j u :: cs)) w) :
  Walk prog main (DR V) Stop (G (Ki B sa m c n j u) cs) w := by
 unfold Ki
 simp only [Qr, ops55c, Pv, Ed, Cx, Ct, f170] at hk
 simp only [Ed, Cx, Ct, f170]
 have hi1 : decide ((j : Int) < n) = true := by simp; omega
 have hi3 : decide (j < n) = true := by simp; omega
 refine Ae ?_
 refine Walk.callE rfl (by rfl) (by decide) rfl func206 (by kernel_rfl) (by rfl) ?_
 walk_nrm
 exact hk
theorem round_next (B n j : Nat) (sa : Option Addr) (m c : Nat) (u : Nat -> Value) (cs : List Frame) (w : World) (hj : j < n) (hn : n <= 64) :
  Walk prog main (DR V) (fun g w' => (∃ u', g = G (Ki B sa m c n (j + 1) u') cs) /\ ∃ d, w' = w.at d) (G ((Qr B sa m c n j u).finish (.tuple #[])) cs) w := by
 unfold Qr
 rw [Frame.finish_at]
 simp only [ops55c, Pv, Ed, Cx, Ct, f170]
 have hw1 := wI ((j : Int) + 1)
 walk_nrm
 refine Ae ?_
 refine cIL ?_
 refine .stop fun d' => ⟨⟨fun k => ([.pointer (some ⟨B, 0, none⟩), .slice sa m c, undef, undef, undef, u 5, .int .i64 j, .slice sa m c, u 8, u 9, u 10, u 11, u 12, u 13, u 14, u 15, u 16, u 17, u 18, u 19, u 20, u 21, u 22, u 23, u 24, u 25, .int .i64 n, .int .i64 ((j : Int) + 1), .bool true, .int .i64 j, .pointer (some ⟨B, 0, none⟩), .int .i64 j, .tuple #[], .int .i64 ((j : Int) + 1)] : List Value).getD k undef, ?_⟩, d', rfl⟩
 have hc : ((j + 1 : Nat) : Int) = (j : Int) + 1 := by simp
 simp only [Ki, Ed, Cx, Ct, f170, hc]
 rfl
theorem round_out (B n : Nat) (sa : Option Addr) (m c : Nat) (u : Nat -> Value) (cs : List Frame) (w : World) :
  Walk prog main (DR V) (fun g w' => (∃ u', g = G (Ii B sa m c u') cs) /\ ∃ d, w' = w.at d) (G (Ki B sa m c n n u) cs) w := by
 unfold Ki
 simp only [Ed, Cx, Ct, f170]
 have hi1 : decide ((n : Int) < n) = false := by simp
 have hi3 : decide (n < n) = false := by simp
 refine Ae ?_
 refine cIL ?_
 refine .stop fun d' => ⟨⟨fun k => ([.pointer (some ⟨B, 0, none⟩), .slice sa m c, undef, undef, undef, u 5, u 6, .slice sa m c, u 8, u 9, u 10, u 11, u 12, u 13, u 14, u 15, u 16, u 17, u 18, u 19, u 20, u 21, u 22, u 23, u 24, u 25, .int .i64 n, .int .i64 n, .bool false, u 29, u 30, u 31, u 32, u 33] : List Value).getD k undef, ?_⟩, d', rfl⟩
 simp only [Ii, Cx, Ct, f170]
 rfl
theorem step_low (B : Nat) (x : Int) (c : Frame) (cs : List Frame) (w : World) (hx : x < 0) :
  Walk prog main (DR V) (fun g w' => g = G (c.finish (.tuple #[])) cs /\ ∃ d, w' = w.at d) (G (Frame.enter prog 206 #[.pointer (some ⟨B, 0, none⟩), .int .i64 x] .normal) (c :: cs)) w := by
 rw [enter_at _ func206 rfl]
 simp only [f206, ez, Nat.reduceAdd, Nat.reduceSub]
 have hi1 : decide (x < 0) = true := by simp [hx]
 refine Ae ?_
 exact Walk.ctl rfl (fun w => stepG_leave rfl rfl func206 (results_none rfl _ _ w) (events_results_none rfl _ _)) (.stop fun d => ⟨rfl, d, rfl⟩)
theorem step_high (B sb n scap : Nat) (x : Int) (c : Frame) (cs : List Frame) (w : World) (hx0 : 0 <= x) (hx : (n : Int) <= x) (h0 : w.cell? ⟨B, 0, none⟩ = some (.slice (some ⟨sb, 0, none⟩) n scap)) :
  Walk prog main (DR V) (fun g w' => g = G (c.finish (.tuple #[])) cs /\ ∃ d, w' = w.at d) (G (Frame.enter prog 206 #[.pointer (some ⟨B, 0, none⟩), .int .i64 x] .normal) (c :: cs)) w := by
 rw [enter_at _ func206 rfl]
 simp only [f206, ez, Nat.reduceAdd, Nat.reduceSub]
 have hi1 : decide (x < 0) = false := by simp; omega
 have hi2 : decide ((n : Int) <= x) = true := by simp; omega
 refine Ae ?_
 exact Walk.ctl rfl (fun w => stepG_leave rfl rfl func206 (results_none rfl _ _ w) (events_results_none rfl _ _)) (.stop fun d => ⟨rfl, d, rfl⟩)
theorem step_ended (B sb n scap i p : Nat) (c : Frame) (cs : List Frame) (w : World) (hin : i < n) (h0 : w.cell? ⟨B, 0, none⟩ = some (.slice (some ⟨sb, 0, none⟩) n scap)) (hp : w.cell? ⟨sb, i, none⟩ = some (.pointer (some ⟨p, 0, none⟩))) (hpe : w.cell? ⟨p, 2, none⟩ = some (.bool true)) :
  Walk prog main (DR V) (fun g w' => g = G (c.finish (.tuple #[])) cs /\ ∃ d, w' = w.at d) (G (Frame.enter prog 206 #[.pointer (some ⟨B, 0, none⟩), .int .i64 i] .normal) (c :: cs)) w := by
 rw [enter_at _ func206 rfl]
 simp only [f206, ez, Nat.reduceAdd, Nat.reduceSub]
 have hi0 : (0 : Int) <= i := by omega
 have hi1 : decide ((i : Int) < 0) = false := by simp
 have hi2 : decide (n <= i) = false := by simp; omega
 refine Ae ?_
 exact Walk.ctl rfl (fun w => stepG_leave rfl rfl func206 (results_none rfl _ _ w) (events_results_none rfl _ _)) (.stop fun d => ⟨rfl, d, rfl⟩)
theorem step_over (B sb n scap i p : Nat) (going most : Int) (oa : Option Addr) (on oc : Nat) (c : Frame) (cs : List Frame) (w : World) (hin : i < n) (h0 : w.cell? ⟨B, 0, none⟩ = some (.slice (some ⟨sb, 0, none⟩) n scap)) (hp : w.cell? ⟨sb, i, none⟩ = some (.pointer (some ⟨p, 0, none⟩))) (hpe : w.cell? ⟨p, 2, none⟩ = some (.bool false))
  (h1 : w.cell? ⟨B, 1, none⟩ = some (.int .i64 going)) (h2 : w.cell? ⟨B, 2, none⟩ = some (.int .i64 most)) (h3 : w.cell? ⟨B, 3, none⟩ = some (.slice oa on oc)) (hov : (decide (going = 0) || decide (most <= on)) = true) :
  Walk prog main (DR V) (fun g w' => g = G (c.finish (.tuple #[])) cs /\ ∃ d, w' = w.at d) (G (Frame.enter prog 206 #[.pointer (some ⟨B, 0, none⟩), .int .i64 i] .normal) (c :: cs)) w := by
 rw [enter_at _ func206 rfl]
 simp only [f206, ez, Nat.reduceAdd, Nat.reduceSub]
 have hi0 : (0 : Int) <= i := by omega
 have hi1 : decide ((i : Int) < 0) = false := by simp
 have hi2 : decide (n <= i) = false := by simp; omega
 refine Ae ?_
 refine Walk.callV (x := .bool true) (W := w) ?_ rfl (by rfl) (by decide) rfl func205 (by kernel_rfl) (by rfl) ?_
 ·walk_nrm
  have := Lh (main := main) (V := V) B going most oa on oc w h1 h2 h3
  rwa [hov] at this
 walk_nrm
 refine Ae ?_
 exact Walk.ctl rfl (fun w => stepG_leave rfl rfl func206 (results_none rfl _ _ w) (events_results_none rfl _ _)) (.stop fun d => ⟨rfl, d, rfl⟩)
end
section
variable {S : Stile} {X : Type}
def Ij (C : Crew S X) (x : X) : Nat := (List.range S.n).countP (fun i => (C.out x i).isNone)
def Dn (C : Crew S X) (st : X × List Nat) : Bool := decide (Ij C st.1 = 0) || decide (S.most <= st.2.length)
def Ef (C : Crew S X) (st : X × List Nat) (z : Int) : X × List Nat :=
 if Dn C st = false /\ 0 <= z /\ z < S.n /\ C.out st.1 z.toNat = none then (C.next st.1 z.toNat, st.2 ++ [z.toNat]) else st
def roundX (C : Crew S X) (st : X × List Nat) : X × List Nat := (List.range S.n).foldl (fun st i => Ef C st (i : Nat)) st
def Ke (C : Crew S X) : Nat -> X × List Nat -> X × List Nat
 | 0, st => st
 | f + 1, st => if Dn C st then st else Ke C f (roundX C st)
def Ja (C : Crew S X) (st : X × List Nat) (l : List Int) : X × List Nat := Ke C S.most.toNat (l.foldl (Ef C) st)
variable {C : Crew S X} {st : X × List Nat}
theorem stepX_over (h : Dn C st = true) (z : Int) : Ef C st z = st := by
 unfold Ef
 rw [if_neg]
 rintro ⟨h', _⟩
 rw [h] at h'; cases h'
theorem Oj (h : Dn C st = true) : ∀ l : List Int, l.foldl (Ef C) st = st
 | [] => rfl
 | z :: l => by rw [List.foldl_cons, stepX_over h, Oj h l]
theorem Np (h : Dn C st = true) : ∀ f, Ke C f st = st
 | 0 => rfl
 | f + 1 => by rw [Ke, if_pos h]
theorem followX_over (h : Dn C st = true) (l : List Int) : Ja C st l = st := by
 unfold Ja
 rw [Oj h, Np h]
theorem stepX_len (z : Int) : st.2.length <= (Ef C st z).2.length := by
 unfold Ef
 split
 ·simp
 ·exact Nat.le_refl _
theorem Lw : ∀ (l : List Nat) (st : X × List Nat), st.2.length <= (l.foldl (fun st i => Ef C st (i : Nat)) st).2.length
 | [], _ => Nat.le_refl _
 | _ :: l, _ => Nat.le_trans (stepX_len _) (Lw l _)
theorem Lx {i : Nat} (hi : i < S.n) : ∀ (l : List Nat) (st : X × List Nat), i ∈ l -> Dn C st = false -> C.out st.1 i = none -> st.2.length + 1 <= (l.foldl (fun st i => Ef C st (i : Nat)) st).2.length
 | [], _, h, _, _ => by cases h
 | a :: l, st, h, ho, hn => by
  rw [List.foldl_cons]
  by_cases hs : Dn C st = false /\ 0 <= (a : Int) /\ (a : Int) < S.n /\ C.out st.1 (a : Int).toNat = none
  ·have : (Ef C st a).2.length = st.2.length + 1 := by unfold Ef; rw [if_pos hs]; simp
   rw [<- this]
   exact Lw l _
  ·have : Ef C st a = st := by unfold Ef; rw [if_neg hs]
   rw [this]
   rcases List.mem_cons.1 h with rfl | h
   ·exact absurd ⟨ho, by omega, by omega, by simpa using hn⟩ hs
   ·exact Lx hi l st h ho hn
theorem round_grow (h : Dn C st = false) : st.2.length + 1 <= (roundX C st).2.length := by
 have hg : Ij C st.1 ≠ 0 := by
  intro e
  unfold Dn at h
  rw [e] at h
  simp at h
 obtain ⟨i, hi, hn⟩ := List.countP_pos_iff.1 (Nat.pos_of_ne_zero hg)
 have hi : i < S.n := List.mem_range.1 hi
 exact Lx hi _ _ (List.mem_range.2 hi) h (by simpa using hn)
end
section
variable {S : Stile} {X : Type} {C : Crew S X} {n0 : Nat} {D D' : Dyn} {w w' : World} {i j nG : Nat} {m : Machine} {T : Trace} {l : List Frame} {x : X}
theorem Drv.going (hD : Drv C n0 D x w) (hk : D.k = S.n) : D.gg = Ij C x := by
 rw [hD.gg]
 unfold Ytflcclneedldoaa.going Ij
 refine List.countP_congr fun i hi => ?_
 have hi : i < S.n := List.mem_range.1 hi
 rw [hD.fe i, (hD.out i (by omega)).1]
 cases C.out x i <;> simp
theorem Drv.over (hD : Drv C n0 D x w) (hk : D.k = S.n) : (decide ((D.gg : Int) = 0) || decide (S.most <= D.ord.length)) = Dn C (x, D.ord) := by
 unfold Dn
 rw [<- hD.going hk]
 have : decide ((D.gg : Int) = 0) = decide (D.gg = 0) := decide_eq_decide.2 (by omega)
 rw [this]
theorem step_any {c : Frame} {cs0 : List Frame} (hD : Drv C n0 D x w) (hk : D.k = S.n) (z : Int)
  (A : At prog (VV S D none none) 0 (S.g0 + S.n) (G (Frame.enter prog 206 #[.pointer (some ⟨S.B, 0, none⟩), .int .i64 z] .normal) (c :: cs0)) w m T) :
  Relay.Comes prog (fun m' T' => ∃ D' w' x', At prog (VV S D' none none) 0 (S.g0 + S.n) (G (c.finish (.tuple #[])) cs0) w' m' T' /\ Drv C n0 D' x' w' /\ (x', D'.ord) = Ef C (x, D.ord) z /\ D'.k = S.n) m T := by
 have hs := hD.sys
 obtain ⟨t0, t1, t2, t3, _, _⟩ := hs.tB
 have same : ∀ {m' T'}, ¬ (Dn C (x, D.ord) = false /\ 0 <= z /\ z < S.n /\ C.out x z.toNat = none) -> (∃ g' w', (g' = G (c.finish (.tuple #[])) cs0 /\ ∃ d, w' = w.at d) /\ At prog (VV S D none none) 0 (S.g0 + S.n) g' w' m' T') ->
   ∃ D' w' x', At prog (VV S D' none none) 0 (S.g0 + S.n) (G (c.finish (.tuple #[])) cs0) w' m' T' /\ Drv C n0 D' x' w' /\ (x', D'.ord) = Ef C (x, D.ord) z /\ D'.k = S.n := by
  rintro m' T' hne ⟨_, _, ⟨rfl, d, rfl⟩, A'⟩
  exact ⟨D, _, x, A', ⟨hs.at d, C.keep hD.inv ((Keeps.refl _ _).at d), hD.fe, hD.out, hD.fresh, hD.gg, hD.most, hD.cnt⟩, by unfold Ef; rw [if_neg hne], hk⟩
 by_cases h0 : z < 0
 ·exact (At.walk (h := 0) (step_low S.B z c cs0 w h0) A).mono fun _ _ h => same (by omega) h
 by_cases h1 : (S.n : Int) <= z
 ·exact (At.walk (h := 0) (step_high S.B S.sb S.n S.scap z c cs0 w (by omega) h1 t0) A).mono fun _ _ h => same (by omega) h
 obtain ⟨i, rfl⟩ : ∃ i : Nat, z = i := ⟨z.toNat, by omega⟩
 have hi : i < S.n := by omega
 have hz : (i : Int).toNat = i := by omega
 obtain ⟨ho1, ho2⟩ := hD.out i (by omega)
 cases he : D.e i with
 | true =>
  refine (At.walk (h := 0) (step_ended S.B S.sb S.n S.scap i (S.p i) c cs0 w hi t0 (hs.ss hi) (by rw [hs.p2 hi, hD.fe i, he])) A).mono fun _ _ h => same (fun z => ?_) h
  rw [hz] at z
  rw [he, z.2.2.2] at ho1; cases ho1
 | false =>
  have hout : C.out x i = none := by rw [he] at ho1; exact Option.not_isSome_iff_eq_none.1 (by rw [<- ho1]; simp)
  have hov := hD.over hk
  cases hx : Dn C (x, D.ord) with
  | true =>
   refine (At.walk (h := 0) (step_over S.B S.sb S.n S.scap i (S.p i) D.gg S.most D.oa D.ord.length D.oc c cs0 w hi t0 (hs.ss hi) (by rw [hs.p2 hi, hD.fe i, he]) t1 t2 t3 (hov.trans hx)) A).mono fun _ _ h => same (fun z => ?_) h
   rw [hx] at z; cases z.1
  | false =>
   rw [<- hk] at A
   refine (step_turn hD (by omega) he (hov.trans hx) A).mono ?_
   rintro m' T' ⟨D', w', A', hD', hor, hk'⟩
   rw [hk'] at A'
   rw [hk] at A'
   refine ⟨D', w', C.next x i, A', hD', ?_, hk'.trans hk⟩
   unfold Ef
   rw [if_pos ⟨hx, by omega, by omega, by rw [hz]; exact hout⟩, hz, hor]
theorem Nn {sa : Option Addr} {mm c : Nat} {cs0 : List Frame} : ∀ (r j : Nat) {D : Dyn} {x : X} {w : World} {u : Nat -> Value} {m : Machine} {T : Trace}, j + r = S.n -> Drv C n0 D x w -> D.k = S.n ->
  At prog (VV S D none none) 0 (S.g0 + S.n) (G (Ki S.B sa mm c S.n j u) cs0) w m T ->
  Relay.Comes prog (fun m' T' => ∃ D' w' x' u', At prog (VV S D' none none) 0 (S.g0 + S.n) (G (Ii S.B sa mm c u') cs0) w' m' T' /\ Drv C n0 D' x' w' /\ (x', D'.ord) = (List.range' j r).foldl (fun st i => Ef C st (i : Nat)) (x, D.ord) /\ D'.k = S.n) m T
 | 0, j, D, x, w, u, m, T, hj, hD, hk, A => by
  have hj : j = S.n := hj
  rw [hj] at A
  refine (At.walk (h := 0) (round_out S.B S.n sa mm c u cs0 w) A).mono ?_
  rintro m' T' ⟨_, _, ⟨⟨u', rfl⟩, d, rfl⟩, A'⟩
  exact ⟨D, _, x, u', A', ⟨hD.sys.at d, C.keep hD.inv ((Keeps.refl _ _).at d), hD.fe, hD.out, hD.fresh, hD.gg, hD.most, hD.cnt⟩, rfl, hk⟩
 | r + 1, j, D, x, w, u, m, T, hj, hD, hk, A => by
  refine (At.walk (h := 0) (Stop := fun g w' => g = G (Frame.enter prog 206 #[.pointer (some ⟨S.B, 0, none⟩), .int .i64 j] .normal) (Qr S.B sa mm c S.n j u :: cs0) /\ ∃ d, w' = w.at d) (round_go S.B S.n j sa mm c u cs0 w (by omega) (.stop fun d => ⟨rfl, d, rfl⟩)) A).bind ?_
  rintro m1 T1 ⟨_, _, ⟨rfl, d, rfl⟩, A1⟩
  have hD1 : Drv C n0 D x (w.at d) := ⟨hD.sys.at d, C.keep hD.inv ((Keeps.refl _ _).at d), hD.fe, hD.out, hD.fresh, hD.gg, hD.most, hD.cnt⟩
  refine (step_any hD1 hk j A1).bind ?_
  rintro m2 T2 ⟨D2, w2, x2, A2, hD2, hx2, hk2⟩
  refine (At.walk (h := 0) (round_next S.B S.n j sa mm c u cs0 w2 (by omega) hD.sys.n64) A2).bind ?_
  rintro m3 T3 ⟨_, _, ⟨⟨u', rfl⟩, d3, rfl⟩, A3⟩
  have hD3 : Drv C n0 D2 x2 (w2.at d3) := ⟨hD2.sys.at d3, C.keep hD2.inv ((Keeps.refl _ _).at d3), hD2.fe, hD2.out, hD2.fresh, hD2.gg, hD2.most, hD2.cnt⟩
  refine (Nn r (j + 1) (by omega) hD3 hk2 A3).mono ?_
  rintro m4 T4 ⟨D4, w4, x4, u4, A4, hD4, hx4, hk4⟩
  refine ⟨D4, w4, x4, u4, A4, hD4, ?_, hk4⟩
  rw [hx4, hx2, List.range'_succ, List.foldl_cons]
theorem rounds {sa : Option Addr} {mm c : Nat} {c' : Frame} {cs0 : List Frame} : ∀ (f : Nat) {D : Dyn} {x : X} {w : World} {u : Nat -> Value} {m : Machine} {T : Trace}, S.most <= (D.ord.length + f : Nat) -> Drv C n0 D x w -> D.k = S.n ->
  At prog (VV S D none none) 0 (S.g0 + S.n) (G (Ii S.B sa mm c u) (c' :: cs0)) w m T ->
  Relay.Comes prog (fun m' T' => ∃ D' w' x', At prog (VV S D' none none) 0 (S.g0 + S.n) (G (c'.finish (.tuple #[])) cs0) w' m' T' /\ Drv C n0 D' x' w' /\ (x', D'.ord) = Ke C f (x, D.ord) /\ D'.k = S.n /\ Dn C (x', D'.ord) = true) m T := by
 have fin : ∀ (f : Nat) {D : Dyn} {x : X} {w : World} {u : Nat -> Value} {m : Machine} {T : Trace}, Dn C (x, D.ord) = true -> Drv C n0 D x w -> D.k = S.n -> At prog (VV S D none none) 0 (S.g0 + S.n) (G (Ii S.B sa mm c u) (c' :: cs0)) w m T ->
   Relay.Comes prog (fun m' T' => ∃ D' w' x', At prog (VV S D' none none) 0 (S.g0 + S.n) (G (c'.finish (.tuple #[])) cs0) w' m' T' /\ Drv C n0 D' x' w' /\ (x', D'.ord) = Ke C f (x, D.ord) /\ D'.k = S.n /\ Dn C (x', D'.ord) = true) m T := by
  intro f D x w u m T ho hD hk A
  obtain ⟨_, t1, t2, t3, _, _⟩ := hD.sys.tB
  refine (At.walk (h := 0) (Nm S.B sa mm c D.gg S.most D.oa D.ord.length D.oc u c' cs0 w t1 t2 t3 ((hD.over hk).trans ho)) A).mono ?_
  rintro m' T' ⟨_, _, ⟨rfl, d, rfl⟩, A'⟩
  exact ⟨D, _, x, A', ⟨hD.sys.at d, C.keep hD.inv ((Keeps.refl _ _).at d), hD.fe, hD.out, hD.fresh, hD.gg, hD.most, hD.cnt⟩, (Np ho f).symm, hk, ho⟩
 intro f
 induction f with
 | zero =>
  intro D x w u m T hf hD hk A
  refine fin 0 ?_ hD hk A
  unfold Dn
  have : decide (S.most <= (x, D.ord).2.length) = true := decide_eq_true (by simpa using hf)
  rw [this, Bool.or_true]
 | succ f ih =>
  intro D x w u m T hf hD hk A
  cases ho : Dn C (x, D.ord) with
  | true => exact fin _ ho hD hk A
  | false =>
   obtain ⟨t0, t1, t2, t3, _, _⟩ := hD.sys.tB
   refine (At.walk (h := 0) (round_in S.B S.sb S.n S.scap sa mm c D.gg S.most D.oa D.ord.length D.oc u (c' :: cs0) w t0 t1 t2 t3 ((hD.over hk).trans ho)) A).bind ?_
   rintro m1 T1 ⟨_, _, ⟨⟨u', rfl⟩, d, rfl⟩, A1⟩
   have hD1 : Drv C n0 D x (w.at d) := ⟨hD.sys.at d, C.keep hD.inv ((Keeps.refl _ _).at d), hD.fe, hD.out, hD.fresh, hD.gg, hD.most, hD.cnt⟩
   refine (Nn S.n 0 (by omega) hD1 hk A1).bind ?_
   rintro m2 T2 ⟨D2, w2, x2, u2, A2, hD2, hx2, hk2⟩
   rw [<- List.range_eq_range'] at hx2
   have hx2 : (x2, D2.ord) = roundX C (x, D.ord) := hx2
   have hg := round_grow ho
   rw [<- hx2] at hg
   simp only at hg
   refine (ih (by omega) hD2 hk2 A2).mono ?_
   rintro m3 T3 ⟨D3, w3, x3, A3, hD3, hx3, hk3, ho3⟩
   refine ⟨D3, w3, x3, A3, hD3, ?_, hk3, ho3⟩
   rw [hx3, hx2, Ke, if_neg (by rw [ho]; simp)]
theorem Oh {c' : Frame} {cs0 : List Frame} : ∀ (l : List Int) (j : Nat) {D : Dyn} {x : X} {w : World} {u : Nat -> Value} {m : Machine} {T : Trace}, S.sl.drop j = l -> j <= S.sl.length -> S.sl.length <= 17592186044416 -> Drv C n0 D x w -> D.k = S.n ->
  At prog (VV S D none none) 0 (S.g0 + S.n) (G (Ln S.B S.sa S.sl.length S.sc j u) (c' :: cs0)) w m T ->
  Relay.Comes prog (fun m' T' => ∃ D' w' x', At prog (VV S D' none none) 0 (S.g0 + S.n) (G (c'.finish (.tuple #[])) cs0) w' m' T' /\ Drv C n0 D' x' w' /\ (x', D'.ord) = Ja C (x, D.ord) l /\ D'.k = S.n /\ Dn C (x', D'.ord) = true) m T
 | [], j, D, x, w, u, m, T, hl, hj, hm, hD, hk, A => by
  have hj' : j = S.sl.length := Nat.le_antisymm hj (List.drop_eq_nil_iff.1 hl)
  rw [hj'] at A
  refine (At.walk (h := 0) (Mc S.B S.sa S.sl.length S.sc u (c' :: cs0) w) A).bind ?_
  rintro m1 T1 ⟨_, _, ⟨⟨u', rfl⟩, d, rfl⟩, A1⟩
  have hD1 : Drv C n0 D x (w.at d) := ⟨hD.sys.at d, C.keep hD.inv ((Keeps.refl _ _).at d), hD.fe, hD.out, hD.fresh, hD.gg, hD.most, hD.cnt⟩
  exact rounds S.most.toNat (by omega) hD1 hk A1
 | z :: l, j, D, x, w, u, m, T, hl, hj, hm, hD, hk, A => by
  have hz : S.sl[j]? = some z := by
   have := congrArg (·[0]?) hl
   simpa using this
  have hlt : j < S.sl.length := (lEs hz).1
  have hl' : S.sl.drop (j + 1) = l := by
   have := congrArg (List.drop 1) hl
   simpa [List.drop_drop, Nat.add_comm] using this
  obtain ⟨s, so, hs, hc⟩ := C.sch hD.inv hz
  obtain ⟨_, t1, t2, t3, _, _⟩ := hD.sys.tB
  rw [hs] at A
  cases ho : Dn C (x, D.ord) with
  | true =>
   refine (At.walk (h := 0) (Md S.B s so S.sl.length S.sc j z D.gg S.most D.oa D.ord.length D.oc u c' cs0 w hlt hc t1 t2 t3 ((hD.over hk).trans ho)) A).mono ?_
   rintro m' T' ⟨_, _, ⟨rfl, d, rfl⟩, A'⟩
   exact ⟨D, _, x, A', ⟨hD.sys.at d, C.keep hD.inv ((Keeps.refl _ _).at d), hD.fe, hD.out, hD.fresh, hD.gg, hD.most, hD.cnt⟩, (followX_over ho _).symm, hk, ho⟩
  | false =>
   refine (At.walk (h := 0) (Stop := fun g w' => g = G (Frame.enter prog 206 #[.pointer (some ⟨S.B, 0, none⟩), .int .i64 z] .normal) (fr55 S.B s so S.sl.length S.sc j z u :: c' :: cs0) /\ ∃ d, w' = w.at d)
    (follow_go S.B s so S.sl.length S.sc j z D.gg S.most D.oa D.ord.length D.oc u (c' :: cs0) w hlt hc t1 t2 t3 ((hD.over hk).trans ho) (.stop fun d => ⟨rfl, d, rfl⟩)) A).bind ?_
   rintro m1 T1 ⟨_, _, ⟨rfl, d, rfl⟩, A1⟩
   have hD1 : Drv C n0 D x (w.at d) := ⟨hD.sys.at d, C.keep hD.inv ((Keeps.refl _ _).at d), hD.fe, hD.out, hD.fresh, hD.gg, hD.most, hD.cnt⟩
   refine (step_any hD1 hk z A1).bind ?_
   rintro m2 T2 ⟨D2, w2, x2, A2, hD2, hx2, hk2⟩
   refine (At.walk (h := 0) (follow_next S.B s so S.sl.length S.sc j z u (c' :: cs0) w2 hlt hm) A2).bind ?_
   rintro m3 T3 ⟨_, _, ⟨⟨u', rfl⟩, d3, rfl⟩, A3⟩
   have hD3 : Drv C n0 D2 x2 (w2.at d3) := ⟨hD2.sys.at d3, C.keep hD2.inv ((Keeps.refl _ _).at d3), hD2.fe, hD2.out, hD2.fresh, hD2.gg, hD2.most, hD2.cnt⟩
   rw [<- hs] at A3
   refine (Oh l (j + 1) hl' hlt hm hD3 hk2 A3).mono ?_
   rintro m4 T4 ⟨D4, w4, x4, A4, hD4, hx4, hk4, ho4⟩
   refine ⟨D4, w4, x4, A4, hD4, ?_, hk4, ho4⟩
   rw [hx4, hx2]
   rfl
end
end
end Go.Proofs.Ytflcclneedldoaa
