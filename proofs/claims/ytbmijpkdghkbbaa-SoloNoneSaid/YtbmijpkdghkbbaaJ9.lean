/- Part 9. -/
import Derived.Test.YtbmijpkdghkbbaaJ4
import Derived.Test.YtbmijpkdghkbbaaJ5
import Derived.Test.YtbmijpkdghkbbaaJ6
import Derived.Test.YtbmijpkdghkbbaaJ7
import Derived.Test.YtbmijpkdghkbbaaJ8
set_option linter.unusedSimpArgs false
set_option linter.unusedVariables false
set_option maxHeartbeats 8000000
set_option maxRecDepth 100000
namespace Go.Proofs.Ytbmijpkdghkbbaa
open Go.Conc Go.RowKit Go.Relay
open Go.ConcN (upd upd_ne upd_same)
section
variable {main : Bool} {V : Nat → Option Wait}
noncomputable def body54 : Code := match Try.f118.body with | some (.seq _ (.block _ (.loop c))) => c | _ => .skip
noncomputable def body54a : Code := match body54 with | .seq _ (.seq _ (.seq (.block _ (.seq _ c)) _)) => c | _ => .skip
noncomputable def ops54g : Array Oper := match body54a with | .seq (.region _ ops _) _ => ops | _ => #[]
noncomputable def rest54 : Code := match body54a with | .seq _ c => c | _ => .skip
noncomputable def ops54w : Array Oper := match rest54 with | .region _ ops _ => ops | _ => #[]
noncomputable def post54 : Code := match body54 with | .seq _ (.seq _ (.seq _ c)) => c | _ => .skip
noncomputable def hd54 (B sb n scap tb tcap j : Nat) (u : Nat → Value) : Frame :=
  (base 118).at { tmps := #[.pointer (some ⟨B, 0, none⟩), .slice (some ⟨tb, 0, none⟩) n tcap, undef, undef, u 4, u 5, .pointer (some ⟨B, 0, none⟩), .pointer (some ⟨B, 0, none⟩), .pointer (some ⟨B, 0, none⟩), .slice (some ⟨sb, 0, none⟩) n scap, .int .i64 n, .int .i64 j, u 12, u 13, u 14, u 15, u 16, u 17, u 18, u 19, u 20, u 21, u 22, u 23, u 24], defers := [] } [.code body54, .inLoop body54, .inBlock 0]
noncomputable def rec54g (B sb n scap tb tcap j p : Nat) (F : Value) (u : Nat → Value) (cs : List Frame) : Goroutine :=
  G ((base 118).at { tmps := #[.pointer (some ⟨B, 0, none⟩), .slice (some ⟨tb, 0, none⟩) n tcap, undef, undef, .int .i64 j, .pointer (some ⟨p, 0, none⟩), .pointer (some ⟨B, 0, none⟩), .pointer (some ⟨B, 0, none⟩), .pointer (some ⟨B, 0, none⟩), .slice (some ⟨sb, 0, none⟩) n scap, .int .i64 n, .int .i64 j, .bool true, .int .i64 j, .pointer (some ⟨sb, j, none⟩), .pointer (some ⟨p, 0, none⟩), .pointer (some ⟨p, 0, none⟩), .slice (some ⟨tb, 0, none⟩) n tcap, .int .i64 j, .pointer (some ⟨tb, j, none⟩), F, u 21, u 22, u 23, u 24], defers := [] } [.inRegion ops54g [5], .code rest54, .inBlock 1, .code post54, .inLoop body54, .inBlock 0]) cs
noncomputable def rec54a (B sb n scap tb tcap j p : Nat) (F : Value) (u : Nat → Value) (cs : List Frame) : Goroutine :=
  G ((base 118).at { tmps := #[.pointer (some ⟨B, 0, none⟩), .slice (some ⟨tb, 0, none⟩) n tcap, undef, undef, .int .i64 j, .pointer (some ⟨p, 0, none⟩), .pointer (some ⟨B, 0, none⟩), .pointer (some ⟨B, 0, none⟩), .pointer (some ⟨B, 0, none⟩), .slice (some ⟨sb, 0, none⟩) n scap, .int .i64 n, .int .i64 j, .bool true, .int .i64 j, .pointer (some ⟨sb, j, none⟩), .pointer (some ⟨p, 0, none⟩), .pointer (some ⟨p, 0, none⟩), .slice (some ⟨tb, 0, none⟩) n tcap, .int .i64 j, .pointer (some ⟨tb, j, none⟩), F, u 21, u 22, u 23, u 24], defers := [] } [.inRegion ops54g [], .code rest54, .inBlock 1, .code post54, .inLoop body54, .inBlock 0]) cs
noncomputable def fr54 (B sb n scap tb tcap j p : Nat) (F : Value) (u : Nat → Value) : Frame :=
  (base 118).at { tmps := #[.pointer (some ⟨B, 0, none⟩), .slice (some ⟨tb, 0, none⟩) n tcap, undef, undef, .int .i64 j, .pointer (some ⟨p, 0, none⟩), .pointer (some ⟨B, 0, none⟩), .pointer (some ⟨B, 0, none⟩), .pointer (some ⟨B, 0, none⟩), .slice (some ⟨sb, 0, none⟩) n scap, .int .i64 n, .int .i64 j, .bool true, .int .i64 j, .pointer (some ⟨sb, j, none⟩), .pointer (some ⟨p, 0, none⟩), .pointer (some ⟨p, 0, none⟩), .slice (some ⟨tb, 0, none⟩) n tcap, .int .i64 j, .pointer (some ⟨tb, j, none⟩), F, .pointer (some ⟨B, 0, none⟩), .pointer (some ⟨p, 0, none⟩), u 23, u 24], defers := [] } [.inRegion ops54w [2], .inBlock 1, .code post54, .inLoop body54, .inBlock 0]
theorem begin_in (B sb n scap tb tcap : Nat) (cs : List Frame) (w : World) (h0 : w.cell? ⟨B, 0, none⟩ = some (.slice (some ⟨sb, 0, none⟩) n scap)) :
    Walk Try.prog main (DR V) (fun g w' => g = G (hd54 B sb n scap tb tcap 0 (fun _ => undef)) cs ∧ ∃ d, w' = w.at d) (G (Frame.enter Try.prog 118 #[.pointer (some ⟨B, 0, none⟩), .slice (some ⟨tb, 0, none⟩) n tcap] .normal) cs) w := by
  rw [enter_at _ Try.func118 rfl]
  simp only [Try.f118, ez, Nat.reduceAdd, Nat.reduceSub]
  repeat (first | refine Walk.cx ?_ | refine Walk.cR ?_ | (refine Walk.oq ?_; try walk_nrm) | (refine Walk.un ?_; walk_nrm))
  refine Walk.ctl rfl (fun w => stepG_loop) ?_
  refine .stop fun d => ⟨?_, d, rfl⟩
  simp only [hd54, body54, Try.f118]
  rfl
theorem begin_go (B sb n scap tb tcap j p : Nat) (F : Value) (u : Nat → Value) (cs : List Frame) (w : World) (hj : j < n) (hp : w.cell? ⟨sb, j, none⟩ = some (.pointer (some ⟨p, 0, none⟩))) (hF : w.cell? ⟨tb, j, none⟩ = some F) :
    Walk Try.prog main (DR V) (fun g w' => g = rec54g B sb n scap tb tcap j p F u cs ∧ ∃ d, w' = w.at d) (G (hd54 B sb n scap tb tcap j u) cs) w := by
  unfold hd54
  simp only [body54, Try.f118]
  have hi0 : (0 : Int) ≤ j := by omega
  have hi1 : decide ((j : Int) < n) = true := by simp; omega
  have hi2 : decide (n ≤ j) = false := by simp; omega
  have hi3 : decide (j < n) = true := by simp; omega
  repeat (first | refine Walk.cx ?_ | refine Walk.cR ?_ | (refine Walk.oq ?_; try walk_nrm) | (refine Walk.un ?_; walk_nrm))
  refine .stop fun d => ⟨?_, d, rfl⟩
  simp only [rec54g, ops54g, rest54, body54a, post54, body54, Try.f118]
theorem spawn54 (B sb n scap tb tcap j p : Nat) (F : Value) (u : Nat → Value) (cs : List Frame) (w : World) :
    stepG Try.prog main (rec54g B sb n scap tb tcap j p F u cs) w = .spawn (rec54a B sb n scap tb tcap j p F u cs) (born Try.prog { target := .fn (.func 140) #[], args := #[.pointer (some ⟨p, 0, none⟩), F] }) w #[] := by
  unfold rec54g rec54a
  simp only [ops54g, rest54, body54a, body54, Try.f118]
  rw [stepG_spawn (d := { target := .fn (.func 140) #[], args := #[.pointer (some ⟨p, 0, none⟩), F] }) (w' := w) (f := .func 140) (c := #[]) rfl (by rfl) (by decide) (by simp [go_sem, execOp, Act.eval, Deferred.ofValue]) rfl, listed_none (by simp [go_sem, execOp, Act.eval])]
  rfl
theorem begin_way (B sb n scap tb tcap j p r : Nat) (F : Value) (u : Nat → Value) (cs : List Frame) (v : Wait) (hch : v.ch = r) (hz : v.z = .agg #[]) (hok : v.ok = true) (hf : v.f ⟨p, 1, none⟩ = some (.chan (some r))) (hh : v.home (rec107 p r (fr79 B p :: fr54 B sb n scap tb tcap j p F u :: cs))) :
    Yonder Try.prog main v (rec54a B sb n scap tb tcap j p F u cs) := by
  unfold rec54a
  simp only [ops54g, rest54, body54a, body54, Try.f118]
  iterate 5 (try (first | refine Yonder.c rfl ?_ | refine Yonder.cR ?_ | refine Yonder.cE ?_ | refine Yonder.cT ?_ | (refine Yonder.oq ?_; try walk_nrm)))
  refine Yonder.callE rfl (by rfl) (by decide) rfl Try.func141 (by kernel_rfl) (by rfl) ?_
  walk_nrm
  refine way79 B p r _ v hch hz hok hf ?_
  simp only [fr54, ops54w, rest54, body54a, body54, Try.f118] at hh
  exact hh
theorem begin_back (B sb n scap tb tcap j p r : Nat) (F : Value) (u : Nat → Value) (cs : List Frame) (ok e0 : Bool) (going : Int) (w : World) (hj : j < 64) (hg1 : 1 ≤ going) (hg2 : going ≤ 64) (hBp : B ≠ p) (h2 : w.cell? ⟨p, 2, none⟩ = some (.bool e0)) (hz2 : w.frozen? ⟨p, 2, none⟩ = false) (hfr : Free V ⟨p, 2, none⟩)
    (h1 : w.cell? ⟨B, 1, none⟩ = some (.int .i64 going)) (hz1 : w.frozen? ⟨B, 1, none⟩ = false) (hfr1 : Free V ⟨B, 1, none⟩) :
    Walk Try.prog main (DR V) (fun g w' => (∃ u', g = G (hd54 B sb n scap tb tcap (j + 1) u') cs) ∧ ∃ d, w' = (awaitW w B p going ok).at d) (Go.Conc.served (rec107 p r (fr79 B p :: fr54 B sb n scap tb tcap j p F u :: cs)) (recvd true (.agg #[]) ok)) w := by
  refine (serve79 B p r (fr54 B sb n scap tb tcap j p F u) cs ok e0 going w hg1 hg2 hBp h2 hz2 hfr h1 hz1 hfr1).then ?_
  rintro g w' ⟨rfl, d, rfl⟩
  refine Walk.back ?_ d
  have hw1 : IntKind.wrap .i64 ((j : Int) + 1) = (j : Int) + 1 := by rw [IntKind.wrap_i64]; omega
  unfold fr54
  rw [Frame.finish_at]
  simp only [ops54w, rest54, body54a, body54, post54, Try.f118]
  walk_nrm
  repeat (first | refine Walk.cx ?_ | refine Walk.cR ?_ | (refine Walk.oq ?_; try walk_nrm) | (refine Walk.un ?_; walk_nrm))
  refine Walk.ctl rfl (fun w => stepG_inLoop) ?_
  refine .stop fun d' => ⟨⟨fun k => ([undef, undef, undef, undef, .int .i64 j, .pointer (some ⟨p, 0, none⟩), undef, undef, undef, undef, undef, undef, .bool true, .int .i64 j, .pointer (some ⟨sb, j, none⟩), .pointer (some ⟨p, 0, none⟩), .pointer (some ⟨p, 0, none⟩), .slice (some ⟨tb, 0, none⟩) n tcap, .int .i64 j, .pointer (some ⟨tb, j, none⟩), F, .pointer (some ⟨B, 0, none⟩), .pointer (some ⟨p, 0, none⟩), .tuple #[], .int .i64 ((j : Int) + 1)] : List Value).getD k undef, ?_⟩, d', rfl⟩
  have hc : ((j + 1 : Nat) : Int) = (j : Int) + 1 := by simp
  simp only [hd54, body54, Try.f118, hc]
  rfl
theorem begin_out (B sb n scap tb tcap : Nat) (u : Nat → Value) (c : Frame) (cs : List Frame) (w : World) :
    Walk Try.prog main (DR V) (fun g w' => g = G (c.finish (.tuple #[])) cs ∧ ∃ d, w' = w.at d) (G (hd54 B sb n scap tb tcap n u) (c :: cs)) w := by
  unfold hd54
  simp only [body54, Try.f118]
  have hi1 : decide ((n : Int) < n) = false := by simp
  have hi3 : decide (n < n) = false := by simp
  repeat (first | refine Walk.cx ?_ | refine Walk.cR ?_ | (refine Walk.oq ?_; try walk_nrm) | (refine Walk.un ?_; walk_nrm))
  exact Walk.ctl rfl (fun w => stepG_leave rfl rfl Try.func118 (results_none rfl _ _ w) (events_results_none rfl _ _)) (.stop fun d => ⟨rfl, d, rfl⟩)
end
section
variable {main : Bool} {V : Nat → Option Wait}
theorem ride_none (S : Value) (c : Frame) (cs : List Frame) (w : World) :
    Walk Try.prog main (DR V) (fun g w' => (∃ d, w' = (w.alloc (.cells #[.bool false] 4)).at d) ∧
      (Free V ⟨w.heap.size, 0, none⟩ → Walk Try.prog main (DR V) (fun g₂ w₂ => g₂ = G (c.finish (.tuple #[.bool true, .bool false])) cs ∧ ∃ d, w₂ = ((w.alloc (.cells #[.bool false] 4)).setCell ⟨w.heap.size, 0, none⟩ (.bool false)).at d) g w'))
      (G (Frame.enter Try.prog 128 #[.nilFunc, S] .normal) (c :: cs)) w := by
  obtain ⟨ms, h20⟩ := und20
  have hn1 := fun w => run_neq_nilIface (P := Try.prog) (w := w) 20 h20
  have hn2 := fun w es => ev_neq_nilIface (P := Try.prog) (w := w) 20 es h20
  have hn3 := fun w => run_neq_nilFunc (P := Try.prog) (w := w) 176 (by kernel_rfl : Try.prog.underlying 176 = some (.func #[134] #[] false))
  have hn4 := fun w es => ev_neq_nilFunc (P := Try.prog) (w := w) 176 es (by kernel_rfl : Try.prog.underlying 176 = some (.func #[134] #[] false))
  rw [enter_at _ Try.func128 rfl]
  simp only [Try.f128, ez, Nat.reduceAdd, Nat.reduceSub]
  repeat (first | refine Walk.cx ?_ | refine Walk.cR ?_ | (refine Walk.oq ?_; try walk_nrm) | (refine Walk.un ?_; walk_nrm))
  (refine Walk.oa ?_; try walk_nrm)
  have hN : (w.alloc (.cells #[.bool false] 4)).cell? ⟨w.heap.size, 0, none⟩ = some (.bool false) := (cell_of (heap_alloc_new w _) 0).trans rfl
  have hz : (w.alloc (.cells #[.bool false] 4)).frozen? ⟨w.heap.size, 0, none⟩ = false := frozen_of (heap_alloc_new w _) 0
  generalize w.heap.size = N at *
  generalize w.alloc (.cells #[.bool false] 4) = w1 at *
  refine .stop fun d => ⟨⟨d, rfl⟩, fun hfr => Walk.back ?_ d⟩
  repeat (first | refine Walk.cx ?_ | refine Walk.cR ?_ | (refine Walk.oq ?_; try walk_nrm) | (refine Walk.un ?_; walk_nrm))
  refine Walk.ctl rfl (fun w' => stepG_deferOp (d := def60 N) rfl (by rfl) (by decide) (by simp [go_sem, execOp, Deferred.ofValue, def60]) (by simp [go_sem, execOp, Deferred.ofValue])) ?_
  walk_nrm
  repeat (first | refine Walk.cx ?_ | refine Walk.cR ?_ | (refine Walk.oq ?_; try walk_nrm) | (refine Walk.un ?_; walk_nrm))
  (refine Walk.os hfr hN ?_; try walk_nrm)
  repeat (first | refine Walk.cx ?_ | refine Walk.cR ?_ | (refine Walk.oq ?_; try walk_nrm) | (refine Walk.un ?_; walk_nrm))
  have hN' := World.cell?_setCell_same w1 ⟨N, 0, none⟩ (.bool false) hN
  refine Walk.ctl rfl (fun w => stepG_deferred (d := def60 N) (ds := []) (by simp [Frame.at]) rfl rfl Try.func149 (by kernel_rfl) (by rfl)) ?_
  simp only [def60, List.append_toArray, List.nil_append]
  rw [enter_atD _ Try.func149 rfl]
  simp only [Try.f149, ez, Nat.reduceAdd, Nat.reduceSub]
  repeat (first | refine Walk.cx ?_ | refine Walk.cR ?_ | (refine Walk.oq ?_; try walk_nrm) | (refine Walk.un ?_; walk_nrm))
  refine Walk.ctl rfl (fun w => stepG_recoverNone rfl (by rfl) rfl rfl rfl) ?_
  walk_nrm
  repeat (first | refine Walk.cx ?_ | refine Walk.cR ?_ | (refine Walk.oq ?_; try walk_nrm) | (refine Walk.un ?_; walk_nrm))
  refine Walk.ctl rfl (fun w => stepG_leaveReturning rfl rfl Try.func149 (results_none rfl _ _ w) (events_results_none rfl _ _) rfl) ?_
  exact leave60 rfl rfl rfl rfl rfl rfl hN'
end
section
section
variable {S : Stile} {X : Type} {C : Crew S X} {n0 : Nat} {D D' : Dyn} {w w' : World} {i j nG : Nat} {m : Machine} {T : Trace} {l : List Frame} {x : X} {home : Goroutine → Prop}
theorem begin_one {u : Nat → Value} {cs0 : List Frame} (hD : Drv C n0 D x w) (hk : D.k < S.n) (hz : ∀ i, S.g0 + D.k ≤ i → VV S D none none i = none) (h00 : D.ord = [])
    (A : At Try.prog (VV S D none none) 0 (S.g0 + D.k) (G (hd54 S.B S.sb S.n S.scap S.tb S.tcap D.k u) cs0) w m T) :
    Relay.Comes Try.prog (fun m' T' => ∃ D' w' u', At Try.prog (VV S D' none none) 0 (S.g0 + D'.k) (G (hd54 S.B S.sb S.n S.scap S.tb S.tcap D'.k u') cs0) w' m' T' ∧ Drv C n0 D' (C.born x D.k) w' ∧ D'.ord = D.ord ∧ D'.k = D.k + 1) m T := by
  have hs := hD.sys
  have hg0 := hs.hg0
  obtain ⟨he, hb⟩ := hD.fresh D.k (Nat.le_refl _)
  have hf : D.f D.k = false := (hD.fe _).trans he
  have hpB : S.p D.k ≠ S.B := hs.two (hs.op D.k hk) hs.oB (by simp)
  refine (At.walk (h := 0) (begin_go S.B S.sb S.n S.scap S.tb S.tcap D.k (S.p D.k) (S.F D.k) u cs0 w hk (hs.ss hk) (C.thr hD.inv (Nat.le_refl _) hk)) A).bind ?_
  rintro m1 T1 ⟨_, _, ⟨rfl, d1, rfl⟩, A1⟩
  generalize hmw : mwOf S D.k (fun g => g = rec107 (S.p D.k) (S.r D.k) (fr79 S.B (S.p D.k) :: fr54 S.B S.sb S.n S.scap S.tb S.tcap D.k (S.p D.k) (S.F D.k) u :: cs0)) = mw
  have hm : MW S D.k mw := hmw ▸ mwOf_MW _ _ _
  refine (A1.hire (es := #[]) (a' := rec54a S.B S.sb S.n S.scap S.tb S.tcap D.k (S.p D.k) (S.F D.k) u cs0) rfl (fun d => spawn54 ..) (by simp) hz (new := some mw) ?_).bind ?_
  · rw [← hmw]
    exact mwOf_then (hs.at d1) hk he hf fun main => begin_way _ _ _ _ _ _ _ _ _ _ _ _ _ rfl rfl rfl (mwOf_f hs hk).2.2.1 rfl
  rintro m2 T2 ⟨d2, A2⟩
  have H2 := (hs.at d1).at d2
  have I2 := C.keep hD.inv (((Keeps.refl D.own w).at d1).at d2)
  have K0 : Keeps D.own (upd D.own ((w.at d1).at d2).heap.size (some (.nn D.k))) ((w.at d1).at d2) (((w.at d1).at d2).alloc (.cells #[.bool false] 4)) :=
    ⟨by simp, fun b hb ho => ⟨by rw [upd_ne _ _ (by omega)]; exact ho, heap_new_lt _ _ hb⟩⟩
  generalize (w.at d1).at d2 = w2 at A2 H2 I2 K0
  have H3 := H2.hire hk
  have I3 := C.keep I2 K0
  generalize hD1 : ({ D with k := D.k + 1, N := upd D.N D.k w2.heap.size, own := upd D.own w2.heap.size (some (.nn D.k)) } : Dyn) = D1 at H3
  have h1k : D1.k = D.k + 1 := by rw [← hD1]
  have h1e : D1.e = D.e := by rw [← hD1]
  have h1b : D1.b = D.b := by rw [← hD1]
  have h1f : D1.f = D.f := by rw [← hD1]
  have h1g : D1.gg = D.gg := by rw [← hD1]
  have h1c : D1.cs = D.cs := by rw [← hD1]
  have h1N : D1.N = upd D.N D.k w2.heap.size := by rw [← hD1]
  have h1o : D1.own = upd D.own w2.heap.size (some (.nn D.k)) := by rw [← hD1]
  have h1r : D1.ord = D.ord := by rw [← hD1]
  rw [← h1o] at I3
  rw [upd_hire (D' := D1) h1k (fun i hi => by rw [h1e, h1c, h1N, upd_ne _ _ (by omega)]; exact ⟨rfl, rfl, rfl⟩)] at A2
  have hmain := thr_main hs D.k
  have hNk : D1.N D.k = w2.heap.size := by rw [h1N, upd_same]
  have back : Relay.Comes Try.prog (fun m' T' => ∃ g₂ w' l, mw.home g₂ ∧ At Try.prog (VV S (handed D1 D.k l (C.out (C.born x D.k) D.k)) none none) 0 (S.g0 + D.k + 1) (Go.Conc.served g₂ (recvd true (.agg #[]) (C.out (C.born x D.k) D.k).isNone)) w' m' T' ∧ Sys S n0 (handed D1 D.k l (C.out (C.born x D.k) D.k)) w' ∧ C.inv D1.k D1.own (C.born x D.k) (upd D1.cs D.k l) w') m2 T2 := by
    rcases C.start (V := VV S D1 (some mw) (some D.k)) (fr60 w2.heap.size (S.F D.k) (.iface 224 (.pointer (some ⟨S.p D.k, 0, none⟩)))) [fr78 (S.p D.k) (S.r D.k) (S.F D.k), bornfr] I3 hk (by rw [hD.cnt, h00]; simp)
        (fun b hb => VV_apart H3 hk (fun v hv => by cases hv; exact hm) hb) (fun b r hb => (H3.lt b r hb).2) with ⟨fi, fn, first, cap, hF, h1, h2, h3, hW⟩ | ⟨hF, ho, hI⟩
    · refine (At.walk (Stop := Fin C.inv C.out S (D.k + 1) D1.own (C.born x D.k) D.cs D.k (fr60 w2.heap.size (S.F D.k) (.iface 224 (.pointer (some ⟨S.p D.k, 0, none⟩)))) [fr78 (S.p D.k) (S.r D.k) (S.F D.k), bornfr] (w2.alloc (.cells #[.bool false] 4))) (by
        rw [hmain]
        refine run_enters _ _ _ _ (H2.p1 hk) ?_
        rw [hF] at hW ⊢
        exact ride_in fi fn first cap _ _ _ h1 h2 h3 hW) A2).bind ?_
      rintro m3 T3 ⟨g4, w4, hF, A3⟩
      have H4 : Sys S n0 D1 w4 := H3.same hF.1 hF.2.1
      rw [← h1k, ← h1c, ← hNk] at hF
      exact fin_back H4 (by omega) (h1e ▸ he) (h1b ▸ hb) (by omega) hm hF A3
    · refine (At.walk (Stop := fun g w' => (∃ d, w' = (w2.alloc (.cells #[.bool false] 4)).at d) ∧ Walk Try.prog (S.g0 + D.k == 0) (DR (VV S D1 (some mw) (some D.k))) (fun g₂ w₂ => g₂ = G ((fr78 (S.p D.k) (S.r D.k) (S.F D.k)).finish (.tuple #[.bool true, .bool false])) [bornfr] ∧ ∃ d, w₂ = ((w2.alloc (.cells #[.bool false] 4)).setCell ⟨w2.heap.size, 0, none⟩ (.bool false)).at d) g w') (by
        rw [hmain]
        refine run_enters _ _ _ _ (H2.p1 hk) ?_
        rw [hF]
        refine (ride_none _ _ [bornfr] w2).mono ?_
        rintro g w' ⟨h1, h2⟩
        refine ⟨h1, h2 ?_⟩
        rw [← hNk]
        exact free_thr H3 hk hm (H3.oN D.k (by omega)) (.inl ⟨_, rfl⟩)) A2).bind ?_
      rintro m3 T3 ⟨g4, _, ⟨⟨d4, rfl⟩, hW⟩, A3⟩
      have H4 := H3.at d4
      refine (ended_back H4 (by omega) (by omega) hm false (W := ((w2.alloc (.cells #[.bool false] 4)).at d4).setCell ⟨D1.N D.k, 0, none⟩ (.bool false)) (Keeps.set (.bool false) (H4.oN D.k (by omega))) (H4.ride (by omega) (.bool false)) (g := g4) (hW.mono ?_) A3 []).mono ?_
      · rintro g w' ⟨rfl, d, rfl⟩
        refine ⟨true, rfl, d, ?_⟩
        rw [hNk]
        rfl
      · rintro m4 T4 ⟨g₂, w', hh, A4, H5, K5⟩
        rw [ho]
        refine ⟨g₂, w', [], hh, A4, H5, ?_⟩
        rw [h1k, h1c]
        exact C.keep (C.keep hI ((Keeps.refl _ _).at d4)) K5
  refine back.bind ?_
  rintro m5 T5 ⟨g₂, w5, l, hh, A5, H5, I5⟩
  rw [← hmw] at hh
  simp only [mwOf] at hh
  subst hh
  have hg1 : 1 ≤ D.gg := by rw [hD.gg]; exact going_pos hk hf
  have hg64 : D.gg ≤ 64 := by rw [hD.gg]; exact Nat.le_trans (going_le _ _) hs.n64
  have tB5 := H5.tB
  simp only [handed, h1g] at tB5
  refine (At.walk (h := 0) (begin_back S.B S.sb S.n S.scap S.tb S.tcap D.k (S.p D.k) (S.r D.k) (S.F D.k) u cs0 (C.out (C.born x D.k) D.k).isNone (D1.f D.k) D.gg w5 (by have := hs.n64; omega) (by omega) (by omega) (Ne.symm hpB) (H5.p2 hk) (H5.pz hk 2) (free_main H5 (H5.op D.k hk) (.inr (by omega)))
    tB5.2.1 tB5.2.2.2.2.1 (free_main H5 H5.oB (.inl (by simp)))) A5).mono ?_
  rintro m6 T6 ⟨_, w6, ⟨⟨u', rfl⟩, d6, rfl⟩, A6⟩
  refine ⟨noted (handed D1 D.k l (C.out (C.born x D.k) D.k)) D.k (C.out (C.born x D.k) D.k).isNone, _, u', ?_, drv_noted (by rw [h1f, h1e]; exact hD.fe) (fun j hj hne => by rw [h1e, h1b, C.bornOut x D.k j hne]; exact hD.out j (by omega)) (fun j hj => by rw [h1e, h1b]; exact hD.fresh j (by omega)) (by rw [h1g, h1f]; exact hD.gg) hD.most (by rw [C.cntBorn, hD.cnt, h1r]) (by omega) (h1e ▸ he) l H5 I5 ⟨d6, by rw [h1g]⟩, h1r, h1k⟩
  have hV : VV S (noted (handed D1 D.k l (C.out (C.born x D.k) D.k)) D.k (C.out (C.born x D.k) D.k).isNone) none none = VV S (handed D1 D.k l (C.out (C.born x D.k) D.k)) none none := VV_eq rfl (fun _ _ _ => ⟨rfl, rfl, rfl⟩)
  have hkk : (noted (handed D1 D.k l (C.out (C.born x D.k) D.k)) D.k (C.out (C.born x D.k) D.k).isNone).k = D.k + 1 := h1k
  rw [hkk, hV]
  exact A6
theorem VV_high (D : Dyn) (h : 1 ≤ S.g0) : ∀ i, S.g0 + D.k ≤ i → VV S D none none i = none := fun i hi => by
  unfold VV
  rw [if_neg (by omega), if_neg (by omega)]
def bornAll (C : Crew S X) : Nat → Nat → X → X
  | 0, _, x => x
  | n + 1, k, x => bornAll C n (k + 1) (C.born x k)
theorem begin_all {cs0 : List Frame} : ∀ (r : Nat) {D : Dyn} {x : X} {w : World} {u : Nat → Value} {m : Machine} {T : Trace}, D.k + r = S.n → D.ord = [] → Drv C n0 D x w →
    At Try.prog (VV S D none none) 0 (S.g0 + D.k) (G (hd54 S.B S.sb S.n S.scap S.tb S.tcap D.k u) cs0) w m T →
    Relay.Comes Try.prog (fun m' T' => ∃ D' w' u', At Try.prog (VV S D' none none) 0 (S.g0 + S.n) (G (hd54 S.B S.sb S.n S.scap S.tb S.tcap S.n u') cs0) w' m' T' ∧ Drv C n0 D' (bornAll C r D.k x) w' ∧ D'.ord = D.ord ∧ D'.k = S.n) m T
  | 0, D, x, w, u, m, T, hk, _, hD, A => by
    have hk : D.k = S.n := hk
    rw [hk] at A
    exact .now ⟨D, w, u, A, hD, rfl, hk⟩
  | r + 1, D, x, w, u, m, T, hk, h00, hD, A => by
    refine (begin_one hD (by omega) (VV_high D hD.sys.hg0) h00 A).bind ?_
    rintro m1 T1 ⟨D1, w1, u1, A1, hD1, ho, hk1⟩
    refine (begin_all r (by omega) (ho.trans h00) hD1 A1).mono ?_
    rintro m2 T2 ⟨D2, w2, u2, A2, hD2, ho2, hk2⟩
    exact ⟨D2, w2, u2, A2, by rw [hk1] at hD2; exact hD2, ho2.trans ho, hk2⟩
end
end
section
variable {main : Bool} {V : Nat → Option Wait}
noncomputable def body56 : Code := match Try.f120.body with | some (.seq _ (.seq _ (.seq (.seq _ (.block _ (.loop c))) _))) => c | _ => .skip
noncomputable def rest56 : Code := match Try.f120.body with | some (.seq _ (.seq _ (.seq _ c))) => c | _ => .skip
noncomputable def hd56 (B sb n scap q j : Nat) (u : Nat → Value) : Frame :=
  (base 120).at { tmps := #[.pointer (some ⟨B, 0, none⟩), undef, .slice none 0 0, .slice (some ⟨q, 0, none⟩) n n, u 4, u 5, .pointer (some ⟨B, 0, none⟩), .pointer (some ⟨B, 0, none⟩), .pointer (some ⟨B, 0, none⟩), .slice (some ⟨sb, 0, none⟩) n scap, .int .i64 n, .slice (some ⟨q, 0, none⟩) n n, .pointer (some ⟨B, 0, none⟩), .pointer (some ⟨B, 0, none⟩), .pointer (some ⟨B, 0, none⟩), .slice (some ⟨sb, 0, none⟩) n scap, .int .i64 n, .int .i64 j, u 18, u 19, u 20, u 21, u 22, u 23, u 24, u 25, u 26, u 27, u 28, u 29, u 30, u 31, u 32, u 33, u 34, u 35, u 36, u 37], defers := [] } [.code body56, .inLoop body56, .inBlock 0, .code rest56]
noncomputable def body56a : Code := match body56 with | .seq _ (.seq _ (.seq (.block _ (.seq _ c)) _)) => c | _ => .skip
noncomputable def ops56w : Array Oper := match body56a with | .seq (.seq _ (.cond _ (.region _ ops _) _)) _ => ops | _ => #[]
noncomputable def rest56b : Code := match body56a with | .seq _ c => c | _ => .skip
noncomputable def post56 : Code := match body56 with | .seq _ (.seq _ (.seq _ c)) => c | _ => .skip
noncomputable def fr56 (B sb n scap q j p : Nat) (u : Nat → Value) : Frame :=
  (base 120).at { tmps := #[.pointer (some ⟨B, 0, none⟩), undef, .slice none 0 0, .slice (some ⟨q, 0, none⟩) n n, .int .i64 j, .pointer (some ⟨p, 0, none⟩), .pointer (some ⟨B, 0, none⟩), .pointer (some ⟨B, 0, none⟩), .pointer (some ⟨B, 0, none⟩), .slice (some ⟨sb, 0, none⟩) n scap, .int .i64 n, .slice (some ⟨q, 0, none⟩) n n, .pointer (some ⟨B, 0, none⟩), .pointer (some ⟨B, 0, none⟩), .pointer (some ⟨B, 0, none⟩), .slice (some ⟨sb, 0, none⟩) n scap, .int .i64 n, .int .i64 j, .bool true, .int .i64 j, .pointer (some ⟨sb, j, none⟩), .pointer (some ⟨p, 0, none⟩), .pointer (some ⟨p, 0, none⟩), .pointer (some ⟨p, 0, none⟩), .pointer (some ⟨p, 2, none⟩), .bool false, .bool true, .pointer (some ⟨p, 0, none⟩), u 28, u 29, u 30, u 31, u 32, u 33, u 34, u 35, u 36, u 37], defers := [] } [.inRegion ops56w [1], .code rest56b, .inBlock 1, .code post56, .inLoop body56, .inBlock 0, .code rest56]
theorem end_in (B sb n scap : Nat) (cs : List Frame) (w : World) (hn : n ≤ 64) (h0 : w.cell? ⟨B, 0, none⟩ = some (.slice (some ⟨sb, 0, none⟩) n scap)) :
    Walk Try.prog main (DR V) (fun g w' => g = G (hd56 B sb n scap w.heap.size 0 (fun _ => undef)) cs ∧ ∃ d, w' = (w.alloc (.cells (madeCells #[.bool false] n) 4)).at d) (G (Frame.enter Try.prog 120 #[.pointer (some ⟨B, 0, none⟩)] .normal) cs) w := by
  rw [enter_at _ Try.func120 rfl]
  simp only [Try.f120, ez, Nat.reduceAdd, Nat.reduceSub]
  repeat (first | refine Walk.cx ?_ | refine Walk.cR ?_ | (refine Walk.oq ?_; try walk_nrm) | (refine Walk.un ?_; walk_nrm))
  have hi4 := Option.some_get (show (Try.prog.info? 4).isSome = true by kernel_rfl)
  refine Walk.make 167 (.tmp 10) (.tmp 10) rfl (by rfl) (by decide) rfl 4 _ (.bool false) 1 1 (by kernel_rfl) hi4.symm (by rfl) (by rfl) (by rfl) n (by rfl) (by rfl) (by omega) (by omega) ?_
  have h0' := cell_alloc w (.cells (madeCells #[.bool false] n) 4) h0
  walk_nrm
  simp only [Value.cells, Nat.mul_one]
  repeat (first | refine Walk.cx ?_ | refine Walk.cR ?_ | (refine Walk.oq ?_; try walk_nrm) | (refine Walk.un ?_; walk_nrm))
  refine Walk.ctl rfl (fun w => stepG_loop) ?_
  refine .stop fun d => ⟨?_, d, rfl⟩
  simp only [hd56, body56, rest56, Try.f120]
  rfl
end
section
variable {main : Bool} {V : Nat → Option Wait}
theorem end_go {Stop : Goroutine → World → Prop} (B sb n scap q j p : Nat) (u : Nat → Value) (cs : List Frame) (w : World) (hj : j < n) (hp : w.cell? ⟨sb, j, none⟩ = some (.pointer (some ⟨p, 0, none⟩))) (hpe : w.cell? ⟨p, 2, none⟩ = some (.bool false))
    (hk : Walk Try.prog main (DR V) Stop (G (Frame.enter Try.prog 144 #[.pointer (some ⟨p, 0, none⟩)] .normal) (fr56 B sb n scap q j p u :: cs)) w) :
    Walk Try.prog main (DR V) Stop (G (hd56 B sb n scap q j u) cs) w := by
  unfold hd56
  simp only [fr56, ops56w, rest56b, body56a, post56, body56, rest56, Try.f120] at hk
  simp only [body56, rest56, Try.f120]
  have hi0 : (0 : Int) ≤ j := by omega
  have hi1 : decide ((j : Int) < n) = true := by simp; omega
  have hi2 : decide (n ≤ j) = false := by simp; omega
  have hi3 : decide (j < n) = true := by simp; omega
  repeat (first | refine Walk.cx ?_ | refine Walk.cR ?_ | (refine Walk.oq ?_; try walk_nrm) | (refine Walk.un ?_; walk_nrm))
  refine Walk.callE rfl (by rfl) (by decide) rfl Try.func144 (by kernel_rfl) (by rfl) ?_
  walk_nrm
  exact hk
theorem end_back (B sb n scap q j p : Nat) (br x : Bool) (u : Nat → Value) (cs : List Frame) (w : World) (hj : j < n) (hn : n ≤ 64) (hpb : w.cell? ⟨p, 3, none⟩ = some (.bool br))
    (hq : w.cell? ⟨q, j, none⟩ = some (.bool x)) (hqz : w.frozen? ⟨q, j, none⟩ = false) (hqf : Free V ⟨q, j, none⟩) :
    Walk Try.prog main (DR V) (fun g w' => (∃ u', g = G (hd56 B sb n scap q (j + 1) u') cs) ∧ ∃ d, w' = (w.setCell ⟨q, j, none⟩ (.bool br)).at d) (G ((fr56 B sb n scap q j p u).finish (.tuple #[])) cs) w := by
  unfold fr56
  rw [Frame.finish_at]
  simp only [ops56w, rest56b, body56a, post56, body56, rest56, Try.f120]
  have hi0 : (0 : Int) ≤ j := by omega
  have hi2 : decide (n ≤ j) = false := by simp; omega
  have hw1 : IntKind.wrap .i64 ((j : Int) + 1) = (j : Int) + 1 := by rw [IntKind.wrap_i64]; omega
  walk_nrm
  repeat (first | refine Walk.cx ?_ | refine Walk.cR ?_ | (refine Walk.oq ?_; try walk_nrm) | (refine Walk.un ?_; walk_nrm))
  (refine Walk.os hqf hq ?_; try walk_nrm)
  repeat (first | refine Walk.cx ?_ | refine Walk.cR ?_ | (refine Walk.oq ?_; try walk_nrm) | (refine Walk.un ?_; walk_nrm))
  refine Walk.ctl rfl (fun w => stepG_inLoop) ?_
  refine .stop fun d' => ⟨⟨fun k => ([undef, undef, undef, undef, .int .i64 j, .pointer (some ⟨p, 0, none⟩), undef, undef, undef, undef, undef, undef, undef, undef, undef, undef, undef, undef, .bool true, .int .i64 j, .pointer (some ⟨sb, j, none⟩), .pointer (some ⟨p, 0, none⟩), .pointer (some ⟨p, 0, none⟩), .pointer (some ⟨p, 0, none⟩), .pointer (some ⟨p, 2, none⟩), .bool false, .bool true, .pointer (some ⟨p, 0, none⟩), .tuple #[], .slice (some ⟨q, 0, none⟩) n n, .int .i64 j, .pointer (some ⟨p, 0, none⟩), .pointer (some ⟨p, 0, none⟩), .pointer (some ⟨p, 3, none⟩), .bool br, .pointer (some ⟨q, j, none⟩), .int .i64 ((j : Int) + 1), u 37] : List Value).getD k undef, ?_⟩, d', rfl⟩
  have hc : ((j + 1 : Nat) : Int) = (j : Int) + 1 := by simp
  simp only [hd56, body56, rest56, Try.f120, hc]
  rfl
theorem end_out (B sb n scap q : Nat) (u : Nat → Value) (c : Frame) (cs : List Frame) (w : World) :
    Walk Try.prog main (DR V) (fun g w' => g = G (c.finish (.slice (some ⟨q, 0, none⟩) n n)) cs ∧ ∃ d, w' = w.at d) (G (hd56 B sb n scap q n u) (c :: cs)) w := by
  unfold hd56
  simp only [body56, rest56, Try.f120]
  have hi1 : decide ((n : Int) < n) = false := by simp
  have hi3 : decide (n < n) = false := by simp
  repeat (first | refine Walk.cx ?_ | refine Walk.cR ?_ | (refine Walk.oq ?_; try walk_nrm) | (refine Walk.un ?_; walk_nrm))
  exact (Walk.ret1 (Post := fun v w' => v = .slice (some ⟨q, 0, none⟩) n n ∧ ∃ d, w' = w.at d) rfl rfl Try.func120 rfl fun d => ⟨by simp, d, rfl⟩).mono fun g w' ⟨v, ⟨e, d, e'⟩, hg⟩ => ⟨by rw [hg, e], d, e'⟩
end
end Go.Proofs.Ytbmijpkdghkbbaa
