/- Part 7. -/
import Derived.Test.YtgfajibjedfkdaaJK3
import Derived.Test.YtgfajibjedfkdaaJK4
import Derived.Test.YtgfajibjedfkdaaJK5
import Derived.Test.YtgfajibjedfkdaaJK6
set_option linter.unusedSimpArgs false
set_option linter.unusedVariables false
set_option maxHeartbeats 8000000
set_option maxRecDepth 100000
namespace Go.Proofs.Ytgfajibjedfkdaa
open Go.Conc Go.RowKit Go.Relay
open Go.ConcN (upd upd_ne upd_same)
section
variable {main : Bool} {V : Nat → Option Wait}
theorem ride_none (S : Value) (c : Frame) (cs : List Frame) (w : World) :
    Walk Try.prog main (DR V) (fun g w' => (∃ d, w' = (w.alloc (.cells #[.bool false] 4)).at d) ∧
      (Free V ⟨w.heap.size, 0, none⟩ → Walk Try.prog main (DR V) (fun g₂ w₂ => g₂ = G (c.finish (.tuple #[.bool true, .bool false])) cs ∧ ∃ d, w₂ = ((w.alloc (.cells #[.bool false] 4)).setCell ⟨w.heap.size, 0, none⟩ (.bool false)).at d) g w'))
      (G (Frame.enter Try.prog 148 #[.nilFunc, S] .normal) (c :: cs)) w := by
  obtain ⟨ms, h20⟩ := und20
  have hn1 := fun w => run_neq_nilIface (P := Try.prog) (w := w) 20 h20
  have hn2 := fun w es => ev_neq_nilIface (P := Try.prog) (w := w) 20 es h20
  have hn3 := fun w => run_neq_nilFunc (P := Try.prog) (w := w) 153 (by kernel_rfl : Try.prog.underlying 153 = some (.func #[113] #[] false))
  have hn4 := fun w es => ev_neq_nilFunc (P := Try.prog) (w := w) 153 es (by kernel_rfl : Try.prog.underlying 153 = some (.func #[113] #[] false))
  rw [enter_at _ Try.func148 rfl]
  simp only [Try.f148, ez, Nat.reduceAdd, Nat.reduceSub]
  repeat (first | refine Walk.cx ?_ | refine Walk.cR ?_ | (refine Walk.oq ?_; try walk_nrm) | (refine Walk.un ?_; walk_nrm))
  (refine Walk.oa ?_; try walk_nrm)
  have hN : (w.alloc (.cells #[.bool false] 4)).cell? ⟨w.heap.size, 0, none⟩ = some (.bool false) := (cell_of (heap_alloc_new w _) 0).trans rfl
  have hz : (w.alloc (.cells #[.bool false] 4)).frozen? ⟨w.heap.size, 0, none⟩ = false := frozen_of (heap_alloc_new w _) 0
  generalize w.heap.size = N at *
  generalize w.alloc (.cells #[.bool false] 4) = w1 at *
  refine .stop fun d => ⟨⟨d, rfl⟩, fun hfr => Walk.back ?_ d⟩
  repeat (first | refine Walk.cx ?_ | refine Walk.cR ?_ | (refine Walk.oq ?_; try walk_nrm) | (refine Walk.un ?_; walk_nrm))
  refine Walk.ctl rfl (fun w' => stepG_deferOp (d := def60 N) rfl (by rfl) (by decide) (by simp [go_sem, execOp, Deferred.ofValue, def60]) (by simp [go_sem, execOp, Deferred.ofValue])) ?_
  walk_nrm
  repeat (first | refine Walk.cx ?_ | refine Walk.cR ?_ | (refine Walk.oq ?_; try walk_nrm) | (refine Walk.un ?_; walk_nrm))
  (refine Walk.os hfr hN ?_; try walk_nrm)
  repeat (first | refine Walk.cx ?_ | refine Walk.cR ?_ | (refine Walk.oq ?_; try walk_nrm) | (refine Walk.un ?_; walk_nrm))
  have hN' := World.cell?_setCell_same w1 ⟨N, 0, none⟩ (.bool false) hN
  refine Walk.ctl rfl (fun w => stepG_deferred (d := def60 N) (ds := []) (by simp [Frame.at]) rfl rfl Try.func152 (by kernel_rfl) (by rfl)) ?_
  simp only [def60, List.append_toArray, List.nil_append]
  rw [enter_atD _ Try.func152 rfl]
  simp only [Try.f152, ez, Nat.reduceAdd, Nat.reduceSub]
  repeat (first | refine Walk.cx ?_ | refine Walk.cR ?_ | (refine Walk.oq ?_; try walk_nrm) | (refine Walk.un ?_; walk_nrm))
  refine Walk.ctl rfl (fun w => stepG_recoverNone rfl (by rfl) rfl rfl rfl) ?_
  walk_nrm
  repeat (first | refine Walk.cx ?_ | refine Walk.cR ?_ | (refine Walk.oq ?_; try walk_nrm) | (refine Walk.un ?_; walk_nrm))
  refine Walk.ctl rfl (fun w => stepG_leaveReturning rfl rfl Try.func152 (results_none rfl _ _ w) (events_results_none rfl _ _) rfl) ?_
  exact leave60 rfl rfl rfl rfl rfl rfl hN'
end
section
section
variable {S : Stile} {X : Type} {C : Crew S X} {n0 : Nat} {D D' : Dyn} {w w' : World} {i j nG : Nat} {m : Machine} {T : Trace} {l : List Frame} {x : X} {home : Goroutine → Prop}
theorem begin_one {u : Nat → Value} {cs0 : List Frame} (hD : Drv C n0 D x w) (hk : D.k < S.n) (hz : ∀ i, S.g0 + D.k ≤ i → VV S D none none i = none) (h00 : D.ord = [])
    (A : At Try.prog (VV S D none none) 0 (S.g0 + D.k) (G (hd54 S.B S.sb S.n S.scap S.tb S.tcap D.k u) cs0) w m T) :
    Relay.Comes Try.prog (fun m' T' => ∃ D' w' u', At Try.prog (VV S D' none none) 0 (S.g0 + D'.k) (G (hd54 S.B S.sb S.n S.scap S.tb S.tcap D'.k u') cs0) w' m' T' ∧ Drv C n0 D' (C.born x D.k) w' ∧ D'.ord = D.ord ∧ D'.k = D.k + 1) m T := by
  have hs := hD.sys
  have hg0 := hs.hg0
  obtain ⟨he, hb⟩ := hD.fresh D.k (Nat.le_refl _)
  have hf : D.f D.k = false := (hD.fe _).trans he
  have hpB : S.p D.k ≠ S.B := hs.two (hs.op D.k hk) hs.oB (by simp)
  refine (At.walk (h := 0) (begin_go S.B S.sb S.n S.scap S.tb S.tcap D.k (S.p D.k) (S.F D.k) u cs0 w hk (hs.ss hk) (C.thr hD.inv (Nat.le_refl _) hk)) A).bind ?_
  rintro m1 T1 ⟨_, _, ⟨rfl, d1, rfl⟩, A1⟩
  generalize hmw : mwOf S D.k (fun g => g = rec107 (S.p D.k) (S.r D.k) (fr79 S.B (S.p D.k) :: fr54 S.B S.sb S.n S.scap S.tb S.tcap D.k (S.p D.k) (S.F D.k) u :: cs0)) = mw
  have hm : MW S D.k mw := hmw ▸ mwOf_MW _ _ _
  refine (A1.hire (es := #[]) (a' := rec54a S.B S.sb S.n S.scap S.tb S.tcap D.k (S.p D.k) (S.F D.k) u cs0) rfl (fun d => spawn54 ..) (by simp) hz (new := some mw) ?_).bind ?_
  · rw [← hmw]
    exact mwOf_then (hs.at d1) hk he hf fun main => begin_way _ _ _ _ _ _ _ _ _ _ _ _ _ rfl rfl rfl (mwOf_f hs hk).2.2.1 rfl
  rintro m2 T2 ⟨d2, A2⟩
  have H2 := (hs.at d1).at d2
  have I2 := C.keep hD.inv (((Keeps.refl D.own w).at d1).at d2)
  have K0 : Keeps D.own (upd D.own ((w.at d1).at d2).heap.size (some (.nn D.k))) ((w.at d1).at d2) (((w.at d1).at d2).alloc (.cells #[.bool false] 4)) :=
    ⟨by simp, fun b hb ho => ⟨by rw [upd_ne _ _ (by omega)]; exact ho, heap_new_lt _ _ hb⟩⟩
  generalize (w.at d1).at d2 = w2 at A2 H2 I2 K0
  have H3 := H2.hire hk
  have I3 := C.keep I2 K0
  generalize hD1 : ({ D with k := D.k + 1, N := upd D.N D.k w2.heap.size, own := upd D.own w2.heap.size (some (.nn D.k)) } : Dyn) = D1 at H3
  have h1k : D1.k = D.k + 1 := by rw [← hD1]
  have h1e : D1.e = D.e := by rw [← hD1]
  have h1b : D1.b = D.b := by rw [← hD1]
  have h1f : D1.f = D.f := by rw [← hD1]
  have h1g : D1.gg = D.gg := by rw [← hD1]
  have h1c : D1.cs = D.cs := by rw [← hD1]
  have h1N : D1.N = upd D.N D.k w2.heap.size := by rw [← hD1]
  have h1o : D1.own = upd D.own w2.heap.size (some (.nn D.k)) := by rw [← hD1]
  have h1r : D1.ord = D.ord := by rw [← hD1]
  rw [← h1o] at I3
  rw [upd_hire (D' := D1) h1k (fun i hi => by rw [h1e, h1c, h1N, upd_ne _ _ (by omega)]; exact ⟨rfl, rfl, rfl⟩)] at A2
  have hmain := thr_main hs D.k
  have hNk : D1.N D.k = w2.heap.size := by rw [h1N, upd_same]
  have back : Relay.Comes Try.prog (fun m' T' => ∃ g₂ w' l, mw.home g₂ ∧ At Try.prog (VV S (handed D1 D.k l (C.out (C.born x D.k) D.k)) none none) 0 (S.g0 + D.k + 1) (Go.Conc.served g₂ (recvd true (.agg #[]) (C.out (C.born x D.k) D.k).isNone)) w' m' T' ∧ Sys S n0 (handed D1 D.k l (C.out (C.born x D.k) D.k)) w' ∧ C.inv D1.k D1.own (C.born x D.k) (upd D1.cs D.k l) w') m2 T2 := by
    rcases C.start (V := VV S D1 (some mw) (some D.k)) (fr60 w2.heap.size (S.F D.k) (.iface 230 (.pointer (some ⟨S.p D.k, 0, none⟩)))) [fr78 (S.p D.k) (S.r D.k) (S.F D.k), bornfr] I3 hk (by rw [hD.cnt, h00]; simp)
        (fun b hb => VV_apart H3 hk (fun v hv => by cases hv; exact hm) hb) (fun b r hb => (H3.lt b r hb).2) with ⟨fi, fn, first, cap, hF, h1, h2, h3, hW⟩ | ⟨hF, ho, hI⟩
    · refine (At.walk (Stop := Fin C.inv C.out S (D.k + 1) D1.own (C.born x D.k) D.cs D.k (fr60 w2.heap.size (S.F D.k) (.iface 230 (.pointer (some ⟨S.p D.k, 0, none⟩)))) [fr78 (S.p D.k) (S.r D.k) (S.F D.k), bornfr] (w2.alloc (.cells #[.bool false] 4))) (by
        rw [hmain]
        refine run_enters _ _ _ _ (H2.p1 hk) ?_
        rw [hF] at hW ⊢
        exact ride_in fi fn first cap _ _ _ h1 h2 h3 hW) A2).bind ?_
      rintro m3 T3 ⟨g4, w4, hF, A3⟩
      have H4 : Sys S n0 D1 w4 := H3.same hF.1 hF.2.1
      rw [← h1k, ← h1c, ← hNk] at hF
      exact fin_back H4 (by omega) (h1e ▸ he) (h1b ▸ hb) (by omega) hm hF A3
    · refine (At.walk (Stop := fun g w' => (∃ d, w' = (w2.alloc (.cells #[.bool false] 4)).at d) ∧ Walk Try.prog (S.g0 + D.k == 0) (DR (VV S D1 (some mw) (some D.k))) (fun g₂ w₂ => g₂ = G ((fr78 (S.p D.k) (S.r D.k) (S.F D.k)).finish (.tuple #[.bool true, .bool false])) [bornfr] ∧ ∃ d, w₂ = ((w2.alloc (.cells #[.bool false] 4)).setCell ⟨w2.heap.size, 0, none⟩ (.bool false)).at d) g w') (by
        rw [hmain]
        refine run_enters _ _ _ _ (H2.p1 hk) ?_
        rw [hF]
        refine (ride_none _ _ [bornfr] w2).mono ?_
        rintro g w' ⟨h1, h2⟩
        refine ⟨h1, h2 ?_⟩
        rw [← hNk]
        exact free_thr H3 hk hm (H3.oN D.k (by omega)) (.inl ⟨_, rfl⟩)) A2).bind ?_
      rintro m3 T3 ⟨g4, _, ⟨⟨d4, rfl⟩, hW⟩, A3⟩
      have H4 := H3.at d4
      refine (ended_back H4 (by omega) (by omega) hm false (W := ((w2.alloc (.cells #[.bool false] 4)).at d4).setCell ⟨D1.N D.k, 0, none⟩ (.bool false)) (Keeps.set (.bool false) (H4.oN D.k (by omega))) (H4.ride (by omega) (.bool false)) (g := g4) (hW.mono ?_) A3 []).mono ?_
      · rintro g w' ⟨rfl, d, rfl⟩
        refine ⟨true, rfl, d, ?_⟩
        rw [hNk]
        rfl
      · rintro m4 T4 ⟨g₂, w', hh, A4, H5, K5⟩
        rw [ho]
        refine ⟨g₂, w', [], hh, A4, H5, ?_⟩
        rw [h1k, h1c]
        exact C.keep (C.keep hI ((Keeps.refl _ _).at d4)) K5
  refine back.bind ?_
  rintro m5 T5 ⟨g₂, w5, l, hh, A5, H5, I5⟩
  rw [← hmw] at hh
  simp only [mwOf] at hh
  subst hh
  have hg1 : 1 ≤ D.gg := by rw [hD.gg]; exact going_pos hk hf
  have hg64 : D.gg ≤ 64 := by rw [hD.gg]; exact Nat.le_trans (going_le _ _) hs.n64
  have tB5 := H5.tB
  simp only [handed, h1g] at tB5
  refine (At.walk (h := 0) (begin_back S.B S.sb S.n S.scap S.tb S.tcap D.k (S.p D.k) (S.r D.k) (S.F D.k) u cs0 (C.out (C.born x D.k) D.k).isNone (D1.f D.k) D.gg w5 (by have := hs.n64; omega) (by omega) (by omega) (Ne.symm hpB) (H5.p2 hk) (H5.pz hk 2) (free_main H5 (H5.op D.k hk) (.inr (by omega)))
    tB5.2.1 tB5.2.2.2.2.1 (free_main H5 H5.oB (.inl (by simp)))) A5).mono ?_
  rintro m6 T6 ⟨_, w6, ⟨⟨u', rfl⟩, d6, rfl⟩, A6⟩
  refine ⟨noted (handed D1 D.k l (C.out (C.born x D.k) D.k)) D.k (C.out (C.born x D.k) D.k).isNone, _, u', ?_, drv_noted (by rw [h1f, h1e]; exact hD.fe) (fun j hj hne => by rw [h1e, h1b, C.bornOut x D.k j hne]; exact hD.out j (by omega)) (fun j hj => by rw [h1e, h1b]; exact hD.fresh j (by omega)) (by rw [h1g, h1f]; exact hD.gg) hD.most (by rw [C.cntBorn, hD.cnt, h1r]) (by omega) (h1e ▸ he) l H5 I5 ⟨d6, by rw [h1g]⟩, h1r, h1k⟩
  have hV : VV S (noted (handed D1 D.k l (C.out (C.born x D.k) D.k)) D.k (C.out (C.born x D.k) D.k).isNone) none none = VV S (handed D1 D.k l (C.out (C.born x D.k) D.k)) none none := VV_eq rfl (fun _ _ _ => ⟨rfl, rfl, rfl⟩)
  have hkk : (noted (handed D1 D.k l (C.out (C.born x D.k) D.k)) D.k (C.out (C.born x D.k) D.k).isNone).k = D.k + 1 := h1k
  rw [hkk, hV]
  exact A6
theorem VV_high (D : Dyn) (h : 1 ≤ S.g0) : ∀ i, S.g0 + D.k ≤ i → VV S D none none i = none := fun i hi => by
  unfold VV
  rw [if_neg (by omega), if_neg (by omega)]
def bornAll (C : Crew S X) : Nat → Nat → X → X
  | 0, _, x => x
  | n + 1, k, x => bornAll C n (k + 1) (C.born x k)
theorem begin_all {cs0 : List Frame} : ∀ (r : Nat) {D : Dyn} {x : X} {w : World} {u : Nat → Value} {m : Machine} {T : Trace}, D.k + r = S.n → D.ord = [] → Drv C n0 D x w →
    At Try.prog (VV S D none none) 0 (S.g0 + D.k) (G (hd54 S.B S.sb S.n S.scap S.tb S.tcap D.k u) cs0) w m T →
    Relay.Comes Try.prog (fun m' T' => ∃ D' w' u', At Try.prog (VV S D' none none) 0 (S.g0 + S.n) (G (hd54 S.B S.sb S.n S.scap S.tb S.tcap S.n u') cs0) w' m' T' ∧ Drv C n0 D' (bornAll C r D.k x) w' ∧ D'.ord = D.ord ∧ D'.k = S.n) m T
  | 0, D, x, w, u, m, T, hk, _, hD, A => by
    have hk : D.k = S.n := hk
    rw [hk] at A
    exact .now ⟨D, w, u, A, hD, rfl, hk⟩
  | r + 1, D, x, w, u, m, T, hk, h00, hD, A => by
    refine (begin_one hD (by omega) (VV_high D hD.sys.hg0) h00 A).bind ?_
    rintro m1 T1 ⟨D1, w1, u1, A1, hD1, ho, hk1⟩
    refine (begin_all r (by omega) (ho.trans h00) hD1 A1).mono ?_
    rintro m2 T2 ⟨D2, w2, u2, A2, hD2, ho2, hk2⟩
    exact ⟨D2, w2, u2, A2, by rw [hk1] at hD2; exact hD2, ho2.trans ho, hk2⟩
end
end
section
variable {main : Bool} {V : Nat → Option Wait}
noncomputable def body56 : Code := match Try.f115.body with | some (.seq _ (.seq _ (.seq (.seq _ (.block _ (.loop c))) _))) => c | _ => .skip
noncomputable def rest56 : Code := match Try.f115.body with | some (.seq _ (.seq _ (.seq _ c))) => c | _ => .skip
noncomputable def hd56 (B sb n scap q j : Nat) (u : Nat → Value) : Frame :=
  (base 115).at { tmps := #[.pointer (some ⟨B, 0, none⟩), undef, .slice none 0 0, .slice (some ⟨q, 0, none⟩) n n, u 4, u 5, .pointer (some ⟨B, 0, none⟩), .pointer (some ⟨B, 0, none⟩), .pointer (some ⟨B, 0, none⟩), .slice (some ⟨sb, 0, none⟩) n scap, .int .i64 n, .slice (some ⟨q, 0, none⟩) n n, .pointer (some ⟨B, 0, none⟩), .pointer (some ⟨B, 0, none⟩), .pointer (some ⟨B, 0, none⟩), .slice (some ⟨sb, 0, none⟩) n scap, .int .i64 n, .int .i64 j, u 18, u 19, u 20, u 21, u 22, u 23, u 24, u 25, u 26, u 27, u 28, u 29, u 30, u 31, u 32, u 33, u 34, u 35, u 36, u 37], defers := [] } [.code body56, .inLoop body56, .inBlock 0, .code rest56]
noncomputable def body56a : Code := match body56 with | .seq _ (.seq _ (.seq (.block _ (.seq _ c)) _)) => c | _ => .skip
noncomputable def ops56w : Array Oper := match body56a with | .seq (.seq _ (.cond _ (.region _ ops _) _)) _ => ops | _ => #[]
noncomputable def rest56b : Code := match body56a with | .seq _ c => c | _ => .skip
noncomputable def post56 : Code := match body56 with | .seq _ (.seq _ (.seq _ c)) => c | _ => .skip
noncomputable def fr56 (B sb n scap q j p : Nat) (u : Nat → Value) : Frame :=
  (base 115).at { tmps := #[.pointer (some ⟨B, 0, none⟩), undef, .slice none 0 0, .slice (some ⟨q, 0, none⟩) n n, .int .i64 j, .pointer (some ⟨p, 0, none⟩), .pointer (some ⟨B, 0, none⟩), .pointer (some ⟨B, 0, none⟩), .pointer (some ⟨B, 0, none⟩), .slice (some ⟨sb, 0, none⟩) n scap, .int .i64 n, .slice (some ⟨q, 0, none⟩) n n, .pointer (some ⟨B, 0, none⟩), .pointer (some ⟨B, 0, none⟩), .pointer (some ⟨B, 0, none⟩), .slice (some ⟨sb, 0, none⟩) n scap, .int .i64 n, .int .i64 j, .bool true, .int .i64 j, .pointer (some ⟨sb, j, none⟩), .pointer (some ⟨p, 0, none⟩), .pointer (some ⟨p, 0, none⟩), .pointer (some ⟨p, 0, none⟩), .pointer (some ⟨p, 2, none⟩), .bool false, .bool true, .pointer (some ⟨p, 0, none⟩), u 28, u 29, u 30, u 31, u 32, u 33, u 34, u 35, u 36, u 37], defers := [] } [.inRegion ops56w [1], .code rest56b, .inBlock 1, .code post56, .inLoop body56, .inBlock 0, .code rest56]
theorem end_in (B sb n scap : Nat) (cs : List Frame) (w : World) (hn : n ≤ 64) (h0 : w.cell? ⟨B, 0, none⟩ = some (.slice (some ⟨sb, 0, none⟩) n scap)) :
    Walk Try.prog main (DR V) (fun g w' => g = G (hd56 B sb n scap w.heap.size 0 (fun _ => undef)) cs ∧ ∃ d, w' = (w.alloc (.cells (madeCells #[.bool false] n) 4)).at d) (G (Frame.enter Try.prog 115 #[.pointer (some ⟨B, 0, none⟩)] .normal) cs) w := by
  rw [enter_at _ Try.func115 rfl]
  simp only [Try.f115, ez, Nat.reduceAdd, Nat.reduceSub]
  repeat (first | refine Walk.cx ?_ | refine Walk.cR ?_ | (refine Walk.oq ?_; try walk_nrm) | (refine Walk.un ?_; walk_nrm))
  have hi4 := Option.some_get (show (Try.prog.info? 4).isSome = true by kernel_rfl)
  refine Walk.make 162 (.tmp 10) (.tmp 10) rfl (by rfl) (by decide) rfl 4 _ (.bool false) 1 1 (by kernel_rfl) hi4.symm (by rfl) (by rfl) (by rfl) n (by rfl) (by rfl) (by omega) (by omega) ?_
  have h0' := cell_alloc w (.cells (madeCells #[.bool false] n) 4) h0
  walk_nrm
  simp only [Value.cells, Nat.mul_one]
  repeat (first | refine Walk.cx ?_ | refine Walk.cR ?_ | (refine Walk.oq ?_; try walk_nrm) | (refine Walk.un ?_; walk_nrm))
  refine Walk.ctl rfl (fun w => stepG_loop) ?_
  refine .stop fun d => ⟨?_, d, rfl⟩
  simp only [hd56, body56, rest56, Try.f115]
  rfl
end
section
variable {main : Bool} {V : Nat → Option Wait}
theorem end_go {Stop : Goroutine → World → Prop} (B sb n scap q j p : Nat) (u : Nat → Value) (cs : List Frame) (w : World) (hj : j < n) (hp : w.cell? ⟨sb, j, none⟩ = some (.pointer (some ⟨p, 0, none⟩))) (hpe : w.cell? ⟨p, 2, none⟩ = some (.bool false))
    (hk : Walk Try.prog main (DR V) Stop (G (Frame.enter Try.prog 141 #[.pointer (some ⟨p, 0, none⟩)] .normal) (fr56 B sb n scap q j p u :: cs)) w) :
    Walk Try.prog main (DR V) Stop (G (hd56 B sb n scap q j u) cs) w := by
  unfold hd56
  simp only [fr56, ops56w, rest56b, body56a, post56, body56, rest56, Try.f115] at hk
  simp only [body56, rest56, Try.f115]
  have hi0 : (0 : Int) ≤ j := by omega
  have hi1 : decide ((j : Int) < n) = true := by simp; omega
  have hi2 : decide (n ≤ j) = false := by simp; omega
  have hi3 : decide (j < n) = true := by simp; omega
  repeat (first | refine Walk.cx ?_ | refine Walk.cR ?_ | (refine Walk.oq ?_; try walk_nrm) | (refine Walk.un ?_; walk_nrm))
  refine Walk.callE rfl (by rfl) (by decide) rfl Try.func141 (by kernel_rfl) (by rfl) ?_
  walk_nrm
  exact hk
theorem end_back (B sb n scap q j p : Nat) (br x : Bool) (u : Nat → Value) (cs : List Frame) (w : World) (hj : j < n) (hn : n ≤ 64) (hpb : w.cell? ⟨p, 3, none⟩ = some (.bool br))
    (hq : w.cell? ⟨q, j, none⟩ = some (.bool x)) (hqz : w.frozen? ⟨q, j, none⟩ = false) (hqf : Free V ⟨q, j, none⟩) :
    Walk Try.prog main (DR V) (fun g w' => (∃ u', g = G (hd56 B sb n scap q (j + 1) u') cs) ∧ ∃ d, w' = (w.setCell ⟨q, j, none⟩ (.bool br)).at d) (G ((fr56 B sb n scap q j p u).finish (.tuple #[])) cs) w := by
  unfold fr56
  rw [Frame.finish_at]
  simp only [ops56w, rest56b, body56a, post56, body56, rest56, Try.f115]
  have hi0 : (0 : Int) ≤ j := by omega
  have hi2 : decide (n ≤ j) = false := by simp; omega
  have hw1 : IntKind.wrap .i64 ((j : Int) + 1) = (j : Int) + 1 := by rw [IntKind.wrap_i64]; omega
  walk_nrm
  repeat (first | refine Walk.cx ?_ | refine Walk.cR ?_ | (refine Walk.oq ?_; try walk_nrm) | (refine Walk.un ?_; walk_nrm))
  (refine Walk.os hqf hq ?_; try walk_nrm)
  repeat (first | refine Walk.cx ?_ | refine Walk.cR ?_ | (refine Walk.oq ?_; try walk_nrm) | (refine Walk.un ?_; walk_nrm))
  refine Walk.ctl rfl (fun w => stepG_inLoop) ?_
  refine .stop fun d' => ⟨⟨fun k => ([undef, undef, undef, undef, .int .i64 j, .pointer (some ⟨p, 0, none⟩), undef, undef, undef, undef, undef, undef, undef, undef, undef, undef, undef, undef, .bool true, .int .i64 j, .pointer (some ⟨sb, j, none⟩), .pointer (some ⟨p, 0, none⟩), .pointer (some ⟨p, 0, none⟩), .pointer (some ⟨p, 0, none⟩), .pointer (some ⟨p, 2, none⟩), .bool false, .bool true, .pointer (some ⟨p, 0, none⟩), .tuple #[], .slice (some ⟨q, 0, none⟩) n n, .int .i64 j, .pointer (some ⟨p, 0, none⟩), .pointer (some ⟨p, 0, none⟩), .pointer (some ⟨p, 3, none⟩), .bool br, .pointer (some ⟨q, j, none⟩), .int .i64 ((j : Int) + 1), u 37] : List Value).getD k undef, ?_⟩, d', rfl⟩
  have hc : ((j + 1 : Nat) : Int) = (j : Int) + 1 := by simp
  simp only [hd56, body56, rest56, Try.f115, hc]
  rfl
theorem end_out (B sb n scap q : Nat) (u : Nat → Value) (c : Frame) (cs : List Frame) (w : World) :
    Walk Try.prog main (DR V) (fun g w' => g = G (c.finish (.slice (some ⟨q, 0, none⟩) n n)) cs ∧ ∃ d, w' = w.at d) (G (hd56 B sb n scap q n u) (c :: cs)) w := by
  unfold hd56
  simp only [body56, rest56, Try.f115]
  have hi1 : decide ((n : Int) < n) = false := by simp
  have hi3 : decide (n < n) = false := by simp
  repeat (first | refine Walk.cx ?_ | refine Walk.cR ?_ | (refine Walk.oq ?_; try walk_nrm) | (refine Walk.un ?_; walk_nrm))
  exact (Walk.ret1 (Post := fun v w' => v = .slice (some ⟨q, 0, none⟩) n n ∧ ∃ d, w' = w.at d) rfl rfl Try.func115 rfl fun d => ⟨by simp, d, rfl⟩).mono fun g w' ⟨v, ⟨e, d, e'⟩, hg⟩ => ⟨by rw [hg, e], d, e'⟩
end
section
variable {main : Bool} {V : Nat → Option Wait}
theorem end_skip (B sb n scap q j p : Nat) (br x : Bool) (u : Nat → Value) (cs : List Frame) (w : World) (hj : j < n) (hn : n ≤ 64) (hp : w.cell? ⟨sb, j, none⟩ = some (.pointer (some ⟨p, 0, none⟩))) (hpe : w.cell? ⟨p, 2, none⟩ = some (.bool true)) (hpb : w.cell? ⟨p, 3, none⟩ = some (.bool br))
    (hq : w.cell? ⟨q, j, none⟩ = some (.bool x)) (hqz : w.frozen? ⟨q, j, none⟩ = false) (hqf : Free V ⟨q, j, none⟩) :
    Walk Try.prog main (DR V) (fun g w' => (∃ u', g = G (hd56 B sb n scap q (j + 1) u') cs) ∧ ∃ d, w' = (w.setCell ⟨q, j, none⟩ (.bool br)).at d) (G (hd56 B sb n scap q j u) cs) w := by
  unfold hd56
  simp only [body56, rest56, Try.f115]
  have hi0 : (0 : Int) ≤ j := by omega
  have hi1 : decide ((j : Int) < n) = true := by simp; omega
  have hi2 : decide (n ≤ j) = false := by simp; omega
  have hi3 : decide (j < n) = true := by simp; omega
  have hw1 : IntKind.wrap .i64 ((j : Int) + 1) = (j : Int) + 1 := by rw [IntKind.wrap_i64]; omega
  repeat (first | refine Walk.cx ?_ | refine Walk.cR ?_ | (refine Walk.oq ?_; try walk_nrm) | (refine Walk.un ?_; walk_nrm))
  (refine Walk.os hqf hq ?_; try walk_nrm)
  repeat (first | refine Walk.cx ?_ | refine Walk.cR ?_ | (refine Walk.oq ?_; try walk_nrm) | (refine Walk.un ?_; walk_nrm))
  refine Walk.ctl rfl (fun w => stepG_inLoop) ?_
  refine .stop fun d' => ⟨⟨fun k => ([undef, undef, undef, undef, .int .i64 j, .pointer (some ⟨p, 0, none⟩), undef, undef, undef, undef, undef, undef, undef, undef, undef, undef, undef, undef, .bool true, .int .i64 j, .pointer (some ⟨sb, j, none⟩), .pointer (some ⟨p, 0, none⟩), .pointer (some ⟨p, 0, none⟩), .pointer (some ⟨p, 0, none⟩), .pointer (some ⟨p, 2, none⟩), .bool true, .bool false, u 27, u 28, .slice (some ⟨q, 0, none⟩) n n, .int .i64 j, .pointer (some ⟨p, 0, none⟩), .pointer (some ⟨p, 0, none⟩), .pointer (some ⟨p, 3, none⟩), .bool br, .pointer (some ⟨q, j, none⟩), .int .i64 ((j : Int) + 1), u 37] : List Value).getD k undef, ?_⟩, d', rfl⟩
  have hc : ((j + 1 : Nat) : Int) = (j : Int) + 1 := by simp
  simp only [hd56, body56, rest56, Try.f115, hc]
  rfl
end
section
theorem catches_fn {fr : Frame} {fn : Func} (h : Try.prog.funcs[fr.fn]? = some fn) : fr.catches Try.prog = false := by
  unfold Frame.catches
  rw [h]
section
variable {main : Bool} {V : Nat → Option Wait}
theorem pops {Stop : Goroutine → World → Prop} {ch : List PanicEntry} {f : Frame} {fs : List Frame} {w : World} (hk : Walk Try.prog main (DR V) Stop (G (f.raise ch) fs) w) (l : List Frame) (hl : ∀ f ∈ l, Plain f) {fr : Frame} (hm : fr.mode = .panicking ch) (hd : fr.defers = []) (hc : fr.catches Try.prog = false) :
    Walk Try.prog main (DR V) Stop (G fr (l ++ f :: fs)) w := by
  induction l generalizing fr with
  | nil =>
    rw [List.nil_append]
    exact Walk.ctl rfl (fun w => stepG_pop hm hd hc) hk
  | cons c l ih =>
    obtain ⟨h1, h2, fn, h3⟩ := hl c (by simp)
    have hr : c.raise ch = { c with mode := .panicking ch } := by unfold Frame.raise; rw [h2]
    rw [List.cons_append]
    refine Walk.ctl rfl (fun w => stepG_pop hm hd hc) ?_
    exact ih (fun f hf => hl f (by simp [hf])) (by rw [hr]) (by rw [hr]; exact h1) (catches_fn (fn := fn) (by rw [hr]; exact h3))
end
structure Fini {S : Stile} {X : Type} (C : Crew S X) (n0 : Nat) (D : Dyn) (x : X) (w : World) (q j : Nat) : Prop where
  sys : Sys S n0 D w
  inv : C.inv D.k (upd D.own q (some .ord)) x D.cs w
  qo : D.own q = none
  qh : ∃ arr, w.heap[q]? = some (.cells arr 4 (0, 0)) ∧ ∀ i, i < S.n → arr[i]? = some (.bool (decide (i < j) && (C.out x i == some true)))
  hi : ∀ i, j ≤ i → i < S.n → D.f i = D.e i ∧ D.e i = (C.out x i).isSome
  lo : ∀ i, i < j → D.e i = true
  b : ∀ i, i < S.n → D.b i = (C.out x i == some true)
  k : D.k = S.n
section
variable {S : Stile} {X : Type} {C : Crew S X} {n0 : Nat} {D D' : Dyn} {w w' : World} {i j q nG : Nat} {m : Machine} {T : Trace} {l : List Frame} {x : X} {home : Goroutine → Prop}
theorem Keeps.more {o o' : Nat → Option Role} {w w' : World} (h : Keeps o o w w') (ho : ∀ b, o' b = none → o b = none) : Keeps o' o' w w' := ⟨h.size, fun b hb hn => ⟨hn, (h.same b hb (ho b hn)).2⟩⟩
theorem Sys.weak (H : Sys S n0 D w) (j : Nat) : Sys S n0 { D with e := upd D.e j true } w := by
  refine H.put rfl rfl rfl rfl rfl rfl (Nat.le_refl _) (fun b x _ h => ?_) fun _ _ => rfl
  refine h.of_same (fun i _ => ⟨rfl, rfl⟩) (fun _ => ⟨rfl, rfl, rfl, rfl⟩) fun i _ z => ?_
  by_cases ei : i = j
  · subst ei; simp only [upd_same] at z; cases z
  · simpa only [upd_ne _ _ ei] using z
theorem Fini.lt (H : Fini C n0 D x w q j) : q < w.heap.size := by
  obtain ⟨arr, h, _⟩ := H.qh
  exact (Array.getElem?_eq_some_iff.1 h).1
theorem free_q (qo : D.own q = none) (H : Sys S n0 D w) (i : Nat) : Free (VV S D none none) ⟨q, i, none⟩ :=
  VV_free (fun v h => by cases h) fun i' hi' e => by
    have h1 := H.op i' (Nat.lt_of_lt_of_le hi' H.kn)
    rw [← show q = S.p i' from congrArg Addr.block e, qo] at h1
    cases h1
theorem Fini.next (hs : Sys S n0 D' w) (hi : C.inv D'.k (upd D'.own q (some .ord)) x D'.cs w) (qo : D'.own q = none) (qh : ∃ arr, w.heap[q]? = some (.cells arr 4 (0, 0)) ∧ ∀ i, i < S.n → arr[i]? = some (.bool (decide (i < j) && (C.out x i == some true))))
    (hhi : ∀ i, j + 1 ≤ i → i < S.n → D'.f i = D'.e i ∧ D'.e i = (C.out x i).isSome) (hlo : ∀ i, i < j + 1 → D'.e i = true) (hb : ∀ i, i < S.n → D'.b i = (C.out x i == some true)) (hk : D'.k = S.n) (hj : j < S.n) {br : Bool} (hbr : br = (C.out x j == some true)) (d : Nat) :
    Fini C n0 D' x ((w.setCell ⟨q, j, none⟩ (.bool br)).at d) q (j + 1) := by
  obtain ⟨arr, h, ha⟩ := qh
  refine ⟨Sys.at (hs.same (Nat.le_of_eq (size_set ..).symm) fun b x hx => heap_set_other w _ b _ fun e => ?_) d, C.keep hi ((Keeps.set (a := ⟨q, j, none⟩) (r := .ord) _ (upd_same _ q _)).at d), qo, ⟨_, heap_set_self w _ h, fun i hi => ?_⟩, hhi, hlo, hb, hk⟩
  · subst e; rw [qo] at hx; cases hx
  · have hl : j < arr.size := (Array.getElem?_eq_some_iff.1 (ha j hj)).1
    by_cases e : i = j
    · subst e
      rw [Array.getElem?_setIfInBounds_self_of_lt hl, hbr]
      simp
    · rw [Array.getElem?_setIfInBounds_ne (Ne.symm e), ha i hi]
      have : decide (i < j) = decide (i < j + 1) := by
        by_cases h : i < j
        · simp [h, Nat.lt_succ_of_lt h]
        · have : ¬ i < j + 1 := by omega
          simp [h, this]
      rw [this]
theorem end_one {u : Nat → Value} {cs0 : List Frame} (hF : Fini C n0 D x w q j) (hj : j < S.n)
    (A : At Try.prog (VV S D none none) 0 (S.g0 + S.n) (G (hd56 S.B S.sb S.n S.scap q j u) cs0) w m T) :
    Relay.Comes Try.prog (fun m' T' => ∃ D' w' u', At Try.prog (VV S D' none none) 0 (S.g0 + S.n) (G (hd56 S.B S.sb S.n S.scap q (j + 1) u') cs0) w' m' T' ∧ Fini C n0 D' x w' q (j + 1) ∧ D'.ord = D.ord ∧ D'.oa = D.oa ∧ D'.oc = D.oc) m T := by
  have hs := hF.sys
  have hg0 := hs.hg0
  have hjk : j < D.k := by rw [hF.k]; exact hj
  obtain ⟨hfe, heo⟩ := hF.hi j (Nat.le_refl _) hj
  have hqf := free_q hF.qo hs j
  cases he : D.e j with
  | true =>
    obtain ⟨arr, h, ha⟩ := id hF.qh
    refine (At.walk (h := 0) (end_skip S.B S.sb S.n S.scap q j (S.p j) (D.b j) _ u cs0 w hj hs.n64 (hs.ss hj) (by rw [hs.p2 hj, hfe, he]) (hs.p3 hj) ((cell_of h j).trans (ha j hj)) (frozen_of h j) hqf) A).mono ?_
    rintro m1 T1 ⟨_, _, ⟨⟨u', rfl⟩, d, rfl⟩, A1⟩
    exact ⟨D, _, u', A1, Fini.next hs hF.inv hF.qo hF.qh (fun i h1 h2 => hF.hi i (by omega) h2) (fun i hi => by
      by_cases e : i = j
      · subst e; exact he
      · exact hF.lo i (by omega)) hF.b hF.k hj (hF.b j hj) d, rfl, rfl, rfl⟩
  | false =>
    have hf : D.f j = false := hfe.trans he
    have hout : C.out x j = none := by rw [he] at heo; exact Option.not_isSome_iff_eq_none.1 (by rw [← heo]; simp)
    have hjb : D.b j = false := by rw [hF.b j hj, hout]; rfl
    refine (At.walk (h := 0) (Stop := fun g w' => g = rec82 (S.p j) (S.t j) (fr56 S.B S.sb S.n S.scap q j (S.p j) u :: cs0) ∧ ∃ d, w' = w.at d) (end_go S.B S.sb S.n S.scap q j (S.p j) u cs0 w hj (hs.ss hj) (hf ▸ hs.p2 hj) (end1_in _ _ _ _ (hs.p0 hj))) A).bind ?_
    rintro m1 T1 ⟨_, _, ⟨rfl, d1, rfl⟩, A1⟩
    generalize hmw : mwOf S j (fun g => g = rec107 (S.p j) (S.r j) (fr82 (S.p j) (S.t j) :: fr56 S.B S.sb S.n S.scap q j (S.p j) u :: cs0)) = mw
    have hm : MW S j mw := hmw ▸ mwOf_MW _ _ _
    refine (A1.shut (v := wT S D j) (j := S.g0 + j) (a' := rec82a (S.p j) (S.t j) (fr56 S.B S.sb S.n S.scap q j (S.p j) u :: cs0)) (new := some mw) (by omega) (by omega) (VV_at hg0 hjk he (by simp)) rfl (wake82 ..) rfl (fun d k hk => close82 _ _ _ _ k hk) ?_).bind ?_
    · rw [← hmw]
      exact mwOf_then (hs.at d1) hj he hf fun main => end1_way _ _ _ _ _ rfl rfl rfl (mwOf_f hs hj).2.2.1 (mwOf_f hs hj).2.2.2 rfl
    rintro m2 T2 ⟨_, d2, k, rfl, A2⟩
    rw [after_main.resolve_right (by omega)] at A2
    simp only [wT] at A2
    have H2 : Sys S n0 { D with e := upd D.e j true } (((w.at d1).at d2).setChan (S.t j) 0 #[] true k k false) := (((hs.at d1).at d2).weak j).shut (j := j) (upd_same _ _ _) (.inl (hs.ot j hj))
    have K2 : Keeps D.own D.own w (((w.at d1).at d2).setChan (S.t j) 0 #[] true k k false) := (((Keeps.refl D.own w).at d1).at d2).trans (Keeps.chan (hs.ot j hj) true k)
    have N2 : (((w.at d1).at d2).setChan (S.t j) 0 #[] true k k false).heap[D.N j]? = some (.cells #[.bool false] 4) := by
      rw [heap_setChan_ne _ _ _ _ _ _ _ (hs.two (hs.ot j hj) (hs.oN j hjk) (by simp))]
      exact hs.good _ _ (hs.oN j hjk) he
    generalize ((w.at d1).at d2).setChan (S.t j) 0 #[] true k k false = w2 at A2 H2 K2 N2
    generalize hD1 : ({ D with e := upd D.e j true } : Dyn) = D1 at H2
    have h1k : D1.k = D.k := by rw [← hD1]
    have h1e : D1.e = upd D.e j true := by rw [← hD1]
    have h1b : D1.b = D.b := by rw [← hD1]
    have h1f : D1.f = D.f := by rw [← hD1]
    have h1c : D1.cs = D.cs := by rw [← hD1]
    have h1N : D1.N = D.N := by rw [← hD1]
    have h1o : D1.own = D.own := by rw [← hD1]
    have h1r : D1.ord = D.ord ∧ D1.oa = D.oa ∧ D1.oc = D.oc := by rw [← hD1]; exact ⟨rfl, rfl, rfl⟩
    rw [← VV_eq (D' := D1) (D := D) h1k (fun i _ hx => by
      have : i ≠ j := fun e => hx (e ▸ rfl)
      rw [h1e, h1c, h1N, upd_ne _ _ this]; exact ⟨rfl, rfl, rfl⟩)] at A2
    have hj1 : j < D1.k := h1k ▸ hjk
    have hNj : D1.N j = D.N j := by rw [h1N]
    have hN3 : (w2.alloc (.cells #[] 46)).heap[D1.N j]? = some (.cells #[.bool false] 4) := by
      rw [hNj, heap_new_lt _ _ (h1N ▸ (H2.lt _ _ (H2.oN j hj1)).2)]; exact N2
    have hplain := (C.shape hF.inv hjk hout).2
    refine (ended_back H2 hj1 (by omega) hm false (W := ((w2.alloc (.cells #[] 46)).alloc (.cells #[] 247)).setCell ⟨D1.N j, 0, none⟩ (.bool false)) (((Keeps.alloc _ w2 (.cells #[] 46)).trans (Keeps.alloc _ _ (.cells #[] 247))).trans (Keeps.set _ (H2.oN j hj1)))
      (((H2.alloc (.cells #[] 46)).alloc (.cells #[] 247)).ride hj1 _) (by
        refine (stop139 (S.p j) (S.r j) (S.t j) (D.cs j ++ bot S (D.N j) j) w2).then ?_
        rintro _ _ ⟨rfl, d, rfl⟩
        refine Walk.back ?_ d
        unfold rec139p bot
        rw [← hNj]
        refine pops ?_ (D.cs j) hplain rfl rfl (catches_fn Try.func181)
        refine (ride_stopped (D1.N j) _ _ _ _ (w2.alloc (.cells #[] 46)) false ((cell_of hN3 0).trans rfl) (frozen_of hN3 0) (free_thr H2 hj hm (H2.oN j hj1) (.inl ⟨_, rfl⟩))).mono ?_
        rintro g w' ⟨rfl, d, rfl⟩
        exact ⟨false, rfl, d, rfl⟩) A2 (D.cs j)).bind ?_
    rintro m5 T5 ⟨g₂, w5, hh, A5, H5, K5⟩
    rw [← hmw] at hh
    simp only [mwOf] at hh
    subst hh
    rw [h1o] at K5
    have KA := K2.trans K5
    have q5 : w5.heap[q]? = w.heap[q]? := (KA.same q hF.lt hF.qo).2
    have hql : q < w5.heap.size := Nat.lt_of_lt_of_le hF.lt KA.size
    have hqo5 : (handed D1 j (D.cs j) (some false)).own q = none := by simp only [handed]; rw [h1o]; exact hF.qo
    have hqp : q ≠ S.p j := fun e => by have := hs.op j hj; rw [← e, hF.qo] at this; cases this
    have H6 := (H5.alloc (.cells #[] 46)).flag hj true
    have K6 : Keeps D.own D.own w5 ((w5.alloc (.cells #[] 46)).setCell ⟨S.p j, 2, none⟩ (.bool true)) := (Keeps.alloc _ w5 (.cells #[] 46)).trans (Keeps.set _ (hs.op j hj))
    have q6 : ((w5.alloc (.cells #[] 46)).setCell ⟨S.p j, 2, none⟩ (.bool true)).heap[q]? = w.heap[q]? := by
      rw [heap_set_other _ _ _ _ hqp, heap_new_lt _ _ hql]; exact q5
    obtain ⟨arr, h, ha⟩ := id hF.qh
    refine (At.walk (h := 0) (Stop := fun g w' => (∃ u', g = G (hd56 S.B S.sb S.n S.scap q (j + 1) u') cs0) ∧ ∃ d, w' = (((w5.alloc (.cells #[] 46)).setCell ⟨S.p j, 2, none⟩ (.bool true)).setCell ⟨q, j, none⟩ (.bool false)).at d)
      ((end1_back (S.p j) (S.t j) (S.r j) (fr56 S.B S.sb S.n S.scap q j (S.p j) u) cs0 _ w5 (H5.p2 hj) (H5.pz hj 2) (free_main H5 (H5.op j hj) (.inr (by omega)))).then (by
        rintro _ _ ⟨rfl, d, rfl⟩
        refine Walk.back ?_ d
        refine end_back S.B S.sb S.n S.scap q j (S.p j) false _ u cs0 _ hj hs.n64 ?_ ((cell_of (q6.trans h) j).trans (ha j hj)) (frozen_of (q6.trans h) j) (free_q hqo5 H5 j)
        have := H6.p3 hj
        simp only [handed, upd_same] at this
        exact this)) A5).mono ?_
    rintro m6 T6 ⟨_, _, ⟨⟨u', rfl⟩, d6, rfl⟩, A6⟩
    refine ⟨{ handed D1 j (D.cs j) (some false) with f := upd (handed D1 j (D.cs j) (some false)).f j true }, _, u', A6, Fini.next H6 ?_ hqo5 ⟨arr, q6.trans h, ha⟩ (fun i h1 h2 => ?_) (fun i hi => ?_) (fun i hi => ?_) (h1k.trans hF.k) hj (by rw [hout]; rfl) d6, h1r⟩
    · simp only [handed, h1k, h1o, h1c]
      rw [upd_eq _ rfl]
      refine C.keep hF.inv ((KA.trans K6).more fun b hb => ?_)
      by_cases e : b = q
      · subst e; exact hF.qo
      · rwa [upd_ne _ _ e] at hb
    · have e : i ≠ j := by omega
      simp only [handed, h1e, h1f, upd_ne _ _ e]
      exact hF.hi i (by omega) h2
    · simp only [handed, h1e]
      by_cases e : i = j
      · subst e; rw [upd_same]; rfl
      · rw [upd_ne _ _ e, upd_ne _ _ e]; exact hF.lo i (by omega)
    · simp only [handed, h1b]
      by_cases e : i = j
      · subst e; rw [upd_same, hout]; rfl
      · rw [upd_ne _ _ e]; exact hF.b i hi
theorem end_all {cs0 : List Frame} : ∀ (r j : Nat) {D : Dyn} {w : World} {u : Nat → Value} {m : Machine} {T : Trace}, j + r = S.n → Fini C n0 D x w q j →
    At Try.prog (VV S D none none) 0 (S.g0 + S.n) (G (hd56 S.B S.sb S.n S.scap q j u) cs0) w m T →
    Relay.Comes Try.prog (fun m' T' => ∃ D' w' u', At Try.prog (VV S D' none none) 0 (S.g0 + S.n) (G (hd56 S.B S.sb S.n S.scap q S.n u') cs0) w' m' T' ∧ Fini C n0 D' x w' q S.n ∧ D'.ord = D.ord ∧ D'.oa = D.oa ∧ D'.oc = D.oc) m T
  | 0, j, D, w, u, m, T, hj, hF, A => by
    have hj : j = S.n := hj
    rw [hj] at A hF
    exact .now ⟨D, w, u, A, hF, rfl, rfl, rfl⟩
  | r + 1, j, D, w, u, m, T, hj, hF, A => by
    refine (end_one hF (by omega) A).bind ?_
    rintro m1 T1 ⟨D1, w1, u1, A1, hF1, ho, ha, hc⟩
    refine (end_all r (j + 1) (by omega) hF1 A1).mono ?_
    rintro m2 T2 ⟨D2, w2, u2, A2, hF2, ho2, ha2, hc2⟩
    exact ⟨D2, w2, u2, A2, hF2, ho2.trans ho, ha2.trans ha, hc2.trans hc⟩
end
end
section
variable {main : Bool} {V : Nat → Option Wait}
noncomputable def body55 : Code := match Try.f114.body with | some (.seq (.seq _ (.block _ (.loop c))) _) => c | _ => .skip
noncomputable def rest55 : Code := match Try.f114.body with | some (.seq _ c) => c | _ => .skip
noncomputable def body55a : Code := match body55 with | .seq _ (.seq _ (.seq (.block _ (.seq _ (.seq _ c))) _)) => c | _ => .skip
noncomputable def ops55a : Array Oper := match body55a with | .region _ ops _ => ops | _ => #[]
noncomputable def post55 : Code := match body55 with | .seq _ (.seq _ (.seq _ c)) => c | _ => .skip
noncomputable def body55b : Code := match rest55 with | .block _ (.loop c) => c | _ => .skip
noncomputable def hd55 (B : Nat) (sa : Option Addr) (m c j : Nat) (u : Nat → Value) : Frame :=
  (base 114).at { tmps := #[.pointer (some ⟨B, 0, none⟩), .slice sa m c, undef, undef, undef, u 5, u 6, .slice sa m c, .int .i64 m, .int .i64 j, u 10, u 11, u 12, u 13, u 14, u 15, u 16, u 17, u 18, u 19, u 20, u 21, u 22, u 23, u 24, u 25, u 26, u 27, u 28, u 29, u 30, u 31, u 32, u 33], defers := [] } [.code body55, .inLoop body55, .inBlock 0, .code rest55]
noncomputable def fr55 (B s so m c j : Nat) (x : Int) (u : Nat → Value) : Frame :=
  (base 114).at { tmps := #[.pointer (some ⟨B, 0, none⟩), .slice (some ⟨s, so, none⟩) m c, undef, undef, undef, .int .i64 x, u 6, .slice (some ⟨s, so, none⟩) m c, .int .i64 m, .int .i64 j, .bool true, .pointer (some ⟨s, so + j, none⟩), .int .i64 x, .pointer (some ⟨B, 0, none⟩), .bool false, .pointer (some ⟨B, 0, none⟩), .int .i64 x, u 17, u 18, u 19, u 20, u 21, u 22, u 23, u 24, u 25, u 26, u 27, u 28, u 29, u 30, u 31, u 32, u 33], defers := [] } [.inRegion ops55a [2], .inBlock 1, .code post55, .inLoop body55, .inBlock 0, .code rest55]
noncomputable def hd55b (B : Nat) (sa : Option Addr) (m c : Nat) (u : Nat → Value) : Frame :=
  (base 114).at { tmps := #[.pointer (some ⟨B, 0, none⟩), .slice sa m c, undef, undef, undef, u 5, u 6, .slice sa m c, u 8, u 9, u 10, u 11, u 12, u 13, u 14, u 15, u 16, u 17, u 18, u 19, u 20, u 21, u 22, u 23, u 24, u 25, u 26, u 27, u 28, u 29, u 30, u 31, u 32, u 33], defers := [] } [.code body55b, .inLoop body55b, .inBlock 2]
theorem follow_in (B : Nat) (sa : Option Addr) (m c : Nat) (cs : List Frame) (w : World) :
    Walk Try.prog main (DR V) (fun g w' => (∃ u, g = G (hd55 B sa m c 0 u) cs) ∧ ∃ d, w' = w.at d) (G (Frame.enter Try.prog 114 #[.pointer (some ⟨B, 0, none⟩), .slice sa m c] .normal) cs) w := by
  rw [enter_at _ Try.func114 rfl]
  simp only [Try.f114, ez, Nat.reduceAdd, Nat.reduceSub]
  repeat (first | refine Walk.cx ?_ | refine Walk.cR ?_ | (refine Walk.oq ?_; try walk_nrm) | (refine Walk.un ?_; walk_nrm))
  refine Walk.ctl rfl (fun w => stepG_loop) ?_
  refine .stop fun d => ⟨⟨fun _ => undef, ?_⟩, d, rfl⟩
  simp only [hd55, body55, rest55, Try.f114]
  rfl
theorem follow_over (B s so m c j : Nat) (x : Int) (going most : Int) (oa : Option Addr) (on oc : Nat) (u : Nat → Value) (c' : Frame) (cs : List Frame) (w : World) (hj : j < m) (hs : w.cell? ⟨s, so + j, none⟩ = some (.int .i64 x))
    (h1 : w.cell? ⟨B, 1, none⟩ = some (.int .i64 going)) (h2 : w.cell? ⟨B, 2, none⟩ = some (.int .i64 most)) (h3 : w.cell? ⟨B, 3, none⟩ = some (.slice oa on oc)) (hov : (decide (going = 0) || decide (most ≤ on)) = true) :
    Walk Try.prog main (DR V) (fun g w' => g = G (c'.finish (.tuple #[])) cs ∧ ∃ d, w' = w.at d) (G (hd55 B (some ⟨s, so, none⟩) m c j u) (c' :: cs)) w := by
  unfold hd55
  simp only [body55, rest55, Try.f114]
  have hi0 : (0 : Int) ≤ j := by omega
  have hi1 : decide ((j : Int) < m) = true := by simp; omega
  have hi2 : decide (m ≤ j) = false := by simp; omega
  have hi3 : decide (j < m) = true := by simp; omega
  repeat (first | refine Walk.cx ?_ | refine Walk.cR ?_ | (refine Walk.oq ?_; try walk_nrm) | (refine Walk.un ?_; walk_nrm))
  refine Walk.callV (x := .bool true) (W := w) ?_ rfl (by rfl) (by decide) rfl Try.func139 (by kernel_rfl) (by rfl) ?_
  · walk_nrm
    have := over_w (main := main) (V := V) B going most oa on oc w h1 h2 h3
    rwa [hov] at this
  walk_nrm
  repeat (first | refine Walk.cx ?_ | refine Walk.cR ?_ | (refine Walk.oq ?_; try walk_nrm) | (refine Walk.un ?_; walk_nrm))
  exact Walk.ctl rfl (fun w => stepG_leave rfl rfl Try.func114 (results_none rfl _ _ w) (events_results_none rfl _ _)) (.stop fun d => ⟨rfl, d, rfl⟩)
theorem follow_go {Stop : Goroutine → World → Prop} (B s so m c j : Nat) (x : Int) (going most : Int) (oa : Option Addr) (on oc : Nat) (u : Nat → Value) (cs : List Frame) (w : World) (hj : j < m) (hs : w.cell? ⟨s, so + j, none⟩ = some (.int .i64 x))
    (h1 : w.cell? ⟨B, 1, none⟩ = some (.int .i64 going)) (h2 : w.cell? ⟨B, 2, none⟩ = some (.int .i64 most)) (h3 : w.cell? ⟨B, 3, none⟩ = some (.slice oa on oc)) (hov : (decide (going = 0) || decide (most ≤ on)) = false)
    (hk : Walk Try.prog main (DR V) Stop (G (Frame.enter Try.prog 140 #[.pointer (some ⟨B, 0, none⟩), .int .i64 x] .normal) (fr55 B s so m c j x u :: cs)) w) :
    Walk Try.prog main (DR V) Stop (G (hd55 B (some ⟨s, so, none⟩) m c j u) cs) w := by
  unfold hd55
  simp only [fr55, ops55a, body55a, post55, body55, rest55, Try.f114] at hk
  simp only [body55, rest55, Try.f114]
  have hi0 : (0 : Int) ≤ j := by omega
  have hi1 : decide ((j : Int) < m) = true := by simp; omega
  have hi2 : decide (m ≤ j) = false := by simp; omega
  have hi3 : decide (j < m) = true := by simp; omega
  repeat (first | refine Walk.cx ?_ | refine Walk.cR ?_ | (refine Walk.oq ?_; try walk_nrm) | (refine Walk.un ?_; walk_nrm))
  refine Walk.callV (x := .bool false) (W := w) ?_ rfl (by rfl) (by decide) rfl Try.func139 (by kernel_rfl) (by rfl) ?_
  · walk_nrm
    have := over_w (main := main) (V := V) B going most oa on oc w h1 h2 h3
    rwa [hov] at this
  walk_nrm
  repeat (first | refine Walk.cx ?_ | refine Walk.cR ?_ | (refine Walk.oq ?_; try walk_nrm) | (refine Walk.un ?_; walk_nrm))
  refine Walk.callE rfl (by rfl) (by decide) rfl Try.func140 (by kernel_rfl) (by rfl) ?_
  walk_nrm
  exact hk
theorem follow_next (B s so m c j : Nat) (x : Int) (u : Nat → Value) (cs : List Frame) (w : World) (hj : j < m) (hm : m ≤ 17592186044416) :
    Walk Try.prog main (DR V) (fun g w' => (∃ u', g = G (hd55 B (some ⟨s, so, none⟩) m c (j + 1) u') cs) ∧ ∃ d, w' = w.at d) (G ((fr55 B s so m c j x u).finish (.tuple #[])) cs) w := by
  unfold fr55
  rw [Frame.finish_at]
  simp only [ops55a, body55a, post55, body55, rest55, Try.f114]
  have hw1 : IntKind.wrap .i64 ((j : Int) + 1) = (j : Int) + 1 := by rw [IntKind.wrap_i64]; omega
  walk_nrm
  repeat (first | refine Walk.cx ?_ | refine Walk.cR ?_ | (refine Walk.oq ?_; try walk_nrm) | (refine Walk.un ?_; walk_nrm))
  refine Walk.ctl rfl (fun w => stepG_inLoop) ?_
  refine .stop fun d' => ⟨⟨fun k => ([.pointer (some ⟨B, 0, none⟩), .slice (some ⟨s, so, none⟩) m c, undef, undef, undef, .int .i64 x, u 6, .slice (some ⟨s, so, none⟩) m c, .int .i64 m, .int .i64 ((j : Int) + 1), .bool true, .pointer (some ⟨s, so + j, none⟩), .int .i64 x, .pointer (some ⟨B, 0, none⟩), .bool false, .pointer (some ⟨B, 0, none⟩), .int .i64 x, .tuple #[], .int .i64 ((j : Int) + 1), u 19, u 20, u 21, u 22, u 23, u 24, u 25, u 26, u 27, u 28, u 29, u 30, u 31, u 32, u 33] : List Value).getD k undef, ?_⟩, d', rfl⟩
  have hc : ((j + 1 : Nat) : Int) = (j : Int) + 1 := by simp
  simp only [hd55, body55, rest55, Try.f114, hc]
  rfl
theorem follow_past (B : Nat) (sa : Option Addr) (m c : Nat) (u : Nat → Value) (cs : List Frame) (w : World) :
    Walk Try.prog main (DR V) (fun g w' => (∃ u', g = G (hd55b B sa m c u') cs) ∧ ∃ d, w' = w.at d) (G (hd55 B sa m c m u) cs) w := by
  unfold hd55
  simp only [body55, rest55, Try.f114]
  have hi1 : decide ((m : Int) < m) = false := by simp
  have hi3 : decide (m < m) = false := by simp
  repeat (first | refine Walk.cx ?_ | refine Walk.cR ?_ | (refine Walk.oq ?_; try walk_nrm) | (refine Walk.un ?_; walk_nrm))
  refine Walk.ctl rfl (fun w => stepG_loop) ?_
  refine .stop fun d' => ⟨⟨fun k => ([.pointer (some ⟨B, 0, none⟩), .slice sa m c, undef, undef, undef, u 5, u 6, .slice sa m c, .int .i64 m, .int .i64 m, .bool false, u 11, u 12, u 13, u 14, u 15, u 16, u 17, u 18, u 19, u 20, u 21, u 22, u 23, u 24, u 25, u 26, u 27, u 28, u 29, u 30, u 31, u 32, u 33] : List Value).getD k undef, ?_⟩, d', rfl⟩
  simp only [hd55b, body55b, rest55, Try.f114]
  rfl
end
end Go.Proofs.Ytgfajibjedfkdaa
