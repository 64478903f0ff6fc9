/- Part 10. -/
import Derived.Test.YtgfajibjedfkdaaJK3
import Derived.Test.YtgfajibjedfkdaaJK4
import Derived.Test.YtgfajibjedfkdaaJK9
set_option linter.unusedSimpArgs false
set_option linter.unusedVariables false
set_option maxHeartbeats 8000000
set_option maxRecDepth 100000
namespace Go.Proofs.Ytgfajibjedfkdaa
open Go.Conc Go.RowKit Go.Relay
open Go.ConcN (upd upd_ne upd_same)
def Runs (Post : Goroutine → World → Prop) (g : Goroutine) (w : World) : Prop := ∀ nG m T, 1 ≤ nG → At Try.prog (fun _ => none) 0 nG g w m T →
  Relay.Comes Try.prog (fun m' T' => ∃ nG' g' w', 1 ≤ nG' ∧ Post g' w' ∧ At Try.prog (fun _ => none) 0 nG' g' w' m' T') m T
theorem Runs.now {Post : Goroutine → World → Prop} {g : Goroutine} {w : World} (h : Post g w) : Runs Post g w := fun nG _ _ h1 A => .now ⟨nG, g, w, h1, h, A⟩
theorem Runs.walk {Stop Post : Goroutine → World → Prop} {g : Goroutine} {w : World} (h : Walk Try.prog true (DR (fun _ => none)) Stop g w) (k : ∀ g w, Stop g w → Runs Post g w) : Runs Post g w := fun nG _ _ h1 A =>
  (At.walk (h := 0) h A).bind fun m' T' ⟨a', w', hs, A'⟩ => k a' w' hs nG m' T' h1 A'
theorem Runs.then {Post Post' : Goroutine → World → Prop} {g : Goroutine} {w : World} (h : Runs Post g w) (k : ∀ g w, Post g w → Runs Post' g w) : Runs Post' g w := fun nG m T h1 A =>
  (h nG m T h1 A).bind fun m' T' ⟨nG', g', w', h1', hp, A'⟩ => k g' w' hp nG' m' T' h1' A'
def Given.at (Q : Given) (g : Nat) : Given := { Q with g0 := g }
structure Ran {X : Type} (C : ∀ S : Stile, Crew S X) (x0 : X) (Q : Given) (w : World) (v : Value) (w' : World) : Prop where
  all : ∃ (g0 sb scap : Nat) (sts : List (Nat × Nat × Nat)) (x : X) (ord : List Nat) (oa : Option Addr) (oc q k : Nat) (own : Nat → Option Role) (cs : Nat → List Frame),
    (x, ord) = followX (C (stile (Q.at g0) w.heap.size sb scap sts)) (bornAll (C (stile (Q.at g0) w.heap.size sb scap sts)) Q.n 0 x0, []) Q.sl ∧
    overX (C (stile (Q.at g0) w.heap.size sb scap sts)) (x, ord) = true ∧
    v = .tuple #[.slice oa ord.length oc, .bool (decide (0 < goingX (C (stile (Q.at g0) w.heap.size sb scap sts)) x)), .slice (some ⟨q, 0, none⟩) Q.n Q.n] ∧
    (C (stile (Q.at g0) w.heap.size sb scap sts)).inv k own x cs w' ∧
    w'.ownsRow w.heap.size 3 1 (.slice oa ord.length oc) ord.length (ord.map fun i => .int .i64 (i : Nat)) ∧ (∀ b, (Value.slice oa ord.length oc).ownBlock = some b → own b = some .ord ∧ b ≠ q) ∧
    own q = some .ord ∧ w.heap.size ≤ q ∧ w.heap.size ≤ w'.heap.size ∧
    ∃ arr, w'.heap[q]? = some (.cells arr 4 (0, 0)) ∧ ∀ i, i < Q.n → arr[i]? = some (.bool ((C (stile (Q.at g0) w.heap.size sb scap sts)).out x i == some true))
theorem over_run {X : Type} (C : ∀ S : Stile, Crew S X) (x0 : X) (Q : Given) (og : Value) (w : World) (hn1 : 1 ≤ Q.n) (hn : Q.n ≤ 64) (hm : Q.sl.length ≤ 17592186044416) (hcnt : ∀ S, (C S).cnt x0 = 0)
    (hog : CallV Try.prog true (fun _ => none) 111 #[og] w (.slice (some ⟨Q.tb, 0, none⟩) Q.n Q.tcap) w)
    (hinit : ∀ g0 sb scap sts, ∃ cs, (C (stile (Q.at g0) w.heap.size sb scap sts)).inv 0 (fun _ => none) x0 cs w) (c : Frame) (cs0 : List Frame) :
    Runs (fun g w' => ∃ v, Ran C x0 Q w v w' ∧ g = G (c.finish v) cs0) (G (Frame.enter Try.prog 81 #[og, .slice Q.sa Q.sl.length Q.sc, .int .i64 Q.most] .normal) (c :: cs0)) w := by
  intro nG m T hG A
  refine (At.walk (h := 0) (over_in Q.n Q.tcap Q.sl.length Q.sc (some ⟨Q.tb, 0, none⟩) Q.sa og Q.most (c :: cs0) w hog (nt_all Q.n Q.tcap (some ⟨Q.tb, 0, none⟩) Q.most hn w (fun b _ => ⟨fun _ _ _ _ h => by (cases h), fun _ _ h => by (cases h)⟩) _ (c :: cs0))) A).bind ?_
  rintro m1 T1 ⟨_, _, ⟨oa, oc, sts, w0, d0, rfl, rfl, hN, hb, hl, hR⟩, A1⟩
  obtain ⟨sb, rfl⟩ : ∃ sb, oa = some ⟨sb, 0, none⟩ := by
    rcases hN.own.2 with ⟨_, e⟩ | ⟨g, cap, cur, e, _⟩
    · omega
    · cases e; exact ⟨g, rfl⟩
  obtain ⟨hS, hK⟩ := sys0 (Q := Q.at nG) hn hG hN hb hl hR
  obtain ⟨csI, hI⟩ := hinit nG sb oc sts
  generalize hSt : stile (Q.at nG) w.heap.size sb oc sts = S at *
  have eB : S.B = w.heap.size := by rw [← hSt]; rfl
  have en : S.n = Q.n := by rw [← hSt]; rfl
  have eg : S.g0 = nG := by rw [← hSt]; rfl
  have esb : S.sb = sb := by rw [← hSt]; rfl
  have esc : S.scap = oc := by rw [← hSt]; rfl
  have etb : S.tb = Q.tb := by rw [← hSt]; rfl
  have etc : S.tcap = Q.tcap := by rw [← hSt]; rfl
  have esa : S.sa = Q.sa := by rw [← hSt]; rfl
  have essc : S.sc = Q.sc := by rw [← hSt]; rfl
  have esl : S.sl = Q.sl := by rw [← hSt]; rfl
  have emo : S.most ≤ 1048576 := by rw [← hSt]; simp only [stile]; omega
  have hD0 : Drv (C S) w.heap.size { dyn0 Q.n w.heap.size sb sts with cs := csI } x0 (w0.at d0) := by
    refine ⟨(hS.cs csI).at d0, (C S).keep hI (hK.at d0), fun _ => rfl, fun i hi => absurd hi (Nat.not_lt_zero _), fun _ _ => ⟨rfl, rfl⟩, ?_, emo, hcnt S⟩
    rw [en]
    exact (going_all Q.n).symm
  have hV0 : (fun _ => none : Nat → Option Wait) = VV S { dyn0 Q.n w.heap.size sb sts with cs := csI } none none := by
    funext g
    unfold VV
    by_cases h0 : g = 0
    · rw [if_pos h0]
    · rw [if_neg h0, if_neg]
      rintro ⟨h1, h2, _⟩
      have h2 : g < S.g0 + 0 := h2
      omega
  have hk0 : ({ dyn0 Q.n w.heap.size sb sts with cs := csI } : Dyn).k = 0 := rfl
  have hr0 : ({ dyn0 Q.n w.heap.size sb sts with cs := csI } : Dyn).ord = [] := rfl
  generalize ({ dyn0 Q.n w.heap.size sb sts with cs := csI } : Dyn) = D0 at hD0 hV0 hk0 hr0
  have hV0A : (fun x : Nat => if x = 0 then none else none : Nat → Option Wait) = fun _ => none := by funext x; simp
  rw [hV0] at A1
  have t0 := hD0.sys.tB.1
  rw [← eB] at A1
  rw [en] at t0
  refine (At.walk (h := 0) (Stop := fun g w' => g = G (hd54 S.B S.sb S.n S.scap S.tb S.tcap 0 (fun _ => undef)) (fr23a S.B Q.n Q.tcap Q.sl.length Q.sc (some ⟨Q.tb, 0, none⟩) Q.sa og Q.most :: c :: cs0) ∧ ∃ d, w' = (w0.at d0).at d) (over_begin S.B Q.n Q.tcap Q.sl.length Q.sc (some ⟨Q.tb, 0, none⟩) Q.sa og Q.most (c :: cs0) _ (by
    have := begin_in (main := (0 == 0)) (V := VV S D0 none none) S.B S.sb Q.n S.scap Q.tb Q.tcap (fr23a S.B Q.n Q.tcap Q.sl.length Q.sc (some ⟨Q.tb, 0, none⟩) Q.sa og Q.most :: c :: cs0) (w0.at d0) t0
    rw [en, etb, etc]
    exact this)) A1).bind ?_
  rintro m2 T2 ⟨_, _, ⟨rfl, d2, rfl⟩, A2⟩
  have hD2 : Drv (C S) w.heap.size D0 x0 ((w0.at d0).at d2) := ⟨hD0.sys.at d2, (C S).keep hD0.inv ((Keeps.refl _ _).at d2), hD0.fe, hD0.out, hD0.fresh, hD0.gg, hD0.most, hD0.cnt⟩
  rw [← eg] at A2
  have A2' : At Try.prog (VV S D0 none none) 0 (S.g0 + D0.k) (G (hd54 S.B S.sb S.n S.scap S.tb S.tcap D0.k (fun _ => undef)) (fr23a S.B Q.n Q.tcap Q.sl.length Q.sc (some ⟨Q.tb, 0, none⟩) Q.sa og Q.most :: c :: cs0)) ((w0.at d0).at d2) m2 T2 := by
    rw [hk0]; exact A2
  refine (begin_all S.n (by omega) hr0 hD2 A2').bind ?_
  rintro m3 T3 ⟨D3, w3, u3, A3, hD3, ho3, hk3⟩
  rw [hk0] at hD3
  refine (At.walk (h := 0) (begin_out S.B S.sb S.n S.scap S.tb S.tcap u3 (fr23a S.B Q.n Q.tcap Q.sl.length Q.sc (some ⟨Q.tb, 0, none⟩) Q.sa og Q.most) (c :: cs0) w3) A3).bind ?_
  rintro m4 T4 ⟨_, _, ⟨rfl, d4, rfl⟩, A4⟩
  refine (At.walk (h := 0) (Stop := fun g w' => (∃ u, g = G (hd55 S.B S.sa S.sl.length S.sc 0 u) (fr23b S.B Q.n Q.tcap Q.sl.length Q.sc (some ⟨Q.tb, 0, none⟩) Q.sa og Q.most :: c :: cs0)) ∧ ∃ d, w' = (w3.at d4).at d) (over_follow S.B Q.n Q.tcap Q.sl.length Q.sc (some ⟨Q.tb, 0, none⟩) Q.sa og Q.most (c :: cs0) _ (by
    rw [esa, esl, essc]
    exact follow_in S.B Q.sa Q.sl.length Q.sc _ _)) A4).bind ?_
  rintro m5 T5 ⟨_, _, ⟨⟨u5, rfl⟩, d5, rfl⟩, A5⟩
  have hD5 : Drv (C S) w.heap.size D3 (bornAll (C S) S.n 0 x0) ((w3.at d4).at d5) := ⟨(hD3.sys.at d4).at d5, (C S).keep hD3.inv (((Keeps.refl _ _).at d4).at d5), hD3.fe, hD3.out, hD3.fresh, hD3.gg, hD3.most, hD3.cnt⟩
  refine (follow_all S.sl 0 rfl (Nat.zero_le _) (esl ▸ hm) hD5 hk3 A5).bind ?_
  rintro m6 T6 ⟨D6, w6, x6, A6, hD6, hx6, hk6, hov6⟩
  have t6 := hD6.sys.tB
  refine (At.walk (h := 0) (Stop := fun g w' => g = G (hd56 S.B S.sb S.n S.scap w6.heap.size 0 (fun _ => undef)) (fr23c S.B Q.n Q.tcap Q.sl.length Q.sc (some ⟨Q.tb, 0, none⟩) Q.sa og Q.most D6.gg :: c :: cs0) ∧ ∃ d, w' = (w6.alloc (.cells (madeCells #[.bool false] S.n) 4)).at d)
    (over_end S.B Q.n Q.tcap Q.sl.length Q.sc (some ⟨Q.tb, 0, none⟩) Q.sa og Q.most D6.gg (c :: cs0) w6 t6.2.1 (end_in S.B S.sb S.n S.scap _ w6 hD6.sys.n64 t6.1)) A6).bind ?_
  rintro m7 T7 ⟨_, _, ⟨rfl, d7, rfl⟩, A7⟩
  have hq : D6.own w6.heap.size = none := by
    cases h : D6.own w6.heap.size with
    | none => rfl
    | some x => have := (hD6.sys.lt _ _ h).2; omega
  have hF7 : Fini (C S) w.heap.size D6 x6 ((w6.alloc (.cells (madeCells #[.bool false] S.n) 4)).at d7) w6.heap.size 0 := by
    refine ⟨(hD6.sys.alloc _).at d7, (C S).keep hD6.inv ⟨by simp [World.at], fun b hb ho => ⟨by rw [upd_ne _ _ (by omega)]; exact ho, heap_new_lt w6 _ hb⟩⟩, hq, ⟨_, heap_alloc_new w6 _, fun i hi => ?_⟩, fun i _ hi => ⟨hD6.fe i, (hD6.out i (by omega)).1⟩, fun i hi => absurd hi (Nat.not_lt_zero _), fun i hi => (hD6.out i (by omega)).2, hk6⟩
    have : (madeCells #[.bool false] S.n)[i]? = (madeCells #[.bool false] S.n).toList[i]? := by simp
    rw [this, toList_madeCells_one, List.getElem?_replicate, if_pos hi]
    simp
  refine (end_all S.n 0 (by omega) hF7 A7).bind ?_
  rintro m8 T8 ⟨D8, w8, u8, A8, hF8, ho8, ha8, hc8⟩
  refine (At.walk (h := 0) (end_out S.B S.sb S.n S.scap w6.heap.size u8 _ (c :: cs0) w8) A8).bind ?_
  rintro m9 T9 ⟨_, _, ⟨rfl, d9, rfl⟩, A9⟩
  rw [en] at A9
  refine (At.walk (h := 0) (over_out S.B w6.heap.size Q.n Q.tcap Q.sl.length Q.sc (some ⟨Q.tb, 0, none⟩) Q.sa og Q.most D6.gg D8.oa D8.ord.length D8.oc c cs0 (w8.at d9) hF8.sys.tB.2.2.2.1) A9).mono ?_
  rintro m10 T10 ⟨_, _, ⟨rfl, d10, rfl⟩, A10⟩
  have hVe : VV S D8 none none = fun _ => none := by
    funext g
    unfold VV
    by_cases h0 : g = 0
    · rw [if_pos h0]
    · rw [if_neg h0, if_neg]
      rintro ⟨h1, h2, h3, _⟩
      rw [hF8.lo _ (by have := hF8.k; omega)] at h3
      cases h3
  rw [hVe] at A10
  have hs8 := hF8.sys
  refine ⟨_, _, _, (by omega), ⟨_, ⟨nG, sb, oc, sts, x6, D6.ord, D8.oa, D8.oc, w6.heap.size, D8.k, upd D8.own w6.heap.size (some .ord), D8.cs, ?_⟩, rfl⟩, A10⟩
  rw [hSt]
  rw [en] at hx6
  rw [esl, ho3, hr0] at hx6
  have hgg : D6.gg = goingX (C S) x6 := hD6.going hk6
  have hbr : decide ((0 : Int) < (D6.gg : Int)) = decide (0 < goingX (C S) x6) := decide_eq_decide.2 (by omega)
  obtain ⟨arr, hq8, hqa⟩ := hF8.qh
  refine ⟨hx6, hov6, by rw [hbr, ho8], (C S).keep hF8.inv (((Keeps.refl _ _).at d9).at d10), ?_, fun b hb => ?_, upd_same _ _ _, ?_, ?_, arr, hq8, fun i hi => ?_⟩
  · rw [← ho8]; exact ((hs8.at d9).at d10).row
  · have hb := hs8.oo b (by rw [ho8]; exact hb)
    have hne : b ≠ w6.heap.size := fun e => by rw [e, hF8.qo] at hb; cases hb
    exact ⟨by rw [upd_ne _ _ hne]; exact hb, hne⟩
  · have := hD6.sys.lt _ _ hD6.sys.oB; omega
  · have := hs8.lt _ _ hs8.oB
    have h2 : w.heap.size ≤ w8.heap.size := by omega
    exact h2
  · have := hqa i (by omega)
    rw [this]
    have : decide (i < S.n) = true := decide_eq_true (by omega)
    rw [this, Bool.true_and]
section
variable {main : Bool} {V : Nat → Option Wait}
noncomputable def row161B : Bool := match Try.prog.info? 230 with
  | some ti => (match ti.methods.find? (·.name == "Step") with
    | some m => m.path.isEmpty && (m.func == some (181, true))
    | none => false)
  | none => false
theorem row161 : ∃ ti m, Try.prog.info? 230 = some ti ∧ ti.methods.find? (·.name == "Step") = some m ∧ m.path = #[] ∧ m.func = some (181, true) := by
  have h : row161B = true := by kernel_rfl
  unfold row161B at h
  revert h
  cases h1 : Try.prog.info? 230 with
  | none => simp
  | some ti =>
    simp only []
    cases h2 : ti.methods.find? (·.name == "Step") with
    | none => simp
    | some m =>
      simp only [Bool.and_eq_true, Array.isEmpty_iff, beq_iff_eq]
      exact fun h => ⟨ti, m, rfl, h2, h.1, h.2⟩
theorem method_step (p : Nat) (w : World) (es : Array Event) : (method (Try.prog.types.size + Made.depth) 230 (.pointer (some ⟨p, 0, none⟩)) "Step").run Try.prog w = .ok (181, .pointer (some ⟨p, 0, none⟩)) w ∧ (method (Try.prog.types.size + Made.depth) 230 (.pointer (some ⟨p, 0, none⟩)) "Step").events Try.prog w es = es := by
  obtain ⟨ti, m, h1, h2, h3, h4⟩ := row161
  obtain ⟨k, hk⟩ : ∃ k, Try.prog.types.size + Made.depth = k + 1 := ⟨Try.prog.types.size + (Made.depth - 1), by have : 1 ≤ Made.depth := by decide
                                                                                                                omega⟩
  rw [hk]
  unfold method
  refine ⟨?_, ?_⟩
  · simp [typeInfo, h1, h2, h3, h4, follow, receiverAt, run_underlying und161, Place.get]
  · simp [typeInfo, h1, h2, h3, h4, follow, receiverAt, run_underlying und161, Place.get]
section
variable {Stop : Goroutine → World → Prop} {w : World} {b : Frame} {a : Act} {k : List Item} {cs : List Frame} {ops : Array Oper} {i : Nat} {rest : List Nat} {o : Oper}
theorem stepG_invokeStep {x : Operand} {ats : Array TypeId} (p : Nat) (ho : ops[i]? = some o) (hw : Region.wanted o (yielded ops a.tmps) = true) (hk : b.kind ≠ .early) (hop : o.op = .call { callee := .invoke x "Step", args := #[], argTypes := ats }) (hx : a.eval x = .iface 230 (.pointer (some ⟨p, 0, none⟩))) :
    stepG Try.prog main (G (b.at a (.inRegion ops (i :: rest) :: k)) cs) w = .go (G (Frame.enter Try.prog 181 #[.pointer (some ⟨p, 0, none⟩)] .normal) (b.at a (.inRegion ops (i :: rest) :: k) :: cs)) w := by
  have h1 : ¬ Try.f181.name = "runtime.NumGoroutine" := by decide
  have h2 : ¬ Try.f181.body = none := by simp [Try.f181]
  have hm := method_step p w #[]
  rw [show Try.prog.types.size = 269 from by kernel_rfl] at hm
  have hr : (execOp a.eval o).run Try.prog w = .ok (.enter 181 #[.pointer (some ⟨p, 0, none⟩)]) w := by
    unfold execOp
    simp [hop, resolve, invoke, callMethod, callFunc, hm.1, Try.func181, h1, h2, hx]
  have he : (execOp a.eval o).events Try.prog w #[] = #[] := by
    unfold execOp
    simp [hop, resolve, invoke, callMethod, callFunc, hm.1, hm.2, Try.func181, h1, h2, hx]
  rw [stepG_enter ho hw hk hr]
  have : listed Try.prog b.fn a o w = #[] := by unfold listed; rw [he]; exact seen_none Try.prog _
  rw [this]
theorem Walk.invokeStep {x : Operand} {ats : Array TypeId} (p : Nat) (ho : ops[i]? = some o) (hw : Region.wanted o (yielded ops a.tmps) = true) (hk : b.kind ≠ .early) (hop : o.op = .call { callee := .invoke x "Step", args := #[], argTypes := ats }) (hx : a.eval x = .iface 230 (.pointer (some ⟨p, 0, none⟩)))
    (h : Walk Try.prog main (DR V) Stop (G (Frame.enter Try.prog 181 #[.pointer (some ⟨p, 0, none⟩)] .normal) (b.at a (.inRegion ops (i :: rest) :: k) :: cs)) w) : Walk Try.prog main (DR V) Stop (G (b.at a (.inRegion ops (i :: rest) :: k)) cs) w :=
  Walk.ctl rfl (fun _ => stepG_invokeStep p ho hw hk hop hx) h
end
end
end Go.Proofs.Ytgfajibjedfkdaa
namespace Go.Relay
section
open Go.Conc Go.RowKit
open Go.ConcN (upd upd_ne upd_same)
def lowW (ops : Array Oper) : Bool := (List.range ops.size).all fun i => (ops[i]?).any fun o => o.after.all fun e => !Region.binds .any e || decide (e.on < i)
theorem all_upW {ops : Array Oper} (hlow : lowW ops = true) {L : Array Bool} (hL : L.size = ops.size) (hr : Region.ready .any ops L = []) : ∀ i, i < ops.size → upTo L i = true := by
  intro i
  induction i using Nat.strongRecOn with
  | _ i ih =>
    intro hi
    refine Classical.byContradiction fun hne => ?_
    have hf : upTo L i = false := by simpa using hne
    have key : ∀ e ∈ ops[i].after, Region.binds .any e = true → e.on < i := fun e he hb => by
      have := List.all_eq_true.1 hlow i (List.mem_range.2 hi)
      rw [Array.getElem?_eq_getElem hi] at this
      simp only [Option.any_some] at this
      have := (Array.all_eq_true_iff_forall_mem.1 this) e he
      simpa [hb] using this
    have hm : i ∈ Region.ready .any ops L := mem_ready.2 ⟨by rw [upTo_in (by omega)]; exact hf, ops[i], Array.getElem?_eq_getElem hi, fun e he hb => ih e.on (key e he hb) (Nat.lt_trans (key e he hb) hi)⟩
    rw [hr] at hm; cases hm
section
variable {ops : Array Oper} {E : Type} {Good : List Nat → Act → E → Prop}
theorem anyE {Inv : (Nat → Bool) → Act → E → Prop} (hlow : lowW ops = true)
    (hop : ∀ f i o a e, Inv f a e → Closed ops f → f i = false → ops[i]? = some o → (∀ x ∈ o.after, Region.binds .any x = true → f x.on = true) → ∀ rest, (∀ a' e', Inv (upd f i true) a' e' → Good rest a' e') → Good (i :: rest) a e)
    (hend : ∀ f a e, Inv f a e → (∀ i, i < ops.size → f i = true) → Good [] a e) :
    ∀ (fuel t : Nat) (L : Array Bool) (a : Act) (e : E), L.size = ops.size → Inv (upTo L) a e → Closed ops (upTo L) → leftOf ops.size (upTo L) ≤ fuel → Good (Region.linearise.go .any ops fuel t L []) a e := by
  intro fuel
  induction fuel with
  | zero =>
    intro t L a e hL hI _ hf
    have hall : ∀ i, i < ops.size → upTo L i = true := fun i hi => by
      refine Classical.byContradiction fun hne => ?_
      have := leftOf_pos hi (f := upTo L) (by simpa using hne)
      omega
    exact hend _ a e hI hall
  | succ fuel ih =>
    intro t L a e hL hI hC hf
    simp only [Region.linearise.go]
    change Good (match (Region.ready .any ops L)[t % (Region.ready .any ops L).length]? with
      | some i => Region.linearise.go .any ops fuel (t / (Region.ready .any ops L).length) (L.setIfInBounds i true) [i]
      | none => [].reverse) a e
    cases hi : (Region.ready .any ops L)[t % (Region.ready .any ops L).length]? with
    | none =>
      have hnil : Region.ready .any ops L = [] := by
        cases hr : Region.ready .any ops L with
        | nil => rfl
        | cons x xs =>
          rw [hr] at hi
          have hlt : t % (x :: xs).length < (x :: xs).length := Nat.mod_lt _ (by simp)
          simp at hi
          simp at hlt
          omega
      exact hend _ a e hI (all_upW hlow hL hnil)
    | some i =>
      simp only []
      rw [linearise_go_acc, List.reverse_singleton, List.singleton_append]
      obtain ⟨h0, o, ho, hd⟩ := mem_ready.1 (List.mem_of_getElem? hi)
      have hil : i < ops.size := (Array.getElem?_eq_some_iff.1 ho).1
      rw [upTo_in (by omega)] at h0
      refine hop (upTo L) i o a e hI hC h0 ho hd _ fun a' e' hI' => ?_
      refine ih _ _ a' e' (by simp [hL]) (by rw [upTo_set (by omega)]; exact hI') ?_ ?_
      · rw [upTo_set (by omega)]
        intro j o' ho' hj x hx hb
        have hup : ∀ x, upTo L x = true → upd (upTo L) i true x = true := fun x hx => by
          by_cases ex : x = i
          · subst ex; exact upd_same _ _ _
          · rw [upd_ne _ _ ex]; exact hx
        by_cases ej : j = i
        · subst ej
          rw [ho] at ho'; cases ho'
          exact hup _ (hd x hx hb)
        · rw [upd_ne _ _ ej] at hj
          exact hup _ (hC j o' ho' hj x hx hb)
      · rw [upTo_set (by omega), leftOf_set hil h0]
        omega
end
theorem Walk.drawnE {P : Program} {main : Bool} {b : Frame} {k : List Item} {ops : Array Oper} {id : Nat} {a : Act} {E : Type} {V : E → Nat → Option Wait} {Stop : E → Goroutine → World → Prop} {cs : E → List Frame} {w : E → World}
    {Inv : (Nat → Bool) → Act → E → Prop} (e0 : E) (hm : P.follows .mixedOrders = true) (hlow : lowW ops = true) (h0 : Inv (fun _ => false) a e0)
    (hop : ∀ f i o a e, Inv f a e → Closed ops f → f i = false → ops[i]? = some o → (∀ x ∈ o.after, Region.binds .any x = true → f x.on = true) → ∀ rest, (∀ a' e', Inv (upd f i true) a' e' → Walk P main (DR (V e')) (Stop e') (G (b.at a' (.inRegion ops rest :: k)) (cs e')) (w e')) → Walk P main (DR (V e)) (Stop e) (G (b.at a (.inRegion ops (i :: rest) :: k)) (cs e)) (w e))
    (hend : ∀ f a e, Inv f a e → (∀ i, i < ops.size → f i = true) → Walk P main (DR (V e)) (Stop e) (G (b.at a (.inRegion ops [] :: k)) (cs e)) (w e)) :
    Walk P main (DR (V e0)) (Stop e0) (G (b.at a (.code (.region id ops true) :: k)) (cs e0)) (w e0) := by
  have hu : upTo (Array.replicate ops.size false) = fun _ => false := by
    funext j
    unfold upTo
    rw [Array.getD_eq_getD_getElem?, Array.getElem?_replicate]
    split <;> rfl
  refine Walk.step rfl (fun d => G (b.at a (.inRegion ops (Region.linearise .any ops ((w e0).tape d (.order b.fn id))) :: k)) (cs e0)) (fun d => (w e0).at (d + 1)) (fun _ => #[]) (fun d => ?_) (fun d => drawsR _) (fun d => Walk.back ?_ (d + 1))
  · rw [stepG_region_draw]
    simp only [Region.schedule, hm, Bool.true_or, if_true]
    rfl
  · refine anyE (Good := fun rest a e => Walk P main (DR (V e)) (Stop e) (G (b.at a (.inRegion ops rest :: k)) (cs e)) (w e)) hlow hop hend ops.size _ _ a e0 (by simp) (by rw [hu]; exact h0) (by rw [hu]; intro _ _ _ h; cases h) ?_
    unfold leftOf
    exact Nat.le_trans List.countP_le_length (by simp)
section
variable {P : Program} {main : Bool} {V : Nat → Option Wait} {Stop : Goroutine → World → Prop} {b : Frame} {k : List Item} {cs : List Frame} {ops : Array Oper} {w : World} {a : Act}
theorem Walk.drawnCW {id m : Nat} (hm : P.follows .mixedOrders = true) (hsz : ops.size = m) (hlow : lowW ops = true) (hc : calmB ops m = true) (hk : b.kind ≠ .early)
    (h : Cm P main V ops (· = w) (fun a => Walk P main (DR V) Stop (G (b.at a (.inRegion ops [] :: k)) cs) w) (List.range m) a) : Walk P main (DR V) Stop (G (b.at a (.code (.region id ops true) :: k)) cs) w := by
  rw [List.range_eq_range'] at h
  have h0 : Cm P main V ops (· = w) (fun a => Walk P main (DR V) Stop (G (b.at a (.inRegion ops [] :: k)) cs) w) (List.range' 0 m) (puts ops (fun _ => undef) (fun j => decide (j < 0)) a) := by
    have : puts ops (fun _ => undef) (fun j => decide (j < 0)) a = a := putsL_none _ a fun j _ => decide_eq_false (Nat.not_lt_zero j)
    rw [this]; exact h
  obtain ⟨vals, _, hcond, hend⟩ := cm_vals (Z := (· = w)) (w := w) rfl (Nat.le_of_eq hsz.symm) m 0 (fun _ => undef) a (by omega) h0
  refine Walk.drawnE (E := World) (V := fun _ => V) (Stop := fun _ => Stop) (cs := fun _ => cs) (w := fun w => w) (Inv := fun f x w' => x = puts ops vals f a ∧ ∃ d, w' = w.at d) w hm hlow ⟨(puts_zero vals a).symm, w.drawn, rfl⟩ ?_ ?_
  · rintro f i o _ _ ⟨rfl, d, rfl⟩ _ hf ho hd rest hr
    have hi : i < m := by have := (Array.getElem?_eq_some_iff.1 ho).1; omega
    refine Walk.back ?_ d
    refine Walk.calmOp (Z := (· = w)) rfl hc hk hi ho hd (hcond i o (Nat.zero_le _) hi ho) ?_
    rw [← puts_upd hc hi vals hf ho a]
    exact hr _ (w.at w.drawn) ⟨rfl, w.drawn, rfl⟩
  · rintro f _ _ ⟨rfl, d, rfl⟩ hall
    refine Walk.back ?_ d
    have : puts ops vals f a = puts ops vals (fun j => decide (j < m)) a := puts_congr (fun j hj => ⟨(hall j hj).trans (decide_eq_true (hsz ▸ hj)).symm, fun _ => rfl⟩) a
    rw [this]
    exact hend
end
end
end Go.Relay
namespace Go.Proofs.Ytgfajibjedfkdaa
open Go.Conc Go.RowKit Go.Relay
open Go.ConcN (upd upd_ne upd_same)
section
structure OpV where
  k : Int
  a : Int
  b : Int
  c : Int
structure Ans where
  ok : Bool
  n : Int
  l : List Int
deriving DecidableEq
def opVal (o : OpV) : Value := .agg #[.int .i64 o.k, .int .i64 o.a, .int .i64 o.b, .int .i64 o.c]
def ansV (a : Ans) (sl : Value) : Value := .agg #[.bool a.ok, .int .i64 a.n, sl]
def ansRow (z : List (Ans × Value)) : List Value := z.flatMap fun a => [.bool a.1.ok, .int .i64 a.1.n, a.2]
theorem ansRow_snoc (z : List (Ans × Value)) (a : Ans × Value) : ansRow (z ++ [a]) = ansRow z ++ [.bool a.1.ok, .int .i64 a.1.n, a.2] := by simp [ansRow]
def LsAt (base : Nat) (P : Nat → Prop) (sl : Value) (l : List Int) (w : World) : Prop := ∃ a c, sl = .slice a l.length c ∧ l.length ≤ 1048576 ∧ (∀ {p : Prop}, p → w.ownsRow base 2 1 sl l.length (l.map fun z => .int .i64 z) ∧ ∀ b, sl.ownBlock = some b → P b)
theorem LsAt.same {base : Nat} {P : Nat → Prop} {sl : Value} {l : List Int} {w w' : World} (h : LsAt base P sl l w) (hb : ∀ b, P b → w'.heap[b]? = w.heap[b]?) : LsAt base P sl l w' := by
  obtain ⟨a, c, e, hn, hr⟩ := h
  exact ⟨a, c, e, hn, fun hl => ⟨row_same (hr hl).1 fun b e => hb b ((hr hl).2 b e), (hr hl).2⟩⟩
theorem LsAt.imp {base : Nat} {P P' : Nat → Prop} {sl : Value} {l : List Int} {w : World} (h : LsAt base P sl l w) (hP : ∀ b, P b → P' b) : LsAt base P' sl l w := by
  obtain ⟨a, c, e, hn, hr⟩ := h
  exact ⟨a, c, e, hn, fun hl => ⟨(hr hl).1, fun b e => hP b ((hr hl).2 b e)⟩⟩
theorem LsAt.low {base base' : Nat} {P : Nat → Prop} {sl : Value} {l : List Int} {w : World} (h : LsAt base P sl l w) (hb : base' ≤ base) : LsAt base' P sl l w := by
  obtain ⟨a, c, e, hn, hr⟩ := h
  exact ⟨a, c, e, hn, fun hl => ⟨⟨(hr hl).1.1, (hr hl).1.2.imp id fun ⟨g, cap, cur, h1, h2, h3⟩ => ⟨g, cap, cur, h1, Nat.le_trans hb h2, h3⟩⟩, (hr hl).2⟩⟩
def LsR (sl : Value) (l : List Int) (w : World) : Prop := ∃ a c, sl = .slice a l.length c ∧ l.length ≤ c ∧ (a = none → c = 0) ∧ ∀ (j : Nat) (z : Int), l[j]? = some z → ∃ b off, a = some ⟨b, off, none⟩ ∧ w.cell? ⟨b, off + j, none⟩ = some (.int .i64 z)
theorem LsR.same {sl : Value} {l : List Int} {w w' : World} (h : LsR sl l w) (hb : ∀ b, b < w.heap.size → w'.heap[b]? = w.heap[b]?) : LsR sl l w' := by
  obtain ⟨a, c, h1, h2, h3, h4⟩ := h
  refine ⟨a, c, h1, h2, h3, fun j z hj => ?_⟩
  obtain ⟨b, off, e, hc⟩ := h4 j z hj
  have hlt : b < w.heap.size := by
    unfold World.cell? at hc
    split at hc
    · rename_i h'; exact (Array.getElem?_eq_some_iff.1 h').1
    · cases hc
  exact ⟨b, off, e, (World.cell?_of_block (a := ⟨b, off + j, none⟩) (hb b hlt)).trans hc⟩
theorem LsR.nil (w : World) : LsR (.slice none 0 0) [] w := ⟨none, 0, rfl, Nat.le_refl _, fun _ => rfl, fun j z hj => (by simp at hj)⟩
theorem LsAt.nil (base : Nat) (P : Nat → Prop) (w : World) : LsAt base P (.slice none 0 0) [] w := ⟨none, 0, rfl, Nat.zero_le _, fun _ => ⟨⟨rfl, .inl ⟨rfl, rfl⟩⟩, fun b h => by simp [Value.ownBlock] at h⟩⟩
def RowA (base : Nat) (P : Nat → Prop) (hd : Value) (ans : List Ans) (w : World) : Prop := ∃ (ta : Option Addr) (tc : Nat) (z : List (Ans × Value)), z.map Prod.fst = ans ∧ hd = .slice ta ans.length tc ∧ w.ownsRow base 81 3 hd ans.length (ansRow z) ∧ (∀ b, hd.ownBlock = some b → P b) ∧ ∀ p ∈ z, LsAt base P p.2 p.1.l w
theorem RowA.same {base : Nat} {P : Nat → Prop} {hd : Value} {ans : List Ans} {w w' : World} (h : RowA base P hd ans w) (hb : ∀ b, P b → w'.heap[b]? = w.heap[b]?) : RowA base P hd ans w' := by
  obtain ⟨ta, tc, z, h1, h2, h3, h4, h5⟩ := h
  exact ⟨ta, tc, z, h1, h2, row_same h3 fun b e => hb b (h4 b e), h4, fun p hp => (h5 p hp).same hb⟩
theorem RowA.imp {base : Nat} {P P' : Nat → Prop} {hd : Value} {ans : List Ans} {w : World} (h : RowA base P hd ans w) (hP : ∀ b, P b → P' b) : RowA base P' hd ans w := by
  obtain ⟨ta, tc, z, h1, h2, h3, h4, h5⟩ := h
  exact ⟨ta, tc, z, h1, h2, h3, fun b e => hP b (h4 b e), fun p hp => (h5 p hp).imp hP⟩
theorem RowA.hdo {base : Nat} {P : Nat → Prop} {hd : Value} {ans : List Ans} {w : World} (h : RowA base P hd ans w) : ∀ b, hd.ownBlock = some b → P b := by
  obtain ⟨ta, tc, z, h1, h2, h3, h4, h5⟩ := h
  exact h4
theorem RowA.low {base base' : Nat} {P : Nat → Prop} {hd : Value} {ans : List Ans} {w : World} (h : RowA base P hd ans w) (hb : base' ≤ base) : RowA base' P hd ans w := by
  obtain ⟨ta, tc, z, h1, h2, h3, h4, h5⟩ := h
  exact ⟨ta, tc, z, h1, h2, ⟨h3.1, h3.2.imp id fun ⟨g, cap, cur, e1, e2, e3⟩ => ⟨g, cap, cur, e1, Nat.le_trans hb e2, e3⟩⟩, h4, fun p hp => (h5 p hp).low hb⟩
theorem RowA.nil (base : Nat) (P : Nat → Prop) (w : World) : RowA base P (.slice none 0 0) [] w :=
  ⟨none, 0, [], rfl, rfl, ⟨rfl, .inl ⟨rfl, rfl⟩⟩, fun b h => (by simp [Value.ownBlock] at h), fun p hp => (by cases hp)⟩
structure La where
  Sg : Type
  D : Type
  Gh : Type
  le : Gh → Gh → Prop
  refl : ∀ y, le y y
  trans : ∀ {x y z : Gh}, le x y → le y z → le x z
  enter : Sg → Int → OpV → Sg × (Ans ⊕ D)
  act : Sg → D → Sg × (Ans ⊕ D)
  sh : Gh → Nat → Prop
  mono : ∀ {y y' : Gh} {b : Nat}, le y y' → sh y b → sh y' b
  I : Gh → Sg → World → Prop
  stable : ∀ {y : Gh} {s : Sg} {w w' : World}, I y s w → (∀ b, sh y b → w'.heap[b]? = w.heap[b]?) → I y s w'
  lt : ∀ {y : Gh} {s : Sg} {w : World} {b : Nat}, I y s w → sh y b → b < w.heap.size
structure Tst (L : La) where
  left : List OpV
  d : Option L.D
  ans : List Ans
def settleO (L : La) (th : Int) : L.Sg → List OpV → List Ans → L.Sg × Tst L
  | s, [], az => (s, ⟨[], none, az⟩)
  | s, o :: l, az => match L.enter s th o with
    | (s', .inl a) => settleO L th s' l (az ++ [a])
    | (s', .inr d) => (s', ⟨l, some d, az⟩)
def landO (L : La) (th : Int) (r : L.Sg × (Ans ⊕ L.D)) (left : List OpV) (az : List Ans) : L.Sg × Tst L := match r with
  | (s', .inl a) => settleO L th s' left (az ++ [a])
  | (s', .inr d) => (s', ⟨left, some d, az⟩)
theorem settleO_cons (L : La) (th : Int) (s : L.Sg) (o : OpV) (l : List OpV) (az : List Ans) : settleO L th s (o :: l) az = landO L th (L.enter s th o) l az := rfl
structure OX (L : La) where
  s : L.Sg
  th : Nat → Tst L
  out : Nat → Option Bool
  cnt : Nat
def putO {L : La} (x : OX L) (i : Nat) (r : L.Sg × Tst L) (c : Nat) : OX L := ⟨r.1, upd x.th i r.2, upd x.out i (match r.2.d with | none => some false | some _ => none), c⟩
def bornO {L : La} (ops : Nat → List OpV) (x : OX L) (i : Nat) : OX L := putO x i (settleO L (i : Nat) x.s (ops i) []) x.cnt
def nextO {L : La} (x : OX L) (i : Nat) : OX L := match (x.th i).d with
  | none => { x with cnt := x.cnt + 1 }
  | some d => putO x i (landO L (i : Nat) (L.act x.s d) (x.th i).left (x.th i).ans) (x.cnt + 1)
structure OG where
  n : Nat
  w0 : World
  A : Nat
  ops : Nat → List OpV
  sh : Nat → Prop
def AnT (g : OG) (i : Nat) (w w' : World) (hd : Value) : Prop := ∃ arr arr' : Array Value, w.heap[g.A]? = some (.cells arr 79) ∧ w'.heap[g.A]? = some (.cells arr' 79) ∧ arr'.size = arr.size ∧ arr'[i]? = some hd ∧ ∀ j, j ≠ i → arr'[j]? = arr[j]?
structure Tn (L : La) where
  V : Nat → Option Wait
  f : Frame
  fs : List Frame
  w : World
  y : L.Gh
  M : Nat → Prop
  goal : L.Sg × Tst L
def ownT {L : La} (τ : Tn L) (y : L.Gh) (w : World) (b : Nat) : Prop := (τ.M b ∨ (τ.w.heap.size ≤ b ∧ b < w.heap.size)) ∧ ¬ L.sh y b
def StopT (L : La) (g : OG) (S : Stile) (i : Nat) (C : Tst L → List Frame → L.Gh → Value → (Nat → Prop) → World → Prop) (τ : Tn L) (g' : Goroutine) (w' : World) : Prop :=
  ∃ y', L.le τ.y y' ∧ τ.w.heap.size ≤ w'.heap.size ∧ (∀ b, b < τ.w.heap.size → ¬ τ.M b → ¬ L.sh τ.y b → b ≠ g.A → w'.heap[b]? = τ.w.heap[b]?) ∧ L.I y' τ.goal.1 w' ∧ (∀ b, L.sh y' b → L.sh τ.y b ∨ τ.M b ∨ τ.w.heap.size ≤ b) ∧
  ∃ hd, AnT g i τ.w w' hd ∧ RowA g.w0.heap.size (ownT τ y' w') hd τ.goal.2.ans w' ∧
    ((τ.goal.2.d = none ∧ g' = G (τ.f.finish (.tuple #[])) τ.fs) ∨
     ∃ l, τ.goal.2.d.isSome = true ∧ l ≠ [] ∧ (∀ f ∈ l, Plain f) ∧ C τ.goal.2 l y' hd (ownT τ y' w') w' ∧ g' = G (Frame.enter Try.prog 181 #[.pointer (some ⟨S.p i, 0, none⟩)] .normal) (l ++ τ.f :: τ.fs))
theorem StopT.mono {L : La} {g : OG} {S : Stile} {i : Nat} {C C' : Tst L → List Frame → L.Gh → Value → (Nat → Prop) → World → Prop} {τ : Tn L} {g' : Goroutine} {w' : World} (h : StopT L g S i C τ g' w') (hC : ∀ t l y hd M w, C t l y hd M w → C' t l y hd M w) : StopT L g S i C' τ g' w' := by
  obtain ⟨y', h0, h1, h2, h3, hp, hd, h4, h5, h7⟩ := h
  refine ⟨y', h0, h1, h2, h3, hp, hd, h4, h5, ?_⟩
  rcases h7 with h | ⟨l, a1, a2, a3, a4, a5⟩
  · exact .inl h
  · exact .inr ⟨l, a1, a2, a3, hC _ _ _ _ _ _ a4, a5⟩
structure Rely (L : La) (g : OG) (i : Nat) (V : Nat → Option Wait) (y : L.Gh) (w : World) (hd : Value) (M : Nat → Prop) : Prop where
  size : g.w0.heap.size ≤ w.heap.size
  old : ∀ b, b < g.w0.heap.size → ¬ g.sh b → b ≠ g.A → w.heap[b]? = g.w0.heap[b]?
  an : ∃ arr : Array Value, w.heap[g.A]? = some (.cells arr 79) ∧ arr[i]? = some hd
  lo : ∀ b, M b → g.w0.heap.size ≤ b ∧ b < w.heap.size ∧ ¬ L.sh y b
  apart : ∀ b, (b < g.w0.heap.size ∨ M b ∨ w.heap.size ≤ b ∨ L.sh y b) → Apart V b
  shlo : ∀ b, L.sh y b → b ≠ g.A ∧ b < w.heap.size ∧ (b < g.w0.heap.size → g.sh b)
  alo : g.A < g.w0.heap.size
  hdo : ∀ b, hd.ownBlock = some b → M b
def Cont (L : La) (g : OG) (S : Stile) (i : Nat) : Nat → Tst L → List Frame → L.Gh → Value → (Nat → Prop) → World → Prop
  | 0 => fun _ _ _ _ _ _ => True
  | N + 1 => fun t cs y hd M w => ∀ (V : Nat → Option Wait) (f : Frame) (fs : List Frame) (y' : L.Gh) (w' : World) (s : L.Sg) (c : Frame) (l : List Frame) (d : L.D), L.le y y' → w.heap.size ≤ w'.heap.size → (∀ b, M b → w'.heap[b]? = w.heap[b]?) → Rely L g i V y' w' hd M → L.I y' s w' → t.d = some d → cs = c :: l →
    Walk Try.prog false (DR V) (StopT L g S i (Cont L g S i N) ⟨V, f, fs, w', y', M, landO L (i : Nat) (L.act s d) t.left t.ans⟩) (G (c.finish (.tuple #[])) (l ++ f :: fs)) w'
section
variable {L : La} {g : OG} {S : Stile} {i : Nat}
theorem Cont.keep {N : Nat} {t : Tst L} {cs : List Frame} {y y1 : L.Gh} {hd : Value} {M : Nat → Prop} {w w1 : World} (h : Cont L g S i N t cs y hd M w) (hy : L.le y y1) (hs : w.heap.size ≤ w1.heap.size) (hb : ∀ b, M b → w1.heap[b]? = w.heap[b]?) : Cont L g S i N t cs y1 hd M w1 := by
  cases N with
  | zero => trivial
  | succ N => exact fun V f fs y' w' s c l d h0 h1 h2 h3 h4 h5 h6 => h V f fs y' w' s c l d (L.trans hy h0) (Nat.le_trans hs h1) (fun b hM => (h2 b hM).trans (hb b hM)) h3 h4 h5 h6
theorem Cont.less : ∀ {N : Nat} {t : Tst L} {cs : List Frame} {y : L.Gh} {hd : Value} {M : Nat → Prop} {w : World}, Cont L g S i (N + 1) t cs y hd M w → Cont L g S i N t cs y hd M w
  | 0, _, _, _, _, _, _, _ => trivial
  | _ + 1, _, _, _, _, _, _, h => fun V f fs y' w' s c l d h0 h1 h2 h3 h4 h5 h6 => (h V f fs y' w' s c l d h0 h1 h2 h3 h4 h5 h6).mono fun _ _ hS => hS.mono fun _ _ _ _ _ _ => Cont.less
theorem Cont.le {N N' : Nat} (hN : N' ≤ N) {t : Tst L} {cs : List Frame} {y : L.Gh} {hd : Value} {M : Nat → Prop} {w : World} (h : Cont L g S i N t cs y hd M w) : Cont L g S i N' t cs y hd M w := by
  induction N with
  | zero => rwa [Nat.le_zero.1 hN]
  | succ N ih =>
    by_cases e : N' = N + 1
    · rw [e]; exact h
    · exact ih (by omega) h.less
end
end
section
structure Lb (L : La) where
  main : Bool
  E : Type
  V : E → Nat → Option Wait
  Stop : E → Goroutine → World → Prop
  bot : E → List Frame
  w : E → World
  s : E → L.Sg
  gh : E → L.Gh
  tgt : E → L.Sg × (Ans ⊕ L.D)
  fuel : E → Nat
  mine : E → Nat → Prop
def LW {L : La} (K : Lb L) (e : K.E) (g : Goroutine) : Prop := Walk Try.prog K.main (DR (K.V e)) (K.Stop e) g (K.w e)
structure Mg {L : La} (K : Lb L) (e e' : K.E) (y' : L.Gh) (s' : L.Sg) (w' : World) : Prop where
  V : K.V e' = K.V e
  Stop : K.Stop e' = K.Stop e
  bot : K.bot e' = K.bot e
  w : K.w e' = w'
  s : K.s e' = s'
  gh : K.gh e' = y'
  tgt : K.tgt e' = K.tgt e
  fuel : K.fuel e' = K.fuel e
  mine : ∀ b, K.mine e' b ↔ (K.mine e b ∨ ((K.w e).heap.size ≤ b ∧ b < w'.heap.size)) ∧ ¬ L.sh y' b
structure Mv {L : La} (K : Lb L) (e e' : K.E) (s' : L.Sg) (w' : World) : Prop where
  V : K.V e' = K.V e
  Stop : K.Stop e' = K.Stop e
  bot : K.bot e' = K.bot e
  w : K.w e' = w'
  s : K.s e' = s'
  gh : K.gh e' = K.gh e
  tgt : K.tgt e' = K.tgt e
  fuel : K.fuel e' = K.fuel e
  mine : ∀ b, K.mine e' b ↔ K.mine e b ∨ ((K.w e).heap.size ≤ b ∧ b < w'.heap.size)
structure Aft {L : La} (K : Lb L) (e : K.E) (d : L.D) (e' : K.E) : Prop where
  tgt : K.tgt e' = L.act (K.s e') d
  fuel : K.fuel e' < K.fuel e
  le : L.le (K.gh e) (K.gh e')
  size : (K.w e).heap.size ≤ (K.w e').heap.size
  mine : ∀ b, K.mine e b → K.mine e' b ∧ (K.w e').heap[b]? = (K.w e).heap[b]?
structure Lg (L : La) (sv : Value) extends Lb L where
  inv : ∀ e, L.I (gh e) (s e) (w e)
  shA : ∀ e b, L.sh (gh e) b → Apart (V e) b
  mineA : ∀ e b, mine e b → Apart (V e) b ∧ ¬ L.sh (gh e) b ∧ b < (w e).heap.size
  newA : ∀ e b, (w e).heap.size ≤ b → Apart (V e) b
  one : sv.cells = #[sv]
  mg : ∀ (e : E) (y' : L.Gh) (s' : L.Sg) (w' : World), L.le (gh e) y' → (w e).heap.size ≤ w'.heap.size → (∀ b, b < (w e).heap.size → ¬ mine e b → ¬ L.sh (gh e) b → w'.heap[b]? = (w e).heap[b]?) → L.I y' s' w' → (∀ b, L.sh y' b → L.sh (gh e) b ∨ mine e b ∨ (w e).heap.size ≤ b) → ∃ e', Mg toLb e e' y' s' w'
  step : ∀ (e : E) (d : L.D), tgt e = (s e, .inr d) → ∀ (fr : Frame) (l : List Frame), Plain fr → (∀ f ∈ l, Plain f) → (∀ e', Aft toLb e d e' → LW toLb e' (G (fr.finish (.tuple #[])) (l ++ bot e'))) →
    LW toLb e (G (Frame.enter Try.prog 78 #[sv] .normal) (fr :: (l ++ bot e)))
theorem Mg.mv {L : La} {sv : Value} {K : Lg L sv} {e e' : K.E} {s' : L.Sg} {w' : World} (m : Mg K.toLb e e' (K.gh e) s' w') : Mv K.toLb e e' s' w' :=
  ⟨m.V, m.Stop, m.bot, m.w, m.s, m.gh, m.tgt, m.fuel, fun b => (m.mine b).trans ⟨fun h => h.1, fun h => ⟨h, fun hs => by
    rcases h with h | h
    · exact (K.mineA e b h).2.1 hs
    · have := L.lt (K.inv e) hs; omega⟩⟩⟩
theorem Lg.mv {L : La} {sv : Value} (K : Lg L sv) (e : K.E) (s' : L.Sg) (w' : World) (h1 : (K.w e).heap.size ≤ w'.heap.size) (h2 : ∀ b, b < (K.w e).heap.size → ¬ K.mine e b → ¬ L.sh (K.gh e) b → w'.heap[b]? = (K.w e).heap[b]?) (h3 : L.I (K.gh e) s' w') : ∃ e', Mv K.toLb e e' s' w' := by
  obtain ⟨e', m⟩ := K.mg e (K.gh e) s' w' (L.refl _) h1 h2 h3 fun b h => .inl h
  exact ⟨e', m.mv⟩
def SCall {L : La} (K : Lb L) (f : FuncId) (args : Array Value) (e : K.E) (Q : Value → K.E → Prop) : Prop :=
  ∀ (fr : Frame) (l : List Frame), Plain fr → (∀ f ∈ l, Plain f) → (∀ v e', Q v e' → LW K e' (G (fr.finish v) (l ++ K.bot e'))) → LW K e (G (Frame.enter Try.prog f args .normal) (fr :: (l ++ K.bot e)))
section
variable {L : La} {K : Lb L} {e : K.E} {g : Goroutine}
theorem SCall.mono {f : FuncId} {args : Array Value} {Q Q' : Value → K.E → Prop} (h : SCall K f args e Q) (hQ : ∀ v e', Q v e' → Q' v e') : SCall K f args e Q' := fun fr l hp hl hk => h fr l hp hl fun v e' hq => hk v e' (hQ v e' hq)
theorem LW.mv {e' : K.E} {s' : L.Sg} {w' : World} (h : Mv K e e' s' w') (hw : LW K e' g) : Walk Try.prog K.main (DR (K.V e)) (K.Stop e) g w' := by
  unfold LW at hw
  rw [h.V, h.Stop, h.w] at hw
  exact hw
theorem LW.mg {e' : K.E} {y' : L.Gh} {s' : L.Sg} {w' : World} (h : Mg K e e' y' s' w') (hw : LW K e' g) : Walk Try.prog K.main (DR (K.V e)) (K.Stop e) g w' := by
  unfold LW at hw
  rw [h.V, h.Stop, h.w] at hw
  exact hw
theorem SCall.mv {e' : K.E} {s' : L.Sg} {w' : World} {f : FuncId} {args : Array Value} {Q : Value → K.E → Prop} (h : Mv K e e' s' w') (hc : SCall K f args e' Q) {fr : Frame} {l : List Frame} (hp : Plain fr) (hl : ∀ f ∈ l, Plain f) (hk : ∀ v e', Q v e' → LW K e' (G (fr.finish v) (l ++ K.bot e'))) :
    Walk Try.prog K.main (DR (K.V e)) (K.Stop e) (G (Frame.enter Try.prog f args .normal) (fr :: (l ++ K.bot e))) w' := by
  have := hc fr l hp hl hk
  rw [h.bot] at this
  exact LW.mv h this
theorem Mv.trans {e1 e2 : K.E} {s1 s2 : L.Sg} {w1 w2 : World} (h : Mv K e e1 s1 w1) (h' : Mv K e1 e2 s2 w2) (hs : (K.w e).heap.size ≤ w1.heap.size) (hs' : w1.heap.size ≤ w2.heap.size) : Mv K e e2 s2 w2 := by
  refine ⟨h'.V.trans h.V, h'.Stop.trans h.Stop, h'.bot.trans h.bot, h'.w, h'.s, h'.gh.trans h.gh, h'.tgt.trans h.tgt, h'.fuel.trans h.fuel, fun b => ?_⟩
  rw [h'.mine, h.mine, h.w]
  constructor
  · rintro ((h | h) | h)
    · exact .inl h
    · exact .inr ⟨h.1, by omega⟩
    · exact .inr ⟨by omega, h.2⟩
  · rintro (h | h)
    · exact .inl (.inl h)
    · by_cases hb : b < w1.heap.size
      · exact .inl (.inr ⟨h.1, hb⟩)
      · exact .inr ⟨by omega, h.2⟩
variable {b : Frame} {a : Act} {k : List Item} {cs l : List Frame} {ops : Array Oper} {i : Nat} {rest : List Nat} {o : Oper}
theorem LW.callS {f : FuncId} {fn : Func} {args : Array Operand} {ats : Array TypeId} {Q : Value → K.E → Prop} (hc : SCall K f (args.map a.eval) e Q) (ho : ops[i]? = some o) (hw : Region.wanted o (yielded ops a.tmps) = true) (hk : b.kind ≠ .early) (hop : o.op = .call { callee := .value (.func f), args, argTypes := ats })
    (hf : Try.prog.funcs[f]? = some fn) (hname : (fn.name == "runtime.NumGoroutine") = false) (hb : fn.body.isNone = false) (hp : Plain (b.at a (.inRegion ops (i :: rest) :: k))) (hl : ∀ f ∈ l, Plain f)
    (h : ∀ v e', Q v e' → LW K e' (G (b.at (a.put o.dst v) (.inRegion ops rest :: k)) (l ++ K.bot e'))) :
    LW K e (G (b.at a (.inRegion ops (i :: rest) :: k)) (l ++ K.bot e)) := by
  refine Walk.ctl (g' := G (Frame.enter Try.prog f (args.map a.eval) .normal) (b.at a (.inRegion ops (i :: rest) :: k) :: (l ++ K.bot e))) rfl (fun w => ?_) (hc _ l hp hl ?_)
  · rw [stepG_enter ho hw hk (run_call_body hop hf hname hb)]
    have : listed Try.prog b.fn a o w = #[] := by unfold listed; rw [events_call_body hop hf hname hb]; exact seen_none Try.prog _
    rw [this]
  · intro v e' hq
    rw [Frame.finish_at, ho]
    exact h v e' hq
end
section
variable {P : Program} {main : Bool} {V : Nat → Option Wait} {Stop : Goroutine → World → Prop} {b : Frame} {a : Act} {cs : List Frame} {w : World} {fn : Func} {todo : List Item} {c : Frame} {t s : Tmp}
theorem Walk.on1 (hn : b.kind = .normal) (hd : a.defers = []) (hf : P.funcs[b.fn]? = some fn) (hr : fn.results = #[.tmp t]) (h : Walk P main (DR V) Stop (G (c.finish (a.tmps.getD t undef)) cs) w) : Walk P main (DR V) Stop (G { b.at a todo with mode := .returning } (c :: cs)) w :=
  Walk.ctl rfl (fun w => stepG_leave hn hd hf (results_tmp hr _ P w) (events_results_tmp hr _ _)) h
theorem Walk.on0 (hn : b.kind = .normal) (hd : a.defers = []) (hf : P.funcs[b.fn]? = some fn) (hr : fn.results = #[]) (h : Walk P main (DR V) Stop (G (c.finish (.tuple #[])) cs) w) : Walk P main (DR V) Stop (G { b.at a todo with mode := .returning } (c :: cs)) w :=
  Walk.ctl rfl (fun w => stepG_leave hn hd hf (results_none hr _ P w) (events_results_none hr _ _)) h
theorem Walk.on2 (hn : b.kind = .normal) (hd : a.defers = []) (hf : P.funcs[b.fn]? = some fn) (hr : fn.results = #[.tmp t, .tmp s]) (h : Walk P main (DR V) Stop (G (c.finish (.tuple #[a.tmps.getD t undef, a.tmps.getD s undef])) cs) w) : Walk P main (DR V) Stop (G { b.at a todo with mode := .returning } (c :: cs)) w :=
  Walk.ctl rfl (fun w => stepG_leave (v := .tuple #[a.tmps.getD t undef, a.tmps.getD s undef]) hn hd hf (by simp [results, hr]) (by simp [results, hr])) h
end
end
section
structure OSt (L : La) (g : OG) (S : Stile) : Prop where
  n : S.n = g.n
  alo : g.A < g.w0.heap.size
  tbs : ¬ g.sh S.tb ∧ S.tb ≠ g.A
  tb : ∀ i, i < g.n → g.w0.cell? ⟨S.tb, i, none⟩ = some (S.F i)
  sch : ∀ (j : Nat) (z : Int), S.sl[j]? = some z → ∃ s so, S.sa = some ⟨s, so, none⟩ ∧ g.w0.cell? ⟨s, so + j, none⟩ = some (.int .i64 z) ∧ ¬ g.sh s ∧ s ≠ g.A
def t0 (L : La) : Tst L := ⟨[], none, []⟩
structure OInv (L : La) (g : OG) (S : Stile) (k : Nat) (o : Nat → Option Role) (x : OX L) (cs : Nat → List Frame) (w : World) (pr : Nat → Option Nat) (hd : Nat → Value) (y : L.Gh) : Prop where
  st : OSt L g S
  kn : k ≤ g.n
  size : g.w0.heap.size ≤ w.heap.size
  base : ∀ b, b < g.w0.heap.size → o b = none
  old : ∀ b, b < g.w0.heap.size → ¬ g.sh b → b ≠ g.A → w.heap[b]? = g.w0.heap[b]?
  prl : ∀ b i, pr b = some i → g.w0.heap.size ≤ b ∧ b < w.heap.size ∧ o b = none ∧ ¬ L.sh y b
  shl : ∀ b, L.sh y b → o b = none ∧ b ≠ g.A ∧ b < w.heap.size ∧ (b < g.w0.heap.size → g.sh b)
  I : L.I y x.s w
  an : ∃ arr : Array Value, w.heap[g.A]? = some (.cells arr 79) ∧ arr.size = g.n ∧ ∀ i, i < g.n → arr[i]? = some (hd i)
  row : ∀ i, i < g.n → RowA g.w0.heap.size (fun b => pr b = some i) (hd i) (x.th i).ans w
  cont : ∀ i, i < k → i < g.n → x.out i = none → (x.th i).d.isSome = true ∧ cs i ≠ [] ∧ (∀ f ∈ cs i, Plain f) ∧ Cont L g S i (1048577 - x.cnt) (x.th i) (cs i) y (hd i) (fun b => pr b = some i) w
  fresh : ∀ i, k ≤ i → i < g.n → x.th i = t0 L
def invO (L : La) (g : OG) (S : Stile) (yb : L.Gh) (k : Nat) (o : Nat → Option Role) (x : OX L) (cs : Nat → List Frame) (w : World) : Prop := ∃ pr hd y, L.le yb y ∧ OInv L g S k o x cs w pr hd y
theorem cell_lt' {w : World} {b i : Nat} {v : Value} (h : w.cell? ⟨b, i, none⟩ = some v) : b < w.heap.size := by
  unfold World.cell? at h
  split at h
  · rename_i h'; exact (Array.getElem?_eq_some_iff.1 h').1
  · cases h
section
variable {L : La} {g : OG} {S : Stile} {k : Nat} {o o' : Nat → Option Role} {x : OX L} {cs : Nat → List Frame} {w w' : World} {pr : Nat → Option Nat} {hd : Nat → Value} {y yb : L.Gh}
theorem OInv.cell (P : OInv L g S k o x cs w pr hd y) {b i : Nat} {v : Value} (h : g.w0.cell? ⟨b, i, none⟩ = some v) (hs : ¬ g.sh b) (hA : b ≠ g.A) : w.cell? ⟨b, i, none⟩ = some v :=
  (World.cell?_of_block (a := ⟨b, i, none⟩) (P.old b (cell_lt' h) hs hA)).trans h
theorem invO_keep (h : invO L g S yb k o x cs w) (K : Keeps o o' w w') : invO L g S yb k o' x cs w' := by
  obtain ⟨pr, hd, y, hy, P⟩ := h
  have hb : ∀ b, b < g.w0.heap.size → o' b = none ∧ w'.heap[b]? = w.heap[b]? := fun b h => K.same b (Nat.lt_of_lt_of_le h P.size) (P.base b h)
  have hp : ∀ b i, pr b = some i → o' b = none ∧ w'.heap[b]? = w.heap[b]? := fun b i h => K.same b (P.prl b i h).2.1 (P.prl b i h).2.2.1
  have hsh : ∀ b, L.sh y b → o' b = none ∧ w'.heap[b]? = w.heap[b]? := fun b h => K.same b (P.shl b h).2.2.1 (P.shl b h).1
  refine ⟨pr, hd, y, hy, ⟨P.st, P.kn, Nat.le_trans P.size K.size, fun b h => (hb b h).1, fun b h h1 h2 => (hb b h).2.trans (P.old b h h1 h2), fun b i h => ⟨(P.prl b i h).1, Nat.lt_of_lt_of_le (P.prl b i h).2.1 K.size, (hp b i h).1, (P.prl b i h).2.2.2⟩, fun b h => ⟨(hsh b h).1, (P.shl b h).2.1, Nat.lt_of_lt_of_le (P.shl b h).2.2.1 K.size, (P.shl b h).2.2.2⟩, L.stable P.I fun b h => (hsh b h).2, ?_, fun i hi => (P.row i hi).same fun b e => (hp b i e).2, fun i hi hin ho => ?_, P.fresh⟩⟩
  · obtain ⟨arr, ha, hz, hr⟩ := P.an
    exact ⟨arr, (hb _ P.st.alo).2.trans ha, hz, hr⟩
  · obtain ⟨h1, h2, h3, h4⟩ := P.cont i hi hin ho
    exact ⟨h1, h2, h3, h4.keep (L.refl _) K.size fun b e => (hp b i e).2⟩
theorem OInv.rely (P : OInv L g S k o x cs w pr hd y) {V : Nat → Option Wait} {i : Nat} (hi : i < g.n) (hA : ∀ b, o b = none → Apart V b) (hlt : ∀ b r, o b = some r → b < w.heap.size) : Rely L g i V y w (hd i) (fun b => pr b = some i) := by
  refine ⟨P.size, P.old, ?_, fun b e => ⟨(P.prl b i e).1, (P.prl b i e).2.1, (P.prl b i e).2.2.2⟩, fun b e => hA b ?_, fun b h => (P.shl b h).2, P.st.alo, (P.row i hi).hdo⟩
  · obtain ⟨arr, ha, hz, hr⟩ := P.an
    exact ⟨arr, ha, hr i hi⟩
  · rcases e with e | e | e | e
    · exact P.base b e
    · exact (P.prl b i e).2.2.1
    · cases ho : o b with
      | none => rfl
      | some r => have := hlt b r ho; omega
    · exact (P.shl b e).1
theorem fin_of_stop {V : Nat → Option Wait} {f : Frame} {fs : List Frame} {i k' cnt' : Nat} {r : L.Sg × Tst L} {g' : Goroutine} (hy : L.le yb y) (P : OInv L g S k o x cs w pr hd y) (hi : i < g.n) (hik : i < k') (hkk : ∀ j, j < k' → j ≠ i → j < k) (hkf : k ≤ k') (hkn : k' ≤ g.n) (hc : x.cnt ≤ cnt')
    (hlt : ∀ b r, o b = some r → b < w.heap.size) (hS : StopT L g S i (Cont L g S i (1048577 - cnt')) ⟨V, f, fs, w, y, fun b => pr b = some i, r⟩ g' w') : Fin (invO L g S yb) OX.out S k' o (putO x i r cnt') cs i f fs w g' w' := by
  obtain ⟨y', hyy, hsz, hfr, hI, hpub, hd', ⟨arr, arr', ha, ha', hasz, hai, haj⟩, hrow, hend⟩ := hS
  dsimp only at hyy hsz hfr hI hpub hrow hend ha ha' hasz hai haj
  let new : Nat → Option Nat := fun b => if w.heap.size ≤ b ∧ b < w'.heap.size then some i else pr b
  obtain ⟨pr', hpr1, hpr2⟩ : ∃ pr' : Nat → Option Nat, (∀ b, L.sh y' b → pr' b = none) ∧ ∀ b, ¬ L.sh y' b → pr' b = new b := ⟨fun b => @ite _ (L.sh y' b) (Classical.propDecidable _) none (new b), fun b h => if_pos h, fun b h => if_neg h⟩
  have hMi : (fun b => pr' b = some i) = ownT (⟨V, f, fs, w, y, fun b => pr b = some i, r⟩ : Tn L) y' w' := by
    funext b
    refine propext ⟨fun h => ?_, fun h => ?_⟩
    · have hs : ¬ L.sh y' b := fun hs => by
        have h : pr' b = some i := h
        rw [hpr1 b hs] at h; cases h
      refine ⟨?_, hs⟩
      have h : pr' b = some i := h
      rw [hpr2 b hs] at h
      by_cases e : w.heap.size ≤ b ∧ b < w'.heap.size
      · exact .inr e
      · have h : (if w.heap.size ≤ b ∧ b < w'.heap.size then some i else pr b) = some i := h
        rw [if_neg e] at h
        exact .inl h
    · show pr' b = some i
      rw [hpr2 b h.2]
      show (if w.heap.size ≤ b ∧ b < w'.heap.size then some i else pr b) = some i
      rcases h.1 with h | h
      · split
        · rfl
        · exact h
      · rw [if_pos h]
  have hMj : ∀ j, j ≠ i → ∀ b, pr' b = some j ↔ pr b = some j := fun j hj b => by
    by_cases hs : L.sh y' b
    · rw [hpr1 b hs]
      refine ⟨fun h => (by cases h), fun h => ?_⟩
      have h1 := P.prl b j h
      rcases hpub b hs with h2 | h2 | h2
      · exact absurd h2 h1.2.2.2
      · rw [h] at h2; exact absurd (Option.some.inj h2) hj
      · omega
    · rw [hpr2 b hs]
      show (if w.heap.size ≤ b ∧ b < w'.heap.size then some i else pr b) = some j ↔ pr b = some j
      by_cases e : w.heap.size ≤ b ∧ b < w'.heap.size
      · rw [if_pos e]
        refine ⟨fun h => absurd (Option.some.inj h).symm hj, fun h => ?_⟩
        have := (P.prl b j h).2.1
        omega
      · rw [if_neg e]
  have hother : ∀ j b, j ≠ i → pr b = some j → w'.heap[b]? = w.heap[b]? := fun j b hj h => by
    have h1 := P.prl b j h
    refine hfr b h1.2.1 (fun e => hj ?_) h1.2.2.2 (fun e => ?_)
    · rw [h] at e; exact Option.some.inj e
    · have := P.st.alo; omega
  have hown : ∀ b, (pr b = some i ∨ (w.heap.size ≤ b ∧ b < w'.heap.size)) → g.w0.heap.size ≤ b ∧ b < w'.heap.size ∧ o b = none := fun b h => by
    rcases h with h | h
    · have := P.prl b i h
      exact ⟨this.1, by omega, this.2.2.1⟩
    · refine ⟨Nat.le_trans P.size h.1, h.2, ?_⟩
      cases ho : o b with
      | none => rfl
      | some z => have := hlt b z ho; have h1 : w.heap.size ≤ b := h.1; omega
  have harr : arr.size = arr'.size := hasz.symm
  obtain ⟨arr0, ha0, hz0, hr0⟩ := P.an
  rw [ha] at ha0
  have harr0 : arr0 = arr := by cases ha0; rfl
  subst harr0
  have hth : ∀ j, j ≠ i → (putO x i r cnt').th j = x.th j := fun j hj => upd_ne _ _ hj
  have hthi : (putO x i r cnt').th i = r.2 := upd_same _ _ _
  have hinv : ∀ l, (r.2.d.isSome = true → l ≠ [] ∧ (∀ f ∈ l, Plain f) ∧ Cont L g S i (1048577 - cnt') r.2 l y' hd' (fun b => pr' b = some i) w') → invO L g S yb k' o (putO x i r cnt') (upd cs i l) w' := fun l hl => by
    refine ⟨pr', upd hd i hd', y', L.trans hy hyy, ⟨P.st, hkn, Nat.le_trans P.size hsz, P.base, fun b hb h1 h2 => (hfr b (Nat.lt_of_lt_of_le hb P.size) (fun e => by have := (P.prl b i e).1; omega) (fun e => h1 ((P.shl b e).2.2.2 hb)) h2).trans (P.old b hb h1 h2), fun b j h => ?_, fun b h => ?_, hI, ⟨arr', ha', by rw [hasz]; exact hz0, fun j hj => ?_⟩, fun j hj => ?_, fun j hj hjn ho => ?_, fun j hj hjn => ?_⟩⟩
    · have hs : ¬ L.sh y' b := fun hs => by rw [hpr1 b hs] at h; cases h
      by_cases e : j = i
      · subst e
        have h0 : ownT (⟨V, f, fs, w, y, fun b => pr b = some j, r⟩ : Tn L) y' w' b := by rw [← hMi]; exact h
        have h1 := hown b h0.1
        exact ⟨h1.1, h1.2.1, h1.2.2, hs⟩
      · have := P.prl b j ((hMj j e b).1 h)
        exact ⟨this.1, by omega, this.2.2.1, hs⟩
    · have hl' := L.lt hI h
      rcases hpub b h with h1 | h1 | h1
      · have := P.shl b h1
        exact ⟨this.1, this.2.1, hl', this.2.2.2⟩
      · have h2 := hown b (.inl h1)
        exact ⟨h2.2.2, fun e => (by have := P.st.alo; omega), hl', fun e => (by omega)⟩
      · have h2 := hown b (.inr ⟨h1, hl'⟩)
        exact ⟨h2.2.2, fun e => (by have := P.st.alo; omega), hl', fun e => (by omega)⟩
    · by_cases e : j = i
      · subst e; rw [upd_same]; exact hai
      · rw [upd_ne _ _ e, haj j e]; exact hr0 j hj
    · by_cases e : j = i
      · subst e; rw [upd_same, hthi, hMi]; exact hrow
      · rw [upd_ne _ _ e, hth j e]
        have hM : (fun b => pr' b = some j) = (fun b => pr b = some j) := funext fun b => propext (hMj j e b)
        rw [hM]
        exact (P.row j hj).same fun b hb => hother j b e hb
    · by_cases e : j = i
      · subst e
        rw [hthi, upd_same, upd_same]
        have ho : upd x.out j (match r.2.d with | none => some false | some _ => none) j = none := ho
        rw [upd_same] at ho
        have hs : r.2.d.isSome = true := by
          cases hd : r.2.d with
          | none => rw [hd] at ho; cases ho
          | some d => rfl
        exact ⟨hs, hl hs⟩
      · have ho : upd x.out i (match r.2.d with | none => some false | some _ => none) j = none := ho
        rw [upd_ne _ _ e] at ho
        rw [hth j e, upd_ne _ _ e, upd_ne _ _ e]
        obtain ⟨h1, h2, h3, h4⟩ := P.cont j (hkk j hj e) hjn ho
        refine ⟨h1, h2, h3, ?_⟩
        have hM : (fun b => pr' b = some j) = (fun b => pr b = some j) := funext fun b => propext (hMj j e b)
        rw [hM]
        refine (h4.le (Nat.sub_le_sub_left hc _)).keep hyy hsz fun b hb => hother j b e hb
    · have e : j ≠ i := by omega
      rw [hth j e]
      exact P.fresh j (by omega) hjn
  refine ⟨hsz, fun b z hb => hfr b (hlt b z hb) (fun e => by rw [(P.prl b i e).2.2.1] at hb; cases hb) (fun e => by rw [(P.shl b e).1] at hb; cases hb) (fun e => by rw [P.base b (e ▸ P.st.alo)] at hb; cases hb), ?_⟩
  have hout : (putO x i r cnt').out i = match r.2.d with | none => some false | some _ => none := upd_same _ _ _
  rcases hend with ⟨h1, rfl⟩ | ⟨l, h1, h2, h3, h4, rfl⟩
  · refine ⟨[], hinv [] (fun h => by rw [h1] at h; cases h), .inr (.inl ⟨?_, rfl⟩)⟩
    show (putO x i r cnt').out i = some false
    rw [hout, h1]
  · refine ⟨l, hinv l (fun _ => ⟨h2, h3, by rw [hMi]; exact h4⟩), .inl ⟨?_, rfl⟩⟩
    show (putO x i r cnt').out i = none
    rw [hout]
    cases hd : r.2.d with
    | none => rw [hd] at h1; cases h1
    | some d => rfl
theorem goO {V : Nat → Option Wait} {i : Nat} {c : Frame} {l : List Frame} (f : Frame) (fs : List Frame) (h : invO L g S yb k o x cs w) (hik : i < k) (hout : x.out i = none) (hcs : cs i = c :: l) (hc : x.cnt < 1048576) (hA : ∀ b, o b = none → Apart V b) (hlt : ∀ b r, o b = some r → b < w.heap.size) :
    Walk Try.prog false (DR V) (Fin (invO L g S yb) OX.out S k o (nextO x i) cs i f fs w) (G (c.finish (.tuple #[])) (l ++ f :: fs)) w := by
  obtain ⟨pr, hd, y, hy, P⟩ := h
  have hi : i < g.n := Nat.lt_of_lt_of_le hik P.kn
  obtain ⟨h1, h2, h3, h4⟩ := P.cont i hik hi hout
  obtain ⟨d, hdd⟩ := Option.isSome_iff_exists.1 h1
  rw [show 1048577 - x.cnt = (1048577 - (x.cnt + 1)) + 1 from by omega] at h4
  have hn : nextO x i = putO x i (landO L (i : Nat) (L.act x.s d) (x.th i).left (x.th i).ans) (x.cnt + 1) := by
    unfold nextO; rw [hdd]
  rw [hn]
  exact (h4 V f fs y w x.s c l d (L.refl _) (Nat.le_refl _) (fun _ _ => rfl) (P.rely hi hA hlt) P.I hdd hcs).mono fun g' w' hS => fin_of_stop hy P hi hik (fun j hj _ => hj) (Nat.le_refl _) P.kn (Nat.le_succ _) hlt hS
theorem invO_shape {i : Nat} (h : invO L g S yb k o x cs w) (hik : i < k) (hout : x.out i = none) : (∃ c l, cs i = c :: l) ∧ ∀ f ∈ cs i, Plain f := by
  obtain ⟨pr, hd, y, hy, P⟩ := h
  obtain ⟨h1, h2, h3, h4⟩ := P.cont i hik (Nat.lt_of_lt_of_le hik P.kn) hout
  refine ⟨?_, h3⟩
  cases hc : cs i with
  | nil => exact absurd hc h2
  | cons c l => exact ⟨c, l, rfl⟩
theorem invO_thr {i : Nat} (h : invO L g S yb k o x cs w) (hi : i < S.n) : w.cell? ⟨S.tb, i, none⟩ = some (S.F i) := by
  obtain ⟨pr, hd, y, hy, P⟩ := h
  exact P.cell (P.st.tb i (P.st.n ▸ hi)) P.st.tbs.1 P.st.tbs.2
theorem invO_sch {j : Nat} {z : Int} (h : invO L g S yb k o x cs w) (hz : S.sl[j]? = some z) : ∃ s so, S.sa = some ⟨s, so, none⟩ ∧ w.cell? ⟨s, so + j, none⟩ = some (.int .i64 z) := by
  obtain ⟨pr, hd, y, hy, P⟩ := h
  obtain ⟨s, so, e, hc, h1, h2⟩ := P.st.sch j z hz
  exact ⟨s, so, e, P.cell hc h1 h2⟩
end
end
end Go.Proofs.Ytgfajibjedfkdaa
