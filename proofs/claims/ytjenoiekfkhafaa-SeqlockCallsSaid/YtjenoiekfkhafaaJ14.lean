/- Part 14. -/
import Derived.Test.YtjenoiekfkhafaaJ13
set_option linter.unusedSimpArgs false
set_option linter.unusedVariables false
set_option linter.unusedVariables false
set_option maxHeartbeats 8000000
set_option maxRecDepth 100000
namespace Go.Proofs.Ytjenoiekfkhafaa
open Go.Conc Go.RowKit Go.Relay
open Go.ConcN (upd upd_ne upd_same)
section
section
variable {L : La} {g : OG} {S : Stile} {i : Nat} {pO pA pI pD acap : Nat} {oa : Option Addr} {oc : Nat} {o : OpV} {rest' : List OpV} {X : Nat}
def Dh (sv : Value) (pO pA pI pD X : Nat) (ov : Value) (ln j : Nat) (u : Nat -> Value) : Array Value := #[sv, .pointer (some ⟨pO, 0, none⟩), .pointer (some ⟨pA, 0, none⟩), .pointer (some ⟨pI, 0, none⟩), .pointer (some ⟨pD, 0, none⟩), u 5, u 6, .pointer (some ⟨X, 0, none⟩), ov, .int .i64 ln, .int .i64 j, u 11, u 12, u 13, u 14, u 15, u 16, u 17, u 18, u 19, u 20, u 21, u 22, u 23, u 24, u 25, u 26, u 27, u 28]
theorem reg68_walk {fdo : FuncId} {first cap : Array Value} (T : ThS L g i pO pA pI pD acap oa oc (.func (.func fdo) first cap)) {fn : Func} (hf : Try.prog.funcs[fdo]? = some fn) (hname : (fn.name == "runtime.NumGoroutine") = false) (hb : fn.body.isNone = false) (hdo : DoOK L fdo first cap)
  (e0 : EC L g S i) (hlen : e0.ans.length < 1099511627776) (hg0 : e0.τ.goal = Em L (i : Nat) (L.enter e0.s (i : Nat) o) rest' e0.ans) (hX : e0.w.heap[X]? = some (.cells #[.int .i64 o.k, .int .i64 o.a, .int .i64 o.b, .int .i64 o.c] 47)) (ov : Value) (ln j : Nat) (u0 : Nat -> Value) (k : List Item)
  (hk : ∀ (u : Nat -> Value) (e : EC L g S i) a, e.ans = e0.ans ++ [a] -> e.τ.goal = Bs L (i : Nat) e.s rest' e.ans -> Walk Try.prog false (DR e.τ.V) (StopT L g S i (Cont L g S i e.N) e.τ) (G ((base 63).at ⟨Dh (.iface 150 (.pointer (some ⟨S.p i, 0, none⟩))) pO pA pI pD X ov ln j u, []⟩ (.inRegion reg63_3 [] :: k)) (e.τ.f :: e.τ.fs)) e.w) :
  Walk Try.prog false (DR e0.τ.V) (StopT L g S i (Cont L g S i e0.N) e0.τ) (G ((base 63).at ⟨Dh (.iface 150 (.pointer (some ⟨S.p i, 0, none⟩))) pO pA pI pD X ov ln j u0, []⟩ (.code (.region 3 reg63_3 true) :: k)) (e0.τ.f :: e0.τ.fs)) e0.w := by
 have hiA := Option.some_get (show (Try.prog.info? 44).isSome = true by kernel_rfl)
 obtain ⟨fsO, huO⟩ := Cf 47 (by kernel_rfl)
 have hi := T.hi
 have hn64 := T.n64
 generalize hsv : (.iface 150 (.pointer (some ⟨S.p i, 0, none⟩)) : Value) = sv at *
 generalize hdv : (.func (.func fdo) first cap : Value) = dv at *
 generalize hans : e0.ans = ans at *
 generalize hhd : e0.hd = hd
 refine Ed (E := EC L g S i × World) (V := fun x => x.1.τ.V) (Stop := fun x => StopT L g S i (Cont L g S i x.1.N) x.1.τ) (cs := fun x => x.1.τ.f :: x.1.τ.fs) (w := fun x => x.2)
  (Inv := fun f a x => ∃ u, a = ⟨Dh sv pO pA pI pD X ov ln j u, []⟩ /\ Facts [14, 15, 16, 17, 18, 19, 20, 21, 22, 23, 1010, 1011, 1012, 27, 1014] [.slice (some ⟨g.A, 0, none⟩) g.n acap, .int .i64 (i : Nat), .slice (some ⟨g.A, 0, none⟩) g.n acap, .int .i64 (i : Nat), .pointer (some ⟨g.A, i, none⟩), hd, dv, sv, .int .i64 (i : Nat), Bu o, undef, undef, undef, .pointer (some ⟨g.A, i, none⟩), undef] f u /\ x.1.ans = ans /\ x.1.hd = hd /\ (f 14 = false -> ClO g i pA pI pD acap dv hd x.2) /\ Ph L g S i o rest' X f u x.1 x.2) (e0, e0.w) (by kernel_rfl) (by kernel_rfl)
  ⟨u0, rfl, Cx _ _ _, hans, hhd, fun _ => T.cl e0 hhd, .inl ⟨rfl, hans ▸ hg0, hX, e0.w.drawn, rfl⟩⟩ ?_ ?_
 ·rintro f oi op a ⟨e, w'⟩ ⟨u, rfl, F, he1, he2, hc, hw⟩ hC hfi ho hdeps rest hr
  dsimp only at he1 he2 hc hw hr ⊢
  have hil : oi < 15 := (Array.getElem?_eq_some_iff.1 ho).1
  match oi, hil with
  | 0, _ =>
   have h14 : f 14 = false := by cases h : f 14 with | false => rfl | true => exact absurd (hC.deps (l := [0]) h (by kernel_rfl) 0 (by simp)) (by simp [hfi])
   have h14' : upd f 0 true 14 = false := (upd_ne _ _ (by decide)).trans h14
   replace hc := hc h14
   clear hdeps ho hC hfi
   obtain ⟨hA, hI, hD, hH, hHz⟩ := hc
   simp only [Dh] at hr ⊢
   (refine Walk.oq ?_; try walk_nrm)
   refine hr _ (e, w') ⟨upd u 14 (.slice (some ⟨g.A, 0, none⟩) g.n acap), ?_, F.set (by decide) rfl rfl, he1, he2, fun _ => ⟨hA, hI, hD, hH, hHz⟩, hw.quiet (by decide) (by decide)⟩
   simp [Dh, upd]
  | 1, _ =>
   have h14 : f 14 = false := by cases h : f 14 with | false => rfl | true => exact absurd (hC.deps (l := [1]) h (by kernel_rfl) 1 (by simp)) (by simp [hfi])
   have h14' : upd f 1 true 14 = false := (upd_ne _ _ (by decide)).trans h14
   replace hc := hc h14
   clear hdeps ho hC hfi
   obtain ⟨hA, hI, hD, hH, hHz⟩ := hc
   simp only [Dh] at hr ⊢
   (refine Walk.oq ?_; try walk_nrm)
   refine hr _ (e, w') ⟨upd u 15 (.int .i64 (i : Nat)), ?_, F.set (by decide) rfl rfl, he1, he2, fun _ => ⟨hA, hI, hD, hH, hHz⟩, hw.quiet (by decide) (by decide)⟩
   simp [Dh, upd]
  | 2, _ =>
   have h14 : f 14 = false := by cases h : f 14 with | false => rfl | true => exact absurd (hC.deps (l := [2]) h (by kernel_rfl) 2 (by simp)) (by simp [hfi])
   have h14' : upd f 2 true 14 = false := (upd_ne _ _ (by decide)).trans h14
   replace hc := hc h14
   clear hdeps ho hC hfi
   obtain ⟨hA, hI, hD, hH, hHz⟩ := hc
   simp only [Dh] at hr ⊢
   (refine Walk.oq ?_; try walk_nrm)
   refine hr _ (e, w') ⟨upd u 16 (.slice (some ⟨g.A, 0, none⟩) g.n acap), ?_, F.set (by decide) rfl rfl, he1, he2, fun _ => ⟨hA, hI, hD, hH, hHz⟩, hw.quiet (by decide) (by decide)⟩
   simp [Dh, upd]
  | 3, _ =>
   have h14 : f 14 = false := by cases h : f 14 with | false => rfl | true => exact absurd (hC.deps (l := [3]) h (by kernel_rfl) 3 (by simp)) (by simp [hfi])
   have h14' : upd f 3 true 14 = false := (upd_ne _ _ (by decide)).trans h14
   replace hc := hc h14
   clear hdeps ho hC hfi
   obtain ⟨hA, hI, hD, hH, hHz⟩ := hc
   simp only [Dh] at hr ⊢
   (refine Walk.oq ?_; try walk_nrm)
   refine hr _ (e, w') ⟨upd u 17 (.int .i64 (i : Nat)), ?_, F.set (by decide) rfl rfl, he1, he2, fun _ => ⟨hA, hI, hD, hH, hHz⟩, hw.quiet (by decide) (by decide)⟩
   simp [Dh, upd]
  | 4, _ =>
   have hdd := Af (l := [2, 3]) (by kernel_rfl) ho hdeps
   have e16 := F 2 16 _ (hdd 2 (by simp)) rfl rfl
   have e17 := F 3 17 _ (hdd 3 (by simp)) rfl rfl
   have h14 : f 14 = false := by cases h : f 14 with | false => rfl | true => exact absurd (hC.deps (l := [4]) h (by kernel_rfl) 4 (by simp)) (by simp [hfi])
   have h14' : upd f 4 true 14 = false := (upd_ne _ _ (by decide)).trans h14
   replace hc := hc h14
   clear hdeps ho hC hfi hdd
   obtain ⟨hA, hI, hD, hH, hHz⟩ := hc
   simp only [Dh] at hr ⊢
   (refine Walk.oq ?_; try walk_nrm)
   refine hr _ (e, w') ⟨upd u 18 (.pointer (some ⟨g.A, i, none⟩)), ?_, F.set (by decide) rfl rfl, he1, he2, fun _ => ⟨hA, hI, hD, hH, hHz⟩, hw.quiet (by decide) (by decide)⟩
   simp [Dh, upd, e16, e17]
  | 5, _ =>
   have hdd := Af (l := [4]) (by kernel_rfl) ho hdeps
   have e18 := F 4 18 _ (hdd 4 (by simp)) rfl rfl
   have h14 : f 14 = false := by cases h : f 14 with | false => rfl | true => exact absurd (hC.deps (l := [5]) h (by kernel_rfl) 5 (by simp)) (by simp [hfi])
   have h14' : upd f 5 true 14 = false := (upd_ne _ _ (by decide)).trans h14
   replace hc := hc h14
   clear hdeps ho hC hfi hdd
   obtain ⟨hA, hI, hD, hH, hHz⟩ := hc
   simp only [Dh] at hr ⊢
   (refine Walk.oq ?_; try walk_nrm)
   refine hr _ (e, w') ⟨upd u 19 (hd), ?_, F.set (by decide) rfl rfl, he1, he2, fun _ => ⟨hA, hI, hD, hH, hHz⟩, hw.quiet (by decide) (by decide)⟩
   simp [Dh, upd, e18]
  | 6, _ =>
   have h14 : f 14 = false := by cases h : f 14 with | false => rfl | true => exact absurd (hC.deps (l := [6]) h (by kernel_rfl) 6 (by simp)) (by simp [hfi])
   have h14' : upd f 6 true 14 = false := (upd_ne _ _ (by decide)).trans h14
   replace hc := hc h14
   clear hdeps ho hC hfi
   obtain ⟨hA, hI, hD, hH, hHz⟩ := hc
   simp only [Dh] at hr ⊢
   (refine Walk.oq ?_; try walk_nrm)
   refine hr _ (e, w') ⟨upd u 20 (dv), ?_, F.set (by decide) rfl rfl, he1, he2, fun _ => ⟨hA, hI, hD, hH, hHz⟩, hw.quiet (by decide) (by decide)⟩
   simp [Dh, upd]
  | 7, _ =>
   have h14 : f 14 = false := by cases h : f 14 with | false => rfl | true => exact absurd (hC.deps (l := [7]) h (by kernel_rfl) 7 (by simp)) (by simp [hfi])
   have h14' : upd f 7 true 14 = false := (upd_ne _ _ (by decide)).trans h14
   replace hc := hc h14
   clear hdeps ho hC hfi
   obtain ⟨hA, hI, hD, hH, hHz⟩ := hc
   simp only [Dh] at hr ⊢
   (refine Walk.oq ?_; try walk_nrm)
   refine hr _ (e, w') ⟨upd u 21 (sv), ?_, F.set (by decide) rfl rfl, he1, he2, fun _ => ⟨hA, hI, hD, hH, hHz⟩, hw.quiet (by decide) (by decide)⟩
   simp [Dh, upd]
  | 8, _ =>
   have h14 : f 14 = false := by cases h : f 14 with | false => rfl | true => exact absurd (hC.deps (l := [8]) h (by kernel_rfl) 8 (by simp)) (by simp [hfi])
   have h14' : upd f 8 true 14 = false := (upd_ne _ _ (by decide)).trans h14
   replace hc := hc h14
   clear hdeps ho hC hfi
   obtain ⟨hA, hI, hD, hH, hHz⟩ := hc
   simp only [Dh] at hr ⊢
   (refine Walk.oq ?_; try walk_nrm)
   refine hr _ (e, w') ⟨upd u 22 (.int .i64 (i : Nat)), ?_, F.set (by decide) rfl rfl, he1, he2, fun _ => ⟨hA, hI, hD, hH, hHz⟩, hw.quiet (by decide) (by decide)⟩
   simp [Dh, upd]
  | 9, _ =>
   have h14 : f 14 = false := by cases h : f 14 with | false => rfl | true => exact absurd (hC.deps (l := [9]) h (by kernel_rfl) 9 (by simp)) (by simp [hfi])
   have h14' : upd f 9 true 14 = false := (upd_ne _ _ (by decide)).trans h14
   replace hc := hc h14
   have hX := hw.early (by cases h : f 10 with | false => rfl | true => exact absurd (hC.deps (l := [9]) h (by kernel_rfl) 9 (by simp)) (by simp [hfi]))
   clear hdeps ho hC hfi
   simp only [Dh] at hr ⊢
   refine Walk.loadS 47 (.tmp 7) Ao (by rfl) (by decide) rfl X 0 [.int .i64 o.k, .int .i64 o.a, .int .i64 o.b, .int .i64 o.c] (.struct fsO) rfl (fun j v hj => ?_) huO rfl (by kernel_rfl) ?_
   ·rw [Nat.zero_add, Ad hX]
    simpa using hj
   walk_nrm
   refine hr _ (e, w') ⟨upd u 23 (Bu o), ?_, F.set (by decide) rfl rfl, he1, he2, fun _ => hc, hw.quiet (by decide) (by decide)⟩
   simp [Dh, upd, Bu]
  | 10, _ =>
   have hdd := Af (l := [6, 7, 8, 9]) (by kernel_rfl) ho hdeps
   have e20 := F 6 20 _ (hdd 6 (by simp)) rfl rfl
   have e21 := F 7 21 _ (hdd 7 (by simp)) rfl rfl
   have e22 := F 8 22 _ (hdd 8 (by simp)) rfl rfl
   have e23 := F 9 23 _ (hdd 9 (by simp)) rfl rfl
   have h14 : f 14 = false := by cases h : f 14 with | false => rfl | true => exact absurd (hC.deps (l := [10]) h (by kernel_rfl) 10 (by simp)) (by simp [hfi])
   have h14' : upd f 10 true 14 = false := (upd_ne _ _ (by decide)).trans h14
   replace hc := hc h14
   obtain ⟨hg, dd, rfl⟩ := hw.callAt hfi
   refine Walk.back ?_ dd
   have h11 : f 11 = false := by cases h : f 11 with | false => rfl | true => exact absurd (hC.deps (l := [10]) h (by kernel_rfl) 10 (by simp)) (by simp [hfi])
   have h12 : f 12 = false := by cases h : f 12 with | false => rfl | true => exact absurd (hC.deps (l := [11]) h (by kernel_rfl) 11 (by simp)) (by simp [h11])
   clear hdeps ho hC
   obtain ⟨c, eo, q1, q2, q3, q4, q5⟩ : ∃ (c : OC) (eo : EO L g S i c), eo.toEC = e /\ eo.tgt = L.enter e.s (i : Nat) o /\ c.left = rest' /\ c.ans = e.ans /\ c.hd = e.hd := ⟨⟨rest', e.ans, e.hd, Ct e.τ e.y e.w, e.w⟩, { e with tgt := L.enter e.s (i : Nat) o, eqA := rfl, eqH := rfl, goal := hg, Kown := fun _ h => h, kept := fun _ _ => rfl, rowK := e.row }, rfl, rfl, rfl, rfl, rfl⟩
   subst q1
   have hcall : SCall (Ma L g S i c) 64 #[dv, sv, .int .i64 (i : Nat), Bu o] eo (fun v e' => ∃ a sl, e'.tgt = (e'.s, .inl a) /\ v = Bw a sl /\ LsAt eo.w.heap.size (fun b => Ct e'.τ e'.y e'.w b /\ ¬ c.K b) sl a.l e'.w) := by
    rw [<- hsv, <- hdv]
    exact doOne_s (crewL L g S i c) eo o (i : Nat) fdo fn first cap hf hname hb hdo q2
   refine (?_ : LW (Ma L g S i c) eo (G _ ([] ++ (Ma L g S i c).bot eo)))
   refine Bb (f := 64) (Q := fun v e' => ∃ a sl, e'.tgt = (e'.s, .inl a) /\ v = Bw a sl /\ LsAt eo.w.heap.size (fun b => Ct e'.τ e'.y e'.w b /\ ¬ c.K b) sl a.l e'.w) ?_ Ao (by rfl) (by decide) rfl Try.func64 (by kernel_rfl) (by rfl) ⟨rfl, rfl, _, Try.func63⟩ (fun _ h => by cases h) ?_
   ·simp only [Dh]
    walk_nrm
    simp only [e20, e21, e22, e23]
    exact hcall
   rintro v e' ⟨a', sl, ht, rfl, hls⟩
   have hbs : g.w0.heap.size <= eo.w.heap.size := by
    obtain ⟨hd0, r⟩ := eo.rely
    have := r.size
    have := eo.size
    omega
   replace hls : LsAt g.w0.heap.size (Ct e'.τ e'.y e'.w) sl a'.l e'.w := (hls.imp fun b h => h.1).low hbs
   have hg' : e'.τ.goal = Bs L (i : Nat) e'.s rest' (e'.ans ++ [a']) := by rw [e'.goal, ht, q3]; rfl
   have hans : e'.ans = eo.ans := e'.eqA.trans q4
   have hhd : e'.hd = eo.hd := e'.eqH.trans q5
   simp only [Dh] at hr ⊢
   walk_nrm
   refine hr _ (e'.toEC, e'.w) ⟨upd (upd u 1010 undef) 24 (Bw a' sl), ?_, Bl (F.set (by decide) rfl rfl) (by decide), hans.trans he1, hhd.trans he2, fun _ => T.cl e'.toEC (hhd.trans he2), .inr ⟨upd_same _ _ _, a', sl, upd_same _ _ _, hls, hg', .inl ⟨by rw [upd_ne _ _ (by decide)]; exact h11, by rw [upd_ne _ _ (by decide)]; exact h12, h14', e'.w.drawn, rfl⟩⟩⟩
   simp [Dh, upd]
  | 11, _ =>
   have h14 : f 14 = false := by cases h : f 14 with | false => rfl | true => exact absurd (hC.deps (l := [11]) h (by kernel_rfl) 11 (by simp)) (by simp [hfi])
   have h14' : upd f 11 true 14 = false := (upd_ne _ _ (by decide)).trans h14
   replace hc := hc h14
   have h10 := (Af (l := [10]) (by kernel_rfl) ho hdeps) 10 (by simp)
   obtain ⟨a', sl, h24, hls, hg, h12, dd, rfl⟩ := hw.newAt h10 hfi
   refine Walk.back ?_ dd
   clear hdeps ho hC
   replace hc : ClO g i pA pI pD acap dv hd e.w := ⟨hc.hA, hc.hI, hc.hD, hc.hH, hc.hHz⟩
   have hc1 := hc.new a' sl
   simp only [Dh, h24, Bw] at hr ⊢
   (refine Walk.oa ?_; try walk_nrm)
   refine hr _ (e, Eu e.w a' sl) ⟨upd (upd u 1011 undef) 25 (.slice (some ⟨e.w.heap.size, 0, none⟩) 1 1), ?_, Bl (F.set (by decide) rfl rfl) (by decide), he1, he2, fun _ => hc1, .inr ⟨by rw [upd_ne _ _ (by decide)]; exact h10, a', sl, by rw [upd_ne _ _ (by decide), upd_ne _ _ (by decide)]; exact h24, hls, hg, .inr (.inl ⟨upd_same _ _ _, by rw [upd_ne _ _ (by decide)]; exact h12, h14', upd_same _ _ _, (Eu e.w a' sl).drawn, rfl⟩)⟩⟩
   simp [Dh, upd, h24, Bw]
  | 12, _ =>
   have hdd := Af (l := [5]) (by kernel_rfl) ho hdeps
   have e19 := F 5 19 _ (hdd 5 (by simp)) rfl rfl
   have h14 : f 14 = false := by cases h : f 14 with | false => rfl | true => exact absurd (hC.deps (l := [12]) h (by kernel_rfl) 12 (by simp)) (by simp [hfi])
   have h14' : upd f 12 true 14 = false := (upd_ne _ _ (by decide)).trans h14
   replace hc := hc h14
   have h11 := (Af (l := [10, 11]) (by kernel_rfl) ho hdeps) 11 (by simp)
   have h10 := (Af (l := [10, 11]) (by kernel_rfl) ho hdeps) 10 (by simp)
   obtain ⟨a', sl, h24, hls, hg, h25, dd, rfl⟩ := hw.appAt h10 h11 hfi
   obtain ⟨z, hz, hZ⟩ := e.row.z
   have hzl : z.length = ans.length := by rw [<- he1, <- hz, List.length_map]
   refine Walk.back ?_ dd
   clear hdeps ho hC
   replace hc : ClO g i pA pI pD acap dv hd (Eu e.w a' sl) := ⟨hc.hA, hc.hI, hc.hD, hc.hH, hc.hHz⟩
   have hrow : (Eu e.w a' sl).ownsRow g.w0.heap.size 44 3 hd ans.length (Db z) := by
    have q2 := hZ.own
    rw [hzl, he2] at q2
    exact Aw q2 fun b hb' => Ab _ _ (q2.lt b hb').2
   have hnews : ∀ (j : Nat) (x : Value), ([.bool a'.ok, .int .i64 a'.n, sl] : List Value)[j]? = some x -> (Eu e.w a' sl).cell? ((⟨e.w.heap.size, 0, none⟩ : Addr).add j) = some x := fun j x hx => by
    rw [Bj, Nat.zero_add]
    refine (Ad (heap_alloc_new _ _) j).trans ?_
    simpa using hx
   have hbase : g.w0.heap.size <= (Eu e.w a' sl).heap.size := by
    obtain ⟨hd0, r⟩ := e.rely
    have := r.size
    have := e.size
    have : (Eu e.w a' sl).heap.size = e.w.heap.size + 1 := by simp [Eu]
    omega
   simp only [Dh] at hr ⊢
   simp only [h25, e19]
   refine Walk.append (.tmp 19) (.tmp 25) 42 Ao (by rfl) (by decide) rfl g.w0.heap.size 44 _ (.agg #[.bool false, .int .i64 0, .slice none 0 0]) 3 40 (by kernel_rfl) hiA.symm (by rfl) (by rfl) (by rfl) (by rfl) (by decide) hd ans.length (Db z) rfl hrow ⟨e.w.heap.size, 0, none⟩ 1 1 [.bool a'.ok, .int .i64 a'.n, sl] rfl (by rfl) hnews (by rcases hls with ⟨_, _, rfl, _⟩; simp [Value.oneCell']) (by decide) (by simp [maxLen]; omega) (by omega) hbase (fun b hb' => e.apart (.inr (.inl (e.hdo b (by rw [he2]; exact hb'))))) (fun gb gcap w3 hown3 hgr hat hlt => ?_)
   walk_nrm
   have hA3 : AppO g e.w a' sl e.hd z gb gcap w3 := by
    rw [<- hzl] at hown3
    rw [he2]
    exact ⟨hown3, hgr, hat, hlt⟩
   refine hr _ (e, w3) ⟨upd (upd u 1012 undef) 26 (.slice (some ⟨gb, 0, none⟩) (ans.length + 1) gcap), ?_, Bl (F.set (by decide) rfl rfl) (by decide), he1, he2, fun _ => T.app e hA3 hc , .inr ⟨by rw [upd_ne _ _ (by decide)]; exact h10, a', sl, by rw [upd_ne _ _ (by decide), upd_ne _ _ (by decide)]; exact h24, hls, hg, .inr (.inr ⟨by rw [upd_ne _ _ (by decide)]; exact h11, upd_same _ _ _, z, gb, gcap, w3, hz, hZ, hA3, by rw [upd_same, he1], .inl ⟨h14', w3.drawn, rfl⟩⟩)⟩⟩
   simp [Dh, upd, h25, e19]
  | 13, _ =>
   have hdd := Af (l := [0, 1, 2, 3, 4, 5, 6, 7, 8, 9, 10, 11, 12]) (by kernel_rfl) ho hdeps
   have e14 := F 0 14 _ (hdd 0 (by simp)) rfl rfl
   have e15 := F 1 15 _ (hdd 1 (by simp)) rfl rfl
   have h14 : f 14 = false := by cases h : f 14 with | false => rfl | true => exact absurd (hC.deps (l := [13]) h (by kernel_rfl) 13 (by simp)) (by simp [hfi])
   have h14' : upd f 13 true 14 = false := (upd_ne _ _ (by decide)).trans h14
   replace hc := hc h14
   clear hdeps ho hC hfi hdd
   obtain ⟨hA, hI, hD, hH, hHz⟩ := hc
   simp only [Dh] at hr ⊢
   (refine Walk.oq ?_; try walk_nrm)
   refine hr _ (e, w') ⟨upd u 27 (.pointer (some ⟨g.A, i, none⟩)), ?_, F.set (by decide) rfl rfl, he1, he2, fun _ => ⟨hA, hI, hD, hH, hHz⟩, hw.quiet (by decide) (by decide)⟩
   simp [Dh, upd, e14, e15]
  | 14, _ =>
   have hdd := Af (l := [0, 1, 2, 3, 4, 5, 6, 7, 8, 9, 10, 11, 12, 13]) (by kernel_rfl) ho hdeps
   have e27 := F 13 27 _ (hdd 13 (by simp)) rfl rfl
   replace hc := hc hfi
   have h10 := hdd 10 (by simp)
   have h11 := hdd 11 (by simp)
   have h12 := hdd 12 (by simp)
   obtain ⟨a', sl, h24, hls, hg, z, gb, gcap, w3, hz, hZ, hA3, h26, dd, rfl⟩ := hw.stAt h10 h11 h12 hfi
   refine Walk.back ?_ dd
   obtain ⟨hA, hI, hD, hH, hHz⟩ := hc
   replace hH : w3.cell? ⟨g.A, i, none⟩ = some hd := hH
   replace hHz : w3.frozen? ⟨g.A, i, none⟩ = false := hHz
   clear hdeps ho hC hdd hA hI hD
   simp only [Dh] at hr ⊢
   have h26' : u 26 = .slice (some ⟨gb, 0, none⟩) (ans.length + 1) gcap := by rw [h26, he1]
   simp only [h26', e27]
   (have hfr := e.apA ⟨g.A, i, none⟩ rfl; refine Walk.os hfr hH ?_; clear hfr; try walk_nrm)
   refine hr _ (e, w3.setCell ⟨g.A, i, none⟩ (.slice (some ⟨gb, 0, none⟩) (ans.length + 1) gcap)) ⟨upd u 1014 undef, ?_, F.set (by decide) rfl rfl, he1, he2, fun h => (by rw [upd_same] at h; cases h), .inr ⟨by rw [upd_ne _ _ (by decide)]; exact h10, a', sl, by rw [upd_ne _ _ (by decide)]; exact h24, hls, hg, .inr (.inr ⟨by rw [upd_ne _ _ (by decide)]; exact h11, by rw [upd_ne _ _ (by decide)]; exact h12, z, gb, gcap, w3, hz, hZ, hA3, by rw [upd_ne _ _ (by decide)]; exact h26, .inr ⟨upd_same _ _ _, (w3.setCell ⟨g.A, i, none⟩ (.slice (some ⟨gb, 0, none⟩) (ans.length + 1) gcap)).drawn, by rw [upd_ne _ _ (by decide), h26']; rfl⟩⟩)⟩⟩
   simp [Dh, upd, h24, h26', e27]
 ·rintro f a ⟨e, w'⟩ ⟨u, rfl, F, he1, he2, hc, hw⟩ hall
  have hsz : reg63_3.size = 15 := size63_3
  obtain ⟨a', sl, hls, hg, z, gb, gcap, w3, hz, hZ, hA3, dd, hw'⟩ := hw.endAt (hall 10 (by omega)) (hall 12 (by omega)) (hall 14 (by omega))
  obtain ⟨e', h1, h2, h3, h4, h5⟩ := e.told hls hz hZ hA3
  have := hk u e' a' (h4.trans (by dsimp only at he1; rw [he1])) (by rw [h1, h3, h4]; exact hg)
  dsimp only at hw' ⊢
  subst hw'
  refine Walk.back ?_ dd
  rw [<- h1, <- h2, <- h5]
  exact this
end
end
section
noncomputable def hd68 (sv : Value) (pO pA pI pD : Nat) (ov : Value) (ln j : Nat) (u : Nat -> Value) : Frame :=
 (base 63).at { tmps := #[sv, .pointer (some ⟨pO, 0, none⟩), .pointer (some ⟨pA, 0, none⟩), .pointer (some ⟨pI, 0, none⟩), .pointer (some ⟨pD, 0, none⟩), u 5, u 6, u 7, ov, .int .i64 ln, .int .i64 j, u 11, u 12, u 13, u 14, u 15, u 16, u 17, u 18, u 19, u 20, u 21, u 22, u 23, u 24, u 25, u 26, u 27, u 28], defers := [] } [.code (.seq (.region 1 reg63_1 false) (.seq (.cond (.tmp 11 ) (.skip) (.exit 0)) (.seq (.block 1 (.seq (.region 2 reg63_2 false) (.region 3 reg63_3 true))) (.region 4 reg63_4 false)))), .inLoop (.seq (.region 1 reg63_1 false) (.seq (.cond (.tmp 11 ) (.skip) (.exit 0)) (.seq (.block 1 (.seq (.region 2 reg63_2 false) (.region 3 reg63_3 true))) (.region 4 reg63_4 false)))), .inBlock 0]
section
variable {L : La} {g : OG} {S : Stile} {i : Nat}
def EW (e : EC L g S i) (fr : Frame) : Prop := Walk Try.prog false (DR e.τ.V) (StopT L g S i (Cont L g S i e.N) e.τ) (G fr (e.τ.f :: e.τ.fs)) e.w
theorem EC.grow (e : EC L g S i) (w' : World) (hs : e.w.heap.size <= w'.heap.size) (hb : ∀ b, b < e.w.heap.size -> w'.heap[b]? = e.w.heap[b]?) : ∃ e' : EC L g S i, e'.τ = e.τ /\ e'.N = e.N /\ e'.s = e.s /\ e'.ans = e.ans /\ e'.hd = e.hd /\ e'.w = w' := by
 obtain ⟨hd0, r⟩ := e.rely
 obtain ⟨arr, arr', a1, a2, a3, a4, a5⟩ := e.an
 have hA : g.A < e.w.heap.size := by have := r.alo; have := r.size; have := e.size; omega
 exact ⟨{ τ := e.τ, N := e.N, w := w', y := e.y, s := e.s, ans := e.ans, hd := e.hd, le := e.le, size := Nat.le_trans e.size hs, frame := fun b h1 h2 h3 h4 => (hb b (Nat.lt_of_lt_of_le h1 e.size)).trans (e.frame b h1 h2 h3 h4), pub := e.pub, rely := e.rely, an := ⟨arr, arr', a1, (hb _ hA).trans a2, a3, a4, a5⟩, row := (e.row.same fun b h => hb b (e.lo h).2).imp fun b h => ⟨h.1.imp id fun h => ⟨h.1, by omega⟩, h.2⟩, inv := L.stable e.inv fun b h => hb b (L.lt e.inv h) }, rfl, rfl, rfl, rfl, rfl, rfl⟩
variable {pO pA pI pD acap : Nat} {oa : Option Addr} {oc : Nat} {fdo : FuncId} {first cap : Array Value}
theorem loop68_end (T : ThS L g i pO pA pI pD acap oa oc (.func (.func fdo) first cap)) (e : EC L g S i) (hg : e.τ.goal = Bs L (i : Nat) e.s [] e.ans) (ov : Value) (u : Nat -> Value) :
  EW e (hd68 (.iface 150 (.pointer (some ⟨S.p i, 0, none⟩))) pO pA pI pD ov (g.ops i).length (g.ops i).length u) := by
 unfold EW hd68
 refine Aa z63 ?_
 refine Av rfl rfl Try.func63 rfl ?_
 refine .stop fun d => ⟨e.y, e.le, e.size, e.frame, ?_, e.pub, e.hd, e.an, ?_, .inl ⟨?_, rfl⟩⟩
 ·rw [hg]; exact L.stable e.inv fun _ _ => rfl
 ·rw [hg]; exact e.row.same fun _ _ => rfl
 ·rw [hg]; rfl
theorem loop68_go (T : ThS L g i pO pA pI pD acap oa oc (.func (.func fdo) first cap)) {fn : Func} (hf : Try.prog.funcs[fdo]? = some fn) (hname : (fn.name == "runtime.NumGoroutine") = false) (hb : fn.body.isNone = false) (hdo : DoOK L fdo first cap)
  (e : EC L g S i) (j : Nat) (o : OpV) (rest : List OpV) (ho : (g.ops i)[j]? = some o) (hlen : e.ans.length = j) (hg : e.τ.goal = Bs L (i : Nat) e.s (o :: rest) e.ans) (u : Nat -> Value)
  (hk : ∀ (e' : EC L g S i) (u' : Nat -> Value), e'.ans.length = j + 1 -> e'.τ.goal = Bs L (i : Nat) e'.s rest e'.ans -> EW e' (hd68 (.iface 150 (.pointer (some ⟨S.p i, 0, none⟩))) pO pA pI pD (.slice oa (g.ops i).length oc) (g.ops i).length (j + 1) u')) :
  EW e (hd68 (.iface 150 (.pointer (some ⟨S.p i, 0, none⟩))) pO pA pI pD (.slice oa (g.ops i).length oc) (g.ops i).length j u) := by
 obtain ⟨fsO, huO⟩ := Cf 47 (by kernel_rfl)
 have hjl : j < (g.ops i).length := (List.getElem?_eq_some_iff.1 ho).1
 have hl64 := T.len
 obtain ⟨ob, off, rfl, n1, n2, c0, c1, c2, c3⟩ := T.ops j o ho
 replace c0 := e.cell c0 ⟨n1, n2⟩
 replace c1 := e.cell c1 ⟨n1, n2⟩
 replace c2 := e.cell c2 ⟨n1, n2⟩
 replace c3 := e.cell c3 ⟨n1, n2⟩
 have hw1 : IntKind.wrap .i64 ((j : Int) + 1) = (j : Int) + 1 := by rw [IntKind.wrap_i64]; omega
 generalize hln : (g.ops i).length = ln at *
 have hi0 : (0 : Int) <= j := by omega
 have hi1 : decide ((j : Int) < ln) = true := by simp; omega
 have hi2 : decide (ln <= j) = false := by simp; omega
 have hi3 : decide (j < ln) = true := by simp; omega
 unfold EW hd68
 refine Aa z63 ?_
 refine Walk.loadS 47 (.tmp 12) Ao (by rfl) (by decide) rfl ob (off + j * 4) [.int .i64 o.k, .int .i64 o.a, .int .i64 o.b, .int .i64 o.c] (.struct fsO) (by simp [Act.eval]) (fun q v hq => ?_) huO rfl (by kernel_rfl) ?_
 ·match q, hq with
  | 0, hq => cases hq; exact c0
  | 1, hq => cases hq; exact c1
  | 2, hq => cases hq; exact c2
  | 3, hq => cases hq; exact c3
 walk_nrm
 (refine Walk.oa ?_; try walk_nrm)
 have hX := heap_alloc_new e.w (.cells #[.int .i64 0, .int .i64 0, .int .i64 0, .int .i64 0] 47)
 have hap := e.apart (b := e.w.heap.size) (.inr (.inr (.inl (Nat.le_refl _))))
 refine Ap 47 (.tmp 7) (.tmp 13) Ao (by rfl) (by decide) rfl e.w.heap.size #[.int .i64 o.k, .int .i64 o.a, .int .i64 o.b, .int .i64 o.c] _ 47 rfl rfl hX (by kernel_rfl) (by rfl) (by simp [Value.oneCell']) hap ?_
 have hX2 := setRow_self (cells := #[.int .i64 o.k, .int .i64 o.a, .int .i64 o.b, .int .i64 o.c]) hX
 walk_nrm
 refine Aa z63 ?_
 obtain ⟨e1, q1, q2, q3, q4, q5, q6⟩ := e.grow ((e.w.alloc (.cells #[.int .i64 0, .int .i64 0, .int .i64 0, .int .i64 0] 47)).setRow e.w.heap.size #[.int .i64 o.k, .int .i64 o.a, .int .i64 o.b, .int .i64 o.c]) (by rw [Az]; simp) (fun b hb' => (Aq _ _ (by omega)).trans (Ab _ _ hb'))
 have key := reg68_walk (rest' := rest) (X := e.w.heap.size) T hf hname hb hdo e1 (by rw [q4]; omega) (by rw [q1, q3, q4, hg]; rfl) (by rw [q6]; exact hX2) (.slice (some ⟨ob, off, none⟩) ln oc) ln j
 rw [q1, q2, q6] at key
 simp only [Dh] at key
 refine key (fun k => ([u 0, u 1, u 2, u 3, u 4, u 5, u 6, u 7, u 8, u 9, u 10, .bool true, .pointer (some ⟨ob, off + j * 4, none⟩), Bu o, u 14, u 15, u 16, u 17, u 18, u 19, u 20, u 21, u 22, u 23, u 24, u 25, u 26, u 27, u 28] : List Value).getD k undef) _ ?_
 ·intro u' e' a ha hg'
  have := hk e' (fun k => ([u' 0, u' 1, u' 2, u' 3, u' 4, u' 5, u' 6, .pointer (some ⟨e.w.heap.size, 0, none⟩), u' 8, u' 9, u' 10, u' 11, u' 12, u' 13, u' 14, u' 15, u' 16, u' 17, u' 18, u' 19, u' 20, u' 21, u' 22, u' 23, u' 24, u' 25, u' 26, u' 27, .int .i64 ((j : Int) + 1)] : List Value).getD k undef) (by rw [ha, q4]; simp; omega) hg'
  unfold EW hd68 at this
  have hc : ((j + 1 : Nat) : Int) = (j : Int) + 1 := by simp
  simp only [hc] at this
  refine Aa z63 ?_
  refine Walk.ctl rfl (fun w => stepG_inLoop) ?_
  exact this
theorem loop68 (T : ThS L g i pO pA pI pD acap oa oc (.func (.func fdo) first cap)) {fn : Func} (hf : Try.prog.funcs[fdo]? = some fn) (hname : (fn.name == "runtime.NumGoroutine") = false) (hb : fn.body.isNone = false) (hdo : DoOK L fdo first cap) :
  ∀ (left : List OpV) (e : EC L g S i) (u : Nat -> Value), (g.ops i).drop e.ans.length = left -> e.ans.length <= (g.ops i).length -> e.τ.goal = Bs L (i : Nat) e.s left e.ans -> EW e (hd68 (.iface 150 (.pointer (some ⟨S.p i, 0, none⟩))) pO pA pI pD (.slice oa (g.ops i).length oc) (g.ops i).length e.ans.length u) := by
 intro left
 induction left with
 | nil =>
  intro e u hd hl hg
  have : e.ans.length = (g.ops i).length := by have := List.drop_eq_nil_iff.1 hd; omega
  rw [this]
  exact loop68_end T e hg _ u
 | cons o rest ih =>
  intro e u hd hl hg
  have hj : e.ans.length < (g.ops i).length := by
   refine Nat.lt_of_not_le fun h => ?_
   rw [List.drop_eq_nil_iff.2 h] at hd; cases hd
  rw [List.drop_eq_getElem_cons hj] at hd
  obtain ⟨h1, h2⟩ := List.cons.inj hd
  refine loop68_go T hf hname hb hdo e _ o rest (by rw [List.getElem?_eq_getElem hj, h1]) rfl hg u fun e' u' h3 h4 => ?_
  rw [<- h3]
  exact ih e' u' (by rw [h3]; exact h2) (by omega) h4
theorem enter68 (T : ThS L g i pO pA pI pD acap oa oc (.func (.func fdo) first cap)) {fn : Func} (hf : Try.prog.funcs[fdo]? = some fn) (hname : (fn.name == "runtime.NumGoroutine") = false) (hb : fn.body.isNone = false) (hdo : DoOK L fdo first cap)
  (e : EC L g S i) (ha : e.ans = []) (hg : e.τ.goal = Bs L (i : Nat) e.s (g.ops i) []) :
  EW e (Frame.enter Try.prog 63 #[.iface 150 (.pointer (some ⟨S.p i, 0, none⟩)), .pointer (some ⟨pO, 0, none⟩), .pointer (some ⟨pA, 0, none⟩), .pointer (some ⟨pI, 0, none⟩), .pointer (some ⟨pD, 0, none⟩)] .normal) := by
 have h := loop68 T hf hname hb hdo (g.ops i) e (fun _ => undef) (by rw [ha]; rfl) (by rw [ha]; simp) (by rw [ha]; exact hg)
 have cO := e.cell T.cO T.nO
 rw [ha] at h
 unfold EW hd68 at h
 unfold EW
 simp only [List.length_nil] at h
 rw [enter_at _ Try.func63 code63_is]
 simp only [Try.ntmps63, ez, Nat.reduceAdd, Nat.reduceSub]
 refine Aa z63 ?_
 refine Walk.ctl rfl (fun w => stepG_loop) ?_
 exact h
end
end
section
structure DoFn (L : La) (fdo : FuncId) (first cap : Array Value) : Prop where
 fn : ∃ fn, Try.prog.funcs[fdo]? = some fn /\ (fn.name == "runtime.NumGoroutine") = false /\ fn.body.isNone = false
 ok : DoOK L fdo first cap
def OThr (L : La) (g : OG) (S : Stile) (fdo : FuncId) (first cap : Array Value) : Prop := ∀ i, i < g.n -> ∃ pO pA pI pD acap oa oc, ThS L g i pO pA pI pD acap oa oc (.func (.func fdo) first cap) /\
 S.F i = .func (.func 63) #[] #[.pointer (some ⟨pO, 0, none⟩), .pointer (some ⟨pA, 0, none⟩), .pointer (some ⟨pI, 0, none⟩), .pointer (some ⟨pD, 0, none⟩)]
def inv2 (L : La) (g : OG) (S : Stile) (yb : L.Gh) (fdo : FuncId) (first cap : Array Value) (k : Nat) (o : Nat -> Option Role) (x : OX L) (cs : Nat -> List Frame) (w : World) : Prop := OThr L g S fdo first cap /\ Ns L g S yb k o x cs w
section
variable {L : La} {g : OG} {S : Stile} {fdo : FuncId} {first cap : Array Value} {k : Nat} {o o' : Nat -> Option Role} {x : OX L} {cs : Nat -> List Frame} {w w' : World} {yb : L.Gh}
theorem fin2 (hT : OThr L g S fdo first cap) {k' i : Nat} {x' : OX L} {f : Frame} {fs : List Frame} {g' : Goroutine} (h : Fin (Ns L g S yb) OX.out S k' o x' cs i f fs w g' w') : Fin (inv2 L g S yb fdo first cap) OX.out S k' o x' cs i f fs w g' w' := by
 obtain ⟨h1, h2, l, h3, h4⟩ := h
 exact ⟨h1, h2, l, ⟨hT, h3⟩, h4⟩
theorem startO (hD : DoFn L fdo first cap) {V : Nat -> Option Wait} (f : Frame) (fs : List Frame) (h : inv2 L g S yb fdo first cap k o x cs w) (hk : k < S.n) (_hc : x.cnt < 1048576) (hA : ∀ b, o b = none -> Ay V b) (hlt : ∀ b r, o b = some r -> b < w.heap.size) :
  ∃ fi fn first' cap', S.F k = .func (.func fi) first' cap' /\ Try.prog.funcs[fi]? = some fn /\ (fn.name == "runtime.NumGoroutine") = false /\ fn.body.isNone = false /\
   Walk Try.prog false (DR V) (Fin (inv2 L g S yb fdo first cap) OX.out S (k + 1) o (Kr g.ops x k) cs k f fs w) (G (Frame.enter Try.prog fi (first' ++ #[.iface 150 (.pointer (some ⟨S.p k, 0, none⟩))] ++ cap') .normal) (f :: fs)) w := by
 obtain ⟨hT, pr, hd, y, hy, P⟩ := h
 have hi : k < g.n := P.st.n ▸ hk
 obtain ⟨pO, pA, pI, pD, acap, oa, oc, T, hF⟩ := hT k hi
 obtain ⟨fn, q1, q2, q3⟩ := hD.fn
 have hth := P.fresh k (Nat.le_refl _) hi
 have hrow := P.row k hi
 rw [hth] at hrow
 refine ⟨63, Try.f63, _, _, hF, Try.func63, by decide, by rfl, ?_⟩
 have hAn : AnT g k w w (hd k) := by
  obtain ⟨arr, ha, hz, hr⟩ := P.an
  exact ⟨arr, arr, ha, ha, rfl, hr k hi, fun _ _ => rfl⟩
 have key := enter68 (S := S) T q1 q2 q3 hD.ok { τ := ⟨V, f, fs, w, y, fun b => pr b = some k, Bs L (k : Nat) x.s (g.ops k) []⟩, N := 1048577 - x.cnt, w := w, y := y, s := x.s, ans := [], hd := hd k, le := L.refl _, size := Nat.le_refl _, frame := fun _ _ _ _ _ => rfl, pub := fun b h => .inl h, rely := ⟨hd k, P.rely hi hA hlt⟩, an := hAn, row := hrow.imp fun b hb => ⟨.inl hb, (P.prl b k hb).2.2.2⟩, inv := P.I } rfl rfl
 unfold EW at key
 refine Walk.mono ?_ fun g' w' hS => fin2 hT (Lz (V := V) (cnt' := x.cnt) hy P hi (Nat.lt_succ_self _) (fun j h1 h2 => by omega) (Nat.le_succ _) hi (Nat.le_refl _) hlt hS)
 exact key
theorem inv2_keep (h : inv2 L g S yb fdo first cap k o x cs w) (K : Keeps o o' w w') : inv2 L g S yb fdo first cap k o' x cs w' := ⟨h.1, invO_keep h.2 K⟩
noncomputable def crewO (L : La) (g : OG) (yb : L.Gh) {fdo : FuncId} {first cap : Array Value} (hD : DoFn L fdo first cap) (S : Stile) : Crew S (OX L) where
 inv := inv2 L g S yb fdo first cap
 born := Kr g.ops
 next := Cz
 out := OX.out
 cnt := OX.cnt
 cntBorn := fun _ _ => rfl
 cntNext := fun x i => by unfold Cz; cases (x.th i).d <;> rfl
 keep := inv2_keep
 bornOut := fun x i j h => upd_ne _ _ h
 nextOut := fun x i j h => by
  unfold Cz
  cases (x.th i).d with
  | none => rfl
  | some d => exact upd_ne _ _ h
 shape := fun {k o x cs w i} h hik hout => invO_shape h.2 hik hout
 thr := fun {k o x cs w i} h _ hi => invO_thr h.2 hi
 sch := fun {k o x cs w j z} h hz => invO_sch h.2 hz
 start := fun f fs h hk hc hA hlt => .inl (startO hD f fs h hk hc hA hlt)
 go := fun f fs h hik hout hcs hc hA hlt => (goO f fs h.2 hik hout hcs hc hA hlt).mono fun _ _ hF => fin2 h.1 hF
end
end
section
noncomputable def reg34_0 := rk Try.f34.body 0
noncomputable def reg34_1 := rk Try.f34.body 1
noncomputable def reg34_2 := rk Try.f34.body 2
noncomputable def reg34_3 := rk Try.f34.body 3
theorem size34_3 : reg34_3.size = 10 := by kernel_rfl
noncomputable def reg34_4 := rk Try.f34.body 4
noncomputable def reg34_5 := rk Try.f34.body 5
theorem size34_5 : reg34_5.size = 10 := by kernel_rfl
noncomputable def reg34_6 := rk Try.f34.body 6
noncomputable def reg34_7 := rk Try.f34.body 7
noncomputable def reg34_8 := rk Try.f34.body 8
noncomputable def reg34_9 := rk Try.f34.body 9
noncomputable def reg34_10 := rk Try.f34.body 10
noncomputable def reg34_11 := rk Try.f34.body 11
noncomputable def reg34_12 := rk Try.f34.body 12
noncomputable def reg34_13 := rk Try.f34.body 13
noncomputable def reg34_14 := rk Try.f34.body 14
theorem z34 : reg34_0.size = 2 /\ reg34_1.size = 2 /\ reg34_2.size = 2 /\ reg34_3.size = 10 /\ reg34_4.size = 2 /\ reg34_5.size = 10 /\ reg34_6.size = 2 /\ reg34_7.size = 10 /\ reg34_8.size = 4 /\ reg34_9.size = 2 /\ reg34_10.size = 5 /\ reg34_11.size = 2 /\ reg34_12.size = 10 /\ reg34_13.size = 4 /\ reg34_14.size = 2 := by and_intros <;> kernel_rfl
theorem code34_is : Try.f34.body = some (.seq (.region 0 reg34_0 false) (.seq (.seq (.region 1 reg34_1 false) (.block 0 (.seq (.region 2 reg34_2 false) (.cond (.tmp 15 ) (.seq (.region 3 reg34_3 true) (.ret)) (.seq (.region 4 reg34_4 false) (.cond (.tmp 26 ) (.seq (.region 5 reg34_5 true) (.ret)) (.seq (.region 6 reg34_6 false) (.cond (.tmp 37 ) (.seq (.region 7 reg34_7 false) (.seq (.region 8 reg34_8 false) (.ret))) (.seq (.region 9 reg34_9 false) (.cond (.tmp 50 ) (.seq (.region 10 reg34_10 false) (.ret)) (.seq (.region 11 reg34_11 false) (.cond (.tmp 56 ) (.seq (.region 12 reg34_12 false) (.seq (.region 13 reg34_13 false) (.ret))) (.skip))))))))))))) (.seq (.region 14 reg34_14 false) (.ret)))) := by kernel_rfl
section
variable {lb k : Nat} {sv : Value}
def Fi (lb : Nat) (sv : Value) (X R : Nat) (u : Nat -> Value) : Array Value := #[.pointer (some ⟨lb, 0, none⟩), sv, u 2, u 3, u 4, u 5, u 6, .pointer (some ⟨X, 0, none⟩), .pointer (some ⟨R, 0, none⟩), u 9, u 10, u 11, u 12, u 13, u 14, u 15, u 16, u 17, u 18, u 19, u 20, u 21, u 22, u 23, u 24, u 25, u 26, u 27, u 28, u 29, u 30, u 31, u 32, u 33, u 34, u 35, u 36, u 37, u 38, u 39, u 40, u 41, u 42, u 43, u 44, u 45, u 46, u 47, u 48, u 49, u 50, u 51, u 52, u 53, u 54, u 55, u 56, u 57, u 58, u 59, u 60, u 61, u 62, u 63, u 64, u 65, u 66, u 67, u 68, u 69]
def DoPh (K : Lg (Aj lb k) sv) (ad : Bool) (o : OpV) (X R d6 d7 d8 : Nat) (f : Nat -> Bool) (u : Nat -> Value) (e : K.E) (w' : World) : Prop :=
 (f 7 = false /\ f 8 = false /\ f 9 = false /\ K.tgt e = (K.s e, .inr (.w1 ad (Bv o.a) (Ar o))) /\ (K.w e).heap[X]? = some (.cells #[.int .i64 o.k, .int .i64 o.a, .int .i64 o.b, .int .i64 o.c] 47) /\ K.mine e R /\ (K.w e).heap[R]? = some (.cells #[.bool false, .int .i64 0, .slice none 0 0] 44) /\ (∃ d, w' = (K.w e).at d) /\
  (f 6 = true -> ∃ B, u d6 = .slice (some ⟨B, 0, none⟩) (k + 1) (k + 1) /\ NumB (K.w e) B ((List.range (k + 1)).map (Ar o)))) ∨
 (f 7 = true /\ ∃ b, (f 8 = false -> u d7 = .bool b) /\ (f 8 = true -> u d8 = .agg #[.bool b, .int .i64 0, .slice none 0 0]) /\ K.tgt e = (K.s e, .inl ⟨b, 0, []⟩) /\ K.mine e R /\ (K.w e).heap[R]? = some (.cells #[.bool false, .int .i64 0, .slice none 0 0] 44) /\
  ((f 9 = false /\ ∃ d, w' = (K.w e).at d) ∨ (f 9 = true /\ ∃ d, w' = ((K.w e).setRow R #[.bool b, .int .i64 0, .slice none 0 0]).at d)))
variable {K : Lg (Aj lb k) sv} {ad : Bool} {o : OpV} {X R d6 d7 d8 : Nat} {f : Nat -> Bool} {u : Nat -> Value} {e : K.E} {w' : World}
theorem DoPh.quiet {j d : Nat} {v : Value} (h : DoPh K ad o X R d6 d7 d8 f u e w') (hj : j ≠ 6 /\ j ≠ 7 /\ j ≠ 8 /\ j ≠ 9) (hd : d ≠ d6 /\ d ≠ d7 /\ d ≠ d8) : DoPh K ad o X R d6 d7 d8 (upd f j true) (upd u d v) e w' := by
 unfold DoPh
 rw [upd_ne f true (Ne.symm hj.1), upd_ne f true (Ne.symm hj.2.1), upd_ne f true (Ne.symm hj.2.2.1), upd_ne f true (Ne.symm hj.2.2.2), upd_ne u v (Ne.symm hd.1), upd_ne u v (Ne.symm hd.2.1), upd_ne u v (Ne.symm hd.2.2)]
 exact h
theorem DoPh.early (h : DoPh K ad o X R d6 d7 d8 f u e w') (h7 : f 7 = false) : w'.heap[X]? = some (.cells #[.int .i64 o.k, .int .i64 o.a, .int .i64 o.b, .int .i64 o.c] 47) := by
 rcases h with ⟨_, _, _, _, hX, _, _, ⟨d, rfl⟩, _⟩ | ⟨h, _⟩
 ·exact hX
 ·rw [h7] at h; cases h
variable {fr : Frame} {l : List Frame}
theorem doW_reg (K : Lg (Aj lb k) sv) (o : OpV) (X R : Nat) (hp : Bf fr) (hl : ∀ f ∈ l, Bf f) (e0 : K.E) (A : Array Value) (hA : A = Fi lb sv X R (fun j => A.getD j undef)) (hX : (K.w e0).heap[X]? = some (.cells #[.int .i64 o.k, .int .i64 o.a, .int .i64 o.b, .int .i64 o.c] 47)) (hmR : K.mine e0 R) (hR : (K.w e0).heap[R]? = some (.cells #[.bool false, .int .i64 0, .slice none 0 0] 44)) (ht : K.tgt e0 = (K.s e0, .inr (.w1 false (Bv o.a) (Ar o)))) (kk : List Item)
  (hk : ∀ (u : Nat -> Value) (e : K.E) b, K.tgt e = (K.s e, .inl ⟨b, 0, []⟩) -> K.mine e R -> (K.w e).heap[R]? = some (.cells #[.bool false, .int .i64 0, .slice none 0 0] 44) -> Walk Try.prog K.main (DR (K.V e)) (K.Stop e) (G ((base 34).at ⟨Fi lb sv X R u, []⟩ (.inRegion reg34_3 [] :: kk)) (fr :: (l ++ K.bot e))) ((K.w e).setRow R #[.bool b, .int .i64 0, .slice none 0 0])) :
  Walk Try.prog K.main (DR (K.V e0)) (K.Stop e0) (G ((base 34).at ⟨A, []⟩ (.code (.region 3 reg34_3 true) :: kk)) (fr :: (l ++ K.bot e0))) (K.w e0) := by
 obtain ⟨fsO, huO⟩ := Cf 47 (by kernel_rfl)
 rw [hA]
 generalize (fun j => A.getD j undef) = u0
 clear hA
 refine Ed (E := K.E × World) (V := fun x => K.V x.1) (Stop := fun x => K.Stop x.1) (cs := fun x => fr :: (l ++ K.bot x.1)) (w := fun x => x.2)
  (Inv := fun f a x => ∃ u, a = ⟨Fi lb sv X R u, []⟩ /\ Facts [17, 18, 19, 20, 21, 22, 1006, 1007, 1008, 1009] [.pointer (some ⟨lb, 0, none⟩), sv, .pointer (some ⟨X, 1, none⟩), .int .i64 o.a, .pointer (some ⟨lb, 0, none⟩), Bu o, undef, undef, undef, undef] f u /\ DoPh K false o X R 23 24 25 f u x.1 x.2) (e0, K.w e0) (by kernel_rfl) (by kernel_rfl)
  ⟨u0, rfl, Cx _ _ _, .inl ⟨rfl, rfl, rfl, ht, hX, hmR, hR, ⟨(K.w e0).drawn, rfl⟩, fun h => (by cases h)⟩⟩ ?_ ?_
 ·rintro f oi op a ⟨e, w'⟩ ⟨u, rfl, F, hw⟩ hC hfi ho hdeps rest hr
  dsimp only at hw hr ⊢
  have hil : oi < 10 := (Array.getElem?_eq_some_iff.1 ho).1
  match oi, hil with
  | 0, _ =>
   have h7 : f 7 = false := by
    cases h : f 7 with
    | false => rfl
    | true =>
     have h7_0 := (hC.deps (l := [0]) h (by kernel_rfl)) 0 (by simp)
     rw [hfi] at h7_0; cases h7_0
   have hX := hw.early h7
   clear hdeps ho hC hfi
   simp only [Fi] at hr ⊢
   (refine Walk.oq ?_; try walk_nrm)
   refine hr _ (e, w') ⟨upd u 17 (.pointer (some ⟨lb, 0, none⟩)), ?_, F.set (by decide) rfl rfl, hw.quiet (by decide) (by decide)⟩
   simp [Fi, upd]
  | 1, _ =>
   have h7 : f 7 = false := by
    cases h : f 7 with
    | false => rfl
    | true =>
     have h7_1 := (hC.deps (l := [1]) h (by kernel_rfl)) 1 (by simp)
     rw [hfi] at h7_1; cases h7_1
   have hX := hw.early h7
   clear hdeps ho hC hfi
   simp only [Fi] at hr ⊢
   (refine Walk.oq ?_; try walk_nrm)
   refine hr _ (e, w') ⟨upd u 18 (sv), ?_, F.set (by decide) rfl rfl, hw.quiet (by decide) (by decide)⟩
   simp [Fi, upd]
  | 2, _ =>
   have h7 : f 7 = false := by
    cases h : f 7 with
    | false => rfl
    | true =>
     have h7_3 := (hC.deps (l := [3]) h (by kernel_rfl)) 3 (by simp)
     have h3_2 := (hC.deps (l := [2]) h7_3 (by kernel_rfl)) 2 (by simp)
     rw [hfi] at h3_2; cases h3_2
   have hX := hw.early h7
   clear hdeps ho hC hfi
   simp only [Fi] at hr ⊢
   (refine Walk.oq ?_; try walk_nrm)
   refine hr _ (e, w') ⟨upd u 19 (.pointer (some ⟨X, 1, none⟩)), ?_, F.set (by decide) rfl rfl, hw.quiet (by decide) (by decide)⟩
   simp [Fi, upd]
  | 3, _ =>
   have h7 : f 7 = false := by
    cases h : f 7 with
    | false => rfl
    | true =>
     have h7_3 := (hC.deps (l := [3]) h (by kernel_rfl)) 3 (by simp)
     rw [hfi] at h7_3; cases h7_3
   have hX := hw.early h7
   have hdd := Af (l := [2]) (by kernel_rfl) ho hdeps
   have e19 := F 2 19 _ (hdd 2 (by simp)) rfl rfl
   have cX := (Ad hX 1).trans rfl
   clear hdd
   clear hdeps ho hC hfi
   simp only [Fi] at hr ⊢
   (refine Walk.oq ?_; try walk_nrm)
   refine hr _ (e, w') ⟨upd u 20 (.int .i64 o.a), ?_, F.set (by decide) rfl rfl, hw.quiet (by decide) (by decide)⟩
   simp [Fi, upd, e19]
  | 4, _ =>
   have h7 : f 7 = false := by
    cases h : f 7 with
    | false => rfl
    | true =>
     have h7_6 := (hC.deps (l := [6]) h (by kernel_rfl)) 6 (by simp)
     have h6_4 := (hC.deps (l := [4]) h7_6 (by kernel_rfl)) 4 (by simp)
     rw [hfi] at h6_4; cases h6_4
   have hX := hw.early h7
   clear hdeps ho hC hfi
   simp only [Fi] at hr ⊢
   (refine Walk.oq ?_; try walk_nrm)
   refine hr _ (e, w') ⟨upd u 21 (.pointer (some ⟨lb, 0, none⟩)), ?_, F.set (by decide) rfl rfl, hw.quiet (by decide) (by decide)⟩
   simp [Fi, upd]
  | 5, _ =>
   have h7 : f 7 = false := by
    cases h : f 7 with
    | false => rfl
    | true =>
     have h7_6 := (hC.deps (l := [6]) h (by kernel_rfl)) 6 (by simp)
     have h6_5 := (hC.deps (l := [5]) h7_6 (by kernel_rfl)) 5 (by simp)
     rw [hfi] at h6_5; cases h6_5
   have hX := hw.early h7
   clear hdeps ho hC hfi
   simp only [Fi] at hr ⊢
   refine Walk.loadS 47 (.tmp 7) Ao (by rfl) (by decide) rfl X 0 [.int .i64 o.k, .int .i64 o.a, .int .i64 o.b, .int .i64 o.c] (.struct fsO) rfl (fun j v hj => ?_) huO rfl (by kernel_rfl) ?_
   ·rw [Nat.zero_add, Ad hX]
    simpa using hj
   walk_nrm
   refine hr _ (e, w') ⟨upd u 22 (Bu o), ?_, F.set (by decide) rfl rfl, hw.quiet (by decide) (by decide)⟩
   simp [Fi, upd, Bu]
  | 6, _ =>
   have hdd := Af (l := [4, 5]) (by kernel_rfl) ho hdeps
   have e21 := F 4 21 _ (hdd 4 (by simp)) rfl rfl
   have e22 := F 5 22 _ (hdd 5 (by simp)) rfl rfl
   have h7 : f 7 = false := by
    cases h : f 7 with
    | false => rfl
    | true =>
     have h6 := (hC.deps (l := [6]) h (by kernel_rfl)) 6 (by simp)
     rw [hfi] at h6; cases h6
   rcases hw with ⟨_, h8, h9, htE, hX, hmR, hR, ⟨dd, rfl⟩, _⟩ | ⟨h, _⟩
   rotate_left
   ·rw [h7] at h; cases h
   refine Walk.back ?_ dd
   clear hdeps ho hC hdd
   have hv := values_w (main := K.main) (V := K.V e) o (K.w e) (K.inv e) (fun b hb => K.newA e b hb)
   simp only [Fi] at hr ⊢
   refine Ah (Post := Jq ((List.range (k + 1)).map (Ar o)) (K.w e)) ?_ Ao (by rfl) (by decide) rfl Try.func51 (by kernel_rfl) (by rfl) ?_
   ·walk_nrm
    simp only [e21, e22]
    exact hv
   rintro v w1 ⟨B, rfl, hB1, hB2, hN, hold, hsz⟩
   obtain ⟨e1, m1⟩ := K.grow e (w' := w1) hsz hold
   have hXl : X < (K.w e).heap.size := (Array.getElem?_eq_some_iff.1 hX).1
   have hRl : R < (K.w e).heap.size := (Array.getElem?_eq_some_iff.1 hR).1
   refine Dq (l := fr :: l) m1 ?_
   unfold LW
   have hlen : ((List.range (k + 1)).map (Ar o)).length = k + 1 := by simp
   rw [hlen]
   walk_nrm
   refine hr _ (e1, K.w e1) ⟨upd (upd u 1006 undef) 23 (.slice (some ⟨B, 0, none⟩) (k + 1) (k + 1)), ?_, Bl (F.set (by decide) rfl rfl) (by decide), .inl ⟨by rw [upd_ne _ _ (by decide)]; exact h7, by rw [upd_ne _ _ (by decide)]; exact h8, by rw [upd_ne _ _ (by decide)]; exact h9, by rw [m1.tgt, m1.s]; exact htE, by rw [m1.w, hold X hXl]; exact hX, (m1.mine R).2 (.inl hmR), by rw [m1.w, hold R hRl]; exact hR, ⟨(K.w e1).drawn, rfl⟩, fun _ => ⟨B, upd_same _ _ _, by rw [m1.w]; exact hN⟩⟩⟩
   simp [Fi, upd, e21, e22]
  | 7, _ =>
   have hdd := Af (l := [0, 1, 3, 6]) (by kernel_rfl) ho hdeps
   have e17 := F 0 17 _ (hdd 0 (by simp)) rfl rfl
   have e18 := F 1 18 _ (hdd 1 (by simp)) rfl rfl
   have e20 := F 3 20 _ (hdd 3 (by simp)) rfl rfl
   have h6 := hdd 6 (by simp)
   rcases hw with ⟨_, h8, h9, htE, hX, hmR, hR, ⟨dd, rfl⟩, hB⟩ | ⟨h, _⟩
   rotate_left
   ·rw [hfi] at h; cases h
   obtain ⟨B, e23, hN⟩ := hB h6
   refine Walk.back ?_ dd
   clear hdeps ho hC hdd
   have hlen : ((List.range (k + 1)).map (Ar o)).length = k + 1 := by simp
   have hsl := hN.lsR
   rw [hlen] at hsl
   have hvi : Fv k (Ar o) ((List.range (k + 1)).map (Ar o)) := fun i hi => by
    rw [List.take_of_length_le (by simp), Er hlen]
    simp [List.getElem?_range (show i < k + 1 by omega)]
   have hcall := Cs K (Oo (Fz K e) (Ar o) (fz0 K e) o.a (.slice (some ⟨B, 0, none⟩) (k + 1) (k + 1)) ((List.range (k + 1)).map (Ar o)) hsl hvi htE)
   simp only [Fi] at hr ⊢
   refine (?_ : LW K.toLb e (G _ ((fr :: l) ++ K.bot e)))
   refine Bb (f := 23) (Q := fun x e' => ∃ h : Lo K e e', Ge (Fz K e) x ⟨e', h⟩) ?_ Ao (by rfl) (by decide) rfl Try.func23 (by kernel_rfl) (by rfl) ⟨rfl, rfl, _, Try.func34⟩ (As hp hl) ?_
   ·walk_nrm
    simp only [e17, e18, e20, e23]
    exact hcall
   rintro v e2 ⟨hkept, b, rfl, ht2⟩
   obtain ⟨hm2, hb2⟩ := hkept R hmR
   unfold LW
   walk_nrm
   refine hr _ (e2, K.w e2) ⟨upd (upd u 1007 undef) 24 (.bool b), ?_, Bl (F.set (by decide) rfl rfl) (by decide), .inr ⟨upd_same _ _ _, b, fun _ => upd_same _ _ _, fun h => ?_, ht2, hm2, hb2.trans hR, .inl ⟨by rw [upd_ne _ _ (by decide)]; exact h9, (K.w e2).drawn, rfl⟩⟩⟩
   ·simp [Fi, upd, e17, e18, e20, e23]
   ·rw [upd_ne _ _ (by decide), h8] at h; cases h
  | 8, _ =>
   have h7 := (Af (l := [7]) (by kernel_rfl) ho hdeps) 7 (by simp)
   rcases hw with ⟨h, _⟩ | ⟨_, b, hb, _, htE, hmR, hR, ⟨h9, dd, rfl⟩ | ⟨h9, _⟩⟩
   ·rw [h7] at h; cases h
   rotate_left
   ·have h8 := (hC.deps (l := [8]) h9 (by kernel_rfl)) 8 (by simp)
    rw [hfi] at h8; cases h8
   replace hb := hb hfi
   refine Walk.back ?_ dd
   clear hdeps ho hC
   simp only [Fi, hb] at hr ⊢
   (refine Walk.oq ?_; try walk_nrm)
   refine hr _ (e, K.w e) ⟨upd (upd u 1008 undef) 25 (.agg #[.bool b, .int .i64 0, .slice none 0 0]), ?_, Bl (F.set (by decide) rfl rfl) (by decide), .inr ⟨by rw [upd_ne _ _ (by decide)]; exact h7, b, fun h => ?_, fun _ => upd_same _ _ _, htE, hmR, hR, .inl ⟨by rw [upd_ne _ _ (by decide)]; exact h9, (K.w e).drawn, rfl⟩⟩⟩
   ·simp [Fi, upd, hb]
   ·rw [upd_same] at h; cases h
  | 9, _ =>
   have hdd := Af (l := [7, 8]) (by kernel_rfl) ho hdeps
   have h7 := hdd 7 (by simp)
   have h8 := hdd 8 (by simp)
   rcases hw with ⟨h, _⟩ | ⟨_, b, _, hb, htE, hmR, hR, ⟨h9, dd, rfl⟩ | ⟨h9, _⟩⟩
   ·rw [h7] at h; cases h
   rotate_left
   ·rw [hfi] at h9; cases h9
   replace hb := hb h8
   refine Walk.back ?_ dd
   have hap := (K.mineA e _ hmR).1
   clear hdeps ho hC hdd
   simp only [Fi, hb] at hr ⊢
   refine Ap 44 (.tmp 8) (.tmp 25) Ao (by rfl) (by decide) rfl R #[.bool b, .int .i64 0, .slice none 0 0] _ 44 rfl rfl hR (by kernel_rfl) (by rfl) (by simp [Value.oneCell']) hap ?_
   walk_nrm
   refine hr _ (e, (K.w e).setRow R #[.bool b, .int .i64 0, .slice none 0 0]) ⟨upd u 1009 undef, ?_, F.set (by decide) rfl rfl, .inr ⟨by rw [upd_ne _ _ (by decide)]; exact h7, b, fun h => ?_, fun _ => by rw [upd_ne _ _ (by decide)]; exact hb, htE, hmR, hR, .inr ⟨upd_same _ _ _, ((K.w e).setRow R #[.bool b, .int .i64 0, .slice none 0 0]).drawn, rfl⟩⟩⟩
   ·simp [Fi, upd, hb]
   ·rw [upd_ne _ _ (by decide), h8] at h; cases h
 ·rintro f a ⟨e, w'⟩ ⟨u, rfl, F, hw⟩ hall
  have hsz : reg34_3.size = 10 := size34_3
  rcases hw with ⟨h, _⟩ | ⟨_, b, _, hb, htE, hmR, hR, ⟨h9, _⟩ | ⟨_, dd, hw'⟩⟩
  ·rw [hall 7 (by omega)] at h; cases h
  ·rw [hall 9 (by omega)] at h9; cases h9
  ·dsimp only at hw' ⊢
   subst hw'
   exact Walk.back (hk u e b htE hmR hR) dd
theorem doA_reg (K : Lg (Aj lb k) sv) (o : OpV) (X R : Nat) (hp : Bf fr) (hl : ∀ f ∈ l, Bf f) (e0 : K.E) (A : Array Value) (hA : A = Fi lb sv X R (fun j => A.getD j undef)) (hX : (K.w e0).heap[X]? = some (.cells #[.int .i64 o.k, .int .i64 o.a, .int .i64 o.b, .int .i64 o.c] 47)) (hmR : K.mine e0 R) (hR : (K.w e0).heap[R]? = some (.cells #[.bool false, .int .i64 0, .slice none 0 0] 44)) (ht : K.tgt e0 = (K.s e0, .inr (.w1 true (Bv o.a) (Ar o)))) (kk : List Item)
  (hk : ∀ (u : Nat -> Value) (e : K.E) b, K.tgt e = (K.s e, .inl ⟨b, 0, []⟩) -> K.mine e R -> (K.w e).heap[R]? = some (.cells #[.bool false, .int .i64 0, .slice none 0 0] 44) -> Walk Try.prog K.main (DR (K.V e)) (K.Stop e) (G ((base 34).at ⟨Fi lb sv X R u, []⟩ (.inRegion reg34_5 [] :: kk)) (fr :: (l ++ K.bot e))) ((K.w e).setRow R #[.bool b, .int .i64 0, .slice none 0 0])) :
  Walk Try.prog K.main (DR (K.V e0)) (K.Stop e0) (G ((base 34).at ⟨A, []⟩ (.code (.region 5 reg34_5 true) :: kk)) (fr :: (l ++ K.bot e0))) (K.w e0) := by
 obtain ⟨fsO, huO⟩ := Cf 47 (by kernel_rfl)
 rw [hA]
 generalize (fun j => A.getD j undef) = u0
 clear hA
 refine Ed (E := K.E × World) (V := fun x => K.V x.1) (Stop := fun x => K.Stop x.1) (cs := fun x => fr :: (l ++ K.bot x.1)) (w := fun x => x.2)
  (Inv := fun f a x => ∃ u, a = ⟨Fi lb sv X R u, []⟩ /\ Facts [28, 29, 30, 31, 32, 33, 1006, 1007, 1008, 1009] [.pointer (some ⟨lb, 0, none⟩), sv, .pointer (some ⟨X, 1, none⟩), .int .i64 o.a, .pointer (some ⟨lb, 0, none⟩), Bu o, undef, undef, undef, undef] f u /\ DoPh K true o X R 34 35 36 f u x.1 x.2) (e0, K.w e0) (by kernel_rfl) (by kernel_rfl)
  ⟨u0, rfl, Cx _ _ _, .inl ⟨rfl, rfl, rfl, ht, hX, hmR, hR, ⟨(K.w e0).drawn, rfl⟩, fun h => (by cases h)⟩⟩ ?_ ?_
 ·rintro f oi op a ⟨e, w'⟩ ⟨u, rfl, F, hw⟩ hC hfi ho hdeps rest hr
  dsimp only at hw hr ⊢
  have hil : oi < 10 := (Array.getElem?_eq_some_iff.1 ho).1
  match oi, hil with
  | 0, _ =>
   have h7 : f 7 = false := by
    cases h : f 7 with
    | false => rfl
    | true =>
     have h7_0 := (hC.deps (l := [0]) h (by kernel_rfl)) 0 (by simp)
     rw [hfi] at h7_0; cases h7_0
   have hX := hw.early h7
   clear hdeps ho hC hfi
   simp only [Fi] at hr ⊢
   (refine Walk.oq ?_; try walk_nrm)
   refine hr _ (e, w') ⟨upd u 28 (.pointer (some ⟨lb, 0, none⟩)), ?_, F.set (by decide) rfl rfl, hw.quiet (by decide) (by decide)⟩
   simp [Fi, upd]
  | 1, _ =>
   have h7 : f 7 = false := by
    cases h : f 7 with
    | false => rfl
    | true =>
     have h7_1 := (hC.deps (l := [1]) h (by kernel_rfl)) 1 (by simp)
     rw [hfi] at h7_1; cases h7_1
   have hX := hw.early h7
   clear hdeps ho hC hfi
   simp only [Fi] at hr ⊢
   (refine Walk.oq ?_; try walk_nrm)
   refine hr _ (e, w') ⟨upd u 29 (sv), ?_, F.set (by decide) rfl rfl, hw.quiet (by decide) (by decide)⟩
   simp [Fi, upd]
  | 2, _ =>
   have h7 : f 7 = false := by
    cases h : f 7 with
    | false => rfl
    | true =>
     have h7_3 := (hC.deps (l := [3]) h (by kernel_rfl)) 3 (by simp)
     have h3_2 := (hC.deps (l := [2]) h7_3 (by kernel_rfl)) 2 (by simp)
     rw [hfi] at h3_2; cases h3_2
   have hX := hw.early h7
   clear hdeps ho hC hfi
   simp only [Fi] at hr ⊢
   (refine Walk.oq ?_; try walk_nrm)
   refine hr _ (e, w') ⟨upd u 30 (.pointer (some ⟨X, 1, none⟩)), ?_, F.set (by decide) rfl rfl, hw.quiet (by decide) (by decide)⟩
   simp [Fi, upd]
  | 3, _ =>
   have h7 : f 7 = false := by
    cases h : f 7 with
    | false => rfl
    | true =>
     have h7_3 := (hC.deps (l := [3]) h (by kernel_rfl)) 3 (by simp)
     rw [hfi] at h7_3; cases h7_3
   have hX := hw.early h7
   have hdd := Af (l := [2]) (by kernel_rfl) ho hdeps
   have e30 := F 2 30 _ (hdd 2 (by simp)) rfl rfl
   have cX := (Ad hX 1).trans rfl
   clear hdd
   clear hdeps ho hC hfi
   simp only [Fi] at hr ⊢
   (refine Walk.oq ?_; try walk_nrm)
   refine hr _ (e, w') ⟨upd u 31 (.int .i64 o.a), ?_, F.set (by decide) rfl rfl, hw.quiet (by decide) (by decide)⟩
   simp [Fi, upd, e30]
  | 4, _ =>
   have h7 : f 7 = false := by
    cases h : f 7 with
    | false => rfl
    | true =>
     have h7_6 := (hC.deps (l := [6]) h (by kernel_rfl)) 6 (by simp)
     have h6_4 := (hC.deps (l := [4]) h7_6 (by kernel_rfl)) 4 (by simp)
     rw [hfi] at h6_4; cases h6_4
   have hX := hw.early h7
   clear hdeps ho hC hfi
   simp only [Fi] at hr ⊢
   (refine Walk.oq ?_; try walk_nrm)
   refine hr _ (e, w') ⟨upd u 32 (.pointer (some ⟨lb, 0, none⟩)), ?_, F.set (by decide) rfl rfl, hw.quiet (by decide) (by decide)⟩
   simp [Fi, upd]
  | 5, _ =>
   have h7 : f 7 = false := by
    cases h : f 7 with
    | false => rfl
    | true =>
     have h7_6 := (hC.deps (l := [6]) h (by kernel_rfl)) 6 (by simp)
     have h6_5 := (hC.deps (l := [5]) h7_6 (by kernel_rfl)) 5 (by simp)
     rw [hfi] at h6_5; cases h6_5
   have hX := hw.early h7
   clear hdeps ho hC hfi
   simp only [Fi] at hr ⊢
   refine Walk.loadS 47 (.tmp 7) Ao (by rfl) (by decide) rfl X 0 [.int .i64 o.k, .int .i64 o.a, .int .i64 o.b, .int .i64 o.c] (.struct fsO) rfl (fun j v hj => ?_) huO rfl (by kernel_rfl) ?_
   ·rw [Nat.zero_add, Ad hX]
    simpa using hj
   walk_nrm
   refine hr _ (e, w') ⟨upd u 33 (Bu o), ?_, F.set (by decide) rfl rfl, hw.quiet (by decide) (by decide)⟩
   simp [Fi, upd, Bu]
  | 6, _ =>
   have hdd := Af (l := [4, 5]) (by kernel_rfl) ho hdeps
   have e32 := F 4 32 _ (hdd 4 (by simp)) rfl rfl
   have e33 := F 5 33 _ (hdd 5 (by simp)) rfl rfl
   have h7 : f 7 = false := by
    cases h : f 7 with
    | false => rfl
    | true =>
     have h6 := (hC.deps (l := [6]) h (by kernel_rfl)) 6 (by simp)
     rw [hfi] at h6; cases h6
   rcases hw with ⟨_, h8, h9, htE, hX, hmR, hR, ⟨dd, rfl⟩, _⟩ | ⟨h, _⟩
   rotate_left
   ·rw [h7] at h; cases h
   refine Walk.back ?_ dd
   clear hdeps ho hC hdd
   have hv := values_w (main := K.main) (V := K.V e) o (K.w e) (K.inv e) (fun b hb => K.newA e b hb)
   simp only [Fi] at hr ⊢
   refine Ah (Post := Jq ((List.range (k + 1)).map (Ar o)) (K.w e)) ?_ Ao (by rfl) (by decide) rfl Try.func51 (by kernel_rfl) (by rfl) ?_
   ·walk_nrm
    simp only [e32, e33]
    exact hv
   rintro v w1 ⟨B, rfl, hB1, hB2, hN, hold, hsz⟩
   obtain ⟨e1, m1⟩ := K.grow e (w' := w1) hsz hold
   have hXl : X < (K.w e).heap.size := (Array.getElem?_eq_some_iff.1 hX).1
   have hRl : R < (K.w e).heap.size := (Array.getElem?_eq_some_iff.1 hR).1
   refine Dq (l := fr :: l) m1 ?_
   unfold LW
   have hlen : ((List.range (k + 1)).map (Ar o)).length = k + 1 := by simp
   rw [hlen]
   walk_nrm
   refine hr _ (e1, K.w e1) ⟨upd (upd u 1006 undef) 34 (.slice (some ⟨B, 0, none⟩) (k + 1) (k + 1)), ?_, Bl (F.set (by decide) rfl rfl) (by decide), .inl ⟨by rw [upd_ne _ _ (by decide)]; exact h7, by rw [upd_ne _ _ (by decide)]; exact h8, by rw [upd_ne _ _ (by decide)]; exact h9, by rw [m1.tgt, m1.s]; exact htE, by rw [m1.w, hold X hXl]; exact hX, (m1.mine R).2 (.inl hmR), by rw [m1.w, hold R hRl]; exact hR, ⟨(K.w e1).drawn, rfl⟩, fun _ => ⟨B, upd_same _ _ _, by rw [m1.w]; exact hN⟩⟩⟩
   simp [Fi, upd, e32, e33]
  | 7, _ =>
   have hdd := Af (l := [0, 1, 3, 6]) (by kernel_rfl) ho hdeps
   have e28 := F 0 28 _ (hdd 0 (by simp)) rfl rfl
   have e29 := F 1 29 _ (hdd 1 (by simp)) rfl rfl
   have e31 := F 3 31 _ (hdd 3 (by simp)) rfl rfl
   have h6 := hdd 6 (by simp)
   rcases hw with ⟨_, h8, h9, htE, hX, hmR, hR, ⟨dd, rfl⟩, hB⟩ | ⟨h, _⟩
   rotate_left
   ·rw [hfi] at h; cases h
   obtain ⟨B, e34, hN⟩ := hB h6
   refine Walk.back ?_ dd
   clear hdeps ho hC hdd
   have hlen : ((List.range (k + 1)).map (Ar o)).length = k + 1 := by simp
   have hsl := hN.lsR
   rw [hlen] at hsl
   have hvi : Fv k (Ar o) ((List.range (k + 1)).map (Ar o)) := fun i hi => by
    rw [List.take_of_length_le (by simp), Er hlen]
    simp [List.getElem?_range (show i < k + 1 by omega)]
   have hcall := Cs K (add_s (Fz K e) (Ar o) (fz0 K e) o.a (.slice (some ⟨B, 0, none⟩) (k + 1) (k + 1)) ((List.range (k + 1)).map (Ar o)) hsl hvi htE)
   simp only [Fi] at hr ⊢
   refine (?_ : LW K.toLb e (G _ ((fr :: l) ++ K.bot e)))
   refine Bb (f := 24) (Q := fun x e' => ∃ h : Lo K e e', Ge (Fz K e) x ⟨e', h⟩) ?_ Ao (by rfl) (by decide) rfl Try.func24 (by kernel_rfl) (by rfl) ⟨rfl, rfl, _, Try.func34⟩ (As hp hl) ?_
   ·walk_nrm
    simp only [e28, e29, e31, e34]
    exact hcall
   rintro v e2 ⟨hkept, b, rfl, ht2⟩
   obtain ⟨hm2, hb2⟩ := hkept R hmR
   unfold LW
   walk_nrm
   refine hr _ (e2, K.w e2) ⟨upd (upd u 1007 undef) 35 (.bool b), ?_, Bl (F.set (by decide) rfl rfl) (by decide), .inr ⟨upd_same _ _ _, b, fun _ => upd_same _ _ _, fun h => ?_, ht2, hm2, hb2.trans hR, .inl ⟨by rw [upd_ne _ _ (by decide)]; exact h9, (K.w e2).drawn, rfl⟩⟩⟩
   ·simp [Fi, upd, e28, e29, e31, e34]
   ·rw [upd_ne _ _ (by decide), h8] at h; cases h
  | 8, _ =>
   have h7 := (Af (l := [7]) (by kernel_rfl) ho hdeps) 7 (by simp)
   rcases hw with ⟨h, _⟩ | ⟨_, b, hb, _, htE, hmR, hR, ⟨h9, dd, rfl⟩ | ⟨h9, _⟩⟩
   ·rw [h7] at h; cases h
   rotate_left
   ·have h8 := (hC.deps (l := [8]) h9 (by kernel_rfl)) 8 (by simp)
    rw [hfi] at h8; cases h8
   replace hb := hb hfi
   refine Walk.back ?_ dd
   clear hdeps ho hC
   simp only [Fi, hb] at hr ⊢
   (refine Walk.oq ?_; try walk_nrm)
   refine hr _ (e, K.w e) ⟨upd (upd u 1008 undef) 36 (.agg #[.bool b, .int .i64 0, .slice none 0 0]), ?_, Bl (F.set (by decide) rfl rfl) (by decide), .inr ⟨by rw [upd_ne _ _ (by decide)]; exact h7, b, fun h => ?_, fun _ => upd_same _ _ _, htE, hmR, hR, .inl ⟨by rw [upd_ne _ _ (by decide)]; exact h9, (K.w e).drawn, rfl⟩⟩⟩
   ·simp [Fi, upd, hb]
   ·rw [upd_same] at h; cases h
  | 9, _ =>
   have hdd := Af (l := [7, 8]) (by kernel_rfl) ho hdeps
   have h7 := hdd 7 (by simp)
   have h8 := hdd 8 (by simp)
   rcases hw with ⟨h, _⟩ | ⟨_, b, _, hb, htE, hmR, hR, ⟨h9, dd, rfl⟩ | ⟨h9, _⟩⟩
   ·rw [h7] at h; cases h
   rotate_left
   ·rw [hfi] at h9; cases h9
   replace hb := hb h8
   refine Walk.back ?_ dd
   have hap := (K.mineA e _ hmR).1
   clear hdeps ho hC hdd
   simp only [Fi, hb] at hr ⊢
   refine Ap 44 (.tmp 8) (.tmp 36) Ao (by rfl) (by decide) rfl R #[.bool b, .int .i64 0, .slice none 0 0] _ 44 rfl rfl hR (by kernel_rfl) (by rfl) (by simp [Value.oneCell']) hap ?_
   walk_nrm
   refine hr _ (e, (K.w e).setRow R #[.bool b, .int .i64 0, .slice none 0 0]) ⟨upd u 1009 undef, ?_, F.set (by decide) rfl rfl, .inr ⟨by rw [upd_ne _ _ (by decide)]; exact h7, b, fun h => ?_, fun _ => by rw [upd_ne _ _ (by decide)]; exact hb, htE, hmR, hR, .inr ⟨upd_same _ _ _, ((K.w e).setRow R #[.bool b, .int .i64 0, .slice none 0 0]).drawn, rfl⟩⟩⟩
   ·simp [Fi, upd, hb]
   ·rw [upd_ne _ _ (by decide), h8] at h; cases h
 ·rintro f a ⟨e, w'⟩ ⟨u, rfl, F, hw⟩ hall
  have hsz : reg34_5.size = 10 := size34_5
  rcases hw with ⟨h, _⟩ | ⟨_, b, _, hb, htE, hmR, hR, ⟨h9, _⟩ | ⟨_, dd, hw'⟩⟩
  ·rw [hall 7 (by omega)] at h; cases h
  ·rw [hall 9 (by omega)] at h9; cases h9
  ·dsimp only at hw' ⊢
   subst hw'
   exact Walk.back (hk u e b htE hmR hR) dd
end
end
end Go.Proofs.Ytjenoiekfkhafaa
