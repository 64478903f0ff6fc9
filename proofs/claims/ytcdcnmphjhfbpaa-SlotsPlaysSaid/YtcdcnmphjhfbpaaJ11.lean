/- Part 11. -/
import Derived.Test.YtcdcnmphjhfbpaaJ3
import Derived.Test.YtcdcnmphjhfbpaaJ4
import Derived.Test.YtcdcnmphjhfbpaaJ10
set_option linter.unusedSimpArgs false
set_option linter.unusedVariables false
set_option maxHeartbeats 8000000
set_option maxRecDepth 100000
namespace Go.Proofs.Ytcdcnmphjhfbpaa
open Go.Conc Go.RowKit Go.Relay
open Go.ConcN (upd upd_ne upd_same)
section
section
variable {L : La} {g : OG} {S : Stile} {i : Nat} {pO pA pI pD acap : Nat} {oa : Option Addr} {oc : Nat} {o : OpV} {rest' : List OpV} {X : Nat}
def Cw (sv : Value) (pO pA pI pD X : Nat) (ov : Value) (ln j : Nat) (u : Nat -> Value) : Array Value := #[sv, .pointer (some ⟨pO, 0, none⟩), .pointer (some ⟨pA, 0, none⟩), .pointer (some ⟨pI, 0, none⟩), .pointer (some ⟨pD, 0, none⟩), u 5, u 6, .pointer (some ⟨X, 0, none⟩), ov, .int .i64 ln, .int .i64 j, u 11, u 12, u 13, u 14, u 15, u 16, u 17, u 18, u 19, u 20, u 21, u 22, u 23, u 24, u 25, u 26, u 27, u 28]
theorem reg68_walk {fdo : FuncId} {first cap : Array Value} (T : ThS L g i pO pA pI pD acap oa oc (.func (.func fdo) first cap)) {fn : Func} (hf : Try.prog.funcs[fdo]? = some fn) (hname : (fn.name == "runtime.NumGoroutine") = false) (hb : fn.body.isNone = false) (hdo : DoOK L fdo first cap)
  (e0 : EC L g S i) (hlen : e0.ans.length < 1099511627776) (hg0 : e0.τ.goal = Ch L (i : Nat) (L.enter e0.s (i : Nat) o) rest' e0.ans) (hX : e0.w.heap[X]? = some (.cells #[.int .i64 o.k, .int .i64 o.a, .int .i64 o.b, .int .i64 o.c] 49)) (ov : Value) (ln j : Nat) (u0 : Nat -> Value) (k : List Item)
  (hk : ∀ (u : Nat -> Value) (e : EC L g S i) a, e.ans = e0.ans ++ [a] -> e.τ.goal = Bc L (i : Nat) e.s rest' e.ans -> Walk Try.prog false (DR e.τ.V) (StopT L g S i (Cont L g S i e.N) e.τ) (G ((base 141).at ⟨Cw (.iface 259 (.pointer (some ⟨S.p i, 0, none⟩))) pO pA pI pD X ov ln j u, []⟩ (.inRegion reg141_3 [] :: k)) (e.τ.f :: e.τ.fs)) e.w) :
  Walk Try.prog false (DR e0.τ.V) (StopT L g S i (Cont L g S i e0.N) e0.τ) (G ((base 141).at ⟨Cw (.iface 259 (.pointer (some ⟨S.p i, 0, none⟩))) pO pA pI pD X ov ln j u0, []⟩ (.code (.region 3 reg141_3 true) :: k)) (e0.τ.f :: e0.τ.fs)) e0.w := by
 have hiA := Option.some_get (show (Try.prog.info? 46).isSome = true by kernel_rfl)
 obtain ⟨fsO, huO⟩ := Co 49 (by kernel_rfl)
 have hi := T.hi
 have hn64 := T.n64
 generalize hsv : (.iface 259 (.pointer (some ⟨S.p i, 0, none⟩)) : Value) = sv at *
 generalize hdv : (.func (.func fdo) first cap : Value) = dv at *
 generalize hans : e0.ans = ans at *
 generalize hhd : e0.hd = hd
 refine Kx (E := EC L g S i × World) (V := fun x => x.1.τ.V) (Stop := fun x => StopT L g S i (Cont L g S i x.1.N) x.1.τ) (cs := fun x => x.1.τ.f :: x.1.τ.fs) (w := fun x => x.2)
  (Inv := fun f a x => ∃ u, a = ⟨Cw sv pO pA pI pD X ov ln j u, []⟩ /\ Facts [14, 15, 16, 17, 18, 19, 20, 21, 22, 23, 1010, 1011, 1012, 27, 1014] [.slice (some ⟨g.A, 0, none⟩) g.n acap, .int .i64 (i : Nat), .slice (some ⟨g.A, 0, none⟩) g.n acap, .int .i64 (i : Nat), .pointer (some ⟨g.A, i, none⟩), hd, dv, sv, .int .i64 (i : Nat), Ko o, undef, undef, undef, .pointer (some ⟨g.A, i, none⟩), undef] f u /\ x.1.ans = ans /\ x.1.hd = hd /\ (f 14 = false -> ClO g i pA pI pD acap dv hd x.2) /\ Ph L g S i o rest' X f u x.1 x.2) (e0, e0.w) (by kernel_rfl) (by kernel_rfl)
  ⟨u0, rfl, Facts.none _ _ _, hans, hhd, fun _ => T.cl e0 hhd, .inl ⟨rfl, hans ▸ hg0, hX, e0.w.drawn, rfl⟩⟩ ?_ ?_
 ·rintro f oi op a ⟨e, w'⟩ ⟨u, rfl, F, he1, he2, hc, hw⟩ hC hfi ho hdeps rest hr
  dsimp only at he1 he2 hc hw hr ⊢
  have hil : oi < 15 := (Array.getElem?_eq_some_iff.1 ho).1
  match oi, hil with
  | 0, _ =>
   have h14 : f 14 = false := by cases h : f 14 with | false => rfl | true => exact absurd (hC.deps (l := [0]) h (by kernel_rfl) 0 (by simp)) (by simp [hfi])
   have h14' : upd f 0 true 14 = false := (upd_ne _ _ (by decide)).trans h14
   replace hc := hc h14
   clear hdeps ho hC hfi
   obtain ⟨hA, hI, hD, hH, hHz⟩ := hc
   simp only [Cw] at hr ⊢
   (refine Walk.oq ?_; try walk_nrm)
   refine hr _ (e, w') ⟨upd u 14 (.slice (some ⟨g.A, 0, none⟩) g.n acap), ?_, F.set (by decide) rfl rfl, he1, he2, fun _ => ⟨hA, hI, hD, hH, hHz⟩, hw.quiet (by decide) (by decide)⟩
   simp [Cw, upd]
  | 1, _ =>
   have h14 : f 14 = false := by cases h : f 14 with | false => rfl | true => exact absurd (hC.deps (l := [1]) h (by kernel_rfl) 1 (by simp)) (by simp [hfi])
   have h14' : upd f 1 true 14 = false := (upd_ne _ _ (by decide)).trans h14
   replace hc := hc h14
   clear hdeps ho hC hfi
   obtain ⟨hA, hI, hD, hH, hHz⟩ := hc
   simp only [Cw] at hr ⊢
   (refine Walk.oq ?_; try walk_nrm)
   refine hr _ (e, w') ⟨upd u 15 (.int .i64 (i : Nat)), ?_, F.set (by decide) rfl rfl, he1, he2, fun _ => ⟨hA, hI, hD, hH, hHz⟩, hw.quiet (by decide) (by decide)⟩
   simp [Cw, upd]
  | 2, _ =>
   have h14 : f 14 = false := by cases h : f 14 with | false => rfl | true => exact absurd (hC.deps (l := [2]) h (by kernel_rfl) 2 (by simp)) (by simp [hfi])
   have h14' : upd f 2 true 14 = false := (upd_ne _ _ (by decide)).trans h14
   replace hc := hc h14
   clear hdeps ho hC hfi
   obtain ⟨hA, hI, hD, hH, hHz⟩ := hc
   simp only [Cw] at hr ⊢
   (refine Walk.oq ?_; try walk_nrm)
   refine hr _ (e, w') ⟨upd u 16 (.slice (some ⟨g.A, 0, none⟩) g.n acap), ?_, F.set (by decide) rfl rfl, he1, he2, fun _ => ⟨hA, hI, hD, hH, hHz⟩, hw.quiet (by decide) (by decide)⟩
   simp [Cw, upd]
  | 3, _ =>
   have h14 : f 14 = false := by cases h : f 14 with | false => rfl | true => exact absurd (hC.deps (l := [3]) h (by kernel_rfl) 3 (by simp)) (by simp [hfi])
   have h14' : upd f 3 true 14 = false := (upd_ne _ _ (by decide)).trans h14
   replace hc := hc h14
   clear hdeps ho hC hfi
   obtain ⟨hA, hI, hD, hH, hHz⟩ := hc
   simp only [Cw] at hr ⊢
   (refine Walk.oq ?_; try walk_nrm)
   refine hr _ (e, w') ⟨upd u 17 (.int .i64 (i : Nat)), ?_, F.set (by decide) rfl rfl, he1, he2, fun _ => ⟨hA, hI, hD, hH, hHz⟩, hw.quiet (by decide) (by decide)⟩
   simp [Cw, upd]
  | 4, _ =>
   have hdd := Bi (l := [2, 3]) (by kernel_rfl) ho hdeps
   have e16 := F 2 16 _ (hdd 2 (by simp)) rfl rfl
   have e17 := F 3 17 _ (hdd 3 (by simp)) rfl rfl
   have h14 : f 14 = false := by cases h : f 14 with | false => rfl | true => exact absurd (hC.deps (l := [4]) h (by kernel_rfl) 4 (by simp)) (by simp [hfi])
   have h14' : upd f 4 true 14 = false := (upd_ne _ _ (by decide)).trans h14
   replace hc := hc h14
   clear hdeps ho hC hfi hdd
   obtain ⟨hA, hI, hD, hH, hHz⟩ := hc
   simp only [Cw] at hr ⊢
   (refine Walk.oq ?_; try walk_nrm)
   refine hr _ (e, w') ⟨upd u 18 (.pointer (some ⟨g.A, i, none⟩)), ?_, F.set (by decide) rfl rfl, he1, he2, fun _ => ⟨hA, hI, hD, hH, hHz⟩, hw.quiet (by decide) (by decide)⟩
   simp [Cw, upd, e16, e17]
  | 5, _ =>
   have hdd := Bi (l := [4]) (by kernel_rfl) ho hdeps
   have e18 := F 4 18 _ (hdd 4 (by simp)) rfl rfl
   have h14 : f 14 = false := by cases h : f 14 with | false => rfl | true => exact absurd (hC.deps (l := [5]) h (by kernel_rfl) 5 (by simp)) (by simp [hfi])
   have h14' : upd f 5 true 14 = false := (upd_ne _ _ (by decide)).trans h14
   replace hc := hc h14
   clear hdeps ho hC hfi hdd
   obtain ⟨hA, hI, hD, hH, hHz⟩ := hc
   simp only [Cw] at hr ⊢
   (refine Walk.oq ?_; try walk_nrm)
   refine hr _ (e, w') ⟨upd u 19 (hd), ?_, F.set (by decide) rfl rfl, he1, he2, fun _ => ⟨hA, hI, hD, hH, hHz⟩, hw.quiet (by decide) (by decide)⟩
   simp [Cw, upd, e18]
  | 6, _ =>
   have h14 : f 14 = false := by cases h : f 14 with | false => rfl | true => exact absurd (hC.deps (l := [6]) h (by kernel_rfl) 6 (by simp)) (by simp [hfi])
   have h14' : upd f 6 true 14 = false := (upd_ne _ _ (by decide)).trans h14
   replace hc := hc h14
   clear hdeps ho hC hfi
   obtain ⟨hA, hI, hD, hH, hHz⟩ := hc
   simp only [Cw] at hr ⊢
   (refine Walk.oq ?_; try walk_nrm)
   refine hr _ (e, w') ⟨upd u 20 (dv), ?_, F.set (by decide) rfl rfl, he1, he2, fun _ => ⟨hA, hI, hD, hH, hHz⟩, hw.quiet (by decide) (by decide)⟩
   simp [Cw, upd]
  | 7, _ =>
   have h14 : f 14 = false := by cases h : f 14 with | false => rfl | true => exact absurd (hC.deps (l := [7]) h (by kernel_rfl) 7 (by simp)) (by simp [hfi])
   have h14' : upd f 7 true 14 = false := (upd_ne _ _ (by decide)).trans h14
   replace hc := hc h14
   clear hdeps ho hC hfi
   obtain ⟨hA, hI, hD, hH, hHz⟩ := hc
   simp only [Cw] at hr ⊢
   (refine Walk.oq ?_; try walk_nrm)
   refine hr _ (e, w') ⟨upd u 21 (sv), ?_, F.set (by decide) rfl rfl, he1, he2, fun _ => ⟨hA, hI, hD, hH, hHz⟩, hw.quiet (by decide) (by decide)⟩
   simp [Cw, upd]
  | 8, _ =>
   have h14 : f 14 = false := by cases h : f 14 with | false => rfl | true => exact absurd (hC.deps (l := [8]) h (by kernel_rfl) 8 (by simp)) (by simp [hfi])
   have h14' : upd f 8 true 14 = false := (upd_ne _ _ (by decide)).trans h14
   replace hc := hc h14
   clear hdeps ho hC hfi
   obtain ⟨hA, hI, hD, hH, hHz⟩ := hc
   simp only [Cw] at hr ⊢
   (refine Walk.oq ?_; try walk_nrm)
   refine hr _ (e, w') ⟨upd u 22 (.int .i64 (i : Nat)), ?_, F.set (by decide) rfl rfl, he1, he2, fun _ => ⟨hA, hI, hD, hH, hHz⟩, hw.quiet (by decide) (by decide)⟩
   simp [Cw, upd]
  | 9, _ =>
   have h14 : f 14 = false := by cases h : f 14 with | false => rfl | true => exact absurd (hC.deps (l := [9]) h (by kernel_rfl) 9 (by simp)) (by simp [hfi])
   have h14' : upd f 9 true 14 = false := (upd_ne _ _ (by decide)).trans h14
   replace hc := hc h14
   have hX := hw.early (by cases h : f 10 with | false => rfl | true => exact absurd (hC.deps (l := [9]) h (by kernel_rfl) 9 (by simp)) (by simp [hfi]))
   clear hdeps ho hC hfi
   simp only [Cw] at hr ⊢
   refine Walk.loadS 49 (.tmp 7) Aj (by rfl) (by decide) rfl X 0 [.int .i64 o.k, .int .i64 o.a, .int .i64 o.b, .int .i64 o.c] (.struct fsO) rfl (fun j v hj => ?_) huO rfl (by kernel_rfl) ?_
   ·rw [Nat.zero_add, Ac hX]
    simpa using hj
   walk_nrm
   refine hr _ (e, w') ⟨upd u 23 (Ko o), ?_, F.set (by decide) rfl rfl, he1, he2, fun _ => hc, hw.quiet (by decide) (by decide)⟩
   simp [Cw, upd, Ko]
  | 10, _ =>
   have hdd := Bi (l := [6, 7, 8, 9]) (by kernel_rfl) ho hdeps
   have e20 := F 6 20 _ (hdd 6 (by simp)) rfl rfl
   have e21 := F 7 21 _ (hdd 7 (by simp)) rfl rfl
   have e22 := F 8 22 _ (hdd 8 (by simp)) rfl rfl
   have e23 := F 9 23 _ (hdd 9 (by simp)) rfl rfl
   have h14 : f 14 = false := by cases h : f 14 with | false => rfl | true => exact absurd (hC.deps (l := [10]) h (by kernel_rfl) 10 (by simp)) (by simp [hfi])
   have h14' : upd f 10 true 14 = false := (upd_ne _ _ (by decide)).trans h14
   replace hc := hc h14
   obtain ⟨hg, dd, rfl⟩ := hw.callAt hfi
   refine Walk.back ?_ dd
   have h11 : f 11 = false := by cases h : f 11 with | false => rfl | true => exact absurd (hC.deps (l := [10]) h (by kernel_rfl) 10 (by simp)) (by simp [hfi])
   have h12 : f 12 = false := by cases h : f 12 with | false => rfl | true => exact absurd (hC.deps (l := [11]) h (by kernel_rfl) 11 (by simp)) (by simp [h11])
   clear hdeps ho hC
   obtain ⟨c, eo, q1, q2, q3, q4, q5⟩ : ∃ (c : OC) (eo : EO L g S i c), eo.toEC = e /\ eo.tgt = L.enter e.s (i : Nat) o /\ c.left = rest' /\ c.ans = e.ans /\ c.hd = e.hd := ⟨⟨rest', e.ans, e.hd, Cq e.τ e.y e.w, e.w⟩, { e with tgt := L.enter e.s (i : Nat) o, eqA := rfl, eqH := rfl, goal := hg, Kown := fun _ h => h, kept := fun _ _ => rfl, rowK := e.row }, rfl, rfl, rfl, rfl, rfl⟩
   subst q1
   have hcall : SCall (Ku L g S i c) 142 #[dv, sv, .int .i64 (i : Nat), Ko o] eo (fun v e' => ∃ a sl, e'.tgt = (e'.s, .inl a) /\ v = Cu a sl /\ LsAt eo.w.heap.size (fun b => Cq e'.τ e'.y e'.w b /\ ¬ c.K b) sl a.l e'.w) := by
    rw [<- hsv, <- hdv]
    exact doOne_s (crewL L g S i c) eo o (i : Nat) fdo fn first cap hf hname hb hdo q2
   refine (?_ : LW (Ku L g S i c) eo (G _ ([] ++ (Ku L g S i c).bot eo)))
   refine Bt (f := 142) (Q := fun v e' => ∃ a sl, e'.tgt = (e'.s, .inl a) /\ v = Cu a sl /\ LsAt eo.w.heap.size (fun b => Cq e'.τ e'.y e'.w b /\ ¬ c.K b) sl a.l e'.w) ?_ Aj (by rfl) (by decide) rfl Try.func142 (by kernel_rfl) (by rfl) ⟨rfl, rfl, _, Try.func141⟩ (fun _ h => by cases h) ?_
   ·simp only [Cw]
    walk_nrm
    simp only [e20, e21, e22, e23]
    exact hcall
   rintro v e' ⟨a', sl, ht, rfl, hls⟩
   have hbs : g.w0.heap.size <= eo.w.heap.size := by
    obtain ⟨hd0, r⟩ := eo.rely
    have := r.size
    have := eo.size
    omega
   replace hls : LsAt g.w0.heap.size (Cq e'.τ e'.y e'.w) sl a'.l e'.w := (hls.imp fun b h => h.1).low hbs
   have hg' : e'.τ.goal = Bc L (i : Nat) e'.s rest' (e'.ans ++ [a']) := by rw [e'.goal, ht, q3]; rfl
   have hans : e'.ans = eo.ans := e'.eqA.trans q4
   have hhd : e'.hd = eo.hd := e'.eqH.trans q5
   simp only [Cw] at hr ⊢
   walk_nrm
   refine hr _ (e'.toEC, e'.w) ⟨upd (upd u 1010 undef) 24 (Cu a' sl), ?_, Hw (F.set (by decide) rfl rfl) (by decide), hans.trans he1, hhd.trans he2, fun _ => T.cl e'.toEC (hhd.trans he2), .inr ⟨upd_same _ _ _, a', sl, upd_same _ _ _, hls, hg', .inl ⟨by rw [upd_ne _ _ (by decide)]; exact h11, by rw [upd_ne _ _ (by decide)]; exact h12, h14', e'.w.drawn, rfl⟩⟩⟩
   simp [Cw, upd]
  | 11, _ =>
   have h14 : f 14 = false := by cases h : f 14 with | false => rfl | true => exact absurd (hC.deps (l := [11]) h (by kernel_rfl) 11 (by simp)) (by simp [hfi])
   have h14' : upd f 11 true 14 = false := (upd_ne _ _ (by decide)).trans h14
   replace hc := hc h14
   have h10 := (Bi (l := [10]) (by kernel_rfl) ho hdeps) 10 (by simp)
   obtain ⟨a', sl, h24, hls, hg, h12, dd, rfl⟩ := hw.newAt h10 hfi
   refine Walk.back ?_ dd
   clear hdeps ho hC
   replace hc : ClO g i pA pI pD acap dv hd e.w := ⟨hc.hA, hc.hI, hc.hD, hc.hH, hc.hHz⟩
   have hc1 := hc.new a' sl
   simp only [Cw, h24, Cu] at hr ⊢
   (refine Walk.oa ?_; try walk_nrm)
   refine hr _ (e, Ej e.w a' sl) ⟨upd (upd u 1011 undef) 25 (.slice (some ⟨e.w.heap.size, 0, none⟩) 1 1), ?_, Hw (F.set (by decide) rfl rfl) (by decide), he1, he2, fun _ => hc1, .inr ⟨by rw [upd_ne _ _ (by decide)]; exact h10, a', sl, by rw [upd_ne _ _ (by decide), upd_ne _ _ (by decide)]; exact h24, hls, hg, .inr (.inl ⟨upd_same _ _ _, by rw [upd_ne _ _ (by decide)]; exact h12, h14', upd_same _ _ _, (Ej e.w a' sl).drawn, rfl⟩)⟩⟩
   simp [Cw, upd, h24, Cu]
  | 12, _ =>
   have hdd := Bi (l := [5]) (by kernel_rfl) ho hdeps
   have e19 := F 5 19 _ (hdd 5 (by simp)) rfl rfl
   have h14 : f 14 = false := by cases h : f 14 with | false => rfl | true => exact absurd (hC.deps (l := [12]) h (by kernel_rfl) 12 (by simp)) (by simp [hfi])
   have h14' : upd f 12 true 14 = false := (upd_ne _ _ (by decide)).trans h14
   replace hc := hc h14
   have h11 := (Bi (l := [10, 11]) (by kernel_rfl) ho hdeps) 11 (by simp)
   have h10 := (Bi (l := [10, 11]) (by kernel_rfl) ho hdeps) 10 (by simp)
   obtain ⟨a', sl, h24, hls, hg, h25, dd, rfl⟩ := hw.appAt h10 h11 hfi
   obtain ⟨z, hz, hZ⟩ := e.row.z
   have hzl : z.length = ans.length := by rw [<- he1, <- hz, List.length_map]
   refine Walk.back ?_ dd
   clear hdeps ho hC
   replace hc : ClO g i pA pI pD acap dv hd (Ej e.w a' sl) := ⟨hc.hA, hc.hI, hc.hD, hc.hH, hc.hHz⟩
   have hrow : (Ej e.w a' sl).ownsRow g.w0.heap.size 46 3 hd ans.length (Cv z) := by
    have q2 := hZ.own
    rw [hzl, he2] at q2
    exact Ao q2 fun b hb' => Ad _ _ (q2.lt b hb').2
   have hnews : ∀ (j : Nat) (x : Value), ([.bool a'.ok, .int .i64 a'.n, sl] : List Value)[j]? = some x -> (Ej e.w a' sl).cell? ((⟨e.w.heap.size, 0, none⟩ : Addr).add j) = some x := fun j x hx => by
    rw [Bm, Nat.zero_add]
    refine (Ac (heap_alloc_new _ _) j).trans ?_
    simpa using hx
   have hbase : g.w0.heap.size <= (Ej e.w a' sl).heap.size := by
    obtain ⟨hd0, r⟩ := e.rely
    have := r.size
    have := e.size
    have : (Ej e.w a' sl).heap.size = e.w.heap.size + 1 := by simp [Ej]
    omega
   simp only [Cw] at hr ⊢
   simp only [h25, e19]
   refine Walk.append (.tmp 19) (.tmp 25) 44 Aj (by rfl) (by decide) rfl g.w0.heap.size 46 _ (.agg #[.bool false, .int .i64 0, .slice none 0 0]) 3 40 (by kernel_rfl) hiA.symm (by rfl) (by rfl) (by rfl) (by rfl) (by decide) hd ans.length (Cv z) rfl hrow ⟨e.w.heap.size, 0, none⟩ 1 1 [.bool a'.ok, .int .i64 a'.n, sl] rfl (by rfl) hnews (by rcases hls with ⟨_, _, rfl, _⟩; simp [Value.oneCell']) (by decide) (by simp [maxLen]; omega) (by omega) hbase (fun b hb' => e.apart (.inr (.inl (e.hdo b (by rw [he2]; exact hb'))))) (fun gb gcap w3 hown3 hgr hat hlt => ?_)
   walk_nrm
   have hA3 : AppO g e.w a' sl e.hd z gb gcap w3 := by
    rw [<- hzl] at hown3
    rw [he2]
    exact ⟨hown3, hgr, hat, hlt⟩
   refine hr _ (e, w3) ⟨upd (upd u 1012 undef) 26 (.slice (some ⟨gb, 0, none⟩) (ans.length + 1) gcap), ?_, Hw (F.set (by decide) rfl rfl) (by decide), he1, he2, fun _ => T.app e hA3 hc , .inr ⟨by rw [upd_ne _ _ (by decide)]; exact h10, a', sl, by rw [upd_ne _ _ (by decide), upd_ne _ _ (by decide)]; exact h24, hls, hg, .inr (.inr ⟨by rw [upd_ne _ _ (by decide)]; exact h11, upd_same _ _ _, z, gb, gcap, w3, hz, hZ, hA3, by rw [upd_same, he1], .inl ⟨h14', w3.drawn, rfl⟩⟩)⟩⟩
   simp [Cw, upd, h25, e19]
  | 13, _ =>
   have hdd := Bi (l := [0, 1, 2, 3, 4, 5, 6, 7, 8, 9, 10, 11, 12]) (by kernel_rfl) ho hdeps
   have e14 := F 0 14 _ (hdd 0 (by simp)) rfl rfl
   have e15 := F 1 15 _ (hdd 1 (by simp)) rfl rfl
   have h14 : f 14 = false := by cases h : f 14 with | false => rfl | true => exact absurd (hC.deps (l := [13]) h (by kernel_rfl) 13 (by simp)) (by simp [hfi])
   have h14' : upd f 13 true 14 = false := (upd_ne _ _ (by decide)).trans h14
   replace hc := hc h14
   clear hdeps ho hC hfi hdd
   obtain ⟨hA, hI, hD, hH, hHz⟩ := hc
   simp only [Cw] at hr ⊢
   (refine Walk.oq ?_; try walk_nrm)
   refine hr _ (e, w') ⟨upd u 27 (.pointer (some ⟨g.A, i, none⟩)), ?_, F.set (by decide) rfl rfl, he1, he2, fun _ => ⟨hA, hI, hD, hH, hHz⟩, hw.quiet (by decide) (by decide)⟩
   simp [Cw, upd, e14, e15]
  | 14, _ =>
   have hdd := Bi (l := [0, 1, 2, 3, 4, 5, 6, 7, 8, 9, 10, 11, 12, 13]) (by kernel_rfl) ho hdeps
   have e27 := F 13 27 _ (hdd 13 (by simp)) rfl rfl
   replace hc := hc hfi
   have h10 := hdd 10 (by simp)
   have h11 := hdd 11 (by simp)
   have h12 := hdd 12 (by simp)
   obtain ⟨a', sl, h24, hls, hg, z, gb, gcap, w3, hz, hZ, hA3, h26, dd, rfl⟩ := hw.stAt h10 h11 h12 hfi
   refine Walk.back ?_ dd
   obtain ⟨hA, hI, hD, hH, hHz⟩ := hc
   replace hH : w3.cell? ⟨g.A, i, none⟩ = some hd := hH
   replace hHz : w3.frozen? ⟨g.A, i, none⟩ = false := hHz
   clear hdeps ho hC hdd hA hI hD
   simp only [Cw] at hr ⊢
   have h26' : u 26 = .slice (some ⟨gb, 0, none⟩) (ans.length + 1) gcap := by rw [h26, he1]
   simp only [h26', e27]
   (have hfr := e.apA ⟨g.A, i, none⟩ rfl; refine Walk.os hfr hH ?_; clear hfr; try walk_nrm)
   refine hr _ (e, w3.setCell ⟨g.A, i, none⟩ (.slice (some ⟨gb, 0, none⟩) (ans.length + 1) gcap)) ⟨upd u 1014 undef, ?_, F.set (by decide) rfl rfl, he1, he2, fun h => (by rw [upd_same] at h; cases h), .inr ⟨by rw [upd_ne _ _ (by decide)]; exact h10, a', sl, by rw [upd_ne _ _ (by decide)]; exact h24, hls, hg, .inr (.inr ⟨by rw [upd_ne _ _ (by decide)]; exact h11, by rw [upd_ne _ _ (by decide)]; exact h12, z, gb, gcap, w3, hz, hZ, hA3, by rw [upd_ne _ _ (by decide)]; exact h26, .inr ⟨upd_same _ _ _, (w3.setCell ⟨g.A, i, none⟩ (.slice (some ⟨gb, 0, none⟩) (ans.length + 1) gcap)).drawn, by rw [upd_ne _ _ (by decide), h26']; rfl⟩⟩)⟩⟩
   simp [Cw, upd, h24, h26', e27]
 ·rintro f a ⟨e, w'⟩ ⟨u, rfl, F, he1, he2, hc, hw⟩ hall
  have hsz : reg141_3.size = 15 := size141_3
  obtain ⟨a', sl, hls, hg, z, gb, gcap, w3, hz, hZ, hA3, dd, hw'⟩ := hw.endAt (hall 10 (by omega)) (hall 12 (by omega)) (hall 14 (by omega))
  obtain ⟨e', h1, h2, h3, h4, h5⟩ := e.told hls hz hZ hA3
  have := hk u e' a' (h4.trans (by dsimp only at he1; rw [he1])) (by rw [h1, h3, h4]; exact hg)
  dsimp only at hw' ⊢
  subst hw'
  refine Walk.back ?_ dd
  rw [<- h1, <- h2, <- h5]
  exact this
end
end
section
noncomputable def hd68 (sv : Value) (pO pA pI pD : Nat) (ov : Value) (ln j : Nat) (u : Nat -> Value) : Frame :=
 (base 141).at { tmps := #[sv, .pointer (some ⟨pO, 0, none⟩), .pointer (some ⟨pA, 0, none⟩), .pointer (some ⟨pI, 0, none⟩), .pointer (some ⟨pD, 0, none⟩), u 5, u 6, u 7, ov, .int .i64 ln, .int .i64 j, u 11, u 12, u 13, u 14, u 15, u 16, u 17, u 18, u 19, u 20, u 21, u 22, u 23, u 24, u 25, u 26, u 27, u 28], defers := [] } [.code (.seq (.region 1 reg141_1 false) (.seq (.cond (.tmp 11 ) (.skip) (.exit 0)) (.seq (.block 1 (.seq (.region 2 reg141_2 false) (.region 3 reg141_3 true))) (.region 4 reg141_4 false)))), .inLoop (.seq (.region 1 reg141_1 false) (.seq (.cond (.tmp 11 ) (.skip) (.exit 0)) (.seq (.block 1 (.seq (.region 2 reg141_2 false) (.region 3 reg141_3 true))) (.region 4 reg141_4 false)))), .inBlock 0]
section
variable {L : La} {g : OG} {S : Stile} {i : Nat}
def EW (e : EC L g S i) (fr : Frame) : Prop := Walk Try.prog false (DR e.τ.V) (StopT L g S i (Cont L g S i e.N) e.τ) (G fr (e.τ.f :: e.τ.fs)) e.w
theorem EC.grow (e : EC L g S i) (w' : World) (hs : e.w.heap.size <= w'.heap.size) (hb : ∀ b, b < e.w.heap.size -> w'.heap[b]? = e.w.heap[b]?) : ∃ e' : EC L g S i, e'.τ = e.τ /\ e'.N = e.N /\ e'.s = e.s /\ e'.ans = e.ans /\ e'.hd = e.hd /\ e'.w = w' := by
 obtain ⟨hd0, r⟩ := e.rely
 obtain ⟨arr, arr', a1, a2, a3, a4, a5⟩ := e.an
 have hA : g.A < e.w.heap.size := by have := r.alo; have := r.size; have := e.size; omega
 exact ⟨{ τ := e.τ, N := e.N, w := w', y := e.y, s := e.s, ans := e.ans, hd := e.hd, le := e.le, size := Nat.le_trans e.size hs, frame := fun b h1 h2 h3 h4 => (hb b (Nat.lt_of_lt_of_le h1 e.size)).trans (e.frame b h1 h2 h3 h4), pub := e.pub, rely := e.rely, an := ⟨arr, arr', a1, (hb _ hA).trans a2, a3, a4, a5⟩, row := (e.row.same fun b h => hb b (e.lo h).2).imp fun b h => ⟨h.1.imp id fun h => ⟨h.1, by omega⟩, h.2⟩, inv := L.stable e.inv fun b h => hb b (L.lt e.inv h) }, rfl, rfl, rfl, rfl, rfl, rfl⟩
variable {pO pA pI pD acap : Nat} {oa : Option Addr} {oc : Nat} {fdo : FuncId} {first cap : Array Value}
theorem loop68_end (T : ThS L g i pO pA pI pD acap oa oc (.func (.func fdo) first cap)) (e : EC L g S i) (hg : e.τ.goal = Bc L (i : Nat) e.s [] e.ans) (ov : Value) (u : Nat -> Value) :
  EW e (hd68 (.iface 259 (.pointer (some ⟨S.p i, 0, none⟩))) pO pA pI pD ov (g.ops i).length (g.ops i).length u) := by
 unfold EW hd68
 refine Aa z141 ?_
 refine Ar rfl rfl Try.func141 rfl ?_
 refine .stop fun d => ⟨e.y, e.le, e.size, e.frame, ?_, e.pub, e.hd, e.an, ?_, .inl ⟨?_, rfl⟩⟩
 ·rw [hg]; exact L.stable e.inv fun _ _ => rfl
 ·rw [hg]; exact e.row.same fun _ _ => rfl
 ·rw [hg]; rfl
theorem loop68_go (T : ThS L g i pO pA pI pD acap oa oc (.func (.func fdo) first cap)) {fn : Func} (hf : Try.prog.funcs[fdo]? = some fn) (hname : (fn.name == "runtime.NumGoroutine") = false) (hb : fn.body.isNone = false) (hdo : DoOK L fdo first cap)
  (e : EC L g S i) (j : Nat) (o : OpV) (rest : List OpV) (ho : (g.ops i)[j]? = some o) (hlen : e.ans.length = j) (hg : e.τ.goal = Bc L (i : Nat) e.s (o :: rest) e.ans) (u : Nat -> Value)
  (hk : ∀ (e' : EC L g S i) (u' : Nat -> Value), e'.ans.length = j + 1 -> e'.τ.goal = Bc L (i : Nat) e'.s rest e'.ans -> EW e' (hd68 (.iface 259 (.pointer (some ⟨S.p i, 0, none⟩))) pO pA pI pD (.slice oa (g.ops i).length oc) (g.ops i).length (j + 1) u')) :
  EW e (hd68 (.iface 259 (.pointer (some ⟨S.p i, 0, none⟩))) pO pA pI pD (.slice oa (g.ops i).length oc) (g.ops i).length j u) := by
 obtain ⟨fsO, huO⟩ := Co 49 (by kernel_rfl)
 have hjl : j < (g.ops i).length := (List.getElem?_eq_some_iff.1 ho).1
 have hl64 := T.len
 obtain ⟨ob, off, rfl, n1, n2, c0, c1, c2, c3⟩ := T.ops j o ho
 replace c0 := e.cell c0 ⟨n1, n2⟩
 replace c1 := e.cell c1 ⟨n1, n2⟩
 replace c2 := e.cell c2 ⟨n1, n2⟩
 replace c3 := e.cell c3 ⟨n1, n2⟩
 have hw1 : IntKind.wrap .i64 ((j : Int) + 1) = (j : Int) + 1 := by rw [IntKind.wrap_i64]; omega
 generalize hln : (g.ops i).length = ln at *
 have hi0 : (0 : Int) <= j := by omega
 have hi1 : decide ((j : Int) < ln) = true := by simp; omega
 have hi2 : decide (ln <= j) = false := by simp; omega
 have hi3 : decide (j < ln) = true := by simp; omega
 unfold EW hd68
 refine Aa z141 ?_
 refine Walk.loadS 49 (.tmp 12) Aj (by rfl) (by decide) rfl ob (off + j * 4) [.int .i64 o.k, .int .i64 o.a, .int .i64 o.b, .int .i64 o.c] (.struct fsO) (by simp [Act.eval]) (fun q v hq => ?_) huO rfl (by kernel_rfl) ?_
 ·match q, hq with
  | 0, hq => cases hq; exact c0
  | 1, hq => cases hq; exact c1
  | 2, hq => cases hq; exact c2
  | 3, hq => cases hq; exact c3
 walk_nrm
 (refine Walk.oa ?_; try walk_nrm)
 have hX := heap_alloc_new e.w (.cells #[.int .i64 0, .int .i64 0, .int .i64 0, .int .i64 0] 49)
 have hap := e.apart (b := e.w.heap.size) (.inr (.inr (.inl (Nat.le_refl _))))
 refine Az 49 (.tmp 7) (.tmp 13) Aj (by rfl) (by decide) rfl e.w.heap.size #[.int .i64 o.k, .int .i64 o.a, .int .i64 o.b, .int .i64 o.c] _ 49 rfl rfl hX (by kernel_rfl) (by rfl) (by simp [Value.oneCell']) hap ?_
 have hX2 := Bk (cells := #[.int .i64 o.k, .int .i64 o.a, .int .i64 o.b, .int .i64 o.c]) hX
 walk_nrm
 refine Aa z141 ?_
 obtain ⟨e1, q1, q2, q3, q4, q5, q6⟩ := e.grow ((e.w.alloc (.cells #[.int .i64 0, .int .i64 0, .int .i64 0, .int .i64 0] 49)).setRow e.w.heap.size #[.int .i64 o.k, .int .i64 o.a, .int .i64 o.b, .int .i64 o.c]) (by rw [Bg]; simp) (fun b hb' => (Av _ _ (by omega)).trans (Ad _ _ hb'))
 have key := reg68_walk (rest' := rest) (X := e.w.heap.size) T hf hname hb hdo e1 (by rw [q4]; omega) (by rw [q1, q3, q4, hg]; rfl) (by rw [q6]; exact hX2) (.slice (some ⟨ob, off, none⟩) ln oc) ln j
 rw [q1, q2, q6] at key
 simp only [Cw] at key
 refine key (fun k => ([u 0, u 1, u 2, u 3, u 4, u 5, u 6, u 7, u 8, u 9, u 10, .bool true, .pointer (some ⟨ob, off + j * 4, none⟩), Ko o, u 14, u 15, u 16, u 17, u 18, u 19, u 20, u 21, u 22, u 23, u 24, u 25, u 26, u 27, u 28] : List Value).getD k undef) _ ?_
 ·intro u' e' a ha hg'
  have := hk e' (fun k => ([u' 0, u' 1, u' 2, u' 3, u' 4, u' 5, u' 6, .pointer (some ⟨e.w.heap.size, 0, none⟩), u' 8, u' 9, u' 10, u' 11, u' 12, u' 13, u' 14, u' 15, u' 16, u' 17, u' 18, u' 19, u' 20, u' 21, u' 22, u' 23, u' 24, u' 25, u' 26, u' 27, .int .i64 ((j : Int) + 1)] : List Value).getD k undef) (by rw [ha, q4]; simp; omega) hg'
  unfold EW hd68 at this
  have hc : ((j + 1 : Nat) : Int) = (j : Int) + 1 := by simp
  simp only [hc] at this
  refine Aa z141 ?_
  refine Walk.ctl rfl (fun w => stepG_inLoop) ?_
  exact this
theorem loop68 (T : ThS L g i pO pA pI pD acap oa oc (.func (.func fdo) first cap)) {fn : Func} (hf : Try.prog.funcs[fdo]? = some fn) (hname : (fn.name == "runtime.NumGoroutine") = false) (hb : fn.body.isNone = false) (hdo : DoOK L fdo first cap) :
  ∀ (left : List OpV) (e : EC L g S i) (u : Nat -> Value), (g.ops i).drop e.ans.length = left -> e.ans.length <= (g.ops i).length -> e.τ.goal = Bc L (i : Nat) e.s left e.ans -> EW e (hd68 (.iface 259 (.pointer (some ⟨S.p i, 0, none⟩))) pO pA pI pD (.slice oa (g.ops i).length oc) (g.ops i).length e.ans.length u) := by
 intro left
 induction left with
 | nil =>
  intro e u hd hl hg
  have : e.ans.length = (g.ops i).length := by have := List.drop_eq_nil_iff.1 hd; omega
  rw [this]
  exact loop68_end T e hg _ u
 | cons o rest ih =>
  intro e u hd hl hg
  have hj : e.ans.length < (g.ops i).length := by
   refine Nat.lt_of_not_le fun h => ?_
   rw [List.drop_eq_nil_iff.2 h] at hd; cases hd
  rw [List.drop_eq_getElem_cons hj] at hd
  obtain ⟨h1, h2⟩ := List.cons.inj hd
  refine loop68_go T hf hname hb hdo e _ o rest (by rw [List.getElem?_eq_getElem hj, h1]) rfl hg u fun e' u' h3 h4 => ?_
  rw [<- h3]
  exact ih e' u' (by rw [h3]; exact h2) (by omega) h4
theorem enter68 (T : ThS L g i pO pA pI pD acap oa oc (.func (.func fdo) first cap)) {fn : Func} (hf : Try.prog.funcs[fdo]? = some fn) (hname : (fn.name == "runtime.NumGoroutine") = false) (hb : fn.body.isNone = false) (hdo : DoOK L fdo first cap)
  (e : EC L g S i) (ha : e.ans = []) (hg : e.τ.goal = Bc L (i : Nat) e.s (g.ops i) []) :
  EW e (Frame.enter Try.prog 141 #[.iface 259 (.pointer (some ⟨S.p i, 0, none⟩)), .pointer (some ⟨pO, 0, none⟩), .pointer (some ⟨pA, 0, none⟩), .pointer (some ⟨pI, 0, none⟩), .pointer (some ⟨pD, 0, none⟩)] .normal) := by
 have h := loop68 T hf hname hb hdo (g.ops i) e (fun _ => undef) (by rw [ha]; rfl) (by rw [ha]; simp) (by rw [ha]; exact hg)
 have cO := e.cell T.cO T.nO
 rw [ha] at h
 unfold EW hd68 at h
 unfold EW
 simp only [List.length_nil] at h
 rw [enter_at _ Try.func141 code141_is]
 simp only [Try.ntmps141, ez, Nat.reduceAdd, Nat.reduceSub]
 refine Aa z141 ?_
 refine Walk.ctl rfl (fun w => stepG_loop) ?_
 exact h
end
end
section
structure DoFn (L : La) (fdo : FuncId) (first cap : Array Value) : Prop where
 fn : ∃ fn, Try.prog.funcs[fdo]? = some fn /\ (fn.name == "runtime.NumGoroutine") = false /\ fn.body.isNone = false
 ok : DoOK L fdo first cap
def OThr (L : La) (g : OG) (S : Stile) (fdo : FuncId) (first cap : Array Value) : Prop := ∀ i, i < g.n -> ∃ pO pA pI pD acap oa oc, ThS L g i pO pA pI pD acap oa oc (.func (.func fdo) first cap) /\
 S.F i = .func (.func 141) #[] #[.pointer (some ⟨pO, 0, none⟩), .pointer (some ⟨pA, 0, none⟩), .pointer (some ⟨pI, 0, none⟩), .pointer (some ⟨pD, 0, none⟩)]
def inv2 (L : La) (g : OG) (S : Stile) (yb : L.Gh) (fdo : FuncId) (first cap : Array Value) (k : Nat) (o : Nat -> Option Role) (x : OX L) (cs : Nat -> List Frame) (w : World) : Prop := OThr L g S fdo first cap /\ Mj L g S yb k o x cs w
section
variable {L : La} {g : OG} {S : Stile} {fdo : FuncId} {first cap : Array Value} {k : Nat} {o o' : Nat -> Option Role} {x : OX L} {cs : Nat -> List Frame} {w w' : World} {yb : L.Gh}
theorem fin2 (hT : OThr L g S fdo first cap) {k' i : Nat} {x' : OX L} {f : Frame} {fs : List Frame} {g' : Goroutine} (h : Fin (Mj L g S yb) OX.out S k' o x' cs i f fs w g' w') : Fin (inv2 L g S yb fdo first cap) OX.out S k' o x' cs i f fs w g' w' := by
 obtain ⟨h1, h2, l, h3, h4⟩ := h
 exact ⟨h1, h2, l, ⟨hT, h3⟩, h4⟩
theorem startO (hD : DoFn L fdo first cap) {V : Nat -> Option Wait} (f : Frame) (fs : List Frame) (h : inv2 L g S yb fdo first cap k o x cs w) (hk : k < S.n) (_hc : x.cnt < 1048576) (hA : ∀ b, o b = none -> Bd V b) (hlt : ∀ b r, o b = some r -> b < w.heap.size) :
  ∃ fi fn first' cap', S.F k = .func (.func fi) first' cap' /\ Try.prog.funcs[fi]? = some fn /\ (fn.name == "runtime.NumGoroutine") = false /\ fn.body.isNone = false /\
   Walk Try.prog false (DR V) (Fin (inv2 L g S yb fdo first cap) OX.out S (k + 1) o (Gl g.ops x k) cs k f fs w) (G (Frame.enter Try.prog fi (first' ++ #[.iface 259 (.pointer (some ⟨S.p k, 0, none⟩))] ++ cap') .normal) (f :: fs)) w := by
 obtain ⟨hT, pr, hd, y, hy, P⟩ := h
 have hi : k < g.n := P.st.n ▸ hk
 obtain ⟨pO, pA, pI, pD, acap, oa, oc, T, hF⟩ := hT k hi
 obtain ⟨fn, q1, q2, q3⟩ := hD.fn
 have hth := P.fresh k (Nat.le_refl _) hi
 have hrow := P.row k hi
 rw [hth] at hrow
 refine ⟨141, Try.f141, _, _, hF, Try.func141, by decide, by rfl, ?_⟩
 have hAn : AnT g k w w (hd k) := by
  obtain ⟨arr, ha, hz, hr⟩ := P.an
  exact ⟨arr, arr, ha, ha, rfl, hr k hi, fun _ _ => rfl⟩
 have key := enter68 (S := S) T q1 q2 q3 hD.ok { τ := ⟨V, f, fs, w, y, fun b => pr b = some k, Bc L (k : Nat) x.s (g.ops k) []⟩, N := 1048577 - x.cnt, w := w, y := y, s := x.s, ans := [], hd := hd k, le := L.refl _, size := Nat.le_refl _, frame := fun _ _ _ _ _ => rfl, pub := fun b h => .inl h, rely := ⟨hd k, P.rely hi hA hlt⟩, an := hAn, row := hrow.imp fun b hb => ⟨.inl hb, (P.prl b k hb).2.2.2⟩, inv := P.I } rfl rfl
 unfold EW at key
 refine Walk.mono ?_ fun g' w' hS => fin2 hT (Kt (V := V) (cnt' := x.cnt) hy P hi (Nat.lt_succ_self _) (fun j h1 h2 => by omega) (Nat.le_succ _) hi (Nat.le_refl _) hlt hS)
 exact key
theorem inv2_keep (h : inv2 L g S yb fdo first cap k o x cs w) (K : Keeps o o' w w') : inv2 L g S yb fdo first cap k o' x cs w' := ⟨h.1, invO_keep h.2 K⟩
noncomputable def crewO (L : La) (g : OG) (yb : L.Gh) {fdo : FuncId} {first cap : Array Value} (hD : DoFn L fdo first cap) (S : Stile) : Crew S (OX L) where
 inv := inv2 L g S yb fdo first cap
 born := Gl g.ops
 next := Ct
 out := OX.out
 cnt := OX.cnt
 cntBorn := fun _ _ => rfl
 cntNext := fun x i => by unfold Ct; cases (x.th i).d <;> rfl
 keep := inv2_keep
 bornOut := fun x i j h => upd_ne _ _ h
 nextOut := fun x i j h => by
  unfold Ct
  cases (x.th i).d with
  | none => rfl
  | some d => exact upd_ne _ _ h
 shape := fun {k o x cs w i} h hik hout => invO_shape h.2 hik hout
 thr := fun {k o x cs w i} h _ hi => invO_thr h.2 hi
 sch := fun {k o x cs w j z} h hz => invO_sch h.2 hz
 start := fun f fs h hk hc hA hlt => .inl (startO hD f fs h hk hc hA hlt)
 go := fun f fs h hik hout hcs hc hA hlt => (goO f fs h.2 hik hout hcs hc hA hlt).mono fun _ _ hF => fin2 h.1 hF
end
end
section
variable {main : Bool} {V : Nat -> Option Wait}
section
variable {P : Program} {t e : TypeId} {ti : TypeInfo}
theorem run_sl_of (hu : P.underlying t = some (.slice e)) (hi : P.info? e = some ti) (tb m cap x : Nat) (hx : x <= cap) (w : World) (es : Array Event) : (Instr.sliceAt t (.slice (some ⟨tb, 0, none⟩) m cap) none (some (.int .i64 x)) none).run P w = .ok (.slice (some ⟨tb, 0, none⟩) x cap) w /\
  (Instr.sliceAt t (.slice (some ⟨tb, 0, none⟩) m cap) none (some (.int .i64 x)) none).events P w es = es := by
 have h1 : (x : Int) <= cap := by omega
 constructor <;> simp [Instr.sliceAt, Instr.slice, run_underlying hu, Instr.sliceBounds, Instr.sliceBound, asIntOf, sizeOf, typeInfo, hi, h1, hx, Addr.add]
end
theorem hu53 : Try.prog.underlying 183 = some (.slice 194) := by kernel_rfl
theorem Mo (tb m tcap : Nat) (w : World) (hm : m <= tcap) : As Try.prog main V 143 #[.slice (some ⟨tb, 0, none⟩) m tcap] w (.slice (some ⟨tb, 0, none⟩) (min m 64) tcap) w := by
 refine Ap Try.func143 rfl fun fr cs => ?_
 simp only [Try.ntmps143, ez, Nat.reduceAdd, Nat.reduceSub]
 have hmn := @Bx Try.prog
 refine Ae ?_
 have hmin : min (m : Int) 64 = ((min m 64 : Nat) : Int) := by omega
 rw [hmin]
 have hxl : min m 64 <= tcap := by omega
 generalize min m 64 = x at hxl ⊢
 have hi := Option.some_get (show (Try.prog.info? 194).isSome = true by kernel_rfl)
 have hs := fun w => (run_sl_of hu53 hi.symm tb m tcap x hxl w #[]).1
 have hse := fun w es => (run_sl_of hu53 hi.symm tb m tcap x hxl w es).2
 clear hi
 refine Ae ?_
 exact An rfl rfl Try.func143 rfl fun d => ⟨by simp, d, rfl⟩
end
section
noncomputable def reg111_0 := rk Try.f111.body 0
noncomputable def reg111_1 := rk Try.f111.body 1
noncomputable def reg111_2 := rk Try.f111.body 2
noncomputable def reg111_3 := rk Try.f111.body 3
noncomputable def reg111_4 := rk Try.f111.body 4
noncomputable def reg111_5 := rk Try.f111.body 5
noncomputable def reg111_6 := rk Try.f111.body 6
noncomputable def reg111_7 := rk Try.f111.body 7
noncomputable def reg111_8 := rk Try.f111.body 8
noncomputable def reg111_9 := rk Try.f111.body 9
noncomputable def reg111_10 := rk Try.f111.body 10
theorem size111_10 : reg111_10.size = 4 := by kernel_rfl
theorem z111 : reg111_0.size = 3 /\ reg111_1.size = 3 /\ reg111_2.size = 5 /\ reg111_3.size = 4 /\ reg111_4.size = 3 /\ reg111_5.size = 1 /\ reg111_6.size = 7 /\ reg111_7.size = 6 /\ reg111_8.size = 5 /\ reg111_9.size = 2 /\ reg111_10.size = 4 := by and_intros <;> kernel_rfl
theorem code111_is : Try.f111.body = some (.seq (.region 0 reg111_0 false) (.seq (.region 1 reg111_1 false) (.seq (.region 2 reg111_2 false) (.seq (.region 3 reg111_3 false) (.seq (.seq (.region 4 reg111_4 false) (.block 0 (.loop (.seq (.region 5 reg111_5 false) (.seq (.cond (.tmp 21 ) (.skip) (.exit 0)) (.seq (.block 1 (.seq (.region 6 reg111_6 false) (.seq (.region 7 reg111_7 false) (.region 8 reg111_8 false)))) (.region 9 reg111_9 false))))))) (.seq (.region 10 reg111_10 true) (.ret))))))) := by kernel_rfl
def Ln (N i : Nat) : Value := .func (.func 141) #[] #[.pointer (some ⟨N + 5 + 2 * i, 0, none⟩), .pointer (some ⟨N + 2, 0, none⟩), .pointer (some ⟨N + 4 + 2 * i, 0, none⟩), .pointer (some ⟨N, 0, none⟩)]
structure MkO (N n : Nat) (dv : Value) (oa : Nat -> Option Addr) (ln oc : Nat -> Nat) (w0 w : World) (i : Nat) : Prop where
 size : w.heap.size = N + 4 + 2 * i
 old : ∀ b, b < N -> w.heap[b]? = w0.heap[b]?
 cD : w.heap[N]? = some (.cells #[dv] 126)
 cN : w.heap[N + 1]? = some (.cells (madeCells #[.slice none 0 0] n) 44)
 cA : w.heap[N + 2]? = some (.cells #[.slice (some ⟨N + 1, 0, none⟩) n n] 29)
 cF : ∃ arr : Array Value, w.heap[N + 3]? = some (.cells arr 194) /\ arr.size = n /\ ∀ j, j < i -> arr[j]? = some (Ln N j)
 cI : ∀ j, j < i -> w.heap[N + 4 + 2 * j]? = some (.cells #[.int .i64 (j : Nat)] 3)
 cO : ∀ j, j < i -> w.heap[N + 5 + 2 * j]? = some (.cells #[.slice (oa j) (min (ln j) 65536) (oc j)] 34)
theorem MkO.at {N n : Nat} {dv : Value} {oa : Nat -> Option Addr} {ln oc : Nat -> Nat} {w0 w : World} {i : Nat} (h : MkO N n dv oa ln oc w0 w i) (d : Nat) : MkO N n dv oa ln oc w0 (w.at d) i := ⟨h.size, h.old, h.cD, h.cN, h.cA, h.cF, h.cI, h.cO⟩
section
variable {P : Program} {t e : TypeId} {ti : TypeInfo}
theorem Hy (hu : P.underlying t = some (.slice e)) (hi : P.info? e = some ti) (a : Option Addr) (m cap x : Nat) (hx : x <= cap) (ha : a = none /\ cap = 0 ∨ ∃ p, a = some p) (w : World) (es : Array Event) : (Instr.sliceAt t (.slice a m cap) none (some (.int .i64 x)) none).run P w = .ok (.slice a x cap) w /\
  (Instr.sliceAt t (.slice a m cap) none (some (.int .i64 x)) none).events P w es = es := by
 have h1 : (x : Int) <= cap := by omega
 rcases ha with ⟨rfl, rfl⟩ | ⟨p, rfl⟩
 ·have : x = 0 := by omega
  subst this
  constructor <;> simp [Instr.sliceAt, Instr.slice, run_underlying hu, Instr.sliceBounds, Instr.sliceBound, asIntOf, sizeOf, typeInfo, hi]
 ·constructor <;> simp [Instr.sliceAt, Instr.slice, run_underlying hu, Instr.sliceBounds, Instr.sliceBound, asIntOf, sizeOf, typeInfo, hi, h1, hx, Addr.add]
end
theorem huOps : Try.prog.underlying 34 = some (.slice 49) := by kernel_rfl
noncomputable def hd46 (dv : Value) (ta : Option Addr) (tc N n j : Nat) (u : Nat -> Value) : Frame :=
 (base 111).at { tmps := #[.slice ta n tc, dv, u 2, .pointer (some ⟨N, 0, none⟩), u 4, u 5, .pointer (some ⟨N + 2, 0, none⟩), .slice (some ⟨N + 3, 0, none⟩) n n, u 8, u 9, u 10, u 11, u 12, u 13, u 14, u 15, u 16, u 17, .slice ta n tc, .int .i64 n, .int .i64 j, u 21, u 22, u 23, u 24, u 25, u 26, u 27, u 28, u 29, u 30, u 31, u 32, u 33, u 34, u 35, u 36], defers := [] } [.code (.seq (.region 5 reg111_5 false) (.seq (.cond (.tmp 21 ) (.skip) (.exit 0)) (.seq (.block 1 (.seq (.region 6 reg111_6 false) (.seq (.region 7 reg111_7 false) (.region 8 reg111_8 false)))) (.region 9 reg111_9 false)))), .inLoop (.seq (.region 5 reg111_5 false) (.seq (.cond (.tmp 21 ) (.skip) (.exit 0)) (.seq (.block 1 (.seq (.region 6 reg111_6 false) (.seq (.region 7 reg111_7 false) (.region 8 reg111_8 false)))) (.region 9 reg111_9 false)))), .inBlock 0, .code (.seq (.region 10 reg111_10 true) (.ret))]
section
variable {main : Bool} {V : Nat -> Option Wait}
theorem madeCells_get (v : Value) (n i : Nat) (hi : i < n) : (madeCells #[v] n)[i]? = some v := by
 have : (madeCells #[v] n)[i]? = (madeCells #[v] n).toList[i]? := by simp
 rw [this, toList_madeCells_one, List.getElem?_replicate, if_pos hi]
theorem Ff (v : Value) (n : Nat) : (madeCells #[v] n).size = n := by
 rw [<- Array.length_toList, toList_madeCells_one, List.length_replicate]
theorem opThreads_in (fdo : FuncId) (first cap : Array Value) (tv : Value) (ta : Option Addr) (tc n : Nat) (hn : n <= 64) (cs : List Frame) (w : World) (hA : ∀ b, w.heap.size <= b -> Bd V b)
  (hp : ∀ w' : World, (∀ b, b < w.heap.size -> w'.heap[b]? = w.heap[b]?) -> As Try.prog main V 140 #[tv] w' (.slice ta n tc) w') (oa : Nat -> Option Addr) (ln oc : Nat -> Nat) :
  Walk Try.prog main (DR V) (fun g w' => (∃ u, g = G (hd46 (.func (.func fdo) first cap) ta tc w.heap.size n 0 u) cs) /\ MkO w.heap.size n (.func (.func fdo) first cap) oa ln oc w w' 0) (G (Frame.enter Try.prog 111 #[tv, .func (.func fdo) first cap] .normal) cs) w := by
 have hi1 := Option.some_get (show (Try.prog.info? 44).isSome = true by kernel_rfl)
 have hi2 := Option.some_get (show (Try.prog.info? 194).isSome = true by kernel_rfl)
 rw [enter_at _ Try.func111 code111_is]
 simp only [Try.ntmps111, ez, Nat.reduceAdd, Nat.reduceSub]
 refine Aa z111 ?_
 (refine Walk.oa ?_; try walk_nrm)
 have s1 : (w.alloc (.cells #[.func (.func fdo) first cap] 126)).heap.size = w.heap.size + 1 := by simp
 have o1 : ∀ b, b < w.heap.size -> (w.alloc (.cells #[.func (.func fdo) first cap] 126)).heap[b]? = w.heap[b]? := fun b hb => Ad _ _ hb
 have d1 := heap_alloc_new w (.cells #[.func (.func fdo) first cap] 126)
 generalize hN : w.heap.size = N at *
 generalize w.alloc (.cells #[.func (.func fdo) first cap] 126) = w1 at *
 refine Aa z111 ?_
 refine Walk.callV (x := .slice ta n tc) (W := w1) ?_ Aj (by rfl) (by decide) rfl Try.func140 (by kernel_rfl) (by rfl) ?_
 ·walk_nrm
  exact hp w1 o1
 walk_nrm
 refine Aa z111 ?_
 refine Ek 29 (.tmp 13) (.tmp 13) Aj (by rfl) (by decide) rfl 44 _ (.slice none 0 0) 1 24 (by kernel_rfl) hi1.symm (by rfl) (by rfl) (by rfl) n (by rfl) (by rfl) (by omega) (by omega) ?_
 walk_nrm
 simp only [Value.cells, Nat.mul_one]
 have s2 : (w1.alloc (.cells (madeCells #[.slice none 0 0] n) 44)).heap.size = N + 2 := by simp [s1]
 have o2 : ∀ b, b < N + 1 -> (w1.alloc (.cells (madeCells #[.slice none 0 0] n) 44)).heap[b]? = w1.heap[b]? := fun b hb => Ad _ _ (by omega)
 have d2 := heap_alloc_new w1 (.cells (madeCells #[.slice none 0 0] n) 44)
 rw [s1] at d2
 try simp only [s1]
 generalize w1.alloc (.cells (madeCells #[.slice none 0 0] n) 44) = w2 at *
 (refine Walk.oa ?_; try walk_nrm)
 have s3 : (w2.alloc (.cells #[.slice none 0 0] 29)).heap.size = N + 3 := by simp [s2]
 have o3 : ∀ b, b < N + 2 -> (w2.alloc (.cells #[.slice none 0 0] 29)).heap[b]? = w2.heap[b]? := fun b hb => Ad _ _ (by omega)
 have d3 := heap_alloc_new w2 (.cells #[.slice none 0 0] 29)
 rw [s2] at d3
 try simp only [s2]
 generalize w2.alloc (.cells #[.slice none 0 0] 29) = w3 at *
 have c3 := (Ac d3 0).trans rfl
 have z3 := Aq d3 0
 have f3 := (hA (N + 2) (by omega)).1 ⟨N + 2, 0, none⟩ rfl
 (refine Walk.os f3 c3 ?_; try walk_nrm)
 have s4 := Af w3 ⟨N + 2, 0, none⟩ (.slice (some ⟨N + 1, 0, none⟩) n n)
 have o4 : ∀ b, b ≠ N + 2 -> (w3.setCell ⟨N + 2, 0, none⟩ (.slice (some ⟨N + 1, 0, none⟩) n n)).heap[b]? = w3.heap[b]? := fun b hb => Ab _ _ _ _ hb
 have d4 : (w3.setCell ⟨N + 2, 0, none⟩ (.slice (some ⟨N + 1, 0, none⟩) n n)).heap[N + 2]? = some (.cells #[.slice (some ⟨N + 1, 0, none⟩) n n] 29) := by
  rw [Am _ _ d3]
  simp
 rw [s3] at s4
 clear c3 z3 f3
 generalize w3.setCell ⟨N + 2, 0, none⟩ (.slice (some ⟨N + 1, 0, none⟩) n n) = w4 at *
 refine Aa z111 ?_
 refine Ek 183 (.tmp 16) (.tmp 16) Aj (by rfl) (by decide) rfl 194 _ .nilFunc 1 8 (by kernel_rfl) hi2.symm (by rfl) (by rfl) (by rfl) n (by rfl) (by rfl) (by omega) (by omega) ?_
 walk_nrm
 simp only [Value.cells, Nat.mul_one]
 have s5 : (w4.alloc (.cells (madeCells #[.nilFunc] n) 194)).heap.size = N + 4 := by simp [s4]
 have o5 : ∀ b, b < N + 3 -> (w4.alloc (.cells (madeCells #[.nilFunc] n) 194)).heap[b]? = w4.heap[b]? := fun b hb => Ad _ _ (by omega)
 have d5 := heap_alloc_new w4 (.cells (madeCells #[.nilFunc] n) 194)
 rw [s4] at d5
 try simp only [s4]
 generalize w4.alloc (.cells (madeCells #[.nilFunc] n) 194) = w5 at *
 refine Aa z111 ?_
 refine Walk.ctl rfl (fun w => stepG_loop) ?_
 refine .stop fun d => ⟨Ak ?_, MkO.at ⟨by omega, fun b hb => ?_, ?_, ?_, ?_, ⟨_, d5, Ff _ _, fun j hj => absurd hj (Nat.not_lt_zero _)⟩, fun j hj => absurd hj (Nat.not_lt_zero _), fun j hj => absurd hj (Nat.not_lt_zero _)⟩ d⟩
 ·simp only [hd46]
  rfl
 ·rw [o5 b (by omega), o4 b (by omega), o3 b (by omega), o2 b (by omega), o1 b hb]
 ·rw [o5 N (by omega), o4 N (by omega), o3 N (by omega), o2 N (by omega), d1]
 ·rw [o5 _ (by omega), o4 _ (by omega), o3 _ (by omega), d2]
 ·rw [o5 _ (by omega), d4]
end
end
end Go.Proofs.Ytcdcnmphjhfbpaa
