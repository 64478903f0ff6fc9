/- Part 27. -/
import Derived.Test.YtbmijpkdghkbbaaJ5
import Derived.Test.YtbmijpkdghkbbaaJ18
import Derived.Test.YtbmijpkdghkbbaaJ23
import Derived.Test.YtbmijpkdghkbbaaJ26
set_option linter.unusedSimpArgs false
set_option linter.unusedVariables false
set_option linter.unusedVariables false
set_option maxHeartbeats 8000000
set_option maxRecDepth 100000
namespace Go.Proofs.Ytbmijpkdghkbbaa
open Go.Conc Go.RowKit Go.Relay
open Go.ConcN (upd upd_ne upd_same)
section
def CallP (main : Bool) (V : Nat → Option Wait) (f : FuncId) (args : Array Value) (w : World) (Post : Value → World → Prop) : Prop :=
  ∀ (c : Frame) (cs : List Frame), Plain c → Walk Try.prog main (DR V) (fun g w' => ∃ v, Post v w' ∧ g = G (c.finish v) cs) (G (Frame.enter Try.prog f args .normal) (c :: cs)) w
section
variable {main : Bool} {V : Nat → Option Wait} {Stop : Goroutine → World → Prop} {w : World} {b : Frame} {a : Act} {k : List Item} {cs : List Frame} {ops : Array Oper} {i : Nat} {rest : List Nat} {o : Oper}
theorem CallP.mono {f : FuncId} {args : Array Value} {Post Post' : Value → World → Prop} (h : CallP main V f args w Post) (hP : ∀ v w', Post v w' → Post' v w') : CallP main V f args w Post' :=
  fun c cs hp => (h c cs hp).mono fun g w' ⟨v, hv, e⟩ => ⟨v, hP v w' hv, e⟩
theorem Walk.callP {f : FuncId} {fn : Func} {args : Array Operand} {ats : Array TypeId} {Post : Value → World → Prop} (hc : CallP main V f (args.map a.eval) w Post) (ho : ops[i]? = some o) (hw : Region.wanted o (yielded ops a.tmps) = true) (hk : b.kind ≠ .early) (hop : o.op = .call { callee := .value (.func f), args, argTypes := ats })
    (hf : Try.prog.funcs[f]? = some fn) (hname : (fn.name == "runtime.NumGoroutine") = false) (hb : fn.body.isNone = false) (hp : Plain (b.at a (.inRegion ops (i :: rest) :: k)))
    (h : ∀ v w', Post v w' → Walk Try.prog main (DR V) Stop (G (b.at (a.put o.dst v) (.inRegion ops rest :: k)) cs) w') : Walk Try.prog main (DR V) Stop (G (b.at a (.inRegion ops (i :: rest) :: k)) cs) w := by
  refine Walk.callE ho hw hk hop hf hname hb ((hc _ cs hp).then ?_)
  rintro _ w' ⟨v, hv, rfl⟩
  rw [Frame.finish_at, ho]
  exact h v w' hv
theorem CallP.lone {L : La} {f : FuncId} {args : Array Value} {Rel : Value → Ans → World → (Nat → Prop) → Prop} {R : L.Sg × Ans} (N : Nat) (y0 : L.Gh) (s : L.Sg) (r0 : Ans ⊕ L.D) (hat : ∀ v x w' P d, Rel v x w' P → Rel v x (w'.at d) P) (hA : ∀ b, Apart V b) (hI : L.I y0 s w) (hrun : runN L N (s, r0) = some R)
    (hc : ∀ (K : Lg L .nilIface) (e : K.E), K.w e = w → K.tgt e = (K.s e, r0) → SCall K.toLb f args e (fun v e' => ∃ x, Rel v x (K.w e') (K.mine e') ∧ K.tgt e' = (K.s e', .inl x))) :
    CallP main V f args w (fun v w' => ∃ y, Rel v R.2 w' (fun b => (w.heap.size ≤ b ∧ b < w'.heap.size) ∧ ¬ L.sh y b) ∧ Lone L y0 w R w' y) := by
  intro c cs hp
  have key := hc (nilL (V := V) hA main (fun g w' => ∃ v, (∃ y, Rel v R.2 w' (fun b => (w.heap.size ≤ b ∧ b < w'.heap.size) ∧ ¬ L.sh y b) ∧ Lone L y0 w R w' y) ∧ g = G (c.finish v) cs) cs y0 w R) { w := w, y := y0, s := s, tgt := (s, r0), fuel := N, le := L.refl _, inv := hI, size := Nat.le_refl _, old := fun _ _ _ => rfl, pub := fun _ h _ => h, run := hrun } rfl rfl c [] hp (fun _ h => by cases h) ?_
  · exact key
  · rintro v e' ⟨x, hr, ht⟩
    have hrn := e'.run
    have ht : e'.tgt = (e'.s, .inl x) := ht
    rw [ht, runN_inl] at hrn
    have hR := Option.some.inj hrn
    have r1 : R.1 = e'.s := (congrArg Prod.fst hR).symm
    have r2 : R.2 = x := (congrArg Prod.snd hR).symm
    refine .stop fun d => ⟨v, ⟨e'.y, ?_, ⟨e'.le, ?_, e'.size, fun b h1 h2 => e'.old b h1 h2, e'.pub⟩⟩, rfl⟩
    · rw [r2]
      exact hat _ _ _ _ d hr
    · rw [r1]; exact L.stable e'.inv fun _ _ => rfl
end
end
section
structure SolR (rb sb n : Nat) (s : Rg) (w w' : World) : Prop where
  I : RgI rb sb n s w'
  old : ∀ b, b < w.heap.size → b ≠ rb → b ≠ sb → w'.heap[b]? = w.heap[b]?
  size : w.heap.size ≤ w'.heap.size
section
variable {rb sb n : Nat}
theorem SolR.of {s : Rg} {a : Ans} {w w' : World} {y : (rgLa rb sb n).Gh} (h : Lone (rgLa rb sb n) () w (s, a) w' y) : SolR rb sb n s w w' := ⟨h.I, fun b hb h1 h2 => h.old b hb fun h => h.elim h1 h2, h.size⟩
theorem SolR.trans {s s' : Rg} {w w' w2 : World} (h : SolR rb sb n s w w') (k : SolR rb sb n s' w' w2) : SolR rb sb n s' w w2 :=
  ⟨k.I, fun b hb h1 h2 => (k.old b (Nat.lt_of_lt_of_le hb h.size) h1 h2).trans (h.old b hb h1 h2), Nat.le_trans h.size k.size⟩
theorem SolR.at {s : Rg} {w w' : World} (h : SolR rb sb n s w w') (d : Nat) : SolR rb sb n s w (w'.at d) := ⟨⟨h.I.hd, h.I.sl, h.I.pos⟩, h.old, h.size⟩
def getA (n : Nat) (s : Rg) (q : Int) : Ans := if good q then (if s.st (ixR n q) < laR n q then ⟨false, 6, []⟩ else if laR n q < s.st (ixR n q) then ⟨false, 10, []⟩ else ⟨true, s.va (ixR n q), []⟩) else ⟨false, 1, []⟩
def thA (n : Nat) (s : Rg) (q : Int) : Bool := if good q then decide (s.st (ixR n q) = laR n q) else false
theorem run_get (s : Rg) (q : Int) : runN (rgLa rb sb n) 3 (s, if good q then .inr (.g1 q) else .inl ⟨false, 1, []⟩) = some (s, getA n s q) := by
  unfold getA
  by_cases h : good q
  · rw [if_pos h, if_pos h]
    show runN (rgLa rb sb n) 2 (rgAct n s (.g1 q)) = _
    unfold rgAct
    dsimp only
    by_cases h1 : s.st (ixR n q) < laR n q
    · rw [if_pos h1, if_pos h1]; exact runN_inl _ _ _ _
    · rw [if_neg h1, if_neg h1]
      by_cases h2 : laR n q < s.st (ixR n q)
      · rw [if_pos h2, if_pos h2]; exact runN_inl _ _ _ _
      · rw [if_neg h2, if_neg h2]
        show runN (rgLa rb sb n) 0 (rgAct n s (.g3 q (s.va (ixR n q)))) = _
        unfold rgAct
        dsimp only
        rw [if_pos (by omega)]
        rfl
  · rw [if_neg h, if_neg h]; exact runN_inl _ _ _ _
theorem run_th (s : Rg) (q : Int) : runN (rgLa rb sb n) 1 (s, if good q then .inr (.t q) else .inl ⟨false, 0, []⟩) = some (s, ⟨thA n s q, 0, []⟩) := by
  unfold thA
  by_cases h : good q
  · rw [if_pos h, if_pos h]
    rfl
  · rw [if_neg h, if_neg h]; exact runN_inl _ _ _ _
variable {main : Bool} {V : Nat → Option Wait} {s : Rg} {w : World}
theorem rput_w (hA : ∀ b, Apart V b) (I : RgI rb sb n s w) (q v : Int) (hq : good q) :
    CallP main V 33 #[.pointer (some ⟨rb, 0, none⟩), .nilIface, .int .i64 q, .int .i64 v] w (fun x w' => x = .int .i64 0 ∧ SolR rb sb n (rgLay n s q v) w w') :=
  (CallP.lone (L := rgLa rb sb n) (Rel := fun x a _ _ => x = .int .i64 0) 3 () s _ (fun _ _ _ _ _ h => h) hA I (rgLay_run rb sb n s q v) (fun K e hw ht => (put_s K e q v hq ht).mono fun x e' ⟨h1, h2⟩ => ⟨⟨true, 0, []⟩, h1, h2⟩)).mono fun v w' ⟨y, h1, h2⟩ => ⟨h1, SolR.of h2⟩
theorem rget_w (hA : ∀ b, Apart V b) (I : RgI rb sb n s w) (q : Int) :
    CallP main V 34 #[.pointer (some ⟨rb, 0, none⟩), .nilIface, .int .i64 q] w (fun x w' => ∃ a er, x = .tuple #[.int .i64 a, .int .i64 er] ∧ getA n s q = ⟨er == 0, if er = 0 then a else er, []⟩ ∧ SolR rb sb n s w w') :=
  (CallP.lone (L := rgLa rb sb n) (Rel := fun x b _ _ => ∃ a er, x = .tuple #[.int .i64 a, .int .i64 er] ∧ b = ⟨er == 0, if er = 0 then a else er, []⟩) 3 () s _ (fun _ _ _ _ _ h => h) hA I (run_get s q) (fun K e hw ht => (get_all K e q ht).mono fun x e' ⟨a, er, h1, h2⟩ => ⟨_, ⟨a, er, h1, rfl⟩, h2⟩)).mono fun v w' ⟨y, ⟨a, er, h1, h3⟩, h2⟩ => ⟨a, er, h1, h3, SolR.of h2⟩
theorem rthere_w (hA : ∀ b, Apart V b) (I : RgI rb sb n s w) (q : Int) :
    CallP main V 35 #[.pointer (some ⟨rb, 0, none⟩), .nilIface, .int .i64 q] w (fun x w' => x = .bool (thA n s q) ∧ SolR rb sb n s w w') :=
  (CallP.lone (L := rgLa rb sb n) (Rel := fun x b _ _ => x = .bool b.ok) 1 () s _ (fun _ _ _ _ _ h => h) hA I (run_th s q) (fun K e hw ht => (there_all K e q ht).mono fun x e' ⟨b, h1, h2⟩ => ⟨_, h1, h2⟩)).mono fun v w' ⟨y, h1, h2⟩ => ⟨h1, SolR.of h2⟩
theorem rhigh_w (hA : ∀ b, Apart V b) (I : RgI rb sb n s w) (a b : Int) (N : Nat) (S : Rg) (A : Ans) (hrun : runN (rgLa rb sb n) N (s, hiD n a b) = some (S, A)) :
    CallP main V 36 #[.pointer (some ⟨rb, 0, none⟩), .nilIface, .int .i64 a, .int .i64 b] w (fun x w' => x = .int .i64 A.n ∧ SolR rb sb n S w w') :=
  (CallP.lone (L := rgLa rb sb n) (Rel := fun x b _ _ => x = .int .i64 b.n) N () s _ (fun _ _ _ _ _ h => h) hA I hrun (fun K e hw ht => (highest_s K e a b ht).mono fun x e' ⟨z, h1, h2⟩ => ⟨_, h1, h2⟩)).mono fun v w' ⟨y, h1, h2⟩ => ⟨h1, SolR.of h2⟩
end
theorem got_ok {a er z : Int} (h : (⟨true, z, []⟩ : Ans) = ⟨er == 0, if er = 0 then a else er, []⟩) : er = 0 ∧ a = z := by
  injection h with h1 h2
  have : er = 0 := by simpa using h1.symm
  exact ⟨this, by rw [if_pos this] at h2; exact h2.symm⟩
theorem got_no {a er z : Int} (h : (⟨false, z, []⟩ : Ans) = ⟨er == 0, if er = 0 then a else er, []⟩) : er = z := by
  injection h with h1 h2
  have : ¬ er = 0 := by simpa using h1.symm
  rw [if_neg this] at h2
  exact h2.symm
end
section
noncomputable def reg26_0 := rg Try.f26.body [0]
noncomputable def reg26_1 := rg Try.f26.body [1, 0, 0]
noncomputable def reg26_2 := rg Try.f26.body [1, 0, 1, 0, 0]
noncomputable def reg26_3 := rg Try.f26.body [1, 1, 0, 0]
noncomputable def reg26_4 := rg Try.f26.body [1, 1, 0, 1, 0, 0, 0, 0]
noncomputable def reg26_6 := rg Try.f26.body [1, 1, 0, 1, 0, 0, 1, 0, 0, 0]
theorem size26_6 : reg26_6.size = 9 := by kernel_rfl
noncomputable def reg26_7 := rg Try.f26.body [1, 1, 0, 1, 0, 0, 1, 0, 0, 1, 0, 0]
noncomputable def reg26_5 := rg Try.f26.body [1, 1, 0, 1, 0, 0, 1, 1]
noncomputable def reg26_8 := rg Try.f26.body [1, 1, 1, 0]
theorem z26 : List.range reg26_0.size = [0] ∧ List.range reg26_1.size = [0, 1, 2, 3, 4] ∧ List.range reg26_2.size = [0] ∧ List.range reg26_3.size = [0] ∧ List.range reg26_4.size = [0, 1, 2, 3] ∧ List.range reg26_5.size = [0, 1, 2] ∧ List.range reg26_6.size = [0, 1, 2, 3, 4, 5, 6, 7, 8] ∧ List.range reg26_7.size = [0] ∧ List.range reg26_8.size = [0] := by refine ⟨?_, ?_, ?_, ?_, ?_, ?_, ?_, ?_, ?_⟩ <;> kernel_rfl
theorem code26_is : Try.f26.body = some (.seq (.region 0 reg26_0 false) (.seq (.seq (.region 1 reg26_1 false) (.cond (.tmp 10 ) (.seq (.region 2 reg26_2 false) (.ret)) (.skip))) (.seq (.seq (.region 3 reg26_3 false) (.block 0 (.loop (.seq (.seq (.region 4 reg26_4 false) (.cond (.tmp 14 ) (.skip) (.exit 0))) (.seq (.block 1 (.seq (.region 6 reg26_6 true) (.cond (.tmp 25 ) (.seq (.region 7 reg26_7 false) (.ret)) (.skip)))) (.region 5 reg26_5 false)))))) (.seq (.region 8 reg26_8 false) (.ret))))) := by kernel_rfl
noncomputable def hdSame (av bv : Value) (i : Nat) (u : Nat → Value) : Frame :=
  (base 26).at { tmps := #[av, bv, u 2, u 3, u 4, .int .i64 i, u 6, u 7, u 8, u 9, u 10, u 11, u 12, u 13, u 14, u 15, u 16, u 17, u 18, u 19, u 20, u 21, u 22, u 23, u 24, u 25], defers := [] } [.code (.seq (.seq (.region 4 reg26_4 false) (.cond (.tmp 14 ) (.skip) (.exit 0))) (.seq (.block 1 (.seq (.region 6 reg26_6 true) (.cond (.tmp 25 ) (.seq (.region 7 reg26_7 false) (.ret)) (.skip)))) (.region 5 reg26_5 false))), .inLoop (.seq (.seq (.region 4 reg26_4 false) (.cond (.tmp 14 ) (.skip) (.exit 0))) (.seq (.block 1 (.seq (.region 6 reg26_6 true) (.cond (.tmp 25 ) (.seq (.region 7 reg26_7 false) (.ret)) (.skip)))) (.region 5 reg26_5 false))), .inBlock 0, .code (.seq (.region 8 reg26_8 false) (.ret))]
section
variable {main : Bool} {V : Nat → Option Wait}
theorem sn_in (a b : Option Addr) (n ca cb : Nat) (cs : List Frame) (w : World) :
    Walk Try.prog main (DR V) (fun g w' => (∃ u, g = G (hdSame (.slice a n ca) (.slice b n cb) 0 u) cs) ∧ ∃ d, w' = w.at d) (G (Frame.enter Try.prog 26 #[.slice a n ca, .slice b n cb] .normal) cs) w := by
  rw [enter_at _ Try.func26 code26_is]
  simp only [Try.ntmps26, ez, Nat.reduceAdd, Nat.reduceSub]
  repeat (first | refine Walk.cx ?_ | (refine Walk.cReg ?_; simp only [z26]) | (refine Walk.oq ?_; try walk_nrm) | (refine Walk.un ?_; walk_nrm))
  refine Walk.ctl rfl (fun w => stepG_loop) ?_
  refine .stop fun d => ⟨at_slots ?_, d, rfl⟩
  simp only [hdSame]
  rfl
theorem sn_out (a b : Option Addr) (n ca cb : Nat) (u : Nat → Value) (c : Frame) (cs : List Frame) (w : World) :
    Walk Try.prog main (DR V) (fun g w' => g = G (c.finish (.bool true)) cs ∧ ∃ d, w' = w.at d) (G (hdSame (.slice a n ca) (.slice b n cb) n u) (c :: cs)) w := by
  unfold hdSame
  repeat (first | refine Walk.cx ?_ | (refine Walk.cReg ?_; simp only [z26]) | (refine Walk.oq ?_; try walk_nrm) | (refine Walk.un ?_; walk_nrm))
  exact Walk.on1 rfl rfl Try.func26 rfl (.stop fun d => ⟨rfl, d, rfl⟩)
theorem sn_go (ab ao n ca bb bo cb i : Nat) (x : Int) (u : Nat → Value) (cs : List Frame) (w : World) (hi : i < n) (hn : n ≤ 17592186044416) (ha : w.cell? ⟨ab, ao + i, none⟩ = some (.int .i64 x)) (hb : w.cell? ⟨bb, bo + i, none⟩ = some (.int .i64 x)) :
    Walk Try.prog main (DR V) (fun g w' => (∃ u', g = G (hdSame (.slice (some ⟨ab, ao, none⟩) n ca) (.slice (some ⟨bb, bo, none⟩) n cb) (i + 1) u') cs) ∧ ∃ d, w' = w.at d) (G (hdSame (.slice (some ⟨ab, ao, none⟩) n ca) (.slice (some ⟨bb, bo, none⟩) n cb) i u) cs) w := by
  have hw1 : IntKind.wrap .i64 ((i : Int) + 1) = (i : Int) + 1 := by rw [IntKind.wrap_i64]; omega
  conv => arg 5; unfold hdSame
  repeat (first | refine Walk.cx ?_ | (refine Walk.cReg ?_; simp only [z26]) | (refine Walk.oq ?_; try walk_nrm) | (refine Walk.un ?_; walk_nrm))
  (refine Walk.drawnC (by kernel_rfl) size26_6 (by kernel_rfl) (by kernel_rfl) (by decide) ?_; simp only [List.range, List.range.loop]; repeat (first | (refine Cm.oq ?_) | (refine Cm.unw (ho_of (by conv => lhs; whnf) (by kernel_rfl)) (by rfl) ?_; walk_nrm)))
  refine Cm.done ?_
  repeat (first | refine Walk.cx ?_ | (refine Walk.cReg ?_; simp only [z26]) | (refine Walk.oq ?_; try walk_nrm) | (refine Walk.un ?_; walk_nrm))
  refine Walk.ctl rfl (fun w => stepG_inLoop) ?_
  refine .stop fun d' => ⟨at_slots ?_, d', rfl⟩
  have hc : ((i + 1 : Nat) : Int) = (i : Int) + 1 := by simp
  simp only [hdSame, hc]
  rfl
theorem sn_loop (a b : Option Addr) (l : List Int) (ca cb : Nat) (hn : l.length ≤ 17592186044416) (c : Frame) (cs : List Frame) (w : World) (ha : NumA a l w) (hb : NumA b l w) : ∀ (r i : Nat) (u : Nat → Value), i + r = l.length →
    Walk Try.prog main (DR V) (fun g w' => g = G (c.finish (.bool true)) cs ∧ ∃ d, w' = w.at d) (G (hdSame (.slice a l.length ca) (.slice b l.length cb) i u) (c :: cs)) w := by
  intro r
  induction r with
  | zero =>
    intro i u hi
    have hi : i = l.length := hi
    subst hi
    exact sn_out a b l.length ca cb u c cs w
  | succ r ih =>
    intro i u hi
    have hin : i < l.length := by omega
    have hx := List.getElem?_eq_getElem hin
    obtain ⟨ab, ao, rfl, h1⟩ := ha i _ hx
    obtain ⟨bb, bo, rfl, h2⟩ := hb i _ hx
    refine (sn_go ab ao l.length ca bb bo cb i _ u (c :: cs) w hin hn h1 h2).then ?_
    rintro g w' ⟨⟨u', rfl⟩, d, rfl⟩
    exact Walk.back (ih (i + 1) u' (by omega)) d
theorem sn_w (a b : Option Addr) (l : List Int) (ca cb : Nat) (hn : l.length ≤ 17592186044416) (w : World) (ha : NumA a l w) (hb : NumA b l w) : CallV Try.prog main V 26 #[.slice a l.length ca, .slice b l.length cb] w (.bool true) w := by
  intro fr cs
  refine (sn_in a b l.length ca cb (fr :: cs) w).then ?_
  rintro g w1 ⟨⟨u, rfl⟩, d, rfl⟩
  refine Walk.back ?_ d
  refine (sn_loop a b l ca cb hn fr cs w ha hb l.length 0 u (by omega)).mono ?_
  rintro g w' ⟨rfl, d, rfl⟩
  exact ⟨_, ⟨rfl, d, rfl⟩, rfl⟩
end
end
section
def fxOps : Nat → List OpV := fun i => ([[⟨2, 0, 0, 0⟩], [⟨1, 2, 9, 0⟩]] : List (List OpV)).getD i []
def fxSl : List Int := [0, 1, 1, 0, 0, 1]
def fxA : Array Value := #[.int .i64 2, .int .i64 0, .int .i64 0, .int .i64 0]
def fxB : Array Value := #[.int .i64 1, .int .i64 2, .int .i64 9, .int .i64 0]
def fxW : Array Value := #[.int .i64 2, .int .i64 7]
def fxH (A B : Nat) : Array Value := #[.slice (some ⟨A, 0, none⟩) 1 1, .slice (some ⟨B, 0, none⟩) 1 1]
def fxS : Array Value := #[.int .i64 0, .int .i64 1, .int .i64 1, .int .i64 0, .int .i64 0, .int .i64 1]
def fxOa (A B : Nat) (i : Nat) : Option Addr := if i = 0 then some ⟨A, 0, none⟩ else some ⟨B, 0, none⟩
theorem fx_is : isR [2, 7] := ⟨2, [7], rfl, by decide, by decide, by decide, by kernel_rfl⟩
theorem fx_run (rb sb : Nat) : ((playO (rgLa rb sb (szR [2, 7])) (r0R [2, 7]) fxOps 2 99 fxSl).1.th 0).ans = [⟨false, 10, []⟩] := by kernel_rfl
theorem fx_state (rb sb : Nat) : stR (szR [2, 7]) (playO (rgLa rb sb (szR [2, 7])) (r0R [2, 7]) fxOps 2 99 fxSl).1.s = [2, -2, 9, 0] := by kernel_rfl
theorem fx_ops {A B Hd : Nat} {w : World} (h1 : w.heap[A]? = some (.cells fxA 49)) (h2 : w.heap[B]? = some (.cells fxB 49)) (h4 : w.heap[Hd]? = some (.cells (fxH A B) 34)) : OpsIn Hd 0 2 (fxOa A B) (fun _ => 1) (fun _ => 1) fxOps w := by
  refine ⟨fun i hi => ?_, fun i hi => Nat.le_refl _, fun i hi => .inr ?_, fun i hi => ?_, fun i hi j o ho => ?_⟩
  · rw [Nat.zero_add]
    refine (cell_of h4 i).trans ?_
    match i, hi with
    | 0, _ => rfl
    | 1, _ => rfl
  · match i, hi with
    | 0, _ => exact ⟨_, rfl⟩
    | 1, _ => exact ⟨_, rfl⟩
  · match i, hi with
    | 0, _ => rfl
    | 1, _ => rfl
  · match i, hi, ho with
    | 0, _, ho =>
      match j, ho with
      | 0, ho => cases ho; exact ⟨A, 0, rfl, (cell_of h1 _).trans rfl, (cell_of h1 _).trans rfl, (cell_of h1 _).trans rfl, (cell_of h1 _).trans rfl⟩
      | j + 1, ho => exact absurd ho (by simp [fxOps])
    | 1, _, ho =>
      match j, ho with
      | 0, ho => cases ho; exact ⟨B, 0, rfl, (cell_of h2 _).trans rfl, (cell_of h2 _).trans rfl, (cell_of h2 _).trans rfl, (cell_of h2 _).trans rfl⟩
      | j + 1, ho => exact absurd ho (by simp [fxOps])
def fz1 : Rg := rgLay 2 (rgJ 2) 0 7
def fz2 : Rg := rgLay 2 fz1 1 8
def fz3 : Rg := rgLay 2 fz2 2 9
theorem fz_g2 : getA 2 fz3 2 = ⟨true, 9, []⟩ := by kernel_rfl
theorem fz_g0 : getA 2 fz3 0 = ⟨false, 10, []⟩ := by kernel_rfl
theorem fz_t1 : thA 2 fz3 1 = true := by kernel_rfl
theorem fz_t0 : thA 2 fz3 0 = false := by kernel_rfl
theorem fz_hi (rb sb : Nat) : runN (rgLa rb sb 2) 2 (fz3, hiD 2 1 5) = some (fz3, ⟨true, 2, []⟩) := by kernel_rfl
noncomputable def reg14_0 := rg Try.f14.body [0]
noncomputable def reg14_1 := rg Try.f14.body [1, 0]
noncomputable def reg14_2 := rg Try.f14.body [1, 1, 0, 0]
noncomputable def reg14_3 := rg Try.f14.body [1, 1, 0, 1, 0, 0]
noncomputable def reg14_4 := rg Try.f14.body [1, 1, 1, 0]
noncomputable def reg14_5 := rg Try.f14.body [1, 1, 1, 1, 0, 0]
noncomputable def reg14_6 := rg Try.f14.body [1, 1, 1, 1, 0, 1, 0, 0]
noncomputable def reg14_7 := rg Try.f14.body [1, 1, 1, 1, 1, 0]
noncomputable def reg14_8 := rg Try.f14.body [1, 1, 1, 1, 1, 1, 0]
noncomputable def reg14_9 := rg Try.f14.body [1, 1, 1, 1, 1, 1, 1, 0]
theorem z14 : List.range reg14_0.size = [0] ∧ List.range reg14_1.size = [0, 1, 2, 3, 4, 5, 6, 7, 8, 9] ∧ List.range reg14_2.size = [0, 1, 2, 3, 4, 5, 6, 7, 8, 9, 10, 11, 12, 13, 14, 15, 16, 17, 18, 19, 20, 21, 22, 23, 24, 25, 26, 27, 28, 29, 30, 31, 32, 33, 34, 35, 36, 37] ∧ List.range reg14_3.size = [0] ∧ List.range reg14_4.size = [0, 1, 2, 3, 4, 5] ∧ List.range reg14_5.size = [0, 1, 2, 3, 4, 5, 6, 7, 8, 9, 10, 11, 12, 13, 14, 15, 16, 17, 18, 19, 20] ∧ List.range reg14_6.size = [0] ∧ List.range reg14_7.size = [0, 1, 2, 3, 4, 5, 6] ∧ List.range reg14_8.size = [0, 1, 2, 3, 4, 5, 6] ∧ List.range reg14_9.size = [0, 1, 2, 3, 4, 5, 6, 7, 8, 9, 10, 11, 12, 13, 14, 15, 16, 17, 18, 19, 20, 21, 22, 23, 24] := by refine ⟨?_, ?_, ?_, ?_, ?_, ?_, ?_, ?_, ?_, ?_⟩ <;> kernel_rfl
theorem code14_is : Try.f14.body = some (.seq (.region 0 reg14_0 false) (.seq (.region 1 reg14_1 false) (.seq (.seq (.region 2 reg14_2 false) (.cond (.tmp 52 ) (.seq (.region 3 reg14_3 false) (.ret)) (.skip))) (.seq (.region 4 reg14_4 false) (.seq (.seq (.region 5 reg14_5 false) (.cond (.tmp 77 ) (.seq (.region 6 reg14_6 false) (.ret)) (.skip))) (.seq (.region 7 reg14_7 false) (.seq (.region 8 reg14_8 false) (.seq (.region 9 reg14_9 false) (.ret))))))))) := by kernel_rfl
def zTr' : Obj := .cells #[.slice none 0 0, .slice none 0 0, .slice none 0 0, .bool false] 31
def FxBack (fr c : Frame) (cs : List Frame) : Prop := ∀ (cells : Array Value) (F : Nat → List Ans) (ord : List Nat) (k : Bool) (w : World), TrA cells 2 F ord [2, -2, 9, 0] k w → F 0 = [⟨false, 10, []⟩] →
  Walk Try.prog true (DR (fun _ => none)) (fun g w' => g = G (c.finish (.bool true)) cs ∧ (∀ b, b < w.heap.size → w'.heap[b]? = w.heap[b]?) ∧ w.heap.size ≤ w'.heap.size) (G (fr.finish (.agg cells)) (c :: cs)) w
section
variable {c : Frame} {cs : List Frame}
theorem fixed_in (c : Frame) (cs : List Frame) (w : World) :
    Walk Try.prog true (DR (fun _ => none)) (fun g w' => ∃ fr, g = G (Frame.enter Try.prog 16 #[.slice (some ⟨w.heap.size, 0, none⟩) 2 2, .slice (some ⟨w.heap.size + 3, 0, none⟩) 2 2, .slice (some ⟨w.heap.size + 4, 0, none⟩) fxSl.length 6, .int .i64 99] .normal) (fr :: c :: cs) ∧ (∀ b, b < w.heap.size → w'.heap[b]? = w.heap[b]?) ∧ w.heap.size ≤ w'.heap.size ∧
        w'.heap[w.heap.size]? = some (.cells fxW 2) ∧ OpsIn (w.heap.size + 3) 0 2 (fxOa (w.heap.size + 1) (w.heap.size + 2)) (fun _ => 1) (fun _ => 1) fxOps w' ∧ (∀ (j : Nat) (z : Int), fxSl[j]? = some z → w'.cell? ⟨w.heap.size + 4, 0 + j, none⟩ = some (.int .i64 z)) ∧ FxBack fr c cs)
      (G (Frame.enter Try.prog 14 #[] .normal) (c :: cs)) w := by
  have hA : ∀ b, Apart (fun _ => none) b := fun b => ⟨fun _ _ _ _ h => (by cases h), fun _ _ h => (by cases h)⟩
  rw [enter_at _ Try.func14 code14_is]
  simp only [Try.ntmps14, ez, Nat.reduceAdd, Nat.reduceSub]
  obtain ⟨T, hT⟩ : ∃ T, w.heap.size = T := ⟨_, rfl⟩
  rw [hT]
  repeat (first | refine Walk.cx ?_ | (refine Walk.cReg ?_; simp only [z14]) | (refine Walk.oq ?_; try walk_nrm) | (refine Walk.un ?_; walk_nrm))
  (refine Walk.oa ?_; try walk_nrm)
  have s1 : (w.alloc (.cells fxW 2)).heap.size = T + 1 := by simp [hT]
  have o1 : ∀ b, b < T → (w.alloc (.cells fxW 2)).heap[b]? = w.heap[b]? := fun b hb => heap_new_lt _ _ (by omega)
  have d1 : (w.alloc (.cells fxW 2)).heap[T]? = some (.cells fxW 2) := hT ▸ heap_alloc_new w (.cells fxW 2)
  try simp only [hT]
  change Walk Try.prog true _ _ _ (w.alloc (.cells fxW 2))
  generalize w.alloc (.cells fxW 2) = x1 at *
  repeat (first | refine Walk.cx ?_ | (refine Walk.cReg ?_; simp only [z14]) | (refine Walk.oq ?_; try walk_nrm) | (refine Walk.un ?_; walk_nrm))
  (refine Walk.oa ?_; try walk_nrm)
  have s2 : (x1.alloc (.cells fxA 49)).heap.size = (T + 1) + 1 := by simp [s1]
  have o2 : ∀ b, b < (T + 1) → (x1.alloc (.cells fxA 49)).heap[b]? = x1.heap[b]? := fun b hb => heap_new_lt _ _ (by omega)
  have d2 : (x1.alloc (.cells fxA 49)).heap[(T + 1)]? = some (.cells fxA 49) := s1 ▸ heap_alloc_new x1 (.cells fxA 49)
  try simp only [s1]
  change Walk Try.prog true _ _ _ (x1.alloc (.cells fxA 49))
  generalize x1.alloc (.cells fxA 49) = x2 at *
  repeat (first | refine Walk.cx ?_ | (refine Walk.cReg ?_; simp only [z14]) | (refine Walk.oq ?_; try walk_nrm) | (refine Walk.un ?_; walk_nrm))
  (refine Walk.oa ?_; try walk_nrm)
  have s3 : (x2.alloc (.cells fxB 49)).heap.size = (T + 2) + 1 := by simp [s2]
  have o3 : ∀ b, b < (T + 2) → (x2.alloc (.cells fxB 49)).heap[b]? = x2.heap[b]? := fun b hb => heap_new_lt _ _ (by omega)
  have d3 : (x2.alloc (.cells fxB 49)).heap[(T + 2)]? = some (.cells fxB 49) := s2 ▸ heap_alloc_new x2 (.cells fxB 49)
  try simp only [s2]
  change Walk Try.prog true _ _ _ (x2.alloc (.cells fxB 49))
  generalize x2.alloc (.cells fxB 49) = x3 at *
  repeat (first | refine Walk.cx ?_ | (refine Walk.cReg ?_; simp only [z14]) | (refine Walk.oq ?_; try walk_nrm) | (refine Walk.un ?_; walk_nrm))
  (refine Walk.oa ?_; try walk_nrm)
  have s4 : (x3.alloc (.cells (fxH (T + 1) (T + 2)) 34)).heap.size = (T + 3) + 1 := by simp [s3]
  have o4 : ∀ b, b < (T + 3) → (x3.alloc (.cells (fxH (T + 1) (T + 2)) 34)).heap[b]? = x3.heap[b]? := fun b hb => heap_new_lt _ _ (by omega)
  have d4 : (x3.alloc (.cells (fxH (T + 1) (T + 2)) 34)).heap[(T + 3)]? = some (.cells (fxH (T + 1) (T + 2)) 34) := s3 ▸ heap_alloc_new x3 (.cells (fxH (T + 1) (T + 2)) 34)
  try simp only [s3]
  change Walk Try.prog true _ _ _ (x3.alloc (.cells (fxH (T + 1) (T + 2)) 34))
  generalize x3.alloc (.cells (fxH (T + 1) (T + 2)) 34) = x4 at *
  repeat (first | refine Walk.cx ?_ | (refine Walk.cReg ?_; simp only [z14]) | (refine Walk.oq ?_; try walk_nrm) | (refine Walk.un ?_; walk_nrm))
  (refine Walk.oa ?_; try walk_nrm)
  have s5 : (x4.alloc (.cells fxS 3)).heap.size = (T + 4) + 1 := by simp [s4]
  have o5 : ∀ b, b < (T + 4) → (x4.alloc (.cells fxS 3)).heap[b]? = x4.heap[b]? := fun b hb => heap_new_lt _ _ (by omega)
  have d5 : (x4.alloc (.cells fxS 3)).heap[(T + 4)]? = some (.cells fxS 3) := s4 ▸ heap_alloc_new x4 (.cells fxS 3)
  try simp only [s4]
  change Walk Try.prog true _ _ _ (x4.alloc (.cells fxS 3))
  generalize x4.alloc (.cells fxS 3) = x5 at *
  repeat (first | refine Walk.cx ?_ | (refine Walk.cReg ?_; simp only [z14]) | (refine Walk.oq ?_; try walk_nrm) | (refine Walk.un ?_; walk_nrm))
  refine Walk.callE (ho_of (by conv => lhs; whnf) (by kernel_rfl)) (by rfl) (by decide) rfl Try.func16 (by kernel_rfl) (by rfl) ?_
  walk_nrm
  have up : ∀ b, b < T + 1 → x5.heap[b]? = x1.heap[b]? := fun b hb => (o5 b (by omega)).trans ((o4 b (by omega)).trans ((o3 b (by omega)).trans (o2 b (by omega))))
  refine .stop fun d => ⟨_, rfl, fun b hb => (up b (by omega)).trans (o1 b (by omega)), ?_, (up T (by omega)).trans d1, fx_ops ((o5 _ (by omega)).trans ((o4 _ (by omega)).trans ((o3 _ (by omega)).trans d2))) ((o5 _ (by omega)).trans ((o4 _ (by omega)).trans d3)) ((o5 _ (by omega)).trans d4), fun j z hz => ?_, ?_⟩
  · show T ≤ x5.heap.size
    omega
  · try rw [Nat.zero_add]
    refine (cell_of (w := x5) d5 j).trans ?_
    have h : (fxSl.map (Value.int .i64))[j]? = some (.int .i64 z) := by rw [List.getElem?_map, hz]; rfl
    simpa [fxSl, fxS] using h
  · clear d1 d2 d3 d4 d5 s1 s2 s3 s4 s5 o1 o2 o3 o4 o5 up hT
    intro cells F ord k w6 hTr hF0
    obtain ⟨aa, ac, oa, oc, sa, sc, rfl, n1, n2, n3⟩ := hTr.all
    obtain ⟨b, o, ta0, tc0, rfl, a0, A0⟩ := n3 0 (by decide)
    rw [hF0] at a0 A0
    obtain ⟨b0, o0, la, lc, rfl, k0, k1, _⟩ := A0 0 _ rfl
    simp only [Nat.zero_mul, Nat.add_zero, List.length_cons, List.length_nil, Nat.zero_add, Nat.reduceAdd] at a0 k0 k1
    generalize ord.length = ol at *
    simp only [trC, List.length_cons, List.length_nil, Nat.zero_add, Nat.reduceAdd]
    refine Walk.finish (ho_of (by conv => lhs; whnf) (by kernel_rfl)) ?_
    walk_nrm
    (refine Walk.oa ?_; try walk_nrm)
    have s7 : (w6.alloc zTr').heap.size = w6.heap.size + 1 := by simp
    have o7 : ∀ b, b < w6.heap.size → (w6.alloc zTr').heap[b]? = w6.heap[b]? := fun b hb => heap_new_lt _ _ hb
    have d7 := heap_alloc_new w6 zTr'
    have e7 : w6.alloc (.cells #[.slice none 0 0, .slice none 0 0, .slice none 0 0, .bool false] 31) = w6.alloc zTr' := rfl
    try rw [e7]
    clear e7
    have l1 := cell_lt' a0
    have l2 := cell_lt' k0
    generalize hT1 : w6.heap.size = T1 at *
    generalize w6.alloc zTr' = w7 at *
    unfold zTr' at d7
    refine Walk.storeS 31 (.tmp 1) (.tmp 14) (ho_of (by conv => lhs; whnf) (by kernel_rfl)) (by rfl) (by decide) rfl T1 #[.slice (some ⟨b, o, none⟩) 2 ac, .slice oa ol oc, .slice sa 4 sc, .bool k] _ 31 rfl rfl d7 (by kernel_rfl) (by rfl) (by simp [Value.oneCell']) (hA _) ?_
    have d8 := setRow_self (cells := #[.slice (some ⟨b, o, none⟩) 2 ac, .slice oa ol oc, .slice sa 4 sc, .bool k]) d7
    have o8 : ∀ x, x < T1 → (w7.setRow T1 #[.slice (some ⟨b, o, none⟩) 2 ac, .slice oa ol oc, .slice sa 4 sc, .bool k]).heap[x]? = w6.heap[x]? := fun x hx => (setRow_other _ _ (by omega)).trans (o7 x hx)
    have s8 := setRow_size w7 T1 #[.slice (some ⟨b, o, none⟩) 2 ac, .slice oa ol oc, .slice sa 4 sc, .bool k]
    rw [s7] at s8
    generalize w7.setRow T1 #[.slice (some ⟨b, o, none⟩) 2 ac, .slice oa ol oc, .slice sa 4 sc, .bool k] = w8 at *
    have hc8 : ∀ {x j : Nat} {v : Value}, x < T1 → w6.cell? ⟨x, j, none⟩ = some v → w8.cell? ⟨x, j, none⟩ = some v := fun {x j v} h e => (World.cell?_of_block (a := ⟨x, j, none⟩) (o8 x h)).trans e
    have x0 : w8.cell? ⟨T1, 0, none⟩ = some (.slice (some ⟨b, o, none⟩) 2 ac) := (cell_of d8 0).trans rfl
    have x2 : w8.cell? ⟨T1, 2, none⟩ = some (.slice sa 4 sc) := (cell_of d8 2).trans rfl
    have x1 := hc8 l1 a0
    have x3 := hc8 l2 k0
    have x4 := hc8 l2 k1
    have nl8 : NumA sa [2, -2, 9, 0] w8 := fun i x hx => by
      obtain ⟨bb, oo, e, h⟩ := n2 i x hx
      exact ⟨bb, oo, e, hc8 (by have := cell_lt' h; omega) h⟩
    clear n1 n2 n3 A0 a0 k0 k1 d7 d8 hTr s7 o7 hc8 l1 l2
    try walk_nrm
    repeat (first | refine Walk.cx ?_ | (refine Walk.cReg ?_; simp only [z14]) | (refine Walk.oq ?_; try walk_nrm) | (refine Walk.un ?_; walk_nrm))
    (refine Walk.oa ?_; try walk_nrm)
    have s9 : (w8.alloc (.cells #[.int .i64 2, .int .i64 (-2), .int .i64 9, .int .i64 0] 2)).heap.size = T1 + 2 := by simp [s8]
    have o9 : ∀ x, x < T1 + 1 → (w8.alloc (.cells #[.int .i64 2, .int .i64 (-2), .int .i64 9, .int .i64 0] 2)).heap[x]? = w8.heap[x]? := fun x hx => heap_new_lt _ _ (by omega)
    have d9 : NumB (w8.alloc (.cells #[.int .i64 2, .int .i64 (-2), .int .i64 9, .int .i64 0] 2)) (T1 + 1) [2, -2, 9, 0] := s8 ▸ heap_alloc_new w8 (.cells #[.int .i64 2, .int .i64 (-2), .int .i64 9, .int .i64 0] 2)
    have nl9 : NumA sa [2, -2, 9, 0] (w8.alloc (.cells #[.int .i64 2, .int .i64 (-2), .int .i64 9, .int .i64 0] 2)) := nl8.chg ⟨by simp, fun b hb _ => heap_new_lt _ _ hb⟩
    try simp only [s8]
    clear x0 x1 x2 x3 x4 nl8
    generalize w8.alloc (.cells #[.int .i64 2, .int .i64 (-2), .int .i64 9, .int .i64 0] 2) = w9 at *
    have hsn := sn_w (main := true) (V := fun _ => none) sa (some ⟨T1 + 1, 0, none⟩) [2, -2, 9, 0] sc 4 (by decide) w9 nl9 (fun i x hx => ⟨T1 + 1, 0, rfl, by rw [Nat.zero_add]; exact d9.cell hx⟩)
    repeat (first | refine Walk.cx ?_ | (refine Walk.cReg ?_; simp only [z14]) | (refine Walk.oq ?_; try walk_nrm) | (refine Walk.un ?_; walk_nrm))
    refine Walk.callV (x := .bool true) (W := w9) ?_ (ho_of (by conv => lhs; whnf) (by kernel_rfl)) (by rfl) (by decide) rfl Try.func26 (by kernel_rfl) (by rfl) ?_
    · walk_nrm
      exact hsn
    clear hsn nl9 d9
    walk_nrm
    repeat (first | refine Walk.cx ?_ | (refine Walk.cReg ?_; simp only [z14]) | (refine Walk.oq ?_; try walk_nrm) | (refine Walk.un ?_; walk_nrm))
    have hnw := new_w (main := true) (V := fun _ => none) 2 ⟨by decide, by decide, by kernel_rfl⟩ w9 (fun b _ => hA b)
    rw [s9] at hnw
    refine Walk.callW (Post := fun v w' => v = .tuple #[.pointer (some ⟨T1 + 2 + 1, 0, none⟩), .int .i64 0] ∧ NwR w9 (T1 + 2 + 1) (T1 + 2) 2 2 w') ?_ (ho_of (by conv => lhs; whnf) (by kernel_rfl)) (by rfl) (by decide) rfl Try.func18 (by kernel_rfl) (by rfl) ?_
    · walk_nrm
      exact hnw
    rintro v w10 ⟨rfl, E10⟩
    have I10 := E10.I
    have z10 := E10.size
    have u10 : ∀ b, b < T1 → w10.heap[b]? = w6.heap[b]? := fun b hb => (E10.old b (by omega)).trans ((o9 b (by omega)).trans (o8 b hb))
    clear hnw E10 o9 o8 s8
    have hq1 := fun w => run_eql_ptr (P := Try.prog) 35 undRing (some ⟨T1 + 2 + 1, 0, none⟩) w
    have hq2 := fun w es => ev_eql_ptr (P := Try.prog) 35 undRing (some ⟨T1 + 2 + 1, 0, none⟩) w es
    simp only [Option.isNone_some] at hq1
    generalize hSB : T1 + 2 = SB at *
    generalize hLB : SB + 1 = LB at *
    walk_nrm
    repeat (first | refine Walk.cx ?_ | (refine Walk.cReg ?_; simp only [z14]) | (refine Walk.oq ?_; try walk_nrm) | (refine Walk.un ?_; walk_nrm))
    have hpt := rput_w (main := true) (V := fun _ => none) hA I10 0 7 (by decide)
    refine Walk.callP (Post := fun v w' => v = .int .i64 0 ∧ SolR LB SB 2 fz1 w10 w') ?_ (ho_of (by conv => lhs; whnf) (by kernel_rfl)) (by rfl) (by decide) rfl Try.func33 (by kernel_rfl) (by rfl) ⟨rfl, rfl, _, Try.func14⟩ ?_
    · walk_nrm
      exact hpt
    rintro v w11 ⟨rfl, H11⟩
    clear hpt
    walk_nrm
    repeat (first | refine Walk.cx ?_ | (refine Walk.cReg ?_; simp only [z14]) | (refine Walk.oq ?_; try walk_nrm) | (refine Walk.un ?_; walk_nrm))
    have hpt := rput_w (main := true) (V := fun _ => none) hA H11.I 1 8 (by decide)
    refine Walk.callP (Post := fun v w' => v = .int .i64 0 ∧ SolR LB SB 2 fz2 w11 w') ?_ (ho_of (by conv => lhs; whnf) (by kernel_rfl)) (by rfl) (by decide) rfl Try.func33 (by kernel_rfl) (by rfl) ⟨rfl, rfl, _, Try.func14⟩ ?_
    · walk_nrm
      exact hpt
    rintro v w12 ⟨rfl, H12⟩
    clear hpt
    walk_nrm
    repeat (first | refine Walk.cx ?_ | (refine Walk.cReg ?_; simp only [z14]) | (refine Walk.oq ?_; try walk_nrm) | (refine Walk.un ?_; walk_nrm))
    have hpt := rput_w (main := true) (V := fun _ => none) hA H12.I 2 9 (by decide)
    refine Walk.callP (Post := fun v w' => v = .int .i64 0 ∧ SolR LB SB 2 fz3 w12 w') ?_ (ho_of (by conv => lhs; whnf) (by kernel_rfl)) (by rfl) (by decide) rfl Try.func33 (by kernel_rfl) (by rfl) ⟨rfl, rfl, _, Try.func14⟩ ?_
    · walk_nrm
      exact hpt
    rintro v w13 ⟨rfl, H13⟩
    clear hpt
    walk_nrm
    repeat (first | refine Walk.cx ?_ | (refine Walk.cReg ?_; simp only [z14]) | (refine Walk.oq ?_; try walk_nrm) | (refine Walk.un ?_; walk_nrm))
    have hgt := rget_w (main := true) (V := fun _ => none) hA H13.I 2
    rw [fz_g2] at hgt
    refine Walk.callP (Post := fun x w' => ∃ a er, x = .tuple #[.int .i64 a, .int .i64 er] ∧ (⟨true, 9, []⟩ : Ans) = ⟨er == 0, if er = 0 then a else er, []⟩ ∧ SolR LB SB 2 fz3 w13 w') ?_ (ho_of (by conv => lhs; whnf) (by kernel_rfl)) (by rfl) (by decide) rfl Try.func34 (by kernel_rfl) (by rfl) ⟨rfl, rfl, _, Try.func14⟩ ?_
    · walk_nrm
      exact hgt
    rintro v w14 ⟨a, er, rfl, he, H14⟩
    clear hgt
    obtain ⟨rfl, rfl⟩ := got_ok he
    clear he
    walk_nrm
    repeat (first | refine Walk.cx ?_ | (refine Walk.cReg ?_; simp only [z14]) | (refine Walk.oq ?_; try walk_nrm) | (refine Walk.un ?_; walk_nrm))
    have hgt := rget_w (main := true) (V := fun _ => none) hA H14.I 0
    rw [fz_g0] at hgt
    refine Walk.callP (Post := fun x w' => ∃ a er, x = .tuple #[.int .i64 a, .int .i64 er] ∧ (⟨false, 10, []⟩ : Ans) = ⟨er == 0, if er = 0 then a else er, []⟩ ∧ SolR LB SB 2 fz3 w14 w') ?_ (ho_of (by conv => lhs; whnf) (by kernel_rfl)) (by rfl) (by decide) rfl Try.func34 (by kernel_rfl) (by rfl) ⟨rfl, rfl, _, Try.func14⟩ ?_
    · walk_nrm
      exact hgt
    rintro v w15 ⟨a, er, rfl, he, H15⟩
    clear hgt
    obtain rfl := got_no he
    clear he
    walk_nrm
    repeat (first | refine Walk.cx ?_ | (refine Walk.cReg ?_; simp only [z14]) | (refine Walk.oq ?_; try walk_nrm) | (refine Walk.un ?_; walk_nrm))
    have hhi := rhigh_w (main := true) (V := fun _ => none) hA H15.I 1 5 2 fz3 ⟨true, 2, []⟩ (fz_hi LB SB)
    refine Walk.callP (Post := fun x w' => x = .int .i64 2 ∧ SolR LB SB 2 fz3 w15 w') ?_ (ho_of (by conv => lhs; whnf) (by kernel_rfl)) (by rfl) (by decide) rfl Try.func36 (by kernel_rfl) (by rfl) ⟨rfl, rfl, _, Try.func14⟩ ?_
    · walk_nrm
      exact hhi
    rintro v w16 ⟨rfl, H16⟩
    clear hhi
    walk_nrm
    repeat (first | refine Walk.cx ?_ | (refine Walk.cReg ?_; simp only [z14]) | (refine Walk.oq ?_; try walk_nrm) | (refine Walk.un ?_; walk_nrm))
    have hth := rthere_w (main := true) (V := fun _ => none) hA H16.I 1
    rw [fz_t1] at hth
    refine Walk.callP (Post := fun x w' => x = .bool true ∧ SolR LB SB 2 fz3 w16 w') ?_ (ho_of (by conv => lhs; whnf) (by kernel_rfl)) (by rfl) (by decide) rfl Try.func35 (by kernel_rfl) (by rfl) ⟨rfl, rfl, _, Try.func14⟩ ?_
    · walk_nrm
      exact hth
    rintro v w17 ⟨rfl, H17⟩
    clear hth
    walk_nrm
    repeat (first | refine Walk.cx ?_ | (refine Walk.cReg ?_; simp only [z14]) | (refine Walk.oq ?_; try walk_nrm) | (refine Walk.un ?_; walk_nrm))
    have hth := rthere_w (main := true) (V := fun _ => none) hA H17.I 0
    rw [fz_t0] at hth
    refine Walk.callP (Post := fun x w' => x = .bool false ∧ SolR LB SB 2 fz3 w17 w') ?_ (ho_of (by conv => lhs; whnf) (by kernel_rfl)) (by rfl) (by decide) rfl Try.func35 (by kernel_rfl) (by rfl) ⟨rfl, rfl, _, Try.func14⟩ ?_
    · walk_nrm
      exact hth
    rintro v w18 ⟨rfl, H18⟩
    clear hth
    walk_nrm
    repeat (first | refine Walk.cx ?_ | (refine Walk.cReg ?_; simp only [z14]) | (refine Walk.oq ?_; try walk_nrm) | (refine Walk.un ?_; walk_nrm))
    have HH := ((((((H11.trans H12).trans H13).trans H14).trans H15).trans H16).trans H17).trans H18
    have zz := HH.size
    have oo := HH.old
    exact Walk.on1 rfl rfl Try.func14 rfl (.stop fun d => ⟨rfl, fun b hb => (oo b (by omega) (by omega) (by omega)).trans (u10 b (by omega)), by show T1 ≤ w18.heap.size; omega⟩)
end
theorem fixed_run (c : Frame) (cs : List Frame) (w : World) : Runs (fun g w' => g = G (c.finish (.bool true)) cs ∧ (∀ b, b < w.heap.size → w'.heap[b]? = w.heap[b]?) ∧ w.heap.size ≤ w'.heap.size) (G (Frame.enter Try.prog 14 #[] .normal) (c :: cs)) w := by
  refine Runs.walk (fixed_in c cs w) ?_
  rintro _ w1 ⟨fr, rfl, O1, Z1, hw1, I1, hs1, hB⟩
  refine Runs.then (splay_any (.slice (some ⟨w.heap.size, 0, none⟩) 2 2) [2, 7] (by decide) (.slice (some ⟨w.heap.size + 3, 0, none⟩) 2 2) 99 (some ⟨w.heap.size + 3, 0, none⟩) (w.heap.size + 3) 0 2 2 (fun _ => rfl) (by decide) _ _ _ _ (some ⟨w.heap.size + 4, 0, none⟩) 6 fxSl (by decide) fr (c :: cs) w1 (NumB.lsR (xs := [2, 7]) hw1) fx_is I1 (fun j z hz => ⟨_, 0, rfl, hs1 j z hz⟩) (fun w' _ => firstOps_some _ 2 2 w' (by decide) (.inr ⟨_, rfl⟩))) ?_
  rintro _ w2 ⟨cells, H, rfl⟩
  have O2 := H.old
  have Z2 := H.size
  have hT := H.tr.tr
  rw [fx_state] at hT
  refine Runs.walk (hB cells _ _ _ w2 hT (fx_run _ _)) ?_
  rintro _ w3 ⟨rfl, O3, Z3⟩
  exact .now ⟨rfl, fun b hb => (O3 b (by omega)).trans ((O2 b (by omega)).trans (O1 b hb)), by omega⟩
end
end Go.Proofs.Ytbmijpkdghkbbaa
