/- Part 12. -/
import Derived.Test.YtdmpmoggacjgcaaJ3
import Derived.Test.YtdmpmoggacjgcaaJ4
import Derived.Test.YtdmpmoggacjgcaaJ11
set_option linter.unusedSimpArgs false
set_option maxHeartbeats 8000000
set_option maxRecDepth 100000
namespace Go.Proofs.Ytdmpmoggacjgcaa
open Go.Conc Go.RowKit Go.Relay
open Go.ConcN (upd upd_ne upd_same)
section
section
variable {L : La} {sv : Value}
def FzE (K : Lg L sv) (e0 : K.E) : Type := { e : K.E // ∀ b, K.mine e0 b → K.mine e b ∧ (K.w e).heap[b]? = (K.w e0).heap[b]? }
def FzB (K : Lg L sv) (e0 : K.E) : Lb L where
  main := K.main
  E := FzE K e0
  V := fun e => K.V e.1
  Stop := fun e => K.Stop e.1
  bot := fun e => K.bot e.1
  w := fun e => K.w e.1
  s := fun e => K.s e.1
  tgt := fun e => K.tgt e.1
  fuel := fun e => K.fuel e.1
  mine := fun e b => K.mine e.1 b ∧ ¬ K.mine e0 b
def Fz (K : Lg L sv) (e0 : K.E) : Lg L sv where
  toLb := FzB K e0
  inv := fun e => K.inv e.1
  shA := fun e => K.shA e.1
  mineA := fun e b h => K.mineA e.1 b h.1
  newA := fun e => K.newA e.1
  mv := fun e s' w' h1 h2 h3 => by
    have hz : ∀ b, K.mine e0 b → b < (K.w e.1).heap.size ∧ w'.heap[b]? = (K.w e.1).heap[b]? := fun b h => by
      have hm := K.mineA e.1 b (e.2 b h).1
      exact ⟨hm.2.2, h2 b hm.2.2 (fun x => x.2 h) hm.2.1⟩
    obtain ⟨e', m⟩ := K.mv e.1 s' w' h1 (fun b hb hn hs => h2 b hb (fun x => hn x.1) hs) h3
    refine ⟨⟨e', fun b h => ⟨(m.mine b).2 (.inl (e.2 b h).1), ?_⟩⟩, m.V, m.Stop, m.bot, m.w, m.s, m.tgt, m.fuel, fun b => ?_⟩
    · rw [m.w]; exact (hz b h).2.trans (e.2 b h).2
    · show (K.mine e' b ∧ ¬ K.mine e0 b) ↔ ((K.mine e.1 b ∧ ¬ K.mine e0 b) ∨ ((K.w e.1).heap.size ≤ b ∧ b < w'.heap.size))
      rw [m.mine]
      constructor
      · rintro ⟨h | h, hn⟩
        · exact .inl ⟨h, hn⟩
        · exact .inr h
      · rintro (⟨h, hn⟩ | h)
        · exact ⟨.inl h, hn⟩
        · exact ⟨.inr h, fun hn => by have := (hz b hn).1; omega⟩
  step := fun e d ht fr l hp hl hk => by
    refine K.step e.1 d ht fr l hp hl fun e' ha => ?_
    refine hk ⟨e', fun b h => ?_⟩ ⟨ha.tgt, ha.fuel, ha.size, fun b hb => ⟨⟨(ha.mine b hb.1).1, hb.2⟩, (ha.mine b hb.1).2⟩⟩
    have hm := ha.mine b (e.2 b h).1
    exact ⟨hm.1, hm.2.trans (e.2 b h).2⟩
def fz0 (K : Lg L sv) (e : K.E) : (Fz K e).E := ⟨e, fun _ h => ⟨h, rfl⟩⟩
def Kept (K : Lg L sv) (e e' : K.E) : Prop := ∀ b, K.mine e b → K.mine e' b ∧ (K.w e').heap[b]? = (K.w e).heap[b]?
theorem SCall.fz (K : Lg L sv) {e : K.E} {f : FuncId} {args : Array Value} {Q : Value → (Fz K e).E → Prop} (h : SCall (Fz K e).toLb f args (fz0 K e) Q) : SCall K.toLb f args e (fun v e' => ∃ h : Kept K e e', Q v ⟨e', h⟩) := fun fr l hp hl hk =>
  h fr l hp hl fun v e' hq => hk v e'.1 ⟨e'.2, hq⟩
theorem Mv.new {K : Lg L sv} {e e' : K.E} {s' : L.Sg} {w' : World} (m : Mv K.toLb e e' s' w') {b : Nat} (h1 : (K.w e).heap.size ≤ b) (h2 : b < w'.heap.size) : K.mine e' b := (m.mine b).2 (.inr ⟨h1, h2⟩)
theorem Lg.grow (K : Lg L sv) (e : K.E) {w' : World} (hs : (K.w e).heap.size ≤ w'.heap.size) (hb : ∀ b, b < (K.w e).heap.size → w'.heap[b]? = (K.w e).heap[b]?) : ∃ e', Mv K.toLb e e' (K.s e) w' :=
  K.mv e (K.s e) w' hs (fun b h _ _ => hb b h) (L.stable (K.inv e) fun b h => hb b (L.lt (K.inv e) h))
theorem Lg.own (K : Lg L sv) (e : K.E) {w' : World} (hs : (K.w e).heap.size ≤ w'.heap.size) (hb : ∀ b, b < (K.w e).heap.size → ¬ K.mine e b → w'.heap[b]? = (K.w e).heap[b]?) : ∃ e', Mv K.toLb e e' (K.s e) w' :=
  K.mv e (K.s e) w' hs (fun b h hm _ => hb b h hm) (L.stable (K.inv e) fun b h => hb b (L.lt (K.inv e) h) fun hm => (K.mineA e b hm).2.1 h)
theorem at_slots {b : Frame} {A : Array Value} {todo : List Item} {cs : List Frame} {F : (Nat → Value) → Goroutine} (h : G (b.at ⟨A, []⟩ todo) cs = F (fun k => A.getD k undef)) : ∃ u, G (b.at ⟨A, []⟩ todo) cs = F u := ⟨_, h⟩
theorem slots_walk {P : Program} {main : Bool} {D : World → World → Array Event → Prop} {Stop : Goroutine → World → Prop} {b : Frame} {A : Array Value} {todo : List Item} {cs : List Frame} {w : World} {F : (Nat → Value) → Goroutine} (h : ∀ u, Walk P main D Stop (F u) w) (e : G (b.at ⟨A, []⟩ todo) cs = F (fun k => A.getD k undef)) : Walk P main D Stop (G (b.at ⟨A, []⟩ todo) cs) w := e ▸ h _
theorem Walk.finish {P : Program} {main : Bool} {D : World → World → Array Event → Prop} {Stop : Goroutine → World → Prop} {w : World} {b : Frame} {a : Act} {k : List Item} {cs : List Frame} {ops : Array Oper} {i : Nat} {rest : List Nat} {o : Oper} {v : Value} (ho : ops[i]? = some o)
    (h : Walk P main D Stop (G (b.at (a.put o.dst v) (.inRegion ops rest :: k)) cs) w) : Walk P main D Stop (G ((b.at a (.inRegion ops (i :: rest) :: k)).finish v) cs) w := by
  rw [Frame.finish_at, ho]
  exact h
theorem LW.to {K : Lb L} {e e' : K.E} {s' : L.Sg} {w' : World} {fr : Frame} {l : List Frame} (m : Mv K e e' s' w') (h : LW K e' (G fr (l ++ K.bot e'))) : Walk Try.prog K.main (DR (K.V e)) (K.Stop e) (G fr (l ++ K.bot e)) w' := by
  rw [m.bot] at h
  exact LW.mv m h
end
end
section
theorem structT (t : TypeId) (h : (match Try.prog.underlying t with | some (.struct _) => true | _ => false) = true) : ∃ fs, Try.prog.underlying t = some (.struct fs) := by
  revert h
  cases Try.prog.underlying t with
  | none => simp
  | some d =>
    cases d with
    | struct fs => exact fun _ => ⟨fs, rfl⟩
    | _ => simp
section
variable {P : Program} {w : World}
theorem run_eql_func (t : TypeId) (f : Fn) (x y : Array Value) {a b c} (hu : P.underlying t = some (.func a b c)) : (binOp .eql t (.func f x y) .nilFunc).run P w = .ok (.bool false) w := by
  simp only [binOp]
  simp [Op.equal, Op.maxDepth, run_eqIn_func (w := w) 9999 t f x y hu]
theorem ev_eql_func (t : TypeId) (f : Fn) (x y : Array Value) (es : Array Event) {a b c} (hu : P.underlying t = some (.func a b c)) : (binOp .eql t (.func f x y) .nilFunc).events P w es = es := by
  simp only [binOp]
  simp [Op.equal, Op.maxDepth, run_eqIn_func (w := w) 9999 t f x y hu, ev_eqIn_func (w := w) 9999 t f x y es hu]
end
section
variable {P : Program} {w : World}
theorem run_eqIn_nilSlice (d : Nat) (t : TypeId) {e} (hu : P.underlying t = some (.slice e)) : (Op.equalIn (d + 1) t (.slice none 0 0) (.slice none 0 0)).run P w = .ok true w := by simp [Op.equalIn, run_underlying hu]
theorem ev_eqIn_nilSlice (d : Nat) (t : TypeId) (es : Array Event) {e} (hu : P.underlying t = some (.slice e)) : (Op.equalIn (d + 1) t (.slice none 0 0) (.slice none 0 0)).events P w es = es := by simp [Op.equalIn, run_underlying hu]
theorem run_eql_nilSlice (t : TypeId) {e} (hu : P.underlying t = some (.slice e)) : (binOp .eql t (.slice none 0 0) (.slice none 0 0)).run P w = .ok (.bool true) w := by
  simp only [binOp]
  simp [Op.equal, Op.maxDepth, run_eqIn_nilSlice (w := w) 9999 t hu]
theorem ev_eql_nilSlice (t : TypeId) (es : Array Event) {e} (hu : P.underlying t = some (.slice e)) : (binOp .eql t (.slice none 0 0) (.slice none 0 0)).events P w es = es := by
  simp only [binOp]
  simp [Op.equal, Op.maxDepth, run_eqIn_nilSlice (w := w) 9999 t hu, ev_eqIn_nilSlice (w := w) 9999 t es hu]
end
theorem results_cell {fn : Func} {tmps : Array Value} {t : Tmp} {ty tt : TypeId} {T : Nat} {cells : Array Value} {w : World} {V : Nat → Option Wait} (hr : fn.results = #[.cell t ty]) (h8 : tmps.getD t undef = .pointer (some ⟨T, 0, none⟩)) (hT : w.heap[T]? = some (.cells cells tt (0, 0)))
    {fs} (hu : Try.prog.underlying ty = some (.struct fs)) (hi : (Try.prog.info? ty).map (·.size) = some cells.size) :
    (results fn tmps).run Try.prog w = .ok (.agg cells) w ∧ ∀ e ∈ (results fn tmps).events Try.prog w #[], EvR V e := by
  have hl := run_loadVar_row (P := Try.prog) w T tt ty cells (0, 0) _ hT hu rfl hi
  have he := events_loadVar_reads (P := Try.prog) w ⟨T, 0, none⟩ ty hu rfl hi
  simp only [Array.getD_eq_getD_getElem?] at h8
  constructor
  · simp only [results, hr]
    simp [h8, asAddr, hl]
  · intro e hm
    refine evR_isRead (he e ?_)
    simp only [results, hr] at hm
    simpa [h8, asAddr, hl] using hm
theorem Walk.onCell {main : Bool} {V : Nat → Option Wait} {Stop : Goroutine → World → Prop} {fr c : Frame} {cs : List Frame} {w : World} {fn : Func} {t : Tmp} {ty tt : TypeId} {T : Nat} {cells : Array Value} (hm : fr.mode = .returning) (hn : fr.kind = .normal) (hd : fr.defers = []) (hf : Try.prog.funcs[fr.fn]? = some fn)
    (hr : fn.results = #[.cell t ty]) (h8 : fr.tmps.getD t undef = .pointer (some ⟨T, 0, none⟩)) (hT : w.heap[T]? = some (.cells cells tt (0, 0))) (hs : (match Try.prog.underlying ty with | some (.struct _) => true | _ => false) = true) (hi : (Try.prog.info? ty).map (·.size) = some cells.size)
    (h : Walk Try.prog main (DR V) Stop (G (c.finish (.agg cells)) cs) w) : Walk Try.prog main (DR V) Stop (G fr (c :: cs)) w := by
  obtain ⟨fs, hu⟩ := structT ty hs
  exact Walk.evs (fun x => seen Try.prog fr.fn ((results fn fr.tmps).events Try.prog (w.at x) #[])) rfl (fun x => stepG_leaveF hm hn hd hf (results_cell (V := V) (w := w.at x) hr h8 hT hu hi).1)
    (fun x e he => (results_cell (V := V) (w := w.at x) hr h8 hT hu hi).2 e (mem_seen he)) h
section
variable {main : Bool} {V : Nat → Option Wait}
noncomputable def reg82_0 := rg Try.f82.body [0]
noncomputable def reg82_1 := rg Try.f82.body [1, 0, 0]
noncomputable def reg82_2 := rg Try.f82.body [1, 0, 1, 0, 0]
noncomputable def reg82_3 := rg Try.f82.body [1, 1, 0]
theorem z82 : List.range reg82_0.size = [0] ∧ List.range reg82_1.size = [0, 1] ∧ List.range reg82_2.size = [0] ∧ List.range reg82_3.size = [0, 1, 2, 3] := by refine ⟨?_, ?_, ?_, ?_⟩ <;> kernel_rfl
theorem code82_is : Try.f82.body = some (.seq (.region 0 reg82_0 false) (.seq (.seq (.region 1 reg82_1 false) (.cond (.tmp 4 ) (.seq (.region 2 reg82_2 false) (.ret)) (.skip))) (.seq (.region 3 reg82_3 false) (.ret)))) := by kernel_rfl
theorem clone_nil (w : World) : CallV Try.prog main V 82 #[.slice none 0 0] w (.slice none 0 0) w := by
  have hn1 := fun w => run_eql_nilSlice (P := Try.prog) (w := w) 25 (by kernel_rfl : Try.prog.underlying 25 = some (.slice 2))
  have hn2 := fun w es => ev_eql_nilSlice (P := Try.prog) (w := w) 25 es (by kernel_rfl : Try.prog.underlying 25 = some (.slice 2))
  refine callW_in Try.func82 code82_is fun fr cs => ?_
  simp only [Try.ntmps82, ez, Nat.reduceAdd, Nat.reduceSub]
  repeat (first | refine Walk.cx ?_ | (refine Walk.cReg ?_; simp only [z82]) | (refine Walk.oq ?_; try walk_nrm) | (refine Walk.un ?_; walk_nrm))
  exact Walk.ret1 rfl rfl Try.func82 rfl fun d => ⟨rfl, d, rfl⟩
end
theorem setRow_self {w : World} {g : Nat} {old cells : Array Value} {tt : TypeId} {fr : Nat × Nat} (h : w.heap[g]? = some (.cells old tt fr)) : (w.setRow g cells).heap[g]? = some (.cells cells tt fr) := setRow_heap w g old cells tt fr h
theorem setRow_other (w : World) {g b : Nat} (cells : Array Value) (h : b ≠ g) : (w.setRow g cells).heap[b]? = w.heap[b]? := by
  unfold World.setRow
  simp only [Array.getElem?_modify]
  rw [if_neg (Ne.symm h)]
theorem setRow_size (w : World) (g : Nat) (cells : Array Value) : (w.setRow g cells).heap.size = w.heap.size := by
  unfold World.setRow
  simp
end
section
def DoOK (L : La) (f : FuncId) (first cap : Array Value) : Prop := ∀ (sv : Value) (K : Lg L sv) (e : K.E) (th : Int) (op : OpV), K.tgt e = L.enter (K.s e) op →
  SCall K.toLb f (first ++ #[sv, .int .i64 th, opVal op] ++ cap) e (fun v e' => ∃ a, K.tgt e' = (K.s e', .inl a) ∧ v = ansVal a)
noncomputable def reg69_0 := rg Try.f69.body [0]
noncomputable def reg69_1 := rg Try.f69.body [1, 0, 0]
noncomputable def reg69_2 := rg Try.f69.body [1, 0, 1, 0, 0]
noncomputable def reg69_3 := rg Try.f69.body [1, 1, 0]
noncomputable def reg69_4 := rg Try.f69.body [1, 1, 1, 0]
noncomputable def reg69_5 := rg Try.f69.body [1, 1, 1, 1, 0]
theorem z69 : List.range reg69_0.size = [0, 1] ∧ List.range reg69_1.size = [0, 1] ∧ List.range reg69_2.size = [0, 1] ∧ List.range reg69_3.size = [0, 1, 2, 3, 4, 5, 6] ∧ List.range reg69_4.size = [0, 1, 2, 3, 4] ∧ List.range reg69_5.size = [0, 1] := by refine ⟨?_, ?_, ?_, ?_, ?_, ?_⟩ <;> kernel_rfl
theorem code69_is : Try.f69.body = some (.seq (.region 0 reg69_0 false) (.seq (.seq (.region 1 reg69_1 false) (.cond (.tmp 11 ) (.seq (.region 2 reg69_2 false) (.ret)) (.skip))) (.seq (.region 3 reg69_3 false) (.seq (.region 4 reg69_4 false) (.seq (.region 5 reg69_5 false) (.ret)))))) := by kernel_rfl
section
variable {L : La} {sv : Value}
theorem doOne_s (K : Lg L sv) (e : K.E) (op : OpV) (th : Int) (f : FuncId) (fn : Func) (first cap : Array Value) (hf : Try.prog.funcs[f]? = some fn) (hname : (fn.name == "runtime.NumGoroutine") = false) (hb : fn.body.isNone = false) (hdo : DoOK L f first cap) (ht : K.tgt e = L.enter (K.s e) op) :
    SCall K.toLb 69 #[.func (.func f) first cap, sv, .int .i64 th, opVal op] e (fun v e' => ∃ a, K.tgt e' = (K.s e', .inl a) ∧ v = ansVal a) := by
  intro fr l hp hl hk
  obtain ⟨fsO, huO⟩ := structT 45 (by kernel_rfl)
  obtain ⟨fsA, huA⟩ := structT 32 (by kernel_rfl)
  have hn1 := fun w => run_eql_func (P := Try.prog) (w := w) 79 (.func f) first cap (by kernel_rfl : Try.prog.underlying 79 = some (.func #[100, 3, 45] #[32] false))
  have hn2 := fun w es => ev_eql_func (P := Try.prog) (w := w) 79 (.func f) first cap es (by kernel_rfl : Try.prog.underlying 79 = some (.func #[100, 3, 45] #[32] false))
  unfold LW
  obtain ⟨ok, oa, ob, oc⟩ := op
  simp only [opVal] at *
  rw [enter_at _ Try.func69 code69_is]
  simp only [Try.ntmps69, ez, Nat.reduceAdd, Nat.reduceSub]
  repeat (first | refine Walk.cx ?_ | (refine Walk.cReg ?_; simp only [z69]) | (refine Walk.oq ?_; try walk_nrm) | (refine Walk.un ?_; walk_nrm))
  (refine Walk.oa ?_; try walk_nrm)
  (refine Walk.oa ?_; try walk_nrm)
  repeat (first | refine Walk.cx ?_ | (refine Walk.cReg ?_; simp only [z69]) | (refine Walk.oq ?_; try walk_nrm) | (refine Walk.un ?_; walk_nrm))
  have hsz : (((K.w e).alloc (.cells #[.int .i64 ok, .int .i64 oa, .int .i64 ob, .int .i64 oc] 45)).alloc (.cells #[.bool false, .int .i64 0, .slice none 0 0] 32)).heap.size = (K.w e).heap.size + 2 := by simp
  have hA1 : ((K.w e).alloc (.cells #[.int .i64 ok, .int .i64 oa, .int .i64 ob, .int .i64 oc] 45)).heap.size = (K.w e).heap.size + 1 := by simp
  have c1 : (((K.w e).alloc (.cells #[.int .i64 ok, .int .i64 oa, .int .i64 ob, .int .i64 oc] 45)).alloc (.cells #[.bool false, .int .i64 0, .slice none 0 0] 32)).heap[(K.w e).heap.size]? = some (.cells #[.int .i64 ok, .int .i64 oa, .int .i64 ob, .int .i64 oc] 45) := by
    rw [heap_new_lt _ _ (by omega)]
    exact heap_alloc_new _ _
  have c2 : (((K.w e).alloc (.cells #[.int .i64 ok, .int .i64 oa, .int .i64 ob, .int .i64 oc] 45)).alloc (.cells #[.bool false, .int .i64 0, .slice none 0 0] 32)).heap[(K.w e).heap.size + 1]? = some (.cells #[.bool false, .int .i64 0, .slice none 0 0] 32) := by
    have := heap_alloc_new ((K.w e).alloc (.cells #[.int .i64 ok, .int .i64 oa, .int .i64 ob, .int .i64 oc] 45)) (.cells #[.bool false, .int .i64 0, .slice none 0 0] 32)
    rwa [hA1] at this
  obtain ⟨e1, m1⟩ := K.grow e (w' := ((K.w e).alloc (.cells #[.int .i64 ok, .int .i64 oa, .int .i64 ob, .int .i64 oc] 45)).alloc (.cells #[.bool false, .int .i64 0, .slice none 0 0] 32)) (by omega) (fun b hb' => by
    rw [heap_new_lt _ _ (by omega)]
    exact heap_new_lt _ _ hb')
  try simp only [hA1]
  generalize hw2 : ((K.w e).alloc (.cells #[.int .i64 ok, .int .i64 oa, .int .i64 ob, .int .i64 oc] 45)).alloc (.cells #[.bool false, .int .i64 0, .slice none 0 0] 32) = w2 at *
  generalize hN : (K.w e).heap.size = N at *
  refine Walk.loadS 45 (.tmp 7) (ho_of (by conv => lhs; whnf) (by kernel_rfl)) (by rfl) (by decide) rfl N 0 [.int .i64 ok, .int .i64 oa, .int .i64 ob, .int .i64 oc] (.struct fsO) rfl (fun j v hj => ?_) huO rfl (by kernel_rfl) ?_
  · rw [Nat.zero_add, cell_of c1]
    simpa using hj
  walk_nrm
  repeat (first | refine Walk.cx ?_ | (refine Walk.cReg ?_; simp only [z69]) | (refine Walk.oq ?_; try walk_nrm) | (refine Walk.un ?_; walk_nrm))
  refine Walk.ctl rfl (fun w' => stepG_callValue (ho_of (by conv => lhs; whnf) (by kernel_rfl)) (by rfl) (by decide) rfl rfl hf hname hb) ?_
  walk_nrm
  generalize hX : Frame.at _ _ _ = X
  refine LW.to (l := X :: fr :: l) m1 ?_
  have hpX : Plain X := by subst hX; exact ⟨rfl, rfl, _, Try.func69⟩
  have hpl : ∀ x ∈ fr :: l, Plain x := fun x hx => by
    rcases List.mem_cons.1 hx with rfl | hx
    · exact hp
    · exact hl x hx
  refine (SCall.fz K (hdo sv (Fz K e1) (fz0 K e1) th ⟨ok, oa, ob, oc⟩ (by show K.tgt e1 = L.enter (K.s e1) _; rw [m1.tgt, m1.s, ht]))) X (fr :: l) hpX hpl ?_
  rintro v e2 ⟨hkept, a, ht2, rfl⟩
  obtain ⟨hm2, hb2⟩ := hkept (N + 1) (m1.new (by omega) (by omega))
  rw [m1.w, c2] at hb2
  have hap2 := (K.mineA e2 _ hm2).1
  have hlt2 := (K.mineA e2 _ hm2).2.2
  rw [← hX]
  clear hX hpX
  unfold LW
  simp only [ansVal]
  refine Walk.finish (ho_of (by conv => lhs; whnf) (by kernel_rfl)) ?_
  walk_nrm
  (refine Walk.oa ?_; try walk_nrm)
  have hap3 := K.newA e2 _ (Nat.le_refl (K.w e2).heap.size)
  have c3 := heap_alloc_new (K.w e2) (.cells #[.bool false, .int .i64 0, .slice none 0 0] 32)
  have c4 : ((K.w e2).alloc (.cells #[.bool false, .int .i64 0, .slice none 0 0] 32)).heap[N + 1]? = _ := (heap_new_lt _ _ hlt2).trans hb2
  have hs3 : ((K.w e2).alloc (.cells #[.bool false, .int .i64 0, .slice none 0 0] 32)).heap.size = (K.w e2).heap.size + 1 := by simp
  have o3 : ∀ b, b < (K.w e2).heap.size → ((K.w e2).alloc (.cells #[.bool false, .int .i64 0, .slice none 0 0] 32)).heap[b]? = (K.w e2).heap[b]? := fun b hb' => heap_new_lt _ _ hb'
  generalize hM : (K.w e2).heap.size = M at *
  generalize (K.w e2).alloc (.cells #[.bool false, .int .i64 0, .slice none 0 0] 32) = w3 at *
  refine Walk.storeS 32 (.tmp 9) (.tmp 17) (ho_of (by conv => lhs; whnf) (by kernel_rfl)) (by rfl) (by decide) rfl M #[.bool a.1, .int .i64 a.2, .slice none 0 0] _ 32 rfl rfl c3 (by kernel_rfl) (by rfl) (by simp [Value.oneCell']) hap3 ?_
  have c5 := setRow_self (cells := #[.bool a.1, .int .i64 a.2, .slice none 0 0]) c3
  have c6 : (w3.setRow M #[.bool a.1, .int .i64 a.2, .slice none 0 0]).heap[N + 1]? = _ := (setRow_other w3 _ (show N + 1 ≠ M by omega)).trans c4
  have hs4 := setRow_size w3 M #[.bool a.1, .int .i64 a.2, .slice none 0 0]
  have o4 : ∀ b, b < M → (w3.setRow M #[.bool a.1, .int .i64 a.2, .slice none 0 0]).heap[b]? = (K.w e2).heap[b]? := fun b hb' => (setRow_other w3 _ (show b ≠ M by omega)).trans (o3 b hb')
  generalize w3.setRow M #[.bool a.1, .int .i64 a.2, .slice none 0 0] = w4 at *
  have d2 := cell_of c5 2
  have z2 := frozen_of c5 2
  simp only [List.getElem?_toArray, List.getElem?_cons_succ, List.getElem?_cons_zero] at d2
  walk_nrm
  repeat (first | refine Walk.cx ?_ | (refine Walk.cReg ?_; simp only [z69]) | (refine Walk.oq ?_; try walk_nrm) | (refine Walk.un ?_; walk_nrm))
  refine Walk.callV (x := .slice none 0 0) (W := w4) ?_ (ho_of (by conv => lhs; whnf) (by kernel_rfl)) (by rfl) (by decide) rfl Try.func82 (by kernel_rfl) (by rfl) ?_
  · walk_nrm
    exact clone_nil w4
  walk_nrm
  repeat (first | refine Walk.cx ?_ | (refine Walk.cReg ?_; simp only [z69]) | (refine Walk.oq ?_; try walk_nrm) | (refine Walk.un ?_; walk_nrm))
  (have hfr := hap3.1 ⟨M, 2, none⟩ rfl; refine Walk.os hfr d2 ?_; clear hfr; try walk_nrm)
  have c7 : (w4.setCell ⟨M, 2, none⟩ (.slice none 0 0)).heap[M]? = some (.cells #[.bool a.1, .int .i64 a.2, .slice none 0 0] 32) := by
    rw [heap_set_self _ _ c5]
    simp
  have c8 : (w4.setCell ⟨M, 2, none⟩ (.slice none 0 0)).heap[N + 1]? = _ := (heap_set_other w4 _ _ _ (show N + 1 ≠ M by omega)).trans c6
  have hs5 := size_set w4 ⟨M, 2, none⟩ (.slice none 0 0)
  have o5 : ∀ b, b < M → (w4.setCell ⟨M, 2, none⟩ (.slice none 0 0)).heap[b]? = (K.w e2).heap[b]? := fun b hb' => (heap_set_other w4 _ _ _ (show b ≠ M by omega)).trans (o4 b hb')
  generalize w4.setCell ⟨M, 2, none⟩ (.slice none 0 0) = w5 at *
  repeat (first | refine Walk.cx ?_ | (refine Walk.cReg ?_; simp only [z69]) | (refine Walk.oq ?_; try walk_nrm) | (refine Walk.un ?_; walk_nrm))
  refine Walk.loadS 32 (.tmp 9) (ho_of (by conv => lhs; whnf) (by kernel_rfl)) (by rfl) (by decide) rfl M 0 [.bool a.1, .int .i64 a.2, .slice none 0 0] (.struct fsA) rfl (fun j v hj => ?_) huA rfl (by kernel_rfl) ?_
  · rw [Nat.zero_add, cell_of c7]
    simpa using hj
  walk_nrm
  refine Walk.storeS 32 (.tmp 8) (.tmp 22) (ho_of (by conv => lhs; whnf) (by kernel_rfl)) (by rfl) (by decide) rfl (N + 1) #[.bool a.1, .int .i64 a.2, .slice none 0 0] _ 32 rfl rfl c8 (by kernel_rfl) (by rfl) (by simp [Value.oneCell']) hap2 ?_
  have c9 := setRow_self (cells := #[.bool a.1, .int .i64 a.2, .slice none 0 0]) c8
  obtain ⟨e3, m3⟩ := K.own e2 (w' := w5.setRow (N + 1) #[.bool a.1, .int .i64 a.2, .slice none 0 0]) (by rw [setRow_size]; omega) (fun b hb' hbm => (setRow_other w5 _ (fun he : b = N + 1 => hbm (by rw [he]; exact hm2))).trans (o5 b (by omega)))
  generalize w5.setRow (N + 1) #[.bool a.1, .int .i64 a.2, .slice none 0 0] = w6 at *
  walk_nrm
  repeat (first | refine Walk.cx ?_ | (refine Walk.cReg ?_; simp only [z69]) | (refine Walk.oq ?_; try walk_nrm) | (refine Walk.un ?_; walk_nrm))
  refine Walk.onCell (T := N + 1) rfl rfl rfl Try.func69 rfl (by rfl) c9 (by kernel_rfl) (by kernel_rfl) ?_
  refine LW.to m3 (hk _ e3 ⟨a, ?_, rfl⟩)
  rw [m3.tgt, m3.s]
  exact ht2
end
end
section
noncomputable def reg68_0 := rg Try.f68.body [0]
noncomputable def reg68_1 := rg Try.f68.body [1, 0, 0, 0]
noncomputable def reg68_2 := rg Try.f68.body [1, 0, 0, 1, 1, 0, 0, 0]
noncomputable def reg68_3 := rg Try.f68.body [1, 0, 0, 1, 1, 0, 0, 1]
theorem size68_3 : reg68_3.size = 15 := by kernel_rfl
noncomputable def reg68_4 := rg Try.f68.body [1, 0, 0, 1, 1, 1]
theorem z68 : List.range reg68_0.size = [0, 1, 2] ∧ List.range reg68_1.size = [0] ∧ List.range reg68_2.size = [0, 1, 2, 3] ∧ List.range reg68_3.size = [0, 1, 2, 3, 4, 5, 6, 7, 8, 9, 10, 11, 12, 13, 14] ∧ List.range reg68_4.size = [0, 1] := by refine ⟨?_, ?_, ?_, ?_, ?_⟩ <;> kernel_rfl
theorem code68_is : Try.f68.body = some (.seq (.region 0 reg68_0 false) (.block 0 (.loop (.seq (.region 1 reg68_1 false) (.seq (.cond (.tmp 11 ) (.skip) (.exit 0)) (.seq (.block 1 (.seq (.region 2 reg68_2 false) (.region 3 reg68_3 true))) (.region 4 reg68_4 false))))))) := by kernel_rfl
def ansA (w1 : World) (a : Ans) : World := w1.alloc (.cells #[.bool a.1, .int .i64 a.2, .slice none 0 0] 32)
structure AppO (g : OG) (w1 : World) (a : Ans) (hd : Value) (ans : List Ans) (gb gcap : Nat) (w3 : World) : Prop where
  own : w3.ownsRow g.w0.heap.size 32 3 (.slice (some ⟨gb, 0, none⟩) (ans.length + 1) gcap) (ans.length + 1) (ansRow ans ++ [.bool a.1, .int .i64 a.2, .slice none 0 0])
  grown : (ansA w1 a).grownBy w3 hd.ownBlock
  hat : hd.ownBlock = some gb ∨ gb = (ansA w1 a).heap.size
  hlt : gb < w3.heap.size
structure ThS (L : La) (g : OG) (i pO pA pI pD acap : Nat) (oa : Option Addr) (oc : Nat) (dv : Value) : Prop where
  hi : i < g.n
  n64 : g.n ≤ 64
  len : (g.ops i).length ≤ 65536
  cO : g.w0.cell? ⟨pO, 0, none⟩ = some (.slice oa (g.ops i).length oc)
  cA : g.w0.cell? ⟨pA, 0, none⟩ = some (.slice (some ⟨g.A, 0, none⟩) g.n acap)
  cI : g.w0.cell? ⟨pI, 0, none⟩ = some (.int .i64 (i : Nat))
  cD : g.w0.cell? ⟨pD, 0, none⟩ = some dv
  nO : ¬ L.sh pO ∧ pO ≠ g.A
  nA : ¬ L.sh pA ∧ pA ≠ g.A
  nI : ¬ L.sh pI ∧ pI ≠ g.A
  nD : ¬ L.sh pD ∧ pD ≠ g.A
  ops : ∀ (j : Nat) (o : OpV), (g.ops i)[j]? = some o → ∃ b off, oa = some ⟨b, off, none⟩ ∧ ¬ L.sh b ∧ b ≠ g.A ∧ g.w0.cell? ⟨b, off + j * 4, none⟩ = some (.int .i64 o.k) ∧ g.w0.cell? ⟨b, off + j * 4 + 1, none⟩ = some (.int .i64 o.a) ∧ g.w0.cell? ⟨b, off + j * 4 + 2, none⟩ = some (.int .i64 o.b) ∧ g.w0.cell? ⟨b, off + j * 4 + 3, none⟩ = some (.int .i64 o.c)
structure ClO (g : OG) (i pA pI pD acap : Nat) (dv hd : Value) (w : World) : Prop where
  hA : w.cell? ⟨pA, 0, none⟩ = some (.slice (some ⟨g.A, 0, none⟩) g.n acap)
  hI : w.cell? ⟨pI, 0, none⟩ = some (.int .i64 (i : Nat))
  hD : w.cell? ⟨pD, 0, none⟩ = some dv
  hH : w.cell? ⟨g.A, i, none⟩ = some hd
  hHz : w.frozen? ⟨g.A, i, none⟩ = false
section
variable {L : La} {g : OG} {S : Stile} {i : Nat}
theorem EC.ro (e : EC L g S i) {b : Nat} (h : b < g.w0.heap.size) (h1 : ¬ L.sh b) (h2 : b ≠ g.A) : e.w.heap[b]? = g.w0.heap[b]? := by
  obtain ⟨hd0, r⟩ := e.rely
  exact (e.frame b (Nat.lt_of_lt_of_le h r.size) (fun hm => by have := (r.lo b hm).1; omega) h1 h2).trans (r.old b h h1 h2)
theorem EC.cell (e : EC L g S i) {b j : Nat} {v : Value} (h : g.w0.cell? ⟨b, j, none⟩ = some v) (h1 : ¬ L.sh b ∧ b ≠ g.A) : e.w.cell? ⟨b, j, none⟩ = some v :=
  (World.cell?_of_block (a := ⟨b, j, none⟩) (e.ro (cell_lt' h) h1.1 h1.2)).trans h
theorem EC.apA (e : EC L g S i) : ∀ a : Addr, a.block = g.A → Free e.τ.V a := (e.apart (b := g.A) (.inl (by obtain ⟨hd0, r⟩ := e.rely; exact r.alo))).1
variable {pO pA pI pD acap : Nat} {oa : Option Addr} {oc : Nat} {dv hd : Value}
theorem ThS.cl (T : ThS L g i pO pA pI pD acap oa oc dv) (e : EC L g S i) (h : e.hd = hd) : ClO g i pA pI pD acap dv hd e.w := by
  obtain ⟨arr, arr', h1, h2, h3, h4, h5⟩ := e.an
  exact ⟨e.cell T.cA T.nA, e.cell T.cI T.nI, e.cell T.cD T.nD, (cell_of h2 i).trans (h ▸ h4), frozen_of h2 i⟩
theorem ClO.new {w : World} (h : ClO g i pA pI pD acap dv hd w) (a : Ans) : ClO g i pA pI pD acap dv hd (ansA w a) :=
  ⟨cell_alloc w _ h.hA, cell_alloc w _ h.hI, cell_alloc w _ h.hD, cell_alloc w _ h.hH, frozen_alloc w _ h.hH h.hHz⟩
theorem ThS.app (T : ThS L g i pO pA pI pD acap oa oc dv) (e : EC L g S i) {a : Ans} {gb gcap : Nat} {w3 : World} (h : AppO g e.w a e.hd e.ans gb gcap w3) (hc : ClO g i pA pI pD acap dv hd (ansA e.w a)) : ClO g i pA pI pD acap dv hd w3 := by
  obtain ⟨hd0, r⟩ := e.rely
  have far : ∀ b, b < g.w0.heap.size → some b ≠ e.hd.ownBlock := fun b hb he => by have := (e.lo (e.hdo b he.symm)).1; omega
  have f1 : ∀ {b j : Nat} {v : Value}, b < g.w0.heap.size → (ansA e.w a).cell? ⟨b, j, none⟩ = some v → w3.cell? ⟨b, j, none⟩ = some v := fun {b j v} hb hv =>
    (h.grown.cell_far _ (cell_lt _ hv) (far b hb)).trans hv
  exact ⟨f1 (cell_lt' T.cA) hc.hA, f1 (cell_lt' T.cI) hc.hI, f1 (cell_lt' T.cD) hc.hD, f1 r.alo hc.hH, (h.grown.frozen_far _ (cell_lt _ hc.hH) (far _ r.alo)).trans hc.hHz⟩
def Ph (L : La) (g : OG) (S : Stile) (i : Nat) (o : OpV) (rest' : List OpV) (X : Nat) (f : Nat → Bool) (u : Nat → Value) (e : EC L g S i) (w' : World) : Prop :=
  (f 10 = false ∧ e.τ.goal = landO L (L.enter e.s o) rest' e.ans ∧ e.w.heap[X]? = some (.cells #[.int .i64 o.k, .int .i64 o.a, .int .i64 o.b, .int .i64 o.c] 45) ∧ ∃ d, w' = e.w.at d) ∨
  (f 10 = true ∧ ∃ a, u 24 = ansVal a ∧ e.τ.goal = settleO L e.s rest' (e.ans ++ [a]) ∧
    ((f 11 = false ∧ f 12 = false ∧ f 14 = false ∧ ∃ d, w' = e.w.at d) ∨
     (f 11 = true ∧ f 12 = false ∧ f 14 = false ∧ u 25 = .slice (some ⟨e.w.heap.size, 0, none⟩) 1 1 ∧ ∃ d, w' = (ansA e.w a).at d) ∨
     (f 11 = true ∧ f 12 = true ∧ ∃ gb gcap w3, AppO g e.w a e.hd e.ans gb gcap w3 ∧ u 26 = .slice (some ⟨gb, 0, none⟩) (e.ans.length + 1) gcap ∧
       ((f 14 = false ∧ ∃ d, w' = w3.at d) ∨ (f 14 = true ∧ ∃ d, w' = (w3.setCell ⟨g.A, i, none⟩ (u 26)).at d)))))
variable {o : OpV} {rest' : List OpV} {X : Nat} {f : Nat → Bool} {u : Nat → Value} {e : EC L g S i} {w' : World}
theorem Ph.quiet {j d : Nat} {v : Value} (h : Ph L g S i o rest' X f u e w') (hj : j ≠ 10 ∧ j ≠ 11 ∧ j ≠ 12 ∧ j ≠ 14) (hd : d ≠ 24 ∧ d ≠ 25 ∧ d ≠ 26) : Ph L g S i o rest' X (upd f j true) (upd u d v) e w' := by
  unfold Ph
  rw [upd_ne f true (Ne.symm hj.1), upd_ne f true (Ne.symm hj.2.1), upd_ne f true (Ne.symm hj.2.2.1), upd_ne f true (Ne.symm hj.2.2.2), upd_ne u v (Ne.symm hd.1), upd_ne u v (Ne.symm hd.2.1), upd_ne u v (Ne.symm hd.2.2)]
  exact h
theorem Ph.early (h : Ph L g S i o rest' X f u e w') (h10 : f 10 = false) : w'.heap[X]? = some (.cells #[.int .i64 o.k, .int .i64 o.a, .int .i64 o.b, .int .i64 o.c] 45) := by
  rcases h with ⟨_, _, h, d, rfl⟩ | ⟨h, _⟩
  · exact h
  · rw [h10] at h; cases h
theorem Ph.callAt (h : Ph L g S i o rest' X f u e w') (h10 : f 10 = false) : e.τ.goal = landO L (L.enter e.s o) rest' e.ans ∧ ∃ d, w' = e.w.at d := by
  rcases h with ⟨_, h, _, h2⟩ | ⟨h, _⟩
  · exact ⟨h, h2⟩
  · rw [h10] at h; cases h
theorem Ph.newAt (h : Ph L g S i o rest' X f u e w') (h10 : f 10 = true) (h11 : f 11 = false) : ∃ a, u 24 = ansVal a ∧ e.τ.goal = settleO L e.s rest' (e.ans ++ [a]) ∧ f 12 = false ∧ ∃ d, w' = e.w.at d := by
  rcases h with ⟨h, _⟩ | ⟨_, a, h1, h2, ⟨_, h12, _, h⟩ | ⟨h, _⟩ | ⟨h, _⟩⟩
  · rw [h10] at h; cases h
  · exact ⟨a, h1, h2, h12, h⟩
  · rw [h11] at h; cases h
  · rw [h11] at h; cases h
theorem Ph.appAt (h : Ph L g S i o rest' X f u e w') (h10 : f 10 = true) (h11 : f 11 = true) (h12 : f 12 = false) : ∃ a, u 24 = ansVal a ∧ e.τ.goal = settleO L e.s rest' (e.ans ++ [a]) ∧ u 25 = .slice (some ⟨e.w.heap.size, 0, none⟩) 1 1 ∧ ∃ d, w' = (ansA e.w a).at d := by
  rcases h with ⟨h, _⟩ | ⟨_, a, h1, h2, ⟨h, _⟩ | ⟨_, _, _, h25, h⟩ | ⟨_, h, _⟩⟩
  · rw [h10] at h; cases h
  · rw [h11] at h; cases h
  · exact ⟨a, h1, h2, h25, h⟩
  · rw [h12] at h; cases h
theorem Ph.stAt (h : Ph L g S i o rest' X f u e w') (h10 : f 10 = true) (h11 : f 11 = true) (h12 : f 12 = true) (h14 : f 14 = false) : ∃ a, u 24 = ansVal a ∧ e.τ.goal = settleO L e.s rest' (e.ans ++ [a]) ∧ ∃ gb gcap w3, AppO g e.w a e.hd e.ans gb gcap w3 ∧ u 26 = .slice (some ⟨gb, 0, none⟩) (e.ans.length + 1) gcap ∧ ∃ d, w' = w3.at d := by
  rcases h with ⟨h, _⟩ | ⟨_, a, h1, h2, ⟨h, _⟩ | ⟨_, h, _⟩ | ⟨_, _, gb, gcap, w3, hA, h26, ⟨_, h⟩ | ⟨h, _⟩⟩⟩
  · rw [h10] at h; cases h
  · rw [h11] at h; cases h
  · rw [h12] at h; cases h
  · exact ⟨a, h1, h2, gb, gcap, w3, hA, h26, h⟩
  · rw [h14] at h; cases h
theorem Ph.endAt (h : Ph L g S i o rest' X f u e w') (h10 : f 10 = true) (h12 : f 12 = true) (h14 : f 14 = true) : ∃ a, e.τ.goal = settleO L e.s rest' (e.ans ++ [a]) ∧ ∃ gb gcap w3, AppO g e.w a e.hd e.ans gb gcap w3 ∧ ∃ d, w' = (w3.setCell ⟨g.A, i, none⟩ (.slice (some ⟨gb, 0, none⟩) (e.ans.length + 1) gcap)).at d := by
  rcases h with ⟨h, _⟩ | ⟨_, a, h1, h2, ⟨_, h, _⟩ | ⟨_, h, _⟩ | ⟨_, _, gb, gcap, w3, hA, h26, ⟨h, _⟩ | ⟨_, h⟩⟩⟩
  · rw [h10] at h; cases h
  · rw [h12] at h; cases h
  · rw [h12] at h; cases h
  · rw [h14] at h; cases h
  · rw [h26] at h
    exact ⟨a, h2, gb, gcap, w3, hA, h⟩
theorem Facts.other {dsts : List Nat} {vals : List Value} {f : Nat → Bool} {u : Nat → Value} (F : Facts dsts vals f u) {d : Nat} {v : Value} (hd : d ∉ dsts) : Facts dsts vals f (upd u d v) := by
  intro j d' v' hf hd' hv'
  have hne : d' ≠ d := fun e => hd (by rw [← e]; exact List.mem_of_getElem? hd')
  rw [upd_ne _ _ hne]
  exact F j d' v' hf hd' hv'
theorem EC.told (e : EC L g S i) {a : Ans} {gb gcap : Nat} {w3 : World} (h : AppO g e.w a e.hd e.ans gb gcap w3) : ∃ e' : EC L g S i, e'.τ = e.τ ∧ e'.N = e.N ∧ e'.s = e.s ∧ e'.ans = e.ans ++ [a] ∧ e'.w = w3.setCell ⟨g.A, i, none⟩ (.slice (some ⟨gb, 0, none⟩) (e.ans.length + 1) gcap) := by
  obtain ⟨hd0, r⟩ := e.rely
  obtain ⟨arr, arr', a1, a2, a3, a4, a5⟩ := e.an
  have hsz1 : (ansA e.w a).heap.size = e.w.heap.size + 1 := by simp [ansA]
  have hs3 := h.grown.size
  have hold : ∀ b, b < e.w.heap.size → some b ≠ e.hd.ownBlock → w3.heap[b]? = e.w.heap[b]? := fun b hb hne => (h.grown.block b (by omega) hne).trans (heap_new_lt _ _ hb)
  have hAo : some g.A ≠ e.hd.ownBlock := fun he => by have := (e.lo (e.hdo _ he.symm)).1; have := r.alo; omega
  have hAl : g.A < e.w.heap.size := by have := r.alo; have := r.size; have := e.size; omega
  have hA3 : w3.heap[g.A]? = some (.cells arr' 29) := (hold _ hAl hAo).trans a2
  have hgo : ownT e.τ e.w gb ∨ e.w.heap.size ≤ gb := by
    rcases h.hat with h | h
    · exact .inl (e.hdo _ h)
    · exact .inr (by omega)
  have hgA : gb ≠ g.A := fun he => by
    rcases hgo with h | h
    · exact (e.noA h).2 he
    · omega
  have hset : ∀ b, b ≠ g.A → (w3.setCell ⟨g.A, i, none⟩ (.slice (some ⟨gb, 0, none⟩) (e.ans.length + 1) gcap)).heap[b]? = w3.heap[b]? := fun b hb => heap_set_other _ _ _ _ hb
  have hil : i < arr'.size := (Array.getElem?_eq_some_iff.1 a4).1
  refine ⟨{ τ := e.τ, N := e.N, w := w3.setCell ⟨g.A, i, none⟩ (.slice (some ⟨gb, 0, none⟩) (e.ans.length + 1) gcap), s := e.s, ans := e.ans ++ [a], hd := .slice (some ⟨gb, 0, none⟩) (e.ans.length + 1) gcap, size := by rw [size_set]; have := e.size; omega, frame := fun b h1 h2 h3 h4 => (hset b h4).trans ((hold b (Nat.lt_of_lt_of_le h1 e.size) fun he => ?_).trans (e.frame b h1 h2 h3 h4)), rely := e.rely, an := ⟨arr, arr'.setIfInBounds i (.slice (some ⟨gb, 0, none⟩) (e.ans.length + 1) gcap), a1, heap_set_self _ _ hA3, by simp [a3], by simp [hil], fun j hj => ?_⟩, row := ⟨some ⟨gb, 0, none⟩, gcap, by simp, ?_⟩, hdo := fun b hb => ?_, inv := L.stable e.inv fun b hb => ?_ }, rfl, rfl, rfl, rfl, rfl⟩
  · rcases e.hdo b he.symm with h | h
    · exact h2 h
    · have := h.1; omega
  · rw [Array.getElem?_setIfInBounds_ne (Ne.symm hj)]; exact a5 j hj
  · rw [ansRow_snoc, List.length_append, List.length_singleton]
    exact row_same h.own fun b hb => hset b fun he => by
      simp only [Value.ownBlock, Option.some.injEq] at hb
      exact hgA (hb.trans he)
  · simp only [Value.ownBlock, Option.some.injEq] at hb
    subst hb
    rcases hgo with hg | hg
    · rcases hg with hg | hg
      · exact .inl hg
      · exact .inr ⟨hg.1, by rw [size_set]; exact h.hlt⟩
    · exact .inr ⟨Nat.le_trans e.size hg, by rw [size_set]; exact h.hlt⟩
  · have h1 := r.shlo b hb
    exact (hset b h1.2).trans (hold b (by have := r.size; have := e.size; omega) fun he => by have := (e.lo (e.hdo b he.symm)).1; omega)
end
end
end Go.Proofs.Ytdmpmoggacjgcaa
namespace Go.Relay
section
open Go.Conc Go.RowKit
open Go.ConcN (upd upd_ne upd_same)
section
variable {P : Program} {main : Bool} {V : Nat → Option Wait} {ops : Array Oper} {Z : World → Prop} {w : World} {K : Act → Prop} {i : Nat} {rest : List Nat} {a : Act} {o : Oper}
theorem Cm.opqZ (ho : ops[i]? = some o) (hw : Region.wanted o (yielded ops a.tmps) = true) (he : ∀ w, Z w → ∀ d, ∀ e ∈ (execOp a.eval o).events P (w.at d) #[], EvR V e)
    (h : ∃ a', (∀ w, Z w → ∀ d, ∀ K' : Act → World → Prop, K' a' (w.at d) → uponK o a K' ((execOp a.eval o).run P (w.at d))) ∧ Cm P main V ops Z K rest a') : Cm P main V ops Z K (i :: rest) a := by
  obtain ⟨a', h1, h2⟩ := h
  exact Cm.opq ho hw he h1 h2
theorem pre_skip {q : Nat → Bool} {i : Nat} (h : q i = false) (vals : Nat → Value) (a : Act) : puts ops vals (fun j => decide (j < i + 1) && q j) a = puts ops vals (fun j => decide (j < i) && q j) a :=
  puts_congr (fun j _ => ⟨by
    by_cases e : j = i
    · subst e; simp [h]
    · have : (decide (j < i + 1) : Bool) = decide (j < i) := by by_cases hl : j < i <;> simp [hl] <;> omega
      rw [this], fun _ => rfl⟩) a
theorem pre_take {m : Nat} {q : Nat → Bool} (hc : calmB ops m = true) (hi : i < m) (h : q i = true) (vals : Nat → Value) (ho : ops[i]? = some o) (a : Act) : puts ops vals (fun j => decide (j < i + 1) && q j) a = (puts ops vals (fun j => decide (j < i) && q j) a).put o.dst (vals i) := by
  rw [← puts_upd hc hi vals (f := fun j => decide (j < i) && q j) (by simp) ho a]
  refine puts_congr (fun j _ => ⟨?_, fun _ => rfl⟩) a
  by_cases e : j = i
  · subst e; simp [h, upd_same]
  · rw [upd_ne _ _ e]
    have : (decide (j < i + 1) : Bool) = decide (j < i) := by by_cases hl : j < i <;> simp [hl] <;> omega
    rw [this]
theorem cm_valsQ {m : Nat} {q : Nat → Bool} (hz : Z w) (hc : calmB ops m = true) : ∀ (r i : Nat) (vals : Nat → Value) (a0 : Act), i + r = m → Cm P main V ops Z K ((List.range' i r).filter q) (puts ops vals (fun j => decide (j < i) && q j) a0) →
    ∃ vals', (∀ j, j < i → vals' j = vals j) ∧ (∀ j o, i ≤ j → j < m → q j = true → ops[j]? = some o → CondU P main V ops Z o (puts ops vals' (fun x => decide (x < j) && q x) a0) (vals' j)) ∧ K (puts ops vals' (fun j => decide (j < m) && q j) a0)
  | 0, i, vals, a0, hi, h => by
    have hi : i = m := hi
    refine ⟨vals, fun _ _ => rfl, fun j o hj hjm _ ho => ?_, ?_⟩
    · omega
    · rw [← hi]; exact h
  | r + 1, i, vals, a0, hi, h => by
    rw [List.range'_succ] at h
    cases hq : q i with
    | false =>
      rw [List.filter_cons_of_neg (by simp [hq]), ← pre_skip hq] at h
      obtain ⟨vals', k1, k2, k3⟩ := cm_valsQ hz hc r (i + 1) vals a0 (by omega) h
      refine ⟨vals', fun j hj => k1 j (by omega), fun j o hj hjm hqj ho => ?_, k3⟩
      by_cases e : j = i
      · rw [e, hq] at hqj; cases hqj
      · exact k2 j o (by omega) hjm hqj ho
    | true =>
      rw [List.filter_cons_of_pos hq] at h
      obtain ⟨o, a', ho, hn, hcond⟩ := h
      generalize hX : puts ops vals (fun j => decide (j < i) && q j) a0 = X at *
      obtain ⟨v, hv, hcond⟩ : ∃ v, a' = X.put o.dst v ∧ CondU P main V ops Z o X v := by
        rcases hcond with ⟨h1, h2⟩ | ⟨h1, h2, h3⟩ | ⟨h1, f, fn, args, ats, x, e1, e2, e3, e4, e5, e6⟩
        · exact ⟨undef, h2, .inl ⟨h1, rfl⟩⟩
        · have h0 := h3 w hz 0
          obtain ⟨v, hv⟩ : ∃ v, a' = X.put o.dst v := by
            revert h0
            generalize (execOp _ o).run P (w.at 0) = rr
            intro h0
            unfold uponK at h0
            split at h0
            · exact ⟨_, h0.1.symm⟩
            · exact ⟨_, h0.1.symm⟩
            · exact h0.elim
          exact ⟨v, hv, .inr (.inl ⟨h1, h2, hv ▸ h3⟩)⟩
        · exact ⟨x, e6, .inr (.inr ⟨h1, f, fn, args, ats, e1, e2, e3, e4, e5⟩)⟩
      have hpre : puts ops (upd vals i v) (fun j => decide (j < i) && q j) a0 = X := by
        rw [← hX]
        exact puts_congr (fun j _ => ⟨rfl, fun hd => upd_ne _ _ (by have := of_decide_eq_true (Bool.and_eq_true _ _ ▸ hd : _ ∧ _).1; omega)⟩) a0
      have hs := pre_take hc (by omega) hq (upd vals i v) ho a0
      rw [hpre, upd_same, ← hv] at hs
      rw [← hs] at hn
      obtain ⟨vals', k1, k2, k3⟩ := cm_valsQ hz hc r (i + 1) (upd vals i v) a0 (by omega) hn
      refine ⟨vals', fun j hj => (k1 j (by omega)).trans (upd_ne _ _ (by omega)), fun j o' hj hjm hqj ho' => ?_, k3⟩
      by_cases e : j = i
      · subst e
        rw [ho] at ho'
        cases ho'
        have e1 : puts ops vals' (fun x => decide (x < j) && q x) a0 = X := by
          rw [← hpre]
          exact puts_congr (fun x _ => ⟨rfl, fun hd => k1 x (by have := of_decide_eq_true (Bool.and_eq_true _ _ ▸ hd : _ ∧ _).1; omega)⟩) a0
        have e2 : vals' j = v := (k1 j (by omega)).trans (upd_same _ _ _)
        rw [e1, e2]
        exact hcond
      · exact k2 j o' (by omega) hjm hqj ho'
end
section
variable {P : Program} {main : Bool} {V : Nat → Option Wait} {Stop : Goroutine → World → Prop} {b : Frame} {k : List Item} {cs : List Frame} {ops : Array Oper} {w : World} {a : Act}
theorem Walk.calmOpG {Z : World → Prop} {m i : Nat} (hz : Z w) {o : Oper} {vals : Nat → Value} {f g : Nat → Bool} {rest : List Nat} (hc : calmB ops m = true) (hk : b.kind ≠ .early) (hi : i < m) (ho : ops[i]? = some o) (hd : ∀ e ∈ o.after, Region.binds .any e = true → f e.on = true)
    (hg : ∀ (j : Nat) (p : Oper) (t : Nat), ops[j]? = some p → p.dst = some t → t ∈ o.looksAt ops → j < i → g j = true)
    (hcond : CondU P main V ops Z o (puts ops vals g a) (vals i)) (hr' : Walk P main (DR V) Stop (G (b.at ((puts ops vals f a).put o.dst (vals i)) (.inRegion ops rest :: k)) cs) w) :
    Walk P main (DR V) Stop (G (b.at (puts ops vals f a) (.inRegion ops (i :: rest) :: k)) cs) w := by
  obtain ⟨hsel, ⟨t0, ht0, hself⟩, hdist⟩ := calm_at hc hi ho
  have hlook : ∀ t ∈ o.looksAt ops, (puts ops vals f a).tmps[t]? = (puts ops vals g a).tmps[t]? := fun t ht => slot_congr _ a a rfl fun j hj hjd => by
    have hjl := List.mem_range.1 hj
    have hoj := Array.getElem?_eq_getElem hjl
    have hne : j ≠ i := fun e => by
      subst e
      rw [dst_of ho, ht0] at hjd
      cases hjd
      exact hself ht
    rw [hoj] at hjd
    obtain ⟨h1, h2⟩ := (hdist j _ hoj hne).2 t hjd ht
    exact ⟨(waits_at h2 ho hd).trans (hg j _ t hoj hjd ht h1).symm, rfl⟩
  obtain ⟨s1, s2, s3⟩ := same_look hlook hsel
  have hsz : (puts ops vals f a).tmps.size = (puts ops vals g a).tmps.size := by
    unfold puts
    rw [putsL_size, putsL_size]
  have hput : ∀ v, (puts ops vals g a).put o.dst v = (puts ops vals g a).put o.dst (vals i) → (puts ops vals f a).put o.dst v = (puts ops vals f a).put o.dst (vals i) := fun v e => by
    refine act_ext (fun t => ?_) (by rw [put_defers, put_defers])
    rw [put_slot, put_slot]
    split
    · next e' =>
      have h1 : ((puts ops vals g a).put o.dst v).tmps[t]? = ((puts ops vals g a).put o.dst (vals i)).tmps[t]? := by rw [e]
      rw [put_slot, put_slot, if_pos e', if_pos e'] at h1
      by_cases hl : t < (puts ops vals f a).tmps.size
      · rw [Array.getElem?_eq_getElem (hsz ▸ hl)] at h1
        simp only [Option.map_some] at h1
        rw [Array.getElem?_eq_getElem hl]
        exact h1
      · rw [Array.getElem?_eq_none (by omega)]; rfl
    · rfl
  rcases hcond with ⟨c1, c2⟩ | ⟨c1, c2, c3⟩ | ⟨c1, f', fn, args, ats, e1, e2, e3, e4, e5⟩
  · rw [← s2] at c1
    rw [c2] at hr'
    exact Walk.ctl rfl (fun w => stepG_unwanted ho c1) hr'
  · rw [← s2] at c1
    rw [← s1] at c2 c3
    refine Walk.opq ho c1 hk (c2 w hz) fun d' K hK => ?_
    have h3 := c3 w hz d'
    revert h3
    generalize (execOp (puts ops vals f a).eval o).run P (w.at d') = rr
    intro h3
    unfold uponK at h3 ⊢
    split at h3
    · obtain ⟨x1, rfl⟩ := h3
      refine hK _ ?_
      rw [hput _ x1]; exact hr'
    · obtain ⟨x1, rfl⟩ := h3
      refine hK _ ?_
      rw [hput _ x1]; exact hr'
    · exact h3.elim
  · rw [← s2] at c1
    have hargs : args.map (puts ops vals f a).eval = args.map (puts ops vals g a).eval := Array.map_congr_left fun x hx => s3 x (by rw [e1]; simp [Op.operands, Call.operands, hx])
    rw [← hargs] at e5
    exact Walk.callV (e5 w hz) ho c1 hk e1 e2 e3 e4 hr'
def apartB (ops : Array Oper) (iA iB m : Nat) : Bool := decide (iA < iB) && decide (iB < m) && waitsB ops iB iA && (List.range m).all fun i => decide (i = iA) || decide (i = iB) || (ops[i]?).any fun o =>
  !(o.looksAt ops).any (fun t => (ops[iA]?).bind (·.dst) == some t) && !(o.looksAt ops).any (fun t => (ops[iB]?).bind (·.dst) == some t)
def quietQ (iA iB : Nat) (j : Nat) : Bool := !decide (j = iA) && !decide (j = iB)
theorem look_full {m i : Nat} {o : Oper} {vals vals' : Nat → Value} {f g : Nat → Bool} (hc : calmB ops m = true) (hi : i < m) (ho : ops[i]? = some o) (hd : ∀ e ∈ o.after, Region.binds .any e = true → f e.on = true) (hg : ∀ j, j < i → g j = true ∧ vals j = vals' j) (a : Act) :
    ∀ y ∈ o.op.operands, (puts ops vals f a).eval y = (puts ops vals' g a).eval y := by
  obtain ⟨hsel, ⟨t0, ht0, hself⟩, hdist⟩ := calm_at hc hi ho
  have hlook : ∀ t ∈ o.looksAt ops, (puts ops vals f a).tmps[t]? = (puts ops vals' g a).tmps[t]? := fun t ht => slot_congr _ a a rfl fun j hj hjd => by
    have hjl := List.mem_range.1 hj
    have hoj := Array.getElem?_eq_getElem hjl
    have hne : j ≠ i := fun e => by
      subst e
      rw [dst_of ho, ht0] at hjd
      cases hjd
      exact hself ht
    rw [hoj] at hjd
    obtain ⟨h1, h2⟩ := (hdist j _ hoj hne).2 t hjd ht
    obtain ⟨g1, g2⟩ := hg j h1
    exact ⟨(waits_at h2 ho hd).trans g1.symm, g2⟩
  exact (same_look hlook hsel).2.2
theorem Walk.drawnT {id m iA iB : Nat} {Z : World → Prop} {w1 : World} {oA oB : Oper} {vA : Value} (PB : Value → World → Prop) (hm : P.follows .mixedOrders = true) (hsz : ops.size = m + 1) (hlow : lowB ops = true) (hc : calmB ops m = true) (hl : lastB ops m = true) (hap : apartB ops iA iB m = true) (hk : b.kind ≠ .early)
    (hoA : ops[iA]? = some oA) (hoB : ops[iB]? = some oB) (hz : Z w) (hz1 : Z w1) (hz2 : ∀ v w', PB v w' → Z w')
    (h : Cm P main V ops Z (fun aF => (∀ x, (∀ y ∈ oA.op.operands, x.eval y = aF.eval y) → OpW P main V Stop b k cs ops iA (fun x' w' => x' = x.put oA.dst vA ∧ ∃ d, w' = w1.at d) x w) ∧
      (∀ x, (∀ y ∈ oB.op.operands, x.eval y = (aF.put oA.dst vA).eval y) → OpW P main V Stop b k cs ops iB (fun x' w' => ∃ v w2, PB v w2 ∧ x' = x.put oB.dst v ∧ ∃ d, w' = w2.at d) x w1) ∧
      ∀ v w2, PB v w2 → OpW P main V Stop b k cs ops m (fun a' w' => Walk P main (DR V) Stop (G (b.at a' (.inRegion ops [] :: k)) cs) w') ((aF.put oA.dst vA).put oB.dst v) w2) ((List.range m).filter (quietQ iA iB)) a) :
    Walk P main (DR V) Stop (G (b.at a (.code (.region id ops true) :: k)) cs) w := by
  unfold apartB at hap
  simp only [Bool.and_eq_true, decide_eq_true_eq] at hap
  obtain ⟨⟨⟨hAB, hBm⟩, hBA⟩, hq⟩ := hap
  rw [List.range_eq_range'] at h
  have hzero : puts ops (fun _ => undef) (fun j => decide (j < 0) && quietQ iA iB j) a = a := putsL_none _ a fun j _ => by simp
  rw [← hzero] at h
  obtain ⟨vals, _, hcond, hA, hB, hC⟩ := cm_valsQ (q := quietQ iA iB) hz hc m 0 (fun _ => undef) a (by omega) h
  clear h hzero
  generalize hvA : upd vals iA vA = va
  have hva : ∀ j, j ≠ iA → va j = vals j := fun j hj => by rw [← hvA]; exact upd_ne _ _ hj
  have hvaA : va iA = vA := by rw [← hvA]; exact upd_same _ _ _
  have qA : ∀ j, quietQ iA iB j = true ↔ j ≠ iA ∧ j ≠ iB := fun j => by simp [quietQ]
  have quiet : ∀ (vs : Nat → Value) (f : Nat → Bool) (i : Nat) (o : Oper) (rest : List Nat) (ww : World), (∀ j, j ≠ iA → j ≠ iB → vs j = vals j) → Z ww → i < m → i ≠ iA → i ≠ iB → f i = false → ops[i]? = some o → (∀ e ∈ o.after, Region.binds .any e = true → f e.on = true) →
      Walk P main (DR V) Stop (G (b.at (puts ops vs (upd f i true) a) (.inRegion ops rest :: k)) cs) ww → Walk P main (DR V) Stop (G (b.at (puts ops vs f a) (.inRegion ops (i :: rest) :: k)) cs) ww := by
    intro vs f i o rest ww hvs hzw him h1 h2 hf ho hd hr
    rw [puts_upd hc him vs hf ho a] at hr
    have hcd := hcond i o (Nat.zero_le _) him ((qA i).2 ⟨h1, h2⟩) ho
    have e : puts ops vals (fun x => decide (x < i) && quietQ iA iB x) a = puts ops vs (fun x => decide (x < i) && quietQ iA iB x) a := puts_congr (fun j _ => ⟨rfl, fun hd => by
      have := (qA j).1 (Bool.and_eq_true _ _ ▸ hd : _ ∧ _).2
      exact (hvs j this.1 this.2).symm⟩) a
    rw [e, ← hvs i h1 h2] at hcd
    refine Walk.calmOpG hzw hc hk him ho hd (fun j p t hj ht hm hji => ?_) hcd hr
    have hh := List.all_eq_true.1 hq i (List.mem_range.2 him)
    rw [ho] at hh
    simp only [decide_eq_false h1, decide_eq_false h2, Bool.false_or, Option.any_some, Bool.and_eq_true, Bool.not_eq_true'] at hh
    have hjA : j ≠ iA := fun e' => by
      subst e'
      rw [hj] at hh
      have : (o.looksAt ops).any (fun t => (some p).bind (·.dst) == some t) = true := List.any_eq_true.2 ⟨t, hm, by simp [ht]⟩
      rw [this] at hh
      exact absurd hh.1 (by simp)
    have hjB : j ≠ iB := fun e' => by
      subst e'
      rw [hj] at hh
      have : (o.looksAt ops).any (fun t => (some p).bind (·.dst) == some t) = true := List.any_eq_true.2 ⟨t, hm, by simp [ht]⟩
      rw [this] at hh
      exact absurd hh.2 (by simp)
    simp [hji, (qA j).2 ⟨hjA, hjB⟩]
  have eA : puts ops va (upd (fun j => decide (j < m) && quietQ iA iB j) iA true) a = (puts ops vals (fun j => decide (j < m) && quietQ iA iB j) a).put oA.dst vA := by
    rw [puts_upd hc (by omega) va (by simp [quietQ]) hoA a, hvaA]
    congr 1
    exact puts_congr (fun j _ => ⟨rfl, fun hd => hva j ((qA j).1 (Bool.and_eq_true _ _ ▸ hd : _ ∧ _).2).1⟩) a
  refine Walk.drawnJ (Inv := fun f x w' => (f m = true ∧ (∀ j, j < m → f j = true) ∧ Walk P main (DR V) Stop (G (b.at x (.inRegion ops [] :: k)) cs) w') ∨ (f m = false ∧ f iB = false ∧ x = puts ops va f a ∧ ∃ d, w' = (if f iA then w1 else w).at d) ∨
    (f m = false ∧ f iB = true ∧ f iA = true ∧ ∃ v w2, PB v w2 ∧ x = puts ops (upd va iB v) f a ∧ ∃ d, w' = w2.at d)) hm hlow (fun d => .inr (.inl ⟨rfl, rfl, (puts_zero va a).symm, d, rfl⟩)) ?_ ?_
  · rintro f i o x w' hI hC' hf ho hd rest hr
    have hi : i < m + 1 := by have := (Array.getElem?_eq_some_iff.1 ho).1; omega
    rcases hI with ⟨h1, h2, _⟩ | ⟨h1, h2, rfl, d, rfl⟩ | ⟨h1, h2, h3, v, w2, hPB, rfl, d, rfl⟩
    · exfalso
      by_cases e : i = m
      · rw [e, h1] at hf; cases hf
      · rw [h2 i (by omega)] at hf; cases hf
    · refine Walk.back ?_ d
      by_cases e : i = m
      · subst e
        have := last_all hl hC' ho hd (i - iB) iB (by omega) (by omega)
        rw [h2] at this; cases this
      by_cases eiA : i = iA
      · subst eiA
        rw [hoA] at ho
        cases ho
        rw [hf, if_neg (by simp)]
        refine hA _ (look_full hc (by omega) hoA hd (fun j hj => ⟨by simp [quietQ]; omega, hva j (by omega)⟩) a) rest ?_
        rintro x' w' ⟨rfl, d', rfl⟩
        refine hr _ _ (.inr (.inl ⟨by rw [upd_ne _ _ (by omega)]; exact h1, by rw [upd_ne _ _ (by omega)]; exact h2, ?_, d', by rw [upd_same]; rfl⟩))
        rw [puts_upd hc (by omega) va hf hoA a, hvaA]
      by_cases eiB : i = iB
      · subst eiB
        rw [hoB] at ho
        cases ho
        have hfA : f iA = true := waits_at hBA hoB hd
        rw [hfA, if_pos rfl]
        refine hB _ ?_ rest ?_
        · rw [← eA]
          exact look_full hc hBm hoB hd (fun j hj => ⟨by
            by_cases ej : j = iA
            · rw [ej, upd_same]
            · rw [upd_ne _ _ ej]
              simp [quietQ, ej]; omega, rfl⟩) a
        · rintro x' w' ⟨v, w2, hPB, rfl, d', rfl⟩
          refine hr _ _ (.inr (.inr ⟨by rw [upd_ne _ _ (by omega)]; exact h1, upd_same _ _ _, by rw [upd_ne _ _ (by omega)]; exact hfA, v, w2, hPB, ?_, d', rfl⟩))
          rw [puts_upd hc hBm (upd va i v) hf hoB a, upd_same]
          congr 1
          exact puts_congr (fun j _ => ⟨rfl, fun hj => (upd_ne _ _ (fun e' => by rw [e', hf] at hj; cases hj)).symm⟩) a
      · refine quiet va f i o rest _ (fun j h _ => hva j h) ?_ (by omega) eiA eiB hf ho hd ?_
        · split
          · exact hz1
          · exact hz
        · refine (hr _ (((if f iA then w1 else w)).at ((if f iA then w1 else w)).drawn) (.inr (.inl ⟨by rw [upd_ne _ _ (by omega)]; exact h1, by rw [upd_ne _ _ (Ne.symm eiB)]; exact h2, rfl, _, by rw [upd_ne _ _ (Ne.symm eiA)]⟩)))
    · refine Walk.back ?_ d
      by_cases e : i = m
      · subst e
        have hall := last_all hl hC' ho hd
        have ef : puts ops (upd va iB v) f a = ((puts ops vals (fun j => decide (j < i) && quietQ iA iB j) a).put oA.dst vA).put oB.dst v := by
          have e1 : puts ops va (upd (fun j => decide (j < i) && quietQ iA iB j) iA true) a = puts ops (upd va iB v) (upd (fun j => decide (j < i) && quietQ iA iB j) iA true) a := puts_congr (fun j _ => ⟨rfl, fun hj => (upd_ne _ _ (fun e' => by
            rw [e', upd_ne _ _ (by omega)] at hj
            simp [quietQ] at hj)).symm⟩) a
          have e2 := puts_upd hc hBm (upd va iB v) (f := upd (fun j => decide (j < i) && quietQ iA iB j) iA true) (by rw [upd_ne _ _ (by omega)]; simp [quietQ]) hoB a
          rw [upd_same, ← e1, eA] at e2
          rw [← e2]
          refine puts_congr (fun j hj => ⟨?_, fun _ => rfl⟩) a
          by_cases ej : j = iB
          · rw [ej, upd_same, h2]
          · rw [upd_ne _ _ ej]
            by_cases ej2 : j = iA
            · rw [ej2, upd_same, h3]
            · rw [upd_ne _ _ ej2]
              by_cases hji : j < i
              · rw [hall (i - j) j (by omega) (by omega)]
                simp [hji, quietQ, ej, ej2]
              · have : j = i := by omega
                rw [this, hf]; simp
        rw [ef]
        refine hC v w2 hPB rest fun a' w' hw' => hr a' w' (.inl ⟨upd_same _ _ _, fun j hj => ?_, hw'⟩)
        rw [upd_ne _ _ (by omega)]
        exact hall (i - j) j (by omega) (by omega)
      · have n1 : i ≠ iA := fun e' => by rw [e', h3] at hf; cases hf
        have n2 : i ≠ iB := fun e' => by rw [e', h2] at hf; cases hf
        refine quiet (upd va iB v) f i o rest _ (fun j h h' => (upd_ne _ _ h').trans (hva j h)) (hz2 v w2 hPB) (by omega) n1 n2 hf ho hd ?_
        exact hr _ (w2.at w2.drawn) (.inr (.inr ⟨by rw [upd_ne _ _ (by omega)]; exact h1, by rw [upd_ne _ _ (Ne.symm n2)]; exact h2, by rw [upd_ne _ _ (Ne.symm n1)]; exact h3, v, w2, hPB, rfl, _, rfl⟩))
  · rintro f x w' hI hall
    rcases hI with ⟨_, _, h3⟩ | ⟨h1, _⟩ | ⟨h1, _⟩
    · exact h3
    · rw [hall m (by omega)] at h1; cases h1
    · rw [hall m (by omega)] at h1; cases h1
end
end
end Go.Relay
