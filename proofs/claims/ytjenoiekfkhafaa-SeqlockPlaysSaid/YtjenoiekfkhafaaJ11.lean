/- Part 11. -/
import Derived.Test.YtjenoiekfkhafaaJ3
import Derived.Test.YtjenoiekfkhafaaJ10
set_option linter.unusedSimpArgs false
set_option linter.unusedVariables false
set_option maxHeartbeats 8000000
set_option maxRecDepth 100000
namespace Go.Proofs.Ytjenoiekfkhafaa
open Go.Conc Go.RowKit Go.Relay
open Go.ConcN (upd upd_ne upd_same)
section
theorem structT (t : TypeId) (h : (match Try.prog.underlying t with | some (.struct _) => true | _ => false) = true) : ∃ fs, Try.prog.underlying t = some (.struct fs) := by
 revert h
 cases Try.prog.underlying t with
 | none => simp
 | some d =>
  cases d with
  | struct fs => exact fun _ => ⟨fs, rfl⟩
  | _ => simp
section
variable {P : Program} {w : World}
theorem run_eql_func (t : TypeId) (f : Fn) (x y : Array Value) {a b c} (hu : P.underlying t = some (.func a b c)) : (binOp .eql t (.func f x y) .nilFunc).run P w = .ok (.bool false) w := by
 simp only [binOp]
 simp [Op.equal, Op.maxDepth, run_eqIn_func (w := w) 9999 t f x y hu]
theorem ev_eql_func (t : TypeId) (f : Fn) (x y : Array Value) (es : Array Event) {a b c} (hu : P.underlying t = some (.func a b c)) : (binOp .eql t (.func f x y) .nilFunc).events P w es = es := by
 simp only [binOp]
 simp [Op.equal, Op.maxDepth, run_eqIn_func (w := w) 9999 t f x y hu, ev_eqIn_func (w := w) 9999 t f x y es hu]
end
section
variable {P : Program} {w : World}
theorem run_eqIn_nilSlice (d : Nat) (t : TypeId) {e} (hu : P.underlying t = some (.slice e)) : (Op.equalIn (d + 1) t (.slice none 0 0) (.slice none 0 0)).run P w = .ok true w := by simp [Op.equalIn, run_underlying hu]
theorem ev_eqIn_nilSlice (d : Nat) (t : TypeId) (es : Array Event) {e} (hu : P.underlying t = some (.slice e)) : (Op.equalIn (d + 1) t (.slice none 0 0) (.slice none 0 0)).events P w es = es := by simp [Op.equalIn, run_underlying hu]
theorem run_eql_nilSlice (t : TypeId) {e} (hu : P.underlying t = some (.slice e)) : (binOp .eql t (.slice none 0 0) (.slice none 0 0)).run P w = .ok (.bool true) w := by
 simp only [binOp]
 simp [Op.equal, Op.maxDepth, run_eqIn_nilSlice (w := w) 9999 t hu]
theorem ev_eql_nilSlice (t : TypeId) (es : Array Event) {e} (hu : P.underlying t = some (.slice e)) : (binOp .eql t (.slice none 0 0) (.slice none 0 0)).events P w es = es := by
 simp only [binOp]
 simp [Op.equal, Op.maxDepth, run_eqIn_nilSlice (w := w) 9999 t hu, ev_eqIn_nilSlice (w := w) 9999 t es hu]
end
theorem results_cell {fn : Func} {tmps : Array Value} {t : Tmp} {ty tt : TypeId} {T : Nat} {cells : Array Value} {w : World} {V : Nat → Option Wait} (hr : fn.results = #[.cell t ty]) (h8 : tmps.getD t undef = .pointer (some ⟨T, 0, none⟩)) (hT : w.heap[T]? = some (.cells cells tt (0, 0)))
  {fs} (hu : Try.prog.underlying ty = some (.struct fs)) (hi : (Try.prog.info? ty).map (·.size) = some cells.size) :
  (results fn tmps).run Try.prog w = .ok (.agg cells) w ∧ ∀ e ∈ (results fn tmps).events Try.prog w #[], EvR V e := by
 have hl := run_loadVar_row (P := Try.prog) w T tt ty cells (0, 0) _ hT hu rfl hi
 have he := events_loadVar_reads (P := Try.prog) w ⟨T, 0, none⟩ ty hu rfl hi
 simp only [Array.getD_eq_getD_getElem?] at h8
 constructor
 ·simp only [results, hr]
  simp [h8, asAddr, hl]
 ·intro e hm
  refine evR_isRead (he e ?_)
  simp only [results, hr] at hm
  simpa [h8, asAddr, hl] using hm
theorem Walk.onCell {main : Bool} {V : Nat → Option Wait} {Stop : Goroutine → World → Prop} {fr c : Frame} {cs : List Frame} {w : World} {fn : Func} {t : Tmp} {ty tt : TypeId} {T : Nat} {cells : Array Value} (hm : fr.mode = .returning) (hn : fr.kind = .normal) (hd : fr.defers = []) (hf : Try.prog.funcs[fr.fn]? = some fn)
  (hr : fn.results = #[.cell t ty]) (h8 : fr.tmps.getD t undef = .pointer (some ⟨T, 0, none⟩)) (hT : w.heap[T]? = some (.cells cells tt (0, 0))) (hs : (match Try.prog.underlying ty with | some (.struct _) => true | _ => false) = true) (hi : (Try.prog.info? ty).map (·.size) = some cells.size)
  (h : Walk Try.prog main (DR V) Stop (G (c.finish (.agg cells)) cs) w) : Walk Try.prog main (DR V) Stop (G fr (c :: cs)) w := by
 obtain ⟨fs, hu⟩ := structT ty hs
 exact Walk.evs (fun x => seen Try.prog fr.fn ((results fn fr.tmps).events Try.prog (w.at x) #[])) rfl (fun x => stepG_leaveF hm hn hd hf (results_cell (V := V) (w := w.at x) hr h8 hT hu hi).1)
  (fun x e he => (results_cell (V := V) (w := w.at x) hr h8 hT hu hi).2 e (mem_seen he)) h
section
variable {P : Program}
theorem run_eqIn_someSlice (d : Nat) (t : TypeId) {e} (hu : P.underlying t = some (.slice e)) (a : Addr) (n c : Nat) (w : World) (es : Array Event) : (Op.equalIn (d + 1) t (.slice (some a) n c) (.slice none 0 0)).run P w = .ok false w ∧ (Op.equalIn (d + 1) t (.slice (some a) n c) (.slice none 0 0)).events P w es = es := by
 constructor <;> simp [Op.equalIn, run_underlying hu]
theorem run_eql_someSlice (t : TypeId) {e} (hu : P.underlying t = some (.slice e)) (a : Addr) (n c : Nat) (w : World) : (binOp .eql t (.slice (some a) n c) (.slice none 0 0)).run P w = .ok (.bool false) w := by
 simp only [binOp]
 simp [Op.equal, Op.maxDepth, (run_eqIn_someSlice 9999 t hu a n c w #[]).1]
theorem ev_eql_someSlice (t : TypeId) {e} (hu : P.underlying t = some (.slice e)) (a : Addr) (n c : Nat) (w : World) (es : Array Event) : (binOp .eql t (.slice (some a) n c) (.slice none 0 0)).events P w es = es := by
 simp only [binOp]
 simp [Op.equal, Op.maxDepth, (run_eqIn_someSlice 9999 t hu a n c w #[]).1, (run_eqIn_someSlice 9999 t hu a n c w es).2]
theorem run_app0 {t e : TypeId} {ti : TypeInfo} (hu : P.underlying t = some (.slice e)) (hi : P.info? e = some ti) (ty : TypeId) (a : Addr) (x : Option Addr) (c : Nat) (w : World) (es : Array Event) : (Builtin.append_ #[t, t] ty #[.slice (some a) 0 0, .slice x 0 c]).run P w = .ok (.slice (some a) 0 0) w ∧ (Builtin.append_ #[t, t] ty #[.slice (some a) 0 0, .slice x 0 c]).events P w es = es := by
 constructor <;> cases x <;> simp [Builtin.append_, run_underlying hu, sizeOf, typeInfo, hi, Builtin.lenOf, Builtin.firstCells, loadCells] <;> rfl
end
section
variable {main : Bool} {V : Nat → Option Wait}
noncomputable def reg81_0 := rg Try.f81.body [0]
noncomputable def reg81_1 := rg Try.f81.body [1, 0, 0]
noncomputable def reg81_2 := rg Try.f81.body [1, 0, 1, 0, 0]
noncomputable def reg81_3 := rg Try.f81.body [1, 1, 0]
theorem z81 : List.range reg81_0.size = [0] ∧ List.range reg81_1.size = [0, 1] ∧ List.range reg81_2.size = [0] ∧ List.range reg81_3.size = [0, 1, 2, 3] := by refine ⟨?_, ?_, ?_, ?_⟩ <;> kernel_rfl
theorem code81_is : Try.f81.body = some (.seq (.region 0 reg81_0 false) (.seq (.seq (.region 1 reg81_1 false) (.cond (.tmp 4 ) (.seq (.region 2 reg81_2 false) (.ret)) (.skip))) (.seq (.region 3 reg81_3 false) (.ret)))) := by kernel_rfl
theorem huI64s : Try.prog.underlying 22 = some (.slice 2) := by kernel_rfl
theorem clone_nil (w : World) : CallV Try.prog main V 81 #[.slice none 0 0] w (.slice none 0 0) w := by
 have hn1 := fun w => run_eql_nilSlice (P := Try.prog) (w := w) 22 huI64s
 have hn2 := fun w es => ev_eql_nilSlice (P := Try.prog) (w := w) 22 es huI64s
 refine callW_in Try.func81 code81_is fun fr cs => ?_
 simp only [Try.ntmps81, ez, Nat.reduceAdd, Nat.reduceSub]
 refine Walk.gz z81 ?_
 exact Walk.ret1 rfl rfl Try.func81 rfl fun d => ⟨rfl, d, rfl⟩
theorem clone_some (w : World) (a : Addr) (c : Nat) (l : List Int) (h63 : l.length ≤ 1048576) (hA : ∀ b, w.heap.size ≤ b → Apart V b) (hcells : ∀ (j : Nat) (z : Int), l[j]? = some z → ∃ b off, some a = some ⟨b, off, none⟩ ∧ w.cell? ⟨b, off + j, none⟩ = some (.int .i64 z)) :
  CallW Try.prog main V 81 #[.slice (some a) l.length c] w (fun v w' => LsAt w.heap.size (fun b => w.heap.size ≤ b ∧ b < w'.heap.size) v l w' ∧ w.heap.size ≤ w'.heap.size ∧ ∀ b, b < w.heap.size → w'.heap[b]? = w.heap[b]?) := by
 have hi1 := Option.some_get (show (Try.prog.info? 2).isSome = true by kernel_rfl)
 have hn1 := fun w => run_eql_someSlice (P := Try.prog) 22 huI64s a l.length c w
 have hn2 := fun w es => ev_eql_someSlice (P := Try.prog) 22 huI64s a l.length c w es
 refine callW_in Try.func81 code81_is fun fr cs => ?_
 simp only [Try.ntmps81, ez, Nat.reduceAdd, Nat.reduceSub]
 refine Walk.gz z81 ?_
 (refine Walk.oa ?_; try walk_nrm)
 have s1 : (w.alloc (.cells #[] 2)).heap.size = w.heap.size + 1 := by simp
 have o1 : ∀ b, b < w.heap.size → (w.alloc (.cells #[] 2)).heap[b]? = w.heap[b]? := fun b hb => heap_new_lt _ _ hb
 have hown : (w.alloc (.cells #[] 2)).ownsRow w.heap.size 2 1 (.slice (some ⟨w.heap.size, 0, none⟩) 0 0) 0 [] := World.ownsRow_made w #[] 0 (Nat.le_refl _) (by decide) (by simp)
 have hap := hA w.heap.size (Nat.le_refl _)
 have hcells1 : ∀ (j : Nat) (z : Int), l[j]? = some z → ∃ b off, a = ⟨b, off, none⟩ ∧ (w.alloc (.cells #[] 2)).cell? ⟨b, off + j, none⟩ = some (.int .i64 z) := fun j z hj => by
  obtain ⟨b, off, e, h⟩ := hcells j z hj
  exact ⟨b, off, Option.some.inj e, cell_alloc w _ h⟩
 generalize w.alloc (.cells #[] 2) = w1 at *
 generalize hT : w.heap.size = T at *
 cases l with
 | nil =>
  have hz := fun w es => run_app0 huI64s hi1.symm 22 ⟨T, 0, none⟩ (some a) c w es
  have hz1 := fun w => (hz w #[]).1
  have hz2 := fun w es => (hz w es).2
  clear hz
  refine Walk.gz z81 ?_
  refine Walk.ret1 rfl rfl Try.func81 rfl fun d => ⟨⟨some ⟨T, 0, none⟩, 0, rfl, Nat.zero_le _, fun h => absurd rfl h⟩, ?_, o1⟩
  show T ≤ w1.heap.size
  omega
 | cons z l =>
  obtain ⟨b, off, rfl, _⟩ := hcells1 0 z rfl
  refine Walk.gz z81 ?_
  refine Walk.append (.tmp 5) (.tmp 6) 22 hoA (by rfl) (by decide) rfl T 2 _ (.int .i64 0) 1 8 huI64s hi1.symm (by rfl) (by rfl) (by rfl) (by rfl) (by decide) (.slice (some ⟨T, 0, none⟩) 0 0) 0 [] rfl hown ⟨b, off, none⟩ (z :: l).length c ((z :: l).map fun z => .int .i64 z) rfl (by simp) (fun j u hu => ?_) (fun u hu => ?_) (by simp) (by simp only [maxLen]; omega) (by omega) (by omega) (fun g hg => ?_) (fun g cap w' hown' hgr hat hlt => ?_)
  ·rw [List.getElem?_map, Option.map_eq_some_iff] at hu
   obtain ⟨y, hy, rfl⟩ := hu
   obtain ⟨b', off', e, h⟩ := hcells1 j y hy
   obtain ⟨rfl, rfl, _⟩ := Addr.mk.inj e
   rw [add_none]; exact h
  ·obtain ⟨y, _, rfl⟩ := List.mem_map.1 hu
   rfl
  ·simp only [Value.ownBlock, Option.some.injEq] at hg
   rw [← hg]; exact hap
  ·walk_nrm
   refine Walk.gz z81 ?_
   have hgT : T ≤ g := by
    rcases hat with h | h
    ·simp only [Value.ownBlock, Option.some.injEq] at h
     omega
    ·omega
   refine Walk.ret1 rfl rfl Try.func81 rfl fun d => ⟨⟨some ⟨g, 0, none⟩, cap, by simp, h63, fun _ => ⟨?_, fun b' hb' => ?_⟩⟩, ?_, fun b' hb' => ?_⟩
   ·have h := hown'
    simp only [Nat.zero_add, List.nil_append] at h
    exact row_same h fun _ _ => rfl
   ·have hb' : some g = some b' := hb'
    obtain rfl := Option.some.inj hb'
    exact ⟨hgT, hlt⟩
   ·show T ≤ w'.heap.size
    have := hgr.size; omega
   ·exact (hgr.block b' (by omega) (by simp [Value.ownBlock]; omega)).trans (o1 b' hb')
theorem clone_w (w : World) (sl : Value) (l : List Int) (hl : LsR sl l w) (h63 : l.length ≤ 1048576) (hA : ∀ b, w.heap.size ≤ b → Apart V b) :
  CallW Try.prog main V 81 #[sl] w (fun v w' => LsAt w.heap.size (fun b => w.heap.size ≤ b ∧ b < w'.heap.size) v l w' ∧ w.heap.size ≤ w'.heap.size ∧ ∀ b, b < w.heap.size → w'.heap[b]? = w.heap[b]?) := by
 obtain ⟨a, c, rfl, hc, hn, hcells⟩ := hl
 cases a with
 | none =>
  obtain rfl := hn rfl
  have h0 : l.length = 0 := Nat.le_zero.1 hc
  rw [h0]
  intro fr cs
  refine (clone_nil w fr cs).mono ?_
  rintro g w' ⟨v, ⟨rfl, d, rfl⟩, rfl⟩
  exact ⟨_, ⟨⟨none, 0, by rw [h0], by omega, fun h => absurd (List.eq_nil_of_length_eq_zero h0) h⟩, Nat.le_refl _, fun _ _ => rfl⟩, rfl⟩
 | some a => exact clone_some w a c l h63 hA hcells
end
theorem setRow_self {w : World} {g : Nat} {old cells : Array Value} {tt : TypeId} {fr : Nat × Nat} (h : w.heap[g]? = some (.cells old tt fr)) : (w.setRow g cells).heap[g]? = some (.cells cells tt fr) := setRow_heap w g old cells tt fr h
theorem setRow_other (w : World) {g b : Nat} (cells : Array Value) (h : b ≠ g) : (w.setRow g cells).heap[b]? = w.heap[b]? := by
 unfold World.setRow
 simp only [Array.getElem?_modify]
 rw [if_neg (Ne.symm h)]
theorem setRow_size (w : World) (g : Nat) (cells : Array Value) : (w.setRow g cells).heap.size = w.heap.size := by
 unfold World.setRow
 simp
end
section
def DoOK (L : La) (f : FuncId) (first cap : Array Value) : Prop := ∀ (sv : Value) (K : Lg L sv) (e : K.E) (th : Int) (op : OpV), K.tgt e = L.enter (K.s e) th op →
 SCall K.toLb f (first ++ #[sv, .int .i64 th, opVal op] ++ cap) e (fun v e' => ∃ a sl, K.tgt e' = (K.s e', .inl a) ∧ v = ansV a sl ∧ LsR sl a.l (K.w e') ∧ a.l.length ≤ 1048576)
noncomputable def reg64_0 := rg Try.f64.body [0]
noncomputable def reg64_1 := rg Try.f64.body [1, 0, 0]
noncomputable def reg64_2 := rg Try.f64.body [1, 0, 1, 0, 0]
noncomputable def reg64_3 := rg Try.f64.body [1, 1, 0]
noncomputable def reg64_4 := rg Try.f64.body [1, 1, 1, 0]
noncomputable def reg64_5 := rg Try.f64.body [1, 1, 1, 1, 0]
theorem z64 : List.range reg64_0.size = [0, 1] ∧ List.range reg64_1.size = [0, 1] ∧ List.range reg64_2.size = [0, 1] ∧ List.range reg64_3.size = [0, 1, 2, 3, 4, 5, 6] ∧ List.range reg64_4.size = [0, 1, 2, 3, 4] ∧ List.range reg64_5.size = [0, 1] := by refine ⟨?_, ?_, ?_, ?_, ?_, ?_⟩ <;> kernel_rfl
theorem code64_is : Try.f64.body = some (.seq (.region 0 reg64_0 false) (.seq (.seq (.region 1 reg64_1 false) (.cond (.tmp 11 ) (.seq (.region 2 reg64_2 false) (.ret)) (.skip))) (.seq (.region 3 reg64_3 false) (.seq (.region 4 reg64_4 false) (.seq (.region 5 reg64_5 false) (.ret)))))) := by kernel_rfl
section
variable {L : La} {sv : Value}
theorem doOne_s (K : Lg L sv) (e : K.E) (op : OpV) (th : Int) (f : FuncId) (fn : Func) (first cap : Array Value) (hf : Try.prog.funcs[f]? = some fn) (hname : (fn.name == "runtime.NumGoroutine") = false) (hb : fn.body.isNone = false) (hdo : DoOK L f first cap) (ht : K.tgt e = L.enter (K.s e) th op) :
  SCall K.toLb 64 #[.func (.func f) first cap, sv, .int .i64 th, opVal op] e (fun v e' => ∃ a sl, K.tgt e' = (K.s e', .inl a) ∧ v = ansV a sl ∧ LsAt (K.w e).heap.size (K.mine e') sl a.l (K.w e')) := by
 intro fr l hp hl hk
 obtain ⟨fsO, huO⟩ := structT 47 (by kernel_rfl)
 obtain ⟨fsA, huA⟩ := structT 44 (by kernel_rfl)
 have hn1 := fun w => run_eql_func (P := Try.prog) (w := w) 83 (.func f) first cap (by kernel_rfl : Try.prog.underlying 83 = some (.func #[90, 3, 47] #[44] false))
 have hn2 := fun w es => ev_eql_func (P := Try.prog) (w := w) 83 (.func f) first cap es (by kernel_rfl : Try.prog.underlying 83 = some (.func #[90, 3, 47] #[44] false))
 unfold LW
 obtain ⟨ok, oa, ob, oc⟩ := op
 simp only [opVal] at *
 rw [enter_at _ Try.func64 code64_is]
 simp only [Try.ntmps64, ez, Nat.reduceAdd, Nat.reduceSub]
 refine Walk.gz z64 ?_
 (refine Walk.oa ?_; try walk_nrm)
 (refine Walk.oa ?_; try walk_nrm)
 refine Walk.gz z64 ?_
 have hsz : (((K.w e).alloc (.cells #[.int .i64 ok, .int .i64 oa, .int .i64 ob, .int .i64 oc] 47)).alloc (.cells #[.bool false, .int .i64 0, .slice none 0 0] 44)).heap.size = (K.w e).heap.size + 2 := by simp
 have hA1 : ((K.w e).alloc (.cells #[.int .i64 ok, .int .i64 oa, .int .i64 ob, .int .i64 oc] 47)).heap.size = (K.w e).heap.size + 1 := by simp
 have c1 : (((K.w e).alloc (.cells #[.int .i64 ok, .int .i64 oa, .int .i64 ob, .int .i64 oc] 47)).alloc (.cells #[.bool false, .int .i64 0, .slice none 0 0] 44)).heap[(K.w e).heap.size]? = some (.cells #[.int .i64 ok, .int .i64 oa, .int .i64 ob, .int .i64 oc] 47) := by
  rw [heap_new_lt _ _ (by omega)]
  exact heap_alloc_new _ _
 have c2 : (((K.w e).alloc (.cells #[.int .i64 ok, .int .i64 oa, .int .i64 ob, .int .i64 oc] 47)).alloc (.cells #[.bool false, .int .i64 0, .slice none 0 0] 44)).heap[(K.w e).heap.size + 1]? = some (.cells #[.bool false, .int .i64 0, .slice none 0 0] 44) := by
  have := heap_alloc_new ((K.w e).alloc (.cells #[.int .i64 ok, .int .i64 oa, .int .i64 ob, .int .i64 oc] 47)) (.cells #[.bool false, .int .i64 0, .slice none 0 0] 44)
  rwa [hA1] at this
 obtain ⟨e1, m1⟩ := K.grow e (w' := ((K.w e).alloc (.cells #[.int .i64 ok, .int .i64 oa, .int .i64 ob, .int .i64 oc] 47)).alloc (.cells #[.bool false, .int .i64 0, .slice none 0 0] 44)) (by omega) (fun b hb' => by
  rw [heap_new_lt _ _ (by omega)]
  exact heap_new_lt _ _ hb')
 try simp only [hA1]
 generalize hw2 : ((K.w e).alloc (.cells #[.int .i64 ok, .int .i64 oa, .int .i64 ob, .int .i64 oc] 47)).alloc (.cells #[.bool false, .int .i64 0, .slice none 0 0] 44) = w2 at *
 generalize hN : (K.w e).heap.size = N at *
 refine Walk.loadS 47 (.tmp 7) hoA (by rfl) (by decide) rfl N 0 [.int .i64 ok, .int .i64 oa, .int .i64 ob, .int .i64 oc] (.struct fsO) rfl (fun j v hj => ?_) huO rfl (by kernel_rfl) ?_
 ·rw [Nat.zero_add, cell_of c1]
  simpa using hj
 walk_nrm
 refine Walk.gz z64 ?_
 refine Walk.ctl rfl (fun w' => stepG_callValue hoA (by rfl) (by decide) rfl rfl hf hname hb) ?_
 walk_nrm
 generalize hX : Frame.at _ _ _ = X
 refine LW.to (l := X :: fr :: l) m1 ?_
 have hpX : Plain X := by subst hX; exact ⟨rfl, rfl, _, Try.func64⟩
 have hpl : ∀ x ∈ fr :: l, Plain x := fun x hx => by
  rcases List.mem_cons.1 hx with rfl | hx
  ·exact hp
  ·exact hl x hx
 refine (SCall.fz K (hdo sv (Fz K e1) (fz0 K e1) th ⟨ok, oa, ob, oc⟩ (by show K.tgt e1 = L.enter (K.s e1) _ _; rw [m1.tgt, m1.s, ht]))) X (fr :: l) hpX hpl ?_
 rintro v e2 ⟨hkept, a, sl, ht2, rfl, hls, hlsn⟩
 replace hls : LsR sl a.l (K.w e2) := hls
 obtain ⟨hm2, hb2⟩ := hkept (N + 1) (m1.new (by omega) (by omega))
 rw [m1.w, c2] at hb2
 have hap2 := (K.mineA e2 _ hm2).1
 have hlt2 := (K.mineA e2 _ hm2).2.2
 rw [← hX]
 clear hX hpX
 unfold LW
 simp only [ansV]
 refine Walk.finish hoA ?_
 walk_nrm
 (refine Walk.oa ?_; try walk_nrm)
 have hap3 := K.newA e2 _ (Nat.le_refl (K.w e2).heap.size)
 have c3 := heap_alloc_new (K.w e2) (.cells #[.bool false, .int .i64 0, .slice none 0 0] 44)
 have c4 : ((K.w e2).alloc (.cells #[.bool false, .int .i64 0, .slice none 0 0] 44)).heap[N + 1]? = _ := (heap_new_lt _ _ hlt2).trans hb2
 have hs3 : ((K.w e2).alloc (.cells #[.bool false, .int .i64 0, .slice none 0 0] 44)).heap.size = (K.w e2).heap.size + 1 := by simp
 have o3 : ∀ b, b < (K.w e2).heap.size → ((K.w e2).alloc (.cells #[.bool false, .int .i64 0, .slice none 0 0] 44)).heap[b]? = (K.w e2).heap[b]? := fun b hb' => heap_new_lt _ _ hb'
 generalize hM : (K.w e2).heap.size = M at *
 generalize (K.w e2).alloc (.cells #[.bool false, .int .i64 0, .slice none 0 0] 44) = w3 at *
 refine Walk.storeS 44 (.tmp 9) (.tmp 17) hoA (by rfl) (by decide) rfl M #[.bool a.ok, .int .i64 a.n, sl] _ 44 rfl rfl c3 (by kernel_rfl) (by rfl) (by rcases hls with ⟨_, _, rfl, _⟩; simp [Value.oneCell']) hap3 ?_
 have c5 := setRow_self (cells := #[.bool a.ok, .int .i64 a.n, sl]) c3
 have c6 : (w3.setRow M #[.bool a.ok, .int .i64 a.n, sl]).heap[N + 1]? = _ := (setRow_other w3 _ (show N + 1 ≠ M by omega)).trans c4
 have hs4 := setRow_size w3 M #[.bool a.ok, .int .i64 a.n, sl]
 have o4 : ∀ b, b < M → (w3.setRow M #[.bool a.ok, .int .i64 a.n, sl]).heap[b]? = (K.w e2).heap[b]? := fun b hb' => (setRow_other w3 _ (show b ≠ M by omega)).trans (o3 b hb')
 generalize w3.setRow M #[.bool a.ok, .int .i64 a.n, sl] = w4 at *
 have hle3 := hls.same (w' := w4) (fun b hb' => o4 b (by omega))
 have d2 := cell_of c5 2
 have z2 := frozen_of c5 2
 simp only [List.getElem?_toArray, List.getElem?_cons_succ, List.getElem?_cons_zero] at d2
 have hs4' : w4.heap.size = M + 1 := by omega
 walk_nrm
 refine Walk.gz z64 ?_
 refine Walk.callW (Post := fun v w' => LsAt w4.heap.size (fun b => w4.heap.size ≤ b ∧ b < w'.heap.size) v a.l w' ∧ w4.heap.size ≤ w'.heap.size ∧ ∀ b, b < w4.heap.size → w'.heap[b]? = w4.heap[b]?) ?_ hoA (by rfl) (by decide) rfl Try.func81 (by kernel_rfl) (by rfl) ?_
 ·walk_nrm
  exact clone_w w4 sl a.l hle3 hlsn (fun b hb => K.newA e2 b (by omega))
 rintro sl' w4' ⟨hls', hs4'', o4''⟩
 obtain ⟨sa, sc, rfl⟩ : ∃ sa sc, sl' = .slice sa a.l.length sc := by
  obtain ⟨x, y, h, _⟩ := hls'
  exact ⟨x, y, h⟩
 have c5' := (o4'' M (by omega)).trans c5
 have d2' := cell_of c5' 2
 have z2' := frozen_of c5' 2
 simp only [List.getElem?_toArray, List.getElem?_cons_succ, List.getElem?_cons_zero] at d2'
 clear d2 z2
 have d2 := d2'
 have z2 := z2'
 clear d2' z2'
 walk_nrm
 refine Walk.gz z64 ?_
 (have hfr := hap3.1 ⟨M, 2, none⟩ rfl; refine Walk.os hfr d2 ?_; clear hfr; try walk_nrm)
 have c7 : (w4'.setCell ⟨M, 2, none⟩ (.slice sa a.l.length sc)).heap[M]? = some (.cells #[.bool a.ok, .int .i64 a.n, (.slice sa a.l.length sc)] 44) := by
  rw [heap_set_self _ _ c5']
  simp
 have c8 : (w4'.setCell ⟨M, 2, none⟩ (.slice sa a.l.length sc)).heap[N + 1]? = _ := (heap_set_other w4' _ _ _ (show N + 1 ≠ M by omega)).trans ((o4'' _ (by omega)).trans c6)
 have hs5 := size_set w4' ⟨M, 2, none⟩ (.slice sa a.l.length sc)
 have o5 : ∀ b, b < M → (w4'.setCell ⟨M, 2, none⟩ (.slice sa a.l.length sc)).heap[b]? = (K.w e2).heap[b]? := fun b hb' => (heap_set_other w4' _ _ _ (show b ≠ M by omega)).trans ((o4'' b (by omega)).trans (o4 b hb'))
 have hls5 := hls'.same (w' := w4'.setCell ⟨M, 2, none⟩ (.slice sa a.l.length sc)) (fun b hb' => heap_set_other w4' _ _ _ (show b ≠ M by omega))
 generalize w4'.setCell ⟨M, 2, none⟩ (.slice sa a.l.length sc) = w5 at *
 refine Walk.gz z64 ?_
 refine Walk.loadS 44 (.tmp 9) hoA (by rfl) (by decide) rfl M 0 [.bool a.ok, .int .i64 a.n, (.slice sa a.l.length sc)] (.struct fsA) rfl (fun j v hj => ?_) huA rfl (by kernel_rfl) ?_
 ·rw [Nat.zero_add, cell_of c7]
  simpa using hj
 walk_nrm
 refine Walk.storeS 44 (.tmp 8) (.tmp 22) hoA (by rfl) (by decide) rfl (N + 1) #[.bool a.ok, .int .i64 a.n, (.slice sa a.l.length sc)] _ 44 rfl rfl c8 (by kernel_rfl) (by rfl) (by simp [Value.oneCell']) hap2 ?_
 have c9 := setRow_self (cells := #[.bool a.ok, .int .i64 a.n, (.slice sa a.l.length sc)]) c8
 have hls6 := hls5.same (w' := w5.setRow (N + 1) #[.bool a.ok, .int .i64 a.n, (.slice sa a.l.length sc)]) (fun b hb' => setRow_other w5 _ (show b ≠ N + 1 by omega))
 obtain ⟨e3, m3⟩ := K.own e2 (w' := w5.setRow (N + 1) #[.bool a.ok, .int .i64 a.n, (.slice sa a.l.length sc)]) (by rw [setRow_size]; omega) (fun b hb' hbm => (setRow_other w5 _ (fun he : b = N + 1 => hbm (by rw [he]; exact hm2))).trans (o5 b (by omega)))
 have hnew : ∀ b, (w4.heap.size ≤ b ∧ b < w4'.heap.size) → K.mine e3 b := fun b hb => (m3.mine b).2 (.inr ⟨by omega, by rw [setRow_size]; omega⟩)
 generalize w5.setRow (N + 1) #[.bool a.ok, .int .i64 a.n, (.slice sa a.l.length sc)] = w6 at *
 walk_nrm
 refine Walk.gz z64 ?_
 refine Walk.onCell (T := N + 1) rfl rfl rfl Try.func64 rfl (by rfl) c9 (by kernel_rfl) (by kernel_rfl) ?_
 refine LW.to m3 (hk _ e3 ⟨a, (.slice sa a.l.length sc), ?_, rfl, ?_⟩)
 ·rw [m3.tgt, m3.s]
  exact ht2
 ·rw [m3.w]
  exact (hls6.imp hnew).low (by omega)
end
end
section
noncomputable def reg63_0 := rg Try.f63.body [0]
noncomputable def reg63_1 := rg Try.f63.body [1, 0, 0, 0]
noncomputable def reg63_2 := rg Try.f63.body [1, 0, 0, 1, 1, 0, 0, 0]
noncomputable def reg63_3 := rg Try.f63.body [1, 0, 0, 1, 1, 0, 0, 1]
theorem size63_3 : reg63_3.size = 15 := by kernel_rfl
noncomputable def reg63_4 := rg Try.f63.body [1, 0, 0, 1, 1, 1]
theorem z63 : List.range reg63_0.size = [0, 1, 2] ∧ List.range reg63_1.size = [0] ∧ List.range reg63_2.size = [0, 1, 2, 3] ∧ List.range reg63_3.size = [0, 1, 2, 3, 4, 5, 6, 7, 8, 9, 10, 11, 12, 13, 14] ∧ List.range reg63_4.size = [0, 1] := by refine ⟨?_, ?_, ?_, ?_, ?_⟩ <;> kernel_rfl
theorem code63_is : Try.f63.body = some (.seq (.region 0 reg63_0 false) (.block 0 (.loop (.seq (.region 1 reg63_1 false) (.seq (.cond (.tmp 11 ) (.skip) (.exit 0)) (.seq (.block 1 (.seq (.region 2 reg63_2 false) (.region 3 reg63_3 true))) (.region 4 reg63_4 false))))))) := by kernel_rfl
def ansA (w1 : World) (a : Ans) (sl : Value) : World := w1.alloc (.cells #[.bool a.ok, .int .i64 a.n, sl] 44)
structure AppO (g : OG) (w1 : World) (a : Ans) (sl : Value) (hd : Value) (z : List (Ans × Value)) (gb gcap : Nat) (w3 : World) : Prop where
 own : w3.ownsRow g.w0.heap.size 44 3 (.slice (some ⟨gb, 0, none⟩) (z.length + 1) gcap) (z.length + 1) (ansRow z ++ [.bool a.ok, .int .i64 a.n, sl])
 grown : (ansA w1 a sl).grownBy w3 hd.ownBlock
 hat : hd.ownBlock = some gb ∨ gb = (ansA w1 a sl).heap.size
 hlt : gb < w3.heap.size
structure ThS (L : La) (g : OG) (i pO pA pI pD acap : Nat) (oa : Option Addr) (oc : Nat) (dv : Value) : Prop where
 hi : i < g.n
 n64 : g.n ≤ 64
 len : (g.ops i).length ≤ 65536
 cO : g.w0.cell? ⟨pO, 0, none⟩ = some (.slice oa (g.ops i).length oc)
 cA : g.w0.cell? ⟨pA, 0, none⟩ = some (.slice (some ⟨g.A, 0, none⟩) g.n acap)
 cI : g.w0.cell? ⟨pI, 0, none⟩ = some (.int .i64 (i : Nat))
 cD : g.w0.cell? ⟨pD, 0, none⟩ = some dv
 nO : ¬ g.sh pO ∧ pO ≠ g.A
 nA : ¬ g.sh pA ∧ pA ≠ g.A
 nI : ¬ g.sh pI ∧ pI ≠ g.A
 nD : ¬ g.sh pD ∧ pD ≠ g.A
 ops : ∀ (j : Nat) (o : OpV), (g.ops i)[j]? = some o → ∃ b off, oa = some ⟨b, off, none⟩ ∧ ¬ g.sh b ∧ b ≠ g.A ∧ g.w0.cell? ⟨b, off + j * 4, none⟩ = some (.int .i64 o.k) ∧ g.w0.cell? ⟨b, off + j * 4 + 1, none⟩ = some (.int .i64 o.a) ∧ g.w0.cell? ⟨b, off + j * 4 + 2, none⟩ = some (.int .i64 o.b) ∧ g.w0.cell? ⟨b, off + j * 4 + 3, none⟩ = some (.int .i64 o.c)
structure ClO (g : OG) (i pA pI pD acap : Nat) (dv hd : Value) (w : World) : Prop where
 hA : w.cell? ⟨pA, 0, none⟩ = some (.slice (some ⟨g.A, 0, none⟩) g.n acap)
 hI : w.cell? ⟨pI, 0, none⟩ = some (.int .i64 (i : Nat))
 hD : w.cell? ⟨pD, 0, none⟩ = some dv
 hH : w.cell? ⟨g.A, i, none⟩ = some hd
 hHz : w.frozen? ⟨g.A, i, none⟩ = false
section
variable {L : La} {g : OG} {S : Stile} {i : Nat}
theorem EC.ro (e : EC L g S i) {b : Nat} (h : b < g.w0.heap.size) (h1 : ¬ g.sh b) (h2 : b ≠ g.A) : e.w.heap[b]? = g.w0.heap[b]? := by
 obtain ⟨hd0, r⟩ := e.rely
 exact (e.frame b (Nat.lt_of_lt_of_le h r.size) (fun hm => by have := (r.lo b hm).1; omega) (fun hs => h1 ((r.shlo b hs).2.2 h)) h2).trans (r.old b h h1 h2)
theorem EC.cell (e : EC L g S i) {b j : Nat} {v : Value} (h : g.w0.cell? ⟨b, j, none⟩ = some v) (h1 : ¬ g.sh b ∧ b ≠ g.A) : e.w.cell? ⟨b, j, none⟩ = some v :=
 (World.cell?_of_block (a := ⟨b, j, none⟩) (e.ro (cell_lt' h) h1.1 h1.2)).trans h
theorem EC.apA (e : EC L g S i) : ∀ a : Addr, a.block = g.A → Free e.τ.V a := (e.apart (b := g.A) (.inl (by obtain ⟨hd0, r⟩ := e.rely; exact r.alo))).1
variable {pO pA pI pD acap : Nat} {oa : Option Addr} {oc : Nat} {dv hd : Value}
theorem ThS.cl (T : ThS L g i pO pA pI pD acap oa oc dv) (e : EC L g S i) (h : e.hd = hd) : ClO g i pA pI pD acap dv hd e.w := by
 obtain ⟨arr, arr', h1, h2, h3, h4, h5⟩ := e.an
 exact ⟨e.cell T.cA T.nA, e.cell T.cI T.nI, e.cell T.cD T.nD, (cell_of h2 i).trans (h ▸ h4), frozen_of h2 i⟩
theorem ClO.new {w : World} (h : ClO g i pA pI pD acap dv hd w) (a : Ans) (sl : Value) : ClO g i pA pI pD acap dv hd (ansA w a sl) :=
 ⟨cell_alloc w _ h.hA, cell_alloc w _ h.hI, cell_alloc w _ h.hD, cell_alloc w _ h.hH, frozen_alloc w _ h.hH h.hHz⟩
theorem ThS.app (T : ThS L g i pO pA pI pD acap oa oc dv) (e : EC L g S i) {a : Ans} {sl : Value} {z : List (Ans × Value)} {gb gcap : Nat} {w3 : World} (h : AppO g e.w a sl e.hd z gb gcap w3) (hc : ClO g i pA pI pD acap dv hd (ansA e.w a sl)) : ClO g i pA pI pD acap dv hd w3 := by
 obtain ⟨hd0, r⟩ := e.rely
 have far : ∀ b, b < g.w0.heap.size → some b ≠ e.hd.ownBlock := fun b hb he => by have := (e.lo (e.hdo b he.symm)).1; omega
 have f1 : ∀ {b j : Nat} {v : Value}, b < g.w0.heap.size → (ansA e.w a sl).cell? ⟨b, j, none⟩ = some v → w3.cell? ⟨b, j, none⟩ = some v := fun {b j v} hb hv =>
  (h.grown.cell_far _ (cell_lt _ hv) (far b hb)).trans hv
 exact ⟨f1 (cell_lt' T.cA) hc.hA, f1 (cell_lt' T.cI) hc.hI, f1 (cell_lt' T.cD) hc.hD, f1 r.alo hc.hH, (h.grown.frozen_far _ (cell_lt _ hc.hH) (far _ r.alo)).trans hc.hHz⟩
structure RowZ (g : OG) (P : Nat → Prop) (hd : Value) (z : List (Ans × Value)) (w : World) : Prop where
 sl : ∃ ta tc, hd = .slice ta z.length tc
 own : w.ownsRow g.w0.heap.size 44 3 hd z.length (ansRow z)
 hdo : ∀ b, hd.ownBlock = some b → P b
 ls : ∀ p ∈ z, LsAt g.w0.heap.size P p.2 p.1.l w
theorem RowA.z {g : OG} {P : Nat → Prop} {hd : Value} {ans : List Ans} {w : World} (h : RowA g.w0.heap.size P hd ans w) : ∃ z, z.map Prod.fst = ans ∧ RowZ g P hd z w := by
 obtain ⟨ta, tc, z, h1, h2, h3, h4, h5⟩ := h
 have : z.length = ans.length := by rw [← h1, List.length_map]
 exact ⟨z, h1, ⟨ta, tc, by rw [this]; exact h2⟩, by rw [this]; exact h3, h4, h5⟩
def Ph (L : La) (g : OG) (S : Stile) (i : Nat) (o : OpV) (rest' : List OpV) (X : Nat) (f : Nat → Bool) (u : Nat → Value) (e : EC L g S i) (w' : World) : Prop :=
 (f 10 = false ∧ e.τ.goal = landO L (i : Nat) (L.enter e.s (i : Nat) o) rest' e.ans ∧ e.w.heap[X]? = some (.cells #[.int .i64 o.k, .int .i64 o.a, .int .i64 o.b, .int .i64 o.c] 47) ∧ ∃ d, w' = e.w.at d) ∨
 (f 10 = true ∧ ∃ a sl, u 24 = ansV a sl ∧ LsAt g.w0.heap.size (ownT e.τ e.y e.w) sl a.l e.w ∧ e.τ.goal = settleO L (i : Nat) e.s rest' (e.ans ++ [a]) ∧
  ((f 11 = false ∧ f 12 = false ∧ f 14 = false ∧ ∃ d, w' = e.w.at d) ∨
   (f 11 = true ∧ f 12 = false ∧ f 14 = false ∧ u 25 = .slice (some ⟨e.w.heap.size, 0, none⟩) 1 1 ∧ ∃ d, w' = (ansA e.w a sl).at d) ∨
   (f 11 = true ∧ f 12 = true ∧ ∃ z gb gcap w3, z.map Prod.fst = e.ans ∧ RowZ g (ownT e.τ e.y e.w) e.hd z e.w ∧ AppO g e.w a sl e.hd z gb gcap w3 ∧ u 26 = .slice (some ⟨gb, 0, none⟩) (e.ans.length + 1) gcap ∧
    ((f 14 = false ∧ ∃ d, w' = w3.at d) ∨ (f 14 = true ∧ ∃ d, w' = (w3.setCell ⟨g.A, i, none⟩ (u 26)).at d)))))
variable {o : OpV} {rest' : List OpV} {X : Nat} {f : Nat → Bool} {u : Nat → Value} {e : EC L g S i} {w' : World}
theorem Ph.quiet {j d : Nat} {v : Value} (h : Ph L g S i o rest' X f u e w') (hj : j ≠ 10 ∧ j ≠ 11 ∧ j ≠ 12 ∧ j ≠ 14) (hd : d ≠ 24 ∧ d ≠ 25 ∧ d ≠ 26) : Ph L g S i o rest' X (upd f j true) (upd u d v) e w' := by
 unfold Ph
 rw [upd_ne f true (Ne.symm hj.1), upd_ne f true (Ne.symm hj.2.1), upd_ne f true (Ne.symm hj.2.2.1), upd_ne f true (Ne.symm hj.2.2.2), upd_ne u v (Ne.symm hd.1), upd_ne u v (Ne.symm hd.2.1), upd_ne u v (Ne.symm hd.2.2)]
 exact h
theorem Ph.early (h : Ph L g S i o rest' X f u e w') (h10 : f 10 = false) : w'.heap[X]? = some (.cells #[.int .i64 o.k, .int .i64 o.a, .int .i64 o.b, .int .i64 o.c] 47) := by
 rcases h with ⟨_, _, h, d, rfl⟩ | ⟨h, _⟩
 ·exact h
 ·rw [h10] at h; cases h
theorem Ph.callAt (h : Ph L g S i o rest' X f u e w') (h10 : f 10 = false) : e.τ.goal = landO L (i : Nat) (L.enter e.s (i : Nat) o) rest' e.ans ∧ ∃ d, w' = e.w.at d := by
 rcases h with ⟨_, h, _, h2⟩ | ⟨h, _⟩
 ·exact ⟨h, h2⟩
 ·rw [h10] at h; cases h
theorem Ph.newAt (h : Ph L g S i o rest' X f u e w') (h10 : f 10 = true) (h11 : f 11 = false) : ∃ a sl, u 24 = ansV a sl ∧ LsAt g.w0.heap.size (ownT e.τ e.y e.w) sl a.l e.w ∧ e.τ.goal = settleO L (i : Nat) e.s rest' (e.ans ++ [a]) ∧ f 12 = false ∧ ∃ d, w' = e.w.at d := by
 rcases h with ⟨h, _⟩ | ⟨_, a, sl, h1, hl, h2, ⟨_, h12, _, h⟩ | ⟨h, _⟩ | ⟨h, _⟩⟩
 ·rw [h10] at h; cases h
 ·exact ⟨a, sl, h1, hl, h2, h12, h⟩
 ·rw [h11] at h; cases h
 ·rw [h11] at h; cases h
theorem Ph.appAt (h : Ph L g S i o rest' X f u e w') (h10 : f 10 = true) (h11 : f 11 = true) (h12 : f 12 = false) : ∃ a sl, u 24 = ansV a sl ∧ LsAt g.w0.heap.size (ownT e.τ e.y e.w) sl a.l e.w ∧ e.τ.goal = settleO L (i : Nat) e.s rest' (e.ans ++ [a]) ∧ u 25 = .slice (some ⟨e.w.heap.size, 0, none⟩) 1 1 ∧ ∃ d, w' = (ansA e.w a sl).at d := by
 rcases h with ⟨h, _⟩ | ⟨_, a, sl, h1, hl, h2, ⟨h, _⟩ | ⟨_, _, _, h25, h⟩ | ⟨_, h, _⟩⟩
 ·rw [h10] at h; cases h
 ·rw [h11] at h; cases h
 ·exact ⟨a, sl, h1, hl, h2, h25, h⟩
 ·rw [h12] at h; cases h
theorem Ph.stAt (h : Ph L g S i o rest' X f u e w') (h10 : f 10 = true) (h11 : f 11 = true) (h12 : f 12 = true) (h14 : f 14 = false) : ∃ a sl, u 24 = ansV a sl ∧ LsAt g.w0.heap.size (ownT e.τ e.y e.w) sl a.l e.w ∧ e.τ.goal = settleO L (i : Nat) e.s rest' (e.ans ++ [a]) ∧ ∃ z gb gcap w3, z.map Prod.fst = e.ans ∧ RowZ g (ownT e.τ e.y e.w) e.hd z e.w ∧ AppO g e.w a sl e.hd z gb gcap w3 ∧ u 26 = .slice (some ⟨gb, 0, none⟩) (e.ans.length + 1) gcap ∧ ∃ d, w' = w3.at d := by
 rcases h with ⟨h, _⟩ | ⟨_, a, sl, h1, hl, h2, ⟨h, _⟩ | ⟨_, h, _⟩ | ⟨_, _, z, gb, gcap, w3, hz, hZ, hA, h26, ⟨_, h⟩ | ⟨h, _⟩⟩⟩
 ·rw [h10] at h; cases h
 ·rw [h11] at h; cases h
 ·rw [h12] at h; cases h
 ·exact ⟨a, sl, h1, hl, h2, z, gb, gcap, w3, hz, hZ, hA, h26, h⟩
 ·rw [h14] at h; cases h
theorem Ph.endAt (h : Ph L g S i o rest' X f u e w') (h10 : f 10 = true) (h12 : f 12 = true) (h14 : f 14 = true) : ∃ a sl, LsAt g.w0.heap.size (ownT e.τ e.y e.w) sl a.l e.w ∧ e.τ.goal = settleO L (i : Nat) e.s rest' (e.ans ++ [a]) ∧ ∃ z gb gcap w3, z.map Prod.fst = e.ans ∧ RowZ g (ownT e.τ e.y e.w) e.hd z e.w ∧ AppO g e.w a sl e.hd z gb gcap w3 ∧ ∃ d, w' = (w3.setCell ⟨g.A, i, none⟩ (.slice (some ⟨gb, 0, none⟩) (e.ans.length + 1) gcap)).at d := by
 rcases h with ⟨h, _⟩ | ⟨_, a, sl, h1, hl, h2, ⟨_, h, _⟩ | ⟨_, h, _⟩ | ⟨_, _, z, gb, gcap, w3, hz, hZ, hA, h26, ⟨h, _⟩ | ⟨_, h⟩⟩⟩
 ·rw [h10] at h; cases h
 ·rw [h12] at h; cases h
 ·rw [h12] at h; cases h
 ·rw [h14] at h; cases h
 ·rw [h26] at h
  exact ⟨a, sl, hl, h2, z, gb, gcap, w3, hz, hZ, hA, h⟩
theorem Facts.other {dsts : List Nat} {vals : List Value} {f : Nat → Bool} {u : Nat → Value} (F : Facts dsts vals f u) {d : Nat} {v : Value} (hd : d ∉ dsts) : Facts dsts vals f (upd u d v) := by
 intro j d' v' hf hd' hv'
 have hne : d' ≠ d := fun e => hd (by rw [← e]; exact List.mem_of_getElem? hd')
 rw [upd_ne _ _ hne]
 exact F j d' v' hf hd' hv'
theorem LsAt.far {base : Nat} {P : Nat → Prop} {sl : Value} {l : List Int} {w w' : World} (h : LsAt base P sl l w) (hb : ∀ b cur fr, P b → w.heap[b]? = some (.cells cur 2 fr) → w'.heap[b]? = w.heap[b]?) : LsAt base P sl l w' := by
 obtain ⟨a, c, e, hn, hr⟩ := h
 refine ⟨a, c, e, hn, fun hl => ⟨row_same (hr hl).1 fun b hb' => ?_, (hr hl).2⟩⟩
 rcases (hr hl).1.2 with ⟨h1, _⟩ | ⟨g, cap, cur, h1, _, h3, _⟩
 ·rw [h1] at hb'; cases hb'
 ·have : g = b := by rw [h1] at hb'; exact Option.some.inj hb'
  subst this
  exact hb _ _ _ ((hr hl).2 _ hb') h3
theorem RowZ.kind {g : OG} {P : Nat → Prop} {hd : Value} {z : List (Ans × Value)} {w : World} (h : RowZ g P hd z w) {b : Nat} (hb : hd.ownBlock = some b) {cur : Array Value} {fr : Nat × Nat} : w.heap[b]? ≠ some (.cells cur 2 fr) := by
 intro hc
 rcases h.own.2 with ⟨h1, _⟩ | ⟨g', cap, cur', h1, _, h3, _⟩
 ·rw [h1] at hb; cases hb
 ·have : g' = b := by rw [h1] at hb; exact Option.some.inj hb
  subst this
  rw [h3] at hc
  simp at hc
theorem EC.told (e : EC L g S i) {a : Ans} {sl : Value} {z : List (Ans × Value)} {gb gcap : Nat} {w3 : World} (hl : LsAt g.w0.heap.size (ownT e.τ e.y e.w) sl a.l e.w) (hz : z.map Prod.fst = e.ans) (hZ : RowZ g (ownT e.τ e.y e.w) e.hd z e.w) (h : AppO g e.w a sl e.hd z gb gcap w3) : ∃ e' : EC L g S i, e'.τ = e.τ ∧ e'.N = e.N ∧ e'.s = e.s ∧ e'.ans = e.ans ++ [a] ∧ e'.w = w3.setCell ⟨g.A, i, none⟩ (.slice (some ⟨gb, 0, none⟩) (e.ans.length + 1) gcap) := by
 obtain ⟨hd0, r⟩ := e.rely
 obtain ⟨arr, arr', a1, a2, a3, a4, a5⟩ := e.an
 have hzl : z.length = e.ans.length := by rw [← hz, List.length_map]
 have hsz1 : (ansA e.w a sl).heap.size = e.w.heap.size + 1 := by simp [ansA]
 have hs3 := h.grown.size
 have hold : ∀ b, b < e.w.heap.size → some b ≠ e.hd.ownBlock → w3.heap[b]? = e.w.heap[b]? := fun b hb hne => (h.grown.block b (by omega) hne).trans (heap_new_lt _ _ hb)
 have hAo : some g.A ≠ e.hd.ownBlock := fun he => by have := (e.lo (e.hdo _ he.symm)).1; have := r.alo; omega
 have hAl : g.A < e.w.heap.size := by have := r.alo; have := r.size; have := e.size; omega
 have hA3 : w3.heap[g.A]? = some (.cells arr' 42) := (hold _ hAl hAo).trans a2
 have hgo : ownT e.τ e.y e.w gb ∨ e.w.heap.size ≤ gb := by
  rcases h.hat with h | h
  ·exact .inl (e.hdo _ h)
  ·exact .inr (by omega)
 have hgA : gb ≠ g.A := fun he => by
  rcases hgo with h | h
  ·exact (e.noA h).2 he
  ·omega
 have hset : ∀ b, b ≠ g.A → (w3.setCell ⟨g.A, i, none⟩ (.slice (some ⟨gb, 0, none⟩) (e.ans.length + 1) gcap)).heap[b]? = w3.heap[b]? := fun b hb => heap_set_other _ _ _ _ hb
 have hil : i < arr'.size := (Array.getElem?_eq_some_iff.1 a4).1
 have hown' : ∀ b, ownT e.τ e.y e.w b → ownT e.τ e.y (w3.setCell ⟨g.A, i, none⟩ (.slice (some ⟨gb, 0, none⟩) (e.ans.length + 1) gcap)) b := fun b hb => ⟨hb.1.imp id fun h => ⟨h.1, by rw [size_set]; omega⟩, hb.2⟩
 have hgn : ¬ L.sh e.y gb := fun hs => by
  rcases hgo with h | h
  ·exact h.2 hs
  ·have := L.lt e.inv hs; omega
 refine ⟨{ τ := e.τ, N := e.N, w := w3.setCell ⟨g.A, i, none⟩ (.slice (some ⟨gb, 0, none⟩) (e.ans.length + 1) gcap), y := e.y, s := e.s, ans := e.ans ++ [a], hd := .slice (some ⟨gb, 0, none⟩) (e.ans.length + 1) gcap, le := e.le, size := by rw [size_set]; have := e.size; omega, frame := fun b h1 h2 h3 h4 => (hset b h4).trans ((hold b (Nat.lt_of_lt_of_le h1 e.size) fun he => ?_).trans (e.frame b h1 h2 h3 h4)), pub := e.pub, rely := e.rely, an := ⟨arr, arr'.setIfInBounds i (.slice (some ⟨gb, 0, none⟩) (e.ans.length + 1) gcap), a1, heap_set_self _ _ hA3, by simp [a3], by simp [hil], fun j hj => ?_⟩, row := ⟨some ⟨gb, 0, none⟩, gcap, z ++ [(a, sl)], by simp [hz], by simp, ?_, fun b hb => ?_, fun p hp => ?_⟩, inv := L.stable e.inv fun b hb => ?_ }, rfl, rfl, rfl, rfl, rfl⟩
 ·rcases (e.hdo b he.symm).1 with h | h
  ·exact h2 h
  ·have := h.1; omega
 ·rw [Array.getElem?_setIfInBounds_ne (Ne.symm hj)]; exact a5 j hj
 ·rw [ansRow_snoc, List.length_append, List.length_singleton, ← hzl]
  refine row_same h.own fun b hb => ?_
  rw [hzl]
  refine hset b fun he => ?_
  simp only [Value.ownBlock, Option.some.injEq] at hb
  exact hgA (hb.trans he)
 ·simp only [Value.ownBlock, Option.some.injEq] at hb
  subst hb
  refine ⟨?_, hgn⟩
  rcases hgo with hg | hg
  ·exact (hown' _ hg).1
  ·exact .inr ⟨Nat.le_trans e.size hg, by rw [size_set]; exact h.hlt⟩
 ·have hp' : LsAt g.w0.heap.size (ownT e.τ e.y e.w) p.2 p.1.l e.w := by
   rcases List.mem_append.1 hp with hp | hp
   ·exact hZ.ls p hp
   ·rw [List.mem_singleton.1 hp]; exact hl
  refine (hp'.far fun b cur fr hb hc => ?_).imp hown'
  refine (hset b (e.noA hb).2).trans (hold b (e.lo hb).2 fun he => hZ.kind he.symm hc)
 ·have h1 := e.shb hb
  exact (hset b h1.1).trans (hold b (L.lt e.inv hb) fun he => (e.noA (e.hdo b he.symm)).1 hb)
end
end
section
section
variable {L : La} {g : OG} {S : Stile} {i : Nat} {pO pA pI pD acap : Nat} {oa : Option Addr} {oc : Nat} {o : OpV} {rest' : List OpV} {X : Nat}
def tm68 (sv : Value) (pO pA pI pD X : Nat) (ov : Value) (ln j : Nat) (u : Nat → Value) : Array Value := #[sv, .pointer (some ⟨pO, 0, none⟩), .pointer (some ⟨pA, 0, none⟩), .pointer (some ⟨pI, 0, none⟩), .pointer (some ⟨pD, 0, none⟩), u 5, u 6, .pointer (some ⟨X, 0, none⟩), ov, .int .i64 ln, .int .i64 j, u 11, u 12, u 13, u 14, u 15, u 16, u 17, u 18, u 19, u 20, u 21, u 22, u 23, u 24, u 25, u 26, u 27, u 28]
theorem reg68_walk {fdo : FuncId} {first cap : Array Value} (T : ThS L g i pO pA pI pD acap oa oc (.func (.func fdo) first cap)) {fn : Func} (hf : Try.prog.funcs[fdo]? = some fn) (hname : (fn.name == "runtime.NumGoroutine") = false) (hb : fn.body.isNone = false) (hdo : DoOK L fdo first cap)
  (e0 : EC L g S i) (hlen : e0.ans.length < 1099511627776) (hg0 : e0.τ.goal = landO L (i : Nat) (L.enter e0.s (i : Nat) o) rest' e0.ans) (hX : e0.w.heap[X]? = some (.cells #[.int .i64 o.k, .int .i64 o.a, .int .i64 o.b, .int .i64 o.c] 47)) (ov : Value) (ln j : Nat) (u0 : Nat → Value) (k : List Item)
  (hk : ∀ (u : Nat → Value) (e : EC L g S i) a, e.ans = e0.ans ++ [a] → e.τ.goal = settleO L (i : Nat) e.s rest' e.ans → Walk Try.prog false (DR e.τ.V) (StopT L g S i (Cont L g S i e.N) e.τ) (G ((base 63).at ⟨tm68 (.iface 150 (.pointer (some ⟨S.p i, 0, none⟩))) pO pA pI pD X ov ln j u, []⟩ (.inRegion reg63_3 [] :: k)) (e.τ.f :: e.τ.fs)) e.w) :
  Walk Try.prog false (DR e0.τ.V) (StopT L g S i (Cont L g S i e0.N) e0.τ) (G ((base 63).at ⟨tm68 (.iface 150 (.pointer (some ⟨S.p i, 0, none⟩))) pO pA pI pD X ov ln j u0, []⟩ (.code (.region 3 reg63_3 true) :: k)) (e0.τ.f :: e0.τ.fs)) e0.w := by
 have hiA := Option.some_get (show (Try.prog.info? 44).isSome = true by kernel_rfl)
 obtain ⟨fsO, huO⟩ := structT 47 (by kernel_rfl)
 have hi := T.hi
 have hn64 := T.n64
 generalize hsv : (.iface 150 (.pointer (some ⟨S.p i, 0, none⟩)) : Value) = sv at *
 generalize hdv : (.func (.func fdo) first cap : Value) = dv at *
 generalize hans : e0.ans = ans at *
 generalize hhd : e0.hd = hd
 refine Walk.drawnE (E := EC L g S i × World) (V := fun x => x.1.τ.V) (Stop := fun x => StopT L g S i (Cont L g S i x.1.N) x.1.τ) (cs := fun x => x.1.τ.f :: x.1.τ.fs) (w := fun x => x.2)
  (Inv := fun f a x => ∃ u, a = ⟨tm68 sv pO pA pI pD X ov ln j u, []⟩ ∧ Facts [14, 15, 16, 17, 18, 19, 20, 21, 22, 23, 1010, 1011, 1012, 27, 1014] [.slice (some ⟨g.A, 0, none⟩) g.n acap, .int .i64 (i : Nat), .slice (some ⟨g.A, 0, none⟩) g.n acap, .int .i64 (i : Nat), .pointer (some ⟨g.A, i, none⟩), hd, dv, sv, .int .i64 (i : Nat), opVal o, undef, undef, undef, .pointer (some ⟨g.A, i, none⟩), undef] f u ∧ x.1.ans = ans ∧ x.1.hd = hd ∧ (f 14 = false → ClO g i pA pI pD acap dv hd x.2) ∧ Ph L g S i o rest' X f u x.1 x.2) (e0, e0.w) (by kernel_rfl) (by kernel_rfl)
  ⟨u0, rfl, Facts.none _ _ _, hans, hhd, fun _ => T.cl e0 hhd, .inl ⟨rfl, hans ▸ hg0, hX, e0.w.drawn, rfl⟩⟩ ?_ ?_
 ·rintro f oi op a ⟨e, w'⟩ ⟨u, rfl, F, he1, he2, hc, hw⟩ hC hfi ho hdeps rest hr
  dsimp only at he1 he2 hc hw hr ⊢
  have hil : oi < 15 := (Array.getElem?_eq_some_iff.1 ho).1
  match oi, hil with
  | 0, _ =>
   have h14 : f 14 = false := by cases h : f 14 with | false => rfl | true => exact absurd (hC.deps (l := [0]) h (by kernel_rfl) 0 (by simp)) (by simp [hfi])
   have h14' : upd f 0 true 14 = false := (upd_ne _ _ (by decide)).trans h14
   replace hc := hc h14
   clear hdeps ho hC hfi
   obtain ⟨hA, hI, hD, hH, hHz⟩ := hc
   simp only [tm68] at hr ⊢
   (refine Walk.oq ?_; try walk_nrm)
   refine hr _ (e, w') ⟨upd u 14 (.slice (some ⟨g.A, 0, none⟩) g.n acap), ?_, F.set (by decide) rfl rfl, he1, he2, fun _ => ⟨hA, hI, hD, hH, hHz⟩, hw.quiet (by decide) (by decide)⟩
   simp [tm68, upd]
  | 1, _ =>
   have h14 : f 14 = false := by cases h : f 14 with | false => rfl | true => exact absurd (hC.deps (l := [1]) h (by kernel_rfl) 1 (by simp)) (by simp [hfi])
   have h14' : upd f 1 true 14 = false := (upd_ne _ _ (by decide)).trans h14
   replace hc := hc h14
   clear hdeps ho hC hfi
   obtain ⟨hA, hI, hD, hH, hHz⟩ := hc
   simp only [tm68] at hr ⊢
   (refine Walk.oq ?_; try walk_nrm)
   refine hr _ (e, w') ⟨upd u 15 (.int .i64 (i : Nat)), ?_, F.set (by decide) rfl rfl, he1, he2, fun _ => ⟨hA, hI, hD, hH, hHz⟩, hw.quiet (by decide) (by decide)⟩
   simp [tm68, upd]
  | 2, _ =>
   have h14 : f 14 = false := by cases h : f 14 with | false => rfl | true => exact absurd (hC.deps (l := [2]) h (by kernel_rfl) 2 (by simp)) (by simp [hfi])
   have h14' : upd f 2 true 14 = false := (upd_ne _ _ (by decide)).trans h14
   replace hc := hc h14
   clear hdeps ho hC hfi
   obtain ⟨hA, hI, hD, hH, hHz⟩ := hc
   simp only [tm68] at hr ⊢
   (refine Walk.oq ?_; try walk_nrm)
   refine hr _ (e, w') ⟨upd u 16 (.slice (some ⟨g.A, 0, none⟩) g.n acap), ?_, F.set (by decide) rfl rfl, he1, he2, fun _ => ⟨hA, hI, hD, hH, hHz⟩, hw.quiet (by decide) (by decide)⟩
   simp [tm68, upd]
  | 3, _ =>
   have h14 : f 14 = false := by cases h : f 14 with | false => rfl | true => exact absurd (hC.deps (l := [3]) h (by kernel_rfl) 3 (by simp)) (by simp [hfi])
   have h14' : upd f 3 true 14 = false := (upd_ne _ _ (by decide)).trans h14
   replace hc := hc h14
   clear hdeps ho hC hfi
   obtain ⟨hA, hI, hD, hH, hHz⟩ := hc
   simp only [tm68] at hr ⊢
   (refine Walk.oq ?_; try walk_nrm)
   refine hr _ (e, w') ⟨upd u 17 (.int .i64 (i : Nat)), ?_, F.set (by decide) rfl rfl, he1, he2, fun _ => ⟨hA, hI, hD, hH, hHz⟩, hw.quiet (by decide) (by decide)⟩
   simp [tm68, upd]
  | 4, _ =>
   have hdd := deps_of (l := [2, 3]) (by kernel_rfl) ho hdeps
   have e16 := F 2 16 _ (hdd 2 (by simp)) rfl rfl
   have e17 := F 3 17 _ (hdd 3 (by simp)) rfl rfl
   have h14 : f 14 = false := by cases h : f 14 with | false => rfl | true => exact absurd (hC.deps (l := [4]) h (by kernel_rfl) 4 (by simp)) (by simp [hfi])
   have h14' : upd f 4 true 14 = false := (upd_ne _ _ (by decide)).trans h14
   replace hc := hc h14
   clear hdeps ho hC hfi hdd
   obtain ⟨hA, hI, hD, hH, hHz⟩ := hc
   simp only [tm68] at hr ⊢
   (refine Walk.oq ?_; try walk_nrm)
   refine hr _ (e, w') ⟨upd u 18 (.pointer (some ⟨g.A, i, none⟩)), ?_, F.set (by decide) rfl rfl, he1, he2, fun _ => ⟨hA, hI, hD, hH, hHz⟩, hw.quiet (by decide) (by decide)⟩
   simp [tm68, upd, e16, e17]
  | 5, _ =>
   have hdd := deps_of (l := [4]) (by kernel_rfl) ho hdeps
   have e18 := F 4 18 _ (hdd 4 (by simp)) rfl rfl
   have h14 : f 14 = false := by cases h : f 14 with | false => rfl | true => exact absurd (hC.deps (l := [5]) h (by kernel_rfl) 5 (by simp)) (by simp [hfi])
   have h14' : upd f 5 true 14 = false := (upd_ne _ _ (by decide)).trans h14
   replace hc := hc h14
   clear hdeps ho hC hfi hdd
   obtain ⟨hA, hI, hD, hH, hHz⟩ := hc
   simp only [tm68] at hr ⊢
   (refine Walk.oq ?_; try walk_nrm)
   refine hr _ (e, w') ⟨upd u 19 (hd), ?_, F.set (by decide) rfl rfl, he1, he2, fun _ => ⟨hA, hI, hD, hH, hHz⟩, hw.quiet (by decide) (by decide)⟩
   simp [tm68, upd, e18]
  | 6, _ =>
   have h14 : f 14 = false := by cases h : f 14 with | false => rfl | true => exact absurd (hC.deps (l := [6]) h (by kernel_rfl) 6 (by simp)) (by simp [hfi])
   have h14' : upd f 6 true 14 = false := (upd_ne _ _ (by decide)).trans h14
   replace hc := hc h14
   clear hdeps ho hC hfi
   obtain ⟨hA, hI, hD, hH, hHz⟩ := hc
   simp only [tm68] at hr ⊢
   (refine Walk.oq ?_; try walk_nrm)
   refine hr _ (e, w') ⟨upd u 20 (dv), ?_, F.set (by decide) rfl rfl, he1, he2, fun _ => ⟨hA, hI, hD, hH, hHz⟩, hw.quiet (by decide) (by decide)⟩
   simp [tm68, upd]
  | 7, _ =>
   have h14 : f 14 = false := by cases h : f 14 with | false => rfl | true => exact absurd (hC.deps (l := [7]) h (by kernel_rfl) 7 (by simp)) (by simp [hfi])
   have h14' : upd f 7 true 14 = false := (upd_ne _ _ (by decide)).trans h14
   replace hc := hc h14
   clear hdeps ho hC hfi
   obtain ⟨hA, hI, hD, hH, hHz⟩ := hc
   simp only [tm68] at hr ⊢
   (refine Walk.oq ?_; try walk_nrm)
   refine hr _ (e, w') ⟨upd u 21 (sv), ?_, F.set (by decide) rfl rfl, he1, he2, fun _ => ⟨hA, hI, hD, hH, hHz⟩, hw.quiet (by decide) (by decide)⟩
   simp [tm68, upd]
  | 8, _ =>
   have h14 : f 14 = false := by cases h : f 14 with | false => rfl | true => exact absurd (hC.deps (l := [8]) h (by kernel_rfl) 8 (by simp)) (by simp [hfi])
   have h14' : upd f 8 true 14 = false := (upd_ne _ _ (by decide)).trans h14
   replace hc := hc h14
   clear hdeps ho hC hfi
   obtain ⟨hA, hI, hD, hH, hHz⟩ := hc
   simp only [tm68] at hr ⊢
   (refine Walk.oq ?_; try walk_nrm)
   refine hr _ (e, w') ⟨upd u 22 (.int .i64 (i : Nat)), ?_, F.set (by decide) rfl rfl, he1, he2, fun _ => ⟨hA, hI, hD, hH, hHz⟩, hw.quiet (by decide) (by decide)⟩
   simp [tm68, upd]
  | 9, _ =>
   have h14 : f 14 = false := by cases h : f 14 with | false => rfl | true => exact absurd (hC.deps (l := [9]) h (by kernel_rfl) 9 (by simp)) (by simp [hfi])
   have h14' : upd f 9 true 14 = false := (upd_ne _ _ (by decide)).trans h14
   replace hc := hc h14
   have hX := hw.early (by cases h : f 10 with | false => rfl | true => exact absurd (hC.deps (l := [9]) h (by kernel_rfl) 9 (by simp)) (by simp [hfi]))
   clear hdeps ho hC hfi
   simp only [tm68] at hr ⊢
   refine Walk.loadS 47 (.tmp 7) hoA (by rfl) (by decide) rfl X 0 [.int .i64 o.k, .int .i64 o.a, .int .i64 o.b, .int .i64 o.c] (.struct fsO) rfl (fun j v hj => ?_) huO rfl (by kernel_rfl) ?_
   ·rw [Nat.zero_add, cell_of hX]
    simpa using hj
   walk_nrm
   refine hr _ (e, w') ⟨upd u 23 (opVal o), ?_, F.set (by decide) rfl rfl, he1, he2, fun _ => hc, hw.quiet (by decide) (by decide)⟩
   simp [tm68, upd, opVal]
  | 10, _ =>
   have hdd := deps_of (l := [6, 7, 8, 9]) (by kernel_rfl) ho hdeps
   have e20 := F 6 20 _ (hdd 6 (by simp)) rfl rfl
   have e21 := F 7 21 _ (hdd 7 (by simp)) rfl rfl
   have e22 := F 8 22 _ (hdd 8 (by simp)) rfl rfl
   have e23 := F 9 23 _ (hdd 9 (by simp)) rfl rfl
   have h14 : f 14 = false := by cases h : f 14 with | false => rfl | true => exact absurd (hC.deps (l := [10]) h (by kernel_rfl) 10 (by simp)) (by simp [hfi])
   have h14' : upd f 10 true 14 = false := (upd_ne _ _ (by decide)).trans h14
   replace hc := hc h14
   obtain ⟨hg, dd, rfl⟩ := hw.callAt hfi
   refine Walk.back ?_ dd
   have h11 : f 11 = false := by cases h : f 11 with | false => rfl | true => exact absurd (hC.deps (l := [10]) h (by kernel_rfl) 10 (by simp)) (by simp [hfi])
   have h12 : f 12 = false := by cases h : f 12 with | false => rfl | true => exact absurd (hC.deps (l := [11]) h (by kernel_rfl) 11 (by simp)) (by simp [h11])
   clear hdeps ho hC
   obtain ⟨c, eo, q1, q2, q3, q4, q5⟩ : ∃ (c : OC) (eo : EO L g S i c), eo.toEC = e ∧ eo.tgt = L.enter e.s (i : Nat) o ∧ c.left = rest' ∧ c.ans = e.ans ∧ c.hd = e.hd := ⟨⟨rest', e.ans, e.hd, ownT e.τ e.y e.w, e.w⟩, { e with tgt := L.enter e.s (i : Nat) o, eqA := rfl, eqH := rfl, goal := hg, Kown := fun _ h => h, kept := fun _ _ => rfl, rowK := e.row }, rfl, rfl, rfl, rfl, rfl⟩
   subst q1
   have hcall : SCall (crewB L g S i c) 64 #[dv, sv, .int .i64 (i : Nat), opVal o] eo (fun v e' => ∃ a sl, e'.tgt = (e'.s, .inl a) ∧ v = ansV a sl ∧ LsAt eo.w.heap.size (fun b => ownT e'.τ e'.y e'.w b ∧ ¬ c.K b) sl a.l e'.w) := by
    rw [← hsv, ← hdv]
    exact doOne_s (crewL L g S i c) eo o (i : Nat) fdo fn first cap hf hname hb hdo q2
   refine (?_ : LW (crewB L g S i c) eo (G _ ([] ++ (crewB L g S i c).bot eo)))
   refine LW.callS (f := 64) (Q := fun v e' => ∃ a sl, e'.tgt = (e'.s, .inl a) ∧ v = ansV a sl ∧ LsAt eo.w.heap.size (fun b => ownT e'.τ e'.y e'.w b ∧ ¬ c.K b) sl a.l e'.w) ?_ hoA (by rfl) (by decide) rfl Try.func64 (by kernel_rfl) (by rfl) ⟨rfl, rfl, _, Try.func63⟩ (fun _ h => by cases h) ?_
   ·simp only [tm68]
    walk_nrm
    simp only [e20, e21, e22, e23]
    exact hcall
   rintro v e' ⟨a', sl, ht, rfl, hls⟩
   have hbs : g.w0.heap.size ≤ eo.w.heap.size := by
    obtain ⟨hd0, r⟩ := eo.rely
    have := r.size
    have := eo.size
    omega
   replace hls : LsAt g.w0.heap.size (ownT e'.τ e'.y e'.w) sl a'.l e'.w := (hls.imp fun b h => h.1).low hbs
   have hg' : e'.τ.goal = settleO L (i : Nat) e'.s rest' (e'.ans ++ [a']) := by rw [e'.goal, ht, q3]; rfl
   have hans : e'.ans = eo.ans := e'.eqA.trans q4
   have hhd : e'.hd = eo.hd := e'.eqH.trans q5
   simp only [tm68] at hr ⊢
   walk_nrm
   refine hr _ (e'.toEC, e'.w) ⟨upd (upd u 1010 undef) 24 (ansV a' sl), ?_, Facts.other (F.set (by decide) rfl rfl) (by decide), hans.trans he1, hhd.trans he2, fun _ => T.cl e'.toEC (hhd.trans he2), .inr ⟨upd_same _ _ _, a', sl, upd_same _ _ _, hls, hg', .inl ⟨by rw [upd_ne _ _ (by decide)]; exact h11, by rw [upd_ne _ _ (by decide)]; exact h12, h14', e'.w.drawn, rfl⟩⟩⟩
   simp [tm68, upd]
  | 11, _ =>
   have h14 : f 14 = false := by cases h : f 14 with | false => rfl | true => exact absurd (hC.deps (l := [11]) h (by kernel_rfl) 11 (by simp)) (by simp [hfi])
   have h14' : upd f 11 true 14 = false := (upd_ne _ _ (by decide)).trans h14
   replace hc := hc h14
   have h10 := (deps_of (l := [10]) (by kernel_rfl) ho hdeps) 10 (by simp)
   obtain ⟨a', sl, h24, hls, hg, h12, dd, rfl⟩ := hw.newAt h10 hfi
   refine Walk.back ?_ dd
   clear hdeps ho hC
   replace hc : ClO g i pA pI pD acap dv hd e.w := ⟨hc.hA, hc.hI, hc.hD, hc.hH, hc.hHz⟩
   have hc1 := hc.new a' sl
   simp only [tm68, h24, ansV] at hr ⊢
   (refine Walk.oa ?_; try walk_nrm)
   refine hr _ (e, ansA e.w a' sl) ⟨upd (upd u 1011 undef) 25 (.slice (some ⟨e.w.heap.size, 0, none⟩) 1 1), ?_, Facts.other (F.set (by decide) rfl rfl) (by decide), he1, he2, fun _ => hc1, .inr ⟨by rw [upd_ne _ _ (by decide)]; exact h10, a', sl, by rw [upd_ne _ _ (by decide), upd_ne _ _ (by decide)]; exact h24, hls, hg, .inr (.inl ⟨upd_same _ _ _, by rw [upd_ne _ _ (by decide)]; exact h12, h14', upd_same _ _ _, (ansA e.w a' sl).drawn, rfl⟩)⟩⟩
   simp [tm68, upd, h24, ansV]
  | 12, _ =>
   have hdd := deps_of (l := [5]) (by kernel_rfl) ho hdeps
   have e19 := F 5 19 _ (hdd 5 (by simp)) rfl rfl
   have h14 : f 14 = false := by cases h : f 14 with | false => rfl | true => exact absurd (hC.deps (l := [12]) h (by kernel_rfl) 12 (by simp)) (by simp [hfi])
   have h14' : upd f 12 true 14 = false := (upd_ne _ _ (by decide)).trans h14
   replace hc := hc h14
   have h11 := (deps_of (l := [10, 11]) (by kernel_rfl) ho hdeps) 11 (by simp)
   have h10 := (deps_of (l := [10, 11]) (by kernel_rfl) ho hdeps) 10 (by simp)
   obtain ⟨a', sl, h24, hls, hg, h25, dd, rfl⟩ := hw.appAt h10 h11 hfi
   obtain ⟨z, hz, hZ⟩ := e.row.z
   have hzl : z.length = ans.length := by rw [← he1, ← hz, List.length_map]
   refine Walk.back ?_ dd
   clear hdeps ho hC
   replace hc : ClO g i pA pI pD acap dv hd (ansA e.w a' sl) := ⟨hc.hA, hc.hI, hc.hD, hc.hH, hc.hHz⟩
   have hrow : (ansA e.w a' sl).ownsRow g.w0.heap.size 44 3 hd ans.length (ansRow z) := by
    have q2 := hZ.own
    rw [hzl, he2] at q2
    exact row_same q2 fun b hb' => heap_new_lt _ _ (q2.lt b hb').2
   have hnews : ∀ (j : Nat) (x : Value), ([.bool a'.ok, .int .i64 a'.n, sl] : List Value)[j]? = some x → (ansA e.w a' sl).cell? ((⟨e.w.heap.size, 0, none⟩ : Addr).add j) = some x := fun j x hx => by
    rw [add_none, Nat.zero_add]
    refine (cell_of (heap_alloc_new _ _) j).trans ?_
    simpa using hx
   have hbase : g.w0.heap.size ≤ (ansA e.w a' sl).heap.size := by
    obtain ⟨hd0, r⟩ := e.rely
    have := r.size
    have := e.size
    have : (ansA e.w a' sl).heap.size = e.w.heap.size + 1 := by simp [ansA]
    omega
   simp only [tm68] at hr ⊢
   simp only [h25, e19]
   refine Walk.append (.tmp 19) (.tmp 25) 42 hoA (by rfl) (by decide) rfl g.w0.heap.size 44 _ (.agg #[.bool false, .int .i64 0, .slice none 0 0]) 3 40 (by kernel_rfl) hiA.symm (by rfl) (by rfl) (by rfl) (by rfl) (by decide) hd ans.length (ansRow z) rfl hrow ⟨e.w.heap.size, 0, none⟩ 1 1 [.bool a'.ok, .int .i64 a'.n, sl] rfl (by rfl) hnews (by rcases hls with ⟨_, _, rfl, _⟩; simp [Value.oneCell']) (by decide) (by simp [maxLen]; omega) (by omega) hbase (fun b hb' => e.apart (.inr (.inl (e.hdo b (by rw [he2]; exact hb'))))) (fun gb gcap w3 hown3 hgr hat hlt => ?_)
   walk_nrm
   have hA3 : AppO g e.w a' sl e.hd z gb gcap w3 := by
    rw [← hzl] at hown3
    rw [he2]
    exact ⟨hown3, hgr, hat, hlt⟩
   refine hr _ (e, w3) ⟨upd (upd u 1012 undef) 26 (.slice (some ⟨gb, 0, none⟩) (ans.length + 1) gcap), ?_, Facts.other (F.set (by decide) rfl rfl) (by decide), he1, he2, fun _ => T.app e hA3 hc , .inr ⟨by rw [upd_ne _ _ (by decide)]; exact h10, a', sl, by rw [upd_ne _ _ (by decide), upd_ne _ _ (by decide)]; exact h24, hls, hg, .inr (.inr ⟨by rw [upd_ne _ _ (by decide)]; exact h11, upd_same _ _ _, z, gb, gcap, w3, hz, hZ, hA3, by rw [upd_same, he1], .inl ⟨h14', w3.drawn, rfl⟩⟩)⟩⟩
   simp [tm68, upd, h25, e19]
  | 13, _ =>
   have hdd := deps_of (l := [0, 1, 2, 3, 4, 5, 6, 7, 8, 9, 10, 11, 12]) (by kernel_rfl) ho hdeps
   have e14 := F 0 14 _ (hdd 0 (by simp)) rfl rfl
   have e15 := F 1 15 _ (hdd 1 (by simp)) rfl rfl
   have h14 : f 14 = false := by cases h : f 14 with | false => rfl | true => exact absurd (hC.deps (l := [13]) h (by kernel_rfl) 13 (by simp)) (by simp [hfi])
   have h14' : upd f 13 true 14 = false := (upd_ne _ _ (by decide)).trans h14
   replace hc := hc h14
   clear hdeps ho hC hfi hdd
   obtain ⟨hA, hI, hD, hH, hHz⟩ := hc
   simp only [tm68] at hr ⊢
   (refine Walk.oq ?_; try walk_nrm)
   refine hr _ (e, w') ⟨upd u 27 (.pointer (some ⟨g.A, i, none⟩)), ?_, F.set (by decide) rfl rfl, he1, he2, fun _ => ⟨hA, hI, hD, hH, hHz⟩, hw.quiet (by decide) (by decide)⟩
   simp [tm68, upd, e14, e15]
  | 14, _ =>
   have hdd := deps_of (l := [0, 1, 2, 3, 4, 5, 6, 7, 8, 9, 10, 11, 12, 13]) (by kernel_rfl) ho hdeps
   have e27 := F 13 27 _ (hdd 13 (by simp)) rfl rfl
   replace hc := hc hfi
   have h10 := hdd 10 (by simp)
   have h11 := hdd 11 (by simp)
   have h12 := hdd 12 (by simp)
   obtain ⟨a', sl, h24, hls, hg, z, gb, gcap, w3, hz, hZ, hA3, h26, dd, rfl⟩ := hw.stAt h10 h11 h12 hfi
   refine Walk.back ?_ dd
   obtain ⟨hA, hI, hD, hH, hHz⟩ := hc
   replace hH : w3.cell? ⟨g.A, i, none⟩ = some hd := hH
   replace hHz : w3.frozen? ⟨g.A, i, none⟩ = false := hHz
   clear hdeps ho hC hdd hA hI hD
   simp only [tm68] at hr ⊢
   have h26' : u 26 = .slice (some ⟨gb, 0, none⟩) (ans.length + 1) gcap := by rw [h26, he1]
   simp only [h26', e27]
   (have hfr := e.apA ⟨g.A, i, none⟩ rfl; refine Walk.os hfr hH ?_; clear hfr; try walk_nrm)
   refine hr _ (e, w3.setCell ⟨g.A, i, none⟩ (.slice (some ⟨gb, 0, none⟩) (ans.length + 1) gcap)) ⟨upd u 1014 undef, ?_, F.set (by decide) rfl rfl, he1, he2, fun h => (by rw [upd_same] at h; cases h), .inr ⟨by rw [upd_ne _ _ (by decide)]; exact h10, a', sl, by rw [upd_ne _ _ (by decide)]; exact h24, hls, hg, .inr (.inr ⟨by rw [upd_ne _ _ (by decide)]; exact h11, by rw [upd_ne _ _ (by decide)]; exact h12, z, gb, gcap, w3, hz, hZ, hA3, by rw [upd_ne _ _ (by decide)]; exact h26, .inr ⟨upd_same _ _ _, (w3.setCell ⟨g.A, i, none⟩ (.slice (some ⟨gb, 0, none⟩) (ans.length + 1) gcap)).drawn, by rw [upd_ne _ _ (by decide), h26']; rfl⟩⟩)⟩⟩
   simp [tm68, upd, h24, h26', e27]
 ·rintro f a ⟨e, w'⟩ ⟨u, rfl, F, he1, he2, hc, hw⟩ hall
  have hsz : reg63_3.size = 15 := size63_3
  obtain ⟨a', sl, hls, hg, z, gb, gcap, w3, hz, hZ, hA3, dd, hw'⟩ := hw.endAt (hall 10 (by omega)) (hall 12 (by omega)) (hall 14 (by omega))
  obtain ⟨e', h1, h2, h3, h4, h5⟩ := e.told hls hz hZ hA3
  have := hk u e' a' (h4.trans (by dsimp only at he1; rw [he1])) (by rw [h1, h3, h4]; exact hg)
  dsimp only at hw' ⊢
  subst hw'
  refine Walk.back ?_ dd
  rw [← h1, ← h2, ← h5]
  exact this
end
end
end Go.Proofs.Ytjenoiekfkhafaa
