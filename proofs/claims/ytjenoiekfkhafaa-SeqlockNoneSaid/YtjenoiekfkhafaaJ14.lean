/- Part 14. -/
import Derived.Test.YtjenoiekfkhafaaJ13
import Derived.Conc.AtomicLaws2
set_option linter.unusedSimpArgs false
set_option maxHeartbeats 8000000
set_option maxRecDepth 100000
namespace Go.Proofs.Ytjenoiekfkhafaa
open Go.Conc Go.RowKit Go.Relay
open Go.ConcN (upd upd_ne upd_same)
section
theorem structT (t : TypeId) (h : (match Try.prog.underlying t with | some (.struct _) => true | _ => false) = true) : ∃ fs, Try.prog.underlying t = some (.struct fs) := by
  revert h
  cases Try.prog.underlying t with
  | none => simp
  | some d =>
    cases d with
    | struct fs => exact fun _ => ⟨fs, rfl⟩
    | _ => simp
section
variable {P : Program} {w : World}
theorem run_eql_func (t : TypeId) (f : Fn) (x y : Array Value) {a b c} (hu : P.underlying t = some (.func a b c)) : (binOp .eql t (.func f x y) .nilFunc).run P w = .ok (.bool false) w := by
  simp only [binOp]
  simp [Op.equal, Op.maxDepth, run_eqIn_func (w := w) 9999 t f x y hu]
theorem ev_eql_func (t : TypeId) (f : Fn) (x y : Array Value) (es : Array Event) {a b c} (hu : P.underlying t = some (.func a b c)) : (binOp .eql t (.func f x y) .nilFunc).events P w es = es := by
  simp only [binOp]
  simp [Op.equal, Op.maxDepth, run_eqIn_func (w := w) 9999 t f x y hu, ev_eqIn_func (w := w) 9999 t f x y es hu]
end
section
variable {P : Program} {w : World}
theorem run_eqIn_nilSlice (d : Nat) (t : TypeId) {e} (hu : P.underlying t = some (.slice e)) : (Op.equalIn (d + 1) t (.slice none 0 0) (.slice none 0 0)).run P w = .ok true w := by simp [Op.equalIn, run_underlying hu]
theorem ev_eqIn_nilSlice (d : Nat) (t : TypeId) (es : Array Event) {e} (hu : P.underlying t = some (.slice e)) : (Op.equalIn (d + 1) t (.slice none 0 0) (.slice none 0 0)).events P w es = es := by simp [Op.equalIn, run_underlying hu]
theorem run_eql_nilSlice (t : TypeId) {e} (hu : P.underlying t = some (.slice e)) : (binOp .eql t (.slice none 0 0) (.slice none 0 0)).run P w = .ok (.bool true) w := by
  simp only [binOp]
  simp [Op.equal, Op.maxDepth, run_eqIn_nilSlice (w := w) 9999 t hu]
theorem ev_eql_nilSlice (t : TypeId) (es : Array Event) {e} (hu : P.underlying t = some (.slice e)) : (binOp .eql t (.slice none 0 0) (.slice none 0 0)).events P w es = es := by
  simp only [binOp]
  simp [Op.equal, Op.maxDepth, run_eqIn_nilSlice (w := w) 9999 t hu, ev_eqIn_nilSlice (w := w) 9999 t es hu]
end
theorem results_cell {fn : Func} {tmps : Array Value} {t : Tmp} {ty tt : TypeId} {T : Nat} {cells : Array Value} {w : World} {V : Nat → Option Wait} (hr : fn.results = #[.cell t ty]) (h8 : tmps.getD t undef = .pointer (some ⟨T, 0, none⟩)) (hT : w.heap[T]? = some (.cells cells tt (0, 0)))
    {fs} (hu : Try.prog.underlying ty = some (.struct fs)) (hi : (Try.prog.info? ty).map (·.size) = some cells.size) :
    (results fn tmps).run Try.prog w = .ok (.agg cells) w ∧ ∀ e ∈ (results fn tmps).events Try.prog w #[], EvR V e := by
  have hl := run_loadVar_row (P := Try.prog) w T tt ty cells (0, 0) _ hT hu rfl hi
  have he := events_loadVar_reads (P := Try.prog) w ⟨T, 0, none⟩ ty hu rfl hi
  simp only [Array.getD_eq_getD_getElem?] at h8
  constructor
  · simp only [results, hr]
    simp [h8, asAddr, hl]
  · intro e hm
    refine evR_isRead (he e ?_)
    simp only [results, hr] at hm
    simpa [h8, asAddr, hl] using hm
theorem Walk.onCell {main : Bool} {V : Nat → Option Wait} {Stop : Goroutine → World → Prop} {fr c : Frame} {cs : List Frame} {w : World} {fn : Func} {t : Tmp} {ty tt : TypeId} {T : Nat} {cells : Array Value} (hm : fr.mode = .returning) (hn : fr.kind = .normal) (hd : fr.defers = []) (hf : Try.prog.funcs[fr.fn]? = some fn)
    (hr : fn.results = #[.cell t ty]) (h8 : fr.tmps.getD t undef = .pointer (some ⟨T, 0, none⟩)) (hT : w.heap[T]? = some (.cells cells tt (0, 0))) (hs : (match Try.prog.underlying ty with | some (.struct _) => true | _ => false) = true) (hi : (Try.prog.info? ty).map (·.size) = some cells.size)
    (h : Walk Try.prog main (DR V) Stop (G (c.finish (.agg cells)) cs) w) : Walk Try.prog main (DR V) Stop (G fr (c :: cs)) w := by
  obtain ⟨fs, hu⟩ := structT ty hs
  exact Walk.evs (fun x => seen Try.prog fr.fn ((results fn fr.tmps).events Try.prog (w.at x) #[])) rfl (fun x => stepG_leaveF hm hn hd hf (results_cell (V := V) (w := w.at x) hr h8 hT hu hi).1)
    (fun x e he => (results_cell (V := V) (w := w.at x) hr h8 hT hu hi).2 e (mem_seen he)) h
section
variable {P : Program}
theorem run_eqIn_someSlice (d : Nat) (t : TypeId) {e} (hu : P.underlying t = some (.slice e)) (a : Addr) (n c : Nat) (w : World) (es : Array Event) : (Op.equalIn (d + 1) t (.slice (some a) n c) (.slice none 0 0)).run P w = .ok false w ∧ (Op.equalIn (d + 1) t (.slice (some a) n c) (.slice none 0 0)).events P w es = es := by
  constructor <;> simp [Op.equalIn, run_underlying hu]
theorem run_eql_someSlice (t : TypeId) {e} (hu : P.underlying t = some (.slice e)) (a : Addr) (n c : Nat) (w : World) : (binOp .eql t (.slice (some a) n c) (.slice none 0 0)).run P w = .ok (.bool false) w := by
  simp only [binOp]
  simp [Op.equal, Op.maxDepth, (run_eqIn_someSlice 9999 t hu a n c w #[]).1]
theorem ev_eql_someSlice (t : TypeId) {e} (hu : P.underlying t = some (.slice e)) (a : Addr) (n c : Nat) (w : World) (es : Array Event) : (binOp .eql t (.slice (some a) n c) (.slice none 0 0)).events P w es = es := by
  simp only [binOp]
  simp [Op.equal, Op.maxDepth, (run_eqIn_someSlice 9999 t hu a n c w #[]).1, (run_eqIn_someSlice 9999 t hu a n c w es).2]
theorem run_app0 {t e : TypeId} {ti : TypeInfo} (hu : P.underlying t = some (.slice e)) (hi : P.info? e = some ti) (ty : TypeId) (a : Addr) (x : Option Addr) (c : Nat) (w : World) (es : Array Event) : (Builtin.append_ #[t, t] ty #[.slice (some a) 0 0, .slice x 0 c]).run P w = .ok (.slice (some a) 0 0) w ∧ (Builtin.append_ #[t, t] ty #[.slice (some a) 0 0, .slice x 0 c]).events P w es = es := by
  constructor <;> cases x <;> simp [Builtin.append_, run_underlying hu, sizeOf, typeInfo, hi, Builtin.lenOf, Builtin.firstCells, loadCells] <;> rfl
end
section
variable {main : Bool} {V : Nat → Option Wait}
noncomputable def reg81_0 : Array Oper := match Try.f81.body with | some (.seq (.region _ ops _) _) => ops | _ => #[]
theorem size81_0 : reg81_0.size = 1 := by kernel_rfl
noncomputable def reg81_1 : Array Oper := match Try.f81.body with | some (.seq _ (.seq (.seq (.region _ ops _) _) _)) => ops | _ => #[]
theorem size81_1 : reg81_1.size = 2 := by kernel_rfl
noncomputable def reg81_2 : Array Oper := match Try.f81.body with | some (.seq _ (.seq (.seq _ (.cond _ (.seq (.region _ ops _) _) _)) _)) => ops | _ => #[]
theorem size81_2 : reg81_2.size = 1 := by kernel_rfl
noncomputable def reg81_3 : Array Oper := match Try.f81.body with | some (.seq _ (.seq _ (.seq (.region _ ops _) _))) => ops | _ => #[]
theorem size81_3 : reg81_3.size = 4 := by kernel_rfl
theorem code81_is : Try.f81.body = some (.seq (.region 0 reg81_0 false) (.seq (.seq (.region 1 reg81_1 false) (.cond (.tmp 4 ) (.seq (.region 2 reg81_2 false) (.ret)) (.skip))) (.seq (.region 3 reg81_3 false) (.ret)))) := by kernel_rfl
theorem huI64s : Try.prog.underlying 22 = some (.slice 2) := by kernel_rfl
theorem clone_nil (w : World) : CallV Try.prog main V 81 #[.slice none 0 0] w (.slice none 0 0) w := by
  have hn1 := fun w => run_eql_nilSlice (P := Try.prog) (w := w) 22 huI64s
  have hn2 := fun w es => ev_eql_nilSlice (P := Try.prog) (w := w) 22 es huI64s
  refine callW_in Try.func81 code81_is fun fr cs => ?_
  simp only [Try.ntmps81, List.size_toArray, List.length_cons, List.length_nil, Nat.reduceAdd, Nat.reduceSub, Array.replicate_succ, Array.replicate_zero, List.push_toArray, List.append_toArray, List.nil_append, List.cons_append]
  repeat (first | refine Walk.c rfl ?_ | refine Walk.cRet ?_ | refine Walk.cEnd ?_ | (refine Walk.cReg ?_; simp only [size81_0, size81_1, size81_2, size81_3, List.range, List.range.loop]) | (refine Walk.oq ?_; try walk_nrm) | (refine Walk.un ?_; walk_nrm))
  exact Walk.ret1 rfl rfl Try.func81 rfl fun d => ⟨rfl, d, rfl⟩
theorem clone_some (w : World) (a : Addr) (c : Nat) (l : List Int) (h63 : l.length ≤ 1048576) (hA : ∀ b, w.heap.size ≤ b → Apart V b) (hcells : ∀ (j : Nat) (z : Int), l[j]? = some z → ∃ b off, some a = some ⟨b, off, none⟩ ∧ w.cell? ⟨b, off + j, none⟩ = some (.int .i64 z)) :
    CallW Try.prog main V 81 #[.slice (some a) l.length c] w (fun v w' => LsAt w.heap.size (fun b => w.heap.size ≤ b ∧ b < w'.heap.size) v l w' ∧ w.heap.size ≤ w'.heap.size ∧ ∀ b, b < w.heap.size → w'.heap[b]? = w.heap[b]?) := by
  have hi1 := Option.some_get (show (Try.prog.info? 2).isSome = true by kernel_rfl)
  have hn1 := fun w => run_eql_someSlice (P := Try.prog) 22 huI64s a l.length c w
  have hn2 := fun w es => ev_eql_someSlice (P := Try.prog) 22 huI64s a l.length c w es
  refine callW_in Try.func81 code81_is fun fr cs => ?_
  simp only [Try.ntmps81, List.size_toArray, List.length_cons, List.length_nil, Nat.reduceAdd, Nat.reduceSub, Array.replicate_succ, Array.replicate_zero, List.push_toArray, List.append_toArray, List.nil_append, List.cons_append]
  repeat (first | refine Walk.c rfl ?_ | refine Walk.cRet ?_ | refine Walk.cEnd ?_ | (refine Walk.cReg ?_; simp only [size81_0, size81_1, size81_2, size81_3, List.range, List.range.loop]) | (refine Walk.oq ?_; try walk_nrm) | (refine Walk.un ?_; walk_nrm))
  (refine Walk.oa ?_; try walk_nrm)
  have s1 : (w.alloc (.cells #[] 2)).heap.size = w.heap.size + 1 := by simp
  have o1 : ∀ b, b < w.heap.size → (w.alloc (.cells #[] 2)).heap[b]? = w.heap[b]? := fun b hb => heap_new_lt _ _ hb
  have hown : (w.alloc (.cells #[] 2)).ownsRow w.heap.size 2 1 (.slice (some ⟨w.heap.size, 0, none⟩) 0 0) 0 [] := World.ownsRow_made w #[] 0 (Nat.le_refl _) (by decide) (by simp)
  have hap := hA w.heap.size (Nat.le_refl _)
  have hcells1 : ∀ (j : Nat) (z : Int), l[j]? = some z → ∃ b off, a = ⟨b, off, none⟩ ∧ (w.alloc (.cells #[] 2)).cell? ⟨b, off + j, none⟩ = some (.int .i64 z) := fun j z hj => by
    obtain ⟨b, off, e, h⟩ := hcells j z hj
    exact ⟨b, off, Option.some.inj e, cell_alloc w _ h⟩
  generalize w.alloc (.cells #[] 2) = w1 at *
  generalize hT : w.heap.size = T at *
  cases l with
  | nil =>
    have hz := fun w es => run_app0 huI64s hi1.symm 22 ⟨T, 0, none⟩ (some a) c w es
    have hz1 := fun w => (hz w #[]).1
    have hz2 := fun w es => (hz w es).2
    clear hz
    repeat (first | refine Walk.c rfl ?_ | refine Walk.cRet ?_ | refine Walk.cEnd ?_ | (refine Walk.cReg ?_; simp only [size81_0, size81_1, size81_2, size81_3, List.range, List.range.loop]) | (refine Walk.oq ?_; try walk_nrm) | (refine Walk.un ?_; walk_nrm))
    refine Walk.ret1 rfl rfl Try.func81 rfl fun d => ⟨⟨some ⟨T, 0, none⟩, 0, rfl, Nat.zero_le _, fun h => absurd rfl h⟩, ?_, o1⟩
    show T ≤ w1.heap.size
    omega
  | cons z l =>
    obtain ⟨b, off, rfl, _⟩ := hcells1 0 z rfl
    repeat (first | refine Walk.c rfl ?_ | refine Walk.cRet ?_ | refine Walk.cEnd ?_ | (refine Walk.cReg ?_; simp only [size81_0, size81_1, size81_2, size81_3, List.range, List.range.loop]) | (refine Walk.oq ?_; try walk_nrm) | (refine Walk.un ?_; walk_nrm))
    refine Walk.append (.tmp 5) (.tmp 6) 22 (ho_of (by conv => lhs; whnf) (by kernel_rfl)) (by rfl) (by decide) rfl T 2 _ (.int .i64 0) 1 8 huI64s hi1.symm (by rfl) (by rfl) (by rfl) (by rfl) (by decide) (.slice (some ⟨T, 0, none⟩) 0 0) 0 [] rfl hown ⟨b, off, none⟩ (z :: l).length c ((z :: l).map fun z => .int .i64 z) rfl (by simp) (fun j u hu => ?_) (fun u hu => ?_) (by simp) (by simp only [maxLen]; omega) (by omega) (by omega) (fun g hg => ?_) (fun g cap w' hown' hgr hat hlt => ?_)
    · rw [List.getElem?_map, Option.map_eq_some_iff] at hu
      obtain ⟨y, hy, rfl⟩ := hu
      obtain ⟨b', off', e, h⟩ := hcells1 j y hy
      obtain ⟨rfl, rfl, _⟩ := Addr.mk.inj e
      rw [add_none]; exact h
    · obtain ⟨y, _, rfl⟩ := List.mem_map.1 hu
      rfl
    · simp only [Value.ownBlock, Option.some.injEq] at hg
      rw [← hg]; exact hap
    · walk_nrm
      repeat (first | refine Walk.c rfl ?_ | refine Walk.cRet ?_ | refine Walk.cEnd ?_ | (refine Walk.cReg ?_; simp only [size81_0, size81_1, size81_2, size81_3, List.range, List.range.loop]) | (refine Walk.oq ?_; try walk_nrm) | (refine Walk.un ?_; walk_nrm))
      have hgT : T ≤ g := by
        rcases hat with h | h
        · simp only [Value.ownBlock, Option.some.injEq] at h
          omega
        · omega
      refine Walk.ret1 rfl rfl Try.func81 rfl fun d => ⟨⟨some ⟨g, 0, none⟩, cap, by simp, h63, fun _ => ⟨?_, fun b' hb' => ?_⟩⟩, ?_, fun b' hb' => ?_⟩
      · have h := hown'
        simp only [Nat.zero_add, List.nil_append] at h
        exact row_same h fun _ _ => rfl
      · have hb' : some g = some b' := hb'
        obtain rfl := Option.some.inj hb'
        exact ⟨hgT, hlt⟩
      · show T ≤ w'.heap.size
        have := hgr.size; omega
      · exact (hgr.block b' (by omega) (by simp [Value.ownBlock]; omega)).trans (o1 b' hb')
theorem clone_w (w : World) (sl : Value) (l : List Int) (hl : LsR sl l w) (h63 : l.length ≤ 1048576) (hA : ∀ b, w.heap.size ≤ b → Apart V b) :
    CallW Try.prog main V 81 #[sl] w (fun v w' => LsAt w.heap.size (fun b => w.heap.size ≤ b ∧ b < w'.heap.size) v l w' ∧ w.heap.size ≤ w'.heap.size ∧ ∀ b, b < w.heap.size → w'.heap[b]? = w.heap[b]?) := by
  obtain ⟨a, c, rfl, hc, hn, hcells⟩ := hl
  cases a with
  | none =>
    obtain rfl := hn rfl
    have h0 : l.length = 0 := Nat.le_zero.1 hc
    rw [h0]
    intro fr cs
    refine (clone_nil w fr cs).mono ?_
    rintro g w' ⟨v, ⟨rfl, d, rfl⟩, rfl⟩
    exact ⟨_, ⟨⟨none, 0, by rw [h0], by omega, fun h => absurd (List.eq_nil_of_length_eq_zero h0) h⟩, Nat.le_refl _, fun _ _ => rfl⟩, rfl⟩
  | some a => exact clone_some w a c l h63 hA hcells
end
theorem setRow_self {w : World} {g : Nat} {old cells : Array Value} {tt : TypeId} {fr : Nat × Nat} (h : w.heap[g]? = some (.cells old tt fr)) : (w.setRow g cells).heap[g]? = some (.cells cells tt fr) := setRow_heap w g old cells tt fr h
theorem setRow_other (w : World) {g b : Nat} (cells : Array Value) (h : b ≠ g) : (w.setRow g cells).heap[b]? = w.heap[b]? := by
  unfold World.setRow
  simp only [Array.getElem?_modify]
  rw [if_neg (Ne.symm h)]
theorem setRow_size (w : World) (g : Nat) (cells : Array Value) : (w.setRow g cells).heap.size = w.heap.size := by
  unfold World.setRow
  simp
end
section
section
variable {main : Bool} {V : Nat → Option Wait}
theorem Walk.turn {P : Program} {Stop : Goroutine → World → Prop} {g g' : Goroutine} {w W : World} {es : Array Event} (hr : g.status = .running) (hs : ∀ d, stepG P main g (w.at d) = .go g' (W.at d) es) (hd : ∀ d, DR V (w.at d) (W.at d) es) (h : Walk P main (DR V) Stop g' W) : Walk P main (DR V) Stop g w :=
  Walk.step hr (fun _ => g') (fun d => W.at d) (fun _ => es) hs hd (fun d => h.back d)
theorem evR_rw {ad : Addr} (hf : Free V ad) : ∀ e ∈ (#[⟨.cell ad, false, true⟩, ⟨.cell ad, true, true⟩] : Array Event), EvR V e := by
  intro e he
  simp only [List.mem_toArray, List.mem_cons, List.not_mem_nil, or_false] at he
  rcases he with rfl | rfl
  · exact evR_read _ _
  · exact evR_write _ _ hf
theorem atLoad (b q : Nat) (v : Int) (w : World) (hc : w.cell? ⟨b, q, none⟩ = some (.int .i64 v)) : CallV Try.prog main V 137 #[.pointer (some ⟨b, q, none⟩)] w (.int .i64 v) w := by
  refine callW_in Try.func137 rfl fun fr cs => ?_
  simp only [Try.ntmps137, List.size_toArray, List.length_cons, List.length_nil, Nat.reduceAdd, Nat.reduceSub, Array.replicate_succ, Array.replicate_zero, List.push_toArray, List.append_toArray, List.nil_append, List.cons_append]
  repeat (first | refine Walk.c rfl ?_ | refine Walk.cR ?_ | refine Walk.cRet ?_ | refine Walk.cEnd ?_ | (refine Walk.oq ?_; try walk_nrm) | (refine Walk.un ?_; walk_nrm))
  refine Walk.evs (fun _ => #[⟨.cell ⟨b, q, none⟩, false, true⟩]) rfl (fun d => stepG_load_atomic (w := w.at d) rfl (by rfl) (by decide) rfl Try.func138 (by kernel_rfl) (by rfl) (by kernel_rfl) .i64 (by kernel_rfl) rfl hc) (fun d e he => by simp at he; subst he; exact evR_read _ _) ?_
  walk_nrm
  repeat (first | refine Walk.c rfl ?_ | refine Walk.cR ?_ | refine Walk.cRet ?_ | refine Walk.cEnd ?_ | (refine Walk.oq ?_; try walk_nrm) | (refine Walk.un ?_; walk_nrm))
  exact Walk.ret1 rfl rfl Try.func137 rfl fun d => ⟨rfl, d, rfl⟩
theorem atStore (b q : Nat) (u : Value) (v : Int) (w : World) (hc : w.cell? ⟨b, q, none⟩ = some u) (hz : w.frozen? ⟨b, q, none⟩ = false) (hf : Free V ⟨b, q, none⟩) : CallV Try.prog main V 57 #[.pointer (some ⟨b, q, none⟩), .int .i64 v] w (.tuple #[]) (w.setCell ⟨b, q, none⟩ (.int .i64 v)) := by
  refine callW_in Try.func57 rfl fun fr cs => ?_
  simp only [Try.ntmps57, List.size_toArray, List.length_cons, List.length_nil, Nat.reduceAdd, Nat.reduceSub, Array.replicate_succ, Array.replicate_zero, List.push_toArray, List.append_toArray, List.nil_append, List.cons_append]
  repeat (first | refine Walk.c rfl ?_ | refine Walk.cR ?_ | refine Walk.cRet ?_ | refine Walk.cEnd ?_ | (refine Walk.oq ?_; try walk_nrm) | (refine Walk.un ?_; walk_nrm))
  refine Walk.turn (W := w.setCell ⟨b, q, none⟩ (.int .i64 v)) rfl (fun d => stepG_store_atomic (w := w.at d) rfl (by rfl) (by decide) rfl Try.func74 (by kernel_rfl) (by rfl) (by kernel_rfl) (by kernel_rfl) rfl rfl hc hz) (fun d => DR.set' hf hc d _ (fun e he => by simp at he; subst he; exact evR_write _ _ hf)) ?_
  walk_nrm
  repeat (first | refine Walk.c rfl ?_ | refine Walk.cR ?_ | refine Walk.cRet ?_ | refine Walk.cEnd ?_ | (refine Walk.oq ?_; try walk_nrm) | (refine Walk.un ?_; walk_nrm))
  exact Walk.ret0 rfl rfl Try.func57 rfl fun d => ⟨rfl, d, rfl⟩
theorem atCas_hit (b q : Nat) (v x : Int) (w : World) (hc : w.cell? ⟨b, q, none⟩ = some (.int .i64 v)) (hz : w.frozen? ⟨b, q, none⟩ = false) (hf : Free V ⟨b, q, none⟩) : CallV Try.prog main V 75 #[.pointer (some ⟨b, q, none⟩), .int .i64 v, .int .i64 x] w (.bool true) (w.setCell ⟨b, q, none⟩ (.int .i64 x)) := by
  refine callW_in Try.func75 rfl fun fr cs => ?_
  simp only [Try.ntmps75, List.size_toArray, List.length_cons, List.length_nil, Nat.reduceAdd, Nat.reduceSub, Array.replicate_succ, Array.replicate_zero, List.push_toArray, List.append_toArray, List.nil_append, List.cons_append]
  repeat (first | refine Walk.c rfl ?_ | refine Walk.cR ?_ | refine Walk.cRet ?_ | refine Walk.cEnd ?_ | (refine Walk.oq ?_; try walk_nrm) | (refine Walk.un ?_; walk_nrm))
  refine Walk.turn (W := w.setCell ⟨b, q, none⟩ (.int .i64 x)) rfl (fun d => stepG_cas_hit (w := w.at d) rfl (by rfl) (by decide) rfl Try.func90 (by kernel_rfl) (by rfl) (by kernel_rfl) .i64 (by kernel_rfl) rfl rfl rfl hc hz) (fun d => DR.set' hf hc d _ (evR_rw hf)) ?_
  walk_nrm
  repeat (first | refine Walk.c rfl ?_ | refine Walk.cR ?_ | refine Walk.cRet ?_ | refine Walk.cEnd ?_ | (refine Walk.oq ?_; try walk_nrm) | (refine Walk.un ?_; walk_nrm))
  exact Walk.ret1 rfl rfl Try.func75 rfl fun d => ⟨rfl, d, rfl⟩
theorem atCas_miss (b q : Nat) (v old x : Int) (w : World) (hc : w.cell? ⟨b, q, none⟩ = some (.int .i64 v)) (hz : w.frozen? ⟨b, q, none⟩ = false) (hne : ¬ v = old) : CallV Try.prog main V 75 #[.pointer (some ⟨b, q, none⟩), .int .i64 old, .int .i64 x] w (.bool false) w := by
  refine callW_in Try.func75 rfl fun fr cs => ?_
  simp only [Try.ntmps75, List.size_toArray, List.length_cons, List.length_nil, Nat.reduceAdd, Nat.reduceSub, Array.replicate_succ, Array.replicate_zero, List.push_toArray, List.append_toArray, List.nil_append, List.cons_append]
  repeat (first | refine Walk.c rfl ?_ | refine Walk.cR ?_ | refine Walk.cRet ?_ | refine Walk.cEnd ?_ | (refine Walk.oq ?_; try walk_nrm) | (refine Walk.un ?_; walk_nrm))
  refine Walk.evs (fun _ => #[⟨.cell ⟨b, q, none⟩, false, true⟩]) rfl (fun d => stepG_cas_miss (w := w.at d) rfl (by rfl) (by decide) rfl Try.func90 (by kernel_rfl) (by rfl) (by kernel_rfl) .i64 (by kernel_rfl) rfl rfl rfl hc hz hne) (fun d e he => by simp at he; subst he; exact evR_read _ _) ?_
  walk_nrm
  repeat (first | refine Walk.c rfl ?_ | refine Walk.cR ?_ | refine Walk.cRet ?_ | refine Walk.cEnd ?_ | (refine Walk.oq ?_; try walk_nrm) | (refine Walk.un ?_; walk_nrm))
  exact Walk.ret1 rfl rfl Try.func75 rfl fun d => ⟨rfl, d, rfl⟩
end
structure Wd (L : La) where
  on : L.Gh → Prop
  up : ∀ {y y' : L.Gh}, L.le y y' → on y → on y'
  b : Nat
  q : Nat
  get : L.Sg → Int
  put : L.Sg → Int → L.Sg
  ok : Int → Prop
  sh : ∀ y, on y → L.sh y b
  rd : ∀ y s w, on y → L.I y s w → w.cell? ⟨b, q, none⟩ = some (.int .i64 (get s)) ∧ w.frozen? ⟨b, q, none⟩ = false
  wr : ∀ y s w v, on y → ok v → L.I y s w → L.I y (put s v) (w.setCell ⟨b, q, none⟩ (.int .i64 v))
def Wd.p {L : La} (W : Wd L) : Value := .pointer (some ⟨W.b, W.q, none⟩)
noncomputable def reg60_0 : Array Oper := match Try.f60.body with | some (.seq (.region _ ops _) _) => ops | _ => #[]
theorem size60_0 : reg60_0.size = 1 := by kernel_rfl
noncomputable def reg60_1 : Array Oper := match Try.f60.body with | some (.seq _ (.seq (.region _ ops _) _)) => ops | _ => #[]
theorem size60_1 : reg60_1.size = 2 := by kernel_rfl
noncomputable def reg60_2 : Array Oper := match Try.f60.body with | some (.seq _ (.seq _ (.seq (.region _ ops _) _))) => ops | _ => #[]
theorem size60_2 : reg60_2.size = 4 := by kernel_rfl
theorem code60_is : Try.f60.body = some (.seq (.region 0 reg60_0 false) (.seq (.region 1 reg60_1 false) (.seq (.region 2 reg60_2 false) (.ret)))) := by kernel_rfl
noncomputable def reg46_0 : Array Oper := match Try.f46.body with | some (.seq (.region _ ops _) _) => ops | _ => #[]
theorem size46_0 : reg46_0.size = 1 := by kernel_rfl
noncomputable def reg46_1 : Array Oper := match Try.f46.body with | some (.seq _ (.seq (.seq (.region _ ops _) _) _)) => ops | _ => #[]
theorem size46_1 : reg46_1.size = 2 := by kernel_rfl
noncomputable def reg46_2 : Array Oper := match Try.f46.body with | some (.seq _ (.seq (.seq _ (.cond _ (.seq (.region _ ops _) _) _)) _)) => ops | _ => #[]
theorem size46_2 : reg46_2.size = 1 := by kernel_rfl
noncomputable def reg46_3 : Array Oper := match Try.f46.body with | some (.seq _ (.seq _ (.seq (.region _ ops _) _))) => ops | _ => #[]
theorem size46_3 : reg46_3.size = 6 := by kernel_rfl
theorem code46_is : Try.f46.body = some (.seq (.region 0 reg46_0 false) (.seq (.seq (.region 1 reg46_1 false) (.cond (.tmp 6 ) (.seq (.region 2 reg46_2 false) (.ret)) (.skip))) (.seq (.region 3 reg46_3 false) (.ret)))) := by kernel_rfl
noncomputable def reg39_0 : Array Oper := match Try.f39.body with | some (.seq (.seq (.region _ ops _) _) _) => ops | _ => #[]
theorem size39_0 : reg39_0.size = 2 := by kernel_rfl
noncomputable def reg39_1 : Array Oper := match Try.f39.body with | some (.seq _ (.seq (.region _ ops _) _)) => ops | _ => #[]
theorem size39_1 : reg39_1.size = 2 := by kernel_rfl
noncomputable def reg39_2 : Array Oper := match Try.f39.body with | some (.seq _ (.seq _ (.region _ ops _))) => ops | _ => #[]
theorem size39_2 : reg39_2.size = 5 := by kernel_rfl
theorem code39_is : Try.f39.body = some (.seq (.seq (.region 0 reg39_0 false) (.cond (.tmp 7 ) (.ret) (.skip))) (.seq (.region 1 reg39_1 false) (.region 2 reg39_2 false))) := by kernel_rfl
noncomputable def reg58_0 : Array Oper := match Try.f58.body with | some (.seq (.region _ ops _) _) => ops | _ => #[]
theorem size58_0 : reg58_0.size = 1 := by kernel_rfl
noncomputable def reg58_1 : Array Oper := match Try.f58.body with | some (.seq _ (.seq (.seq (.region _ ops _) _) _)) => ops | _ => #[]
theorem size58_1 : reg58_1.size = 2 := by kernel_rfl
noncomputable def reg58_2 : Array Oper := match Try.f58.body with | some (.seq _ (.seq (.seq _ (.cond _ (.seq (.region _ ops _) _) _)) _)) => ops | _ => #[]
theorem size58_2 : reg58_2.size = 1 := by kernel_rfl
noncomputable def reg58_3 : Array Oper := match Try.f58.body with | some (.seq _ (.seq _ (.seq (.region _ ops _) _))) => ops | _ => #[]
theorem size58_3 : reg58_3.size = 2 := by kernel_rfl
noncomputable def reg58_4 : Array Oper := match Try.f58.body with | some (.seq _ (.seq _ (.seq _ (.seq (.region _ ops _) _)))) => ops | _ => #[]
theorem size58_4 : reg58_4.size = 7 := by kernel_rfl
theorem code58_is : Try.f58.body = some (.seq (.region 0 reg58_0 false) (.seq (.seq (.region 1 reg58_1 false) (.cond (.tmp 10 ) (.seq (.region 2 reg58_2 false) (.ret)) (.skip))) (.seq (.region 3 reg58_3 false) (.seq (.region 4 reg58_4 false) (.ret))))) := by kernel_rfl
section
variable {L : La} {sv : Value}
theorem step_s (K : Lg L sv) (e : K.E) (d : L.D) (ht : K.tgt e = (K.s e, .inr d)) : SCall K.toLb 56 #[sv] e (fun _ e' => Aft K.toLb e d e') := fun fr l hp hl hk => K.step e d ht fr l hp hl fun e' ha => hk _ e' ha
theorem plain_cons {fr : Frame} {l : List Frame} (hp : Plain fr) (hl : ∀ f ∈ l, Plain f) : ∀ f ∈ fr :: l, Plain f := fun x hx => by
  rcases List.mem_cons.1 hx with rfl | hx
  · exact hp
  · exact hl x hx
theorem Wd.put_mv (W : Wd L) (K : Lg L sv) (e : K.E) (v : Int) (hon : W.on (K.gh e)) (hv : W.ok v) : ∃ e', Mv K.toLb e e' (W.put (K.s e) v) ((K.w e).setCell ⟨W.b, W.q, none⟩ (.int .i64 v)) :=
  K.mv e _ _ (Nat.le_of_eq (size_set ..).symm) (fun b _ _ hs => heap_set_other _ _ _ _ fun he : b = W.b => hs (by rw [he]; exact W.sh _ hon)) (W.wr _ _ _ v hon hv (K.inv e))
theorem holds_s (K : Lg L sv) (W : Wd L) (e : K.E) (d : L.D) (hon : W.on (K.gh e)) (ht : K.tgt e = (K.s e, .inr d)) : SCall K.toLb 60 #[sv, W.p] e (fun v e' => Aft K.toLb e d e' ∧ v = .int .i64 (W.get (K.s e'))) := by
  intro fr l hp hl hk
  unfold LW Wd.p
  rw [enter_at _ Try.func60 code60_is]
  simp only [Try.ntmps60, List.size_toArray, List.length_cons, List.length_nil, Nat.reduceAdd, Nat.reduceSub, Array.replicate_succ, Array.replicate_zero, List.push_toArray, List.append_toArray, List.nil_append, List.cons_append]
  repeat (first | refine Walk.c rfl ?_ | refine Walk.cRet ?_ | refine Walk.cEnd ?_ | (refine Walk.cReg ?_; simp only [size60_0, size60_1, size60_2, List.range, List.range.loop]) | (refine Walk.oq ?_; try walk_nrm) | (refine Walk.un ?_; walk_nrm))
  refine LW.callS (K := K.toLb) (e := e) (l := fr :: l) (f := 56) (Q := fun _ e' => Aft K.toLb e d e') ?_ (ho_of (by conv => lhs; whnf) (by kernel_rfl)) (by rfl) (by decide) rfl Try.func56 (by kernel_rfl) (by rfl) ⟨rfl, rfl, _, Try.func60⟩ (plain_cons hp hl) ?_
  · walk_nrm
    exact step_s K e d ht
  intro v e' ha
  have hc := (W.rd _ _ _ (W.up ha.le hon) (K.inv e')).1
  have hi1 := run_ifaceAtomic
  have hi2 := ev_ifaceAtomic
  unfold LW
  walk_nrm
  repeat (first | refine Walk.c rfl ?_ | refine Walk.cRet ?_ | refine Walk.cEnd ?_ | (refine Walk.cReg ?_; simp only [size60_0, size60_1, size60_2, List.range, List.range.loop]) | (refine Walk.oq ?_; try walk_nrm) | (refine Walk.un ?_; walk_nrm))
  refine Walk.invokeLoad W.b W.q (ho_of (by conv => lhs; whnf) (by kernel_rfl)) (by rfl) (by decide) rfl rfl ?_
  refine (atLoad W.b W.q _ (K.w e') hc _ _).then ?_
  rintro g' w' ⟨v', ⟨rfl, dd, rfl⟩, rfl⟩
  refine Walk.back ?_ dd
  refine Walk.finish (ho_of (by conv => lhs; whnf) (by kernel_rfl)) ?_
  walk_nrm
  repeat (first | refine Walk.c rfl ?_ | refine Walk.cRet ?_ | refine Walk.cEnd ?_ | (refine Walk.cReg ?_; simp only [size60_0, size60_1, size60_2, List.range, List.range.loop]) | (refine Walk.oq ?_; try walk_nrm) | (refine Walk.un ?_; walk_nrm))
  exact Walk.on1 rfl rfl Try.func60 rfl (hk _ e' ⟨ha, rfl⟩)
theorem word_load (K : Lg L sv) (W : Wd L) (e : K.E) (d : L.D) (hon : W.on (K.gh e)) (ht : K.tgt e = (K.s e, .inr d)) : SCall K.toLb 46 #[W.p, sv] e (fun v e' => Aft K.toLb e d e' ∧ v = .int .i64 (W.get (K.s e'))) := by
  intro fr l hp hl hk
  have hh := holds_s K W e d hon ht
  unfold Wd.p at *
  unfold LW
  have hp1 := fun w => run_eql_ptr (P := Try.prog) 93 undWord (some ⟨W.b, W.q, none⟩) w
  have hp2 := fun w es => ev_eql_ptr (P := Try.prog) 93 undWord (some ⟨W.b, W.q, none⟩) w es
  simp only [Option.isNone_some] at hp1
  rw [enter_at _ Try.func46 code46_is]
  simp only [Try.ntmps46, List.size_toArray, List.length_cons, List.length_nil, Nat.reduceAdd, Nat.reduceSub, Array.replicate_succ, Array.replicate_zero, List.push_toArray, List.append_toArray, List.nil_append, List.cons_append]
  repeat (first | refine Walk.c rfl ?_ | refine Walk.cRet ?_ | refine Walk.cEnd ?_ | (refine Walk.cReg ?_; simp only [size46_0, size46_1, size46_2, size46_3, List.range, List.range.loop]) | (refine Walk.oq ?_; try walk_nrm) | (refine Walk.un ?_; walk_nrm))
  refine LW.callS (K := K.toLb) (e := e) (l := fr :: l) (f := 60) (Q := fun v e' => Aft K.toLb e d e' ∧ v = .int .i64 (W.get (K.s e'))) ?_ (ho_of (by conv => lhs; whnf) (by kernel_rfl)) (by rfl) (by decide) rfl Try.func60 (by kernel_rfl) (by rfl) ⟨rfl, rfl, _, Try.func46⟩ (plain_cons hp hl) ?_
  · walk_nrm
    exact hh
  rintro v e' ⟨ha, rfl⟩
  unfold LW
  walk_nrm
  repeat (first | refine Walk.c rfl ?_ | refine Walk.cRet ?_ | refine Walk.cEnd ?_ | (refine Walk.cReg ?_; simp only [size46_0, size46_1, size46_2, size46_3, List.range, List.range.loop]) | (refine Walk.oq ?_; try walk_nrm) | (refine Walk.un ?_; walk_nrm))
  exact Walk.on1 rfl rfl Try.func46 rfl (hk _ e' ⟨ha, rfl⟩)
structure Wrote (K : Lg L sv) (e : K.E) (d : L.D) (s : L.Sg) (s' : L.Sg) (e' : K.E) : Prop where
  tgt : K.tgt e' = L.act s d
  fuel : K.fuel e' < K.fuel e
  le : L.le (K.gh e) (K.gh e')
  s : K.s e' = s'
  size : (K.w e).heap.size ≤ (K.w e').heap.size
  mine : ∀ b, K.mine e b → K.mine e' b ∧ (K.w e').heap[b]? = (K.w e).heap[b]?
theorem Wrote.of {K : Lg L sv} {e e1 e' : K.E} {d : L.D} {s' : L.Sg} {W : Wd L} {v : Int} (hon : W.on (K.gh e)) (ha : Aft K.toLb e d e1) (m : Mv K.toLb e1 e' s' ((K.w e1).setCell ⟨W.b, W.q, none⟩ (.int .i64 v))) : Wrote K e d (K.s e1) s' e' :=
  ⟨m.tgt.trans ha.tgt, by rw [m.fuel]; exact ha.fuel, by rw [m.gh]; exact ha.le, m.s, by rw [m.w, size_set]; exact ha.size, fun b hb => by
    obtain ⟨h1, h2⟩ := ha.mine b hb
    have hne : b ≠ W.b := fun he => (K.mineA e1 b h1).2.1 (by rw [he]; exact W.sh _ (W.up ha.le hon))
    refine ⟨(m.mine b).2 (.inl h1), ?_⟩
    rw [m.w, heap_set_other _ _ _ _ hne]
    exact h2⟩
theorem Wrote.same {K : Lg L sv} {e e1 : K.E} {d : L.D} (ha : Aft K.toLb e d e1) : Wrote K e d (K.s e1) (K.s e1) e1 := ⟨ha.tgt, ha.fuel, ha.le, rfl, ha.size, ha.mine⟩
theorem word_store (K : Lg L sv) (W : Wd L) (e : K.E) (d : L.D) (x : Int) (hx : W.ok x) (hon : W.on (K.gh e)) (ht : K.tgt e = (K.s e, .inr d)) : SCall K.toLb 39 #[W.p, sv, .int .i64 x] e (fun _ e' => ∃ s, Wrote K e d s (W.put s x) e') := by
  intro fr l hp hl hk
  unfold Wd.p
  unfold LW
  have hp1 := fun w => run_eql_ptr (P := Try.prog) 93 undWord (some ⟨W.b, W.q, none⟩) w
  have hp2 := fun w es => ev_eql_ptr (P := Try.prog) 93 undWord (some ⟨W.b, W.q, none⟩) w es
  simp only [Option.isNone_some] at hp1
  rw [enter_at _ Try.func39 code39_is]
  simp only [Try.ntmps39, List.size_toArray, List.length_cons, List.length_nil, Nat.reduceAdd, Nat.reduceSub, Array.replicate_succ, Array.replicate_zero, List.push_toArray, List.append_toArray, List.nil_append, List.cons_append]
  repeat (first | refine Walk.c rfl ?_ | refine Walk.cRet ?_ | refine Walk.cEnd ?_ | (refine Walk.cReg ?_; simp only [size39_0, size39_1, size39_2, List.range, List.range.loop]) | (refine Walk.oq ?_; try walk_nrm) | (refine Walk.un ?_; walk_nrm))
  refine LW.callS (K := K.toLb) (e := e) (l := fr :: l) (f := 56) (Q := fun _ e' => Aft K.toLb e d e') ?_ (ho_of (by conv => lhs; whnf) (by kernel_rfl)) (by rfl) (by decide) rfl Try.func56 (by kernel_rfl) (by rfl) ⟨rfl, rfl, _, Try.func39⟩ (plain_cons hp hl) ?_
  · walk_nrm
    exact step_s K e d ht
  intro v e1 ha
  obtain ⟨hc, hz⟩ := W.rd _ _ _ (W.up ha.le hon) (K.inv e1)
  obtain ⟨e', m⟩ := W.put_mv K e1 x (W.up ha.le hon) hx
  unfold LW
  walk_nrm
  repeat (first | refine Walk.c rfl ?_ | refine Walk.cRet ?_ | refine Walk.cEnd ?_ | (refine Walk.cReg ?_; simp only [size39_0, size39_1, size39_2, List.range, List.range.loop]) | (refine Walk.oq ?_; try walk_nrm) | (refine Walk.un ?_; walk_nrm))
  refine Walk.callV (x := .tuple #[]) (W := (K.w e1).setCell ⟨W.b, W.q, none⟩ (.int .i64 x)) ?_ (ho_of (by conv => lhs; whnf) (by kernel_rfl)) (by rfl) (by decide) rfl Try.func57 (by kernel_rfl) (by rfl) ?_
  · walk_nrm
    exact atStore W.b W.q _ x (K.w e1) hc hz ((K.shA e1 _ (W.sh _ (W.up ha.le hon))).1 _ rfl)
  walk_nrm
  repeat (first | refine Walk.c rfl ?_ | refine Walk.cRet ?_ | refine Walk.cEnd ?_ | (refine Walk.cReg ?_; simp only [size39_0, size39_1, size39_2, List.range, List.range.loop]) | (refine Walk.oq ?_; try walk_nrm) | (refine Walk.un ?_; walk_nrm))
  exact Walk.on0 rfl rfl Try.func39 rfl (LW.to m (hk _ e' ⟨K.s e1, Wrote.of hon ha m⟩))
theorem word_cas (K : Lg L sv) (W : Wd L) (e : K.E) (d : L.D) (old x : Int) (hx : W.ok x) (hon : W.on (K.gh e)) (ht : K.tgt e = (K.s e, .inr d)) : SCall K.toLb 58 #[W.p, sv, .int .i64 old, .int .i64 x] e (fun v e' => ∃ s, (W.get s = old ∧ v = .bool true ∧ Wrote K e d s (W.put s x) e') ∨ (W.get s ≠ old ∧ v = .bool false ∧ Wrote K e d s s e')) := by
  intro fr l hp hl hk
  unfold Wd.p
  unfold LW
  have hp1 := fun w => run_eql_ptr (P := Try.prog) 93 undWord (some ⟨W.b, W.q, none⟩) w
  have hp2 := fun w es => ev_eql_ptr (P := Try.prog) 93 undWord (some ⟨W.b, W.q, none⟩) w es
  simp only [Option.isNone_some] at hp1
  rw [enter_at _ Try.func58 code58_is]
  simp only [Try.ntmps58, List.size_toArray, List.length_cons, List.length_nil, Nat.reduceAdd, Nat.reduceSub, Array.replicate_succ, Array.replicate_zero, List.push_toArray, List.append_toArray, List.nil_append, List.cons_append]
  repeat (first | refine Walk.c rfl ?_ | refine Walk.cRet ?_ | refine Walk.cEnd ?_ | (refine Walk.cReg ?_; simp only [size58_0, size58_1, size58_2, size58_3, size58_4, List.range, List.range.loop]) | (refine Walk.oq ?_; try walk_nrm) | (refine Walk.un ?_; walk_nrm))
  refine LW.callS (K := K.toLb) (e := e) (l := fr :: l) (f := 56) (Q := fun _ e' => Aft K.toLb e d e') ?_ (ho_of (by conv => lhs; whnf) (by kernel_rfl)) (by rfl) (by decide) rfl Try.func56 (by kernel_rfl) (by rfl) ⟨rfl, rfl, _, Try.func58⟩ (plain_cons hp hl) ?_
  · walk_nrm
    exact step_s K e d ht
  intro v e1 ha
  obtain ⟨hc, hz⟩ := W.rd _ _ _ (W.up ha.le hon) (K.inv e1)
  unfold LW
  walk_nrm
  repeat (first | refine Walk.c rfl ?_ | refine Walk.cRet ?_ | refine Walk.cEnd ?_ | (refine Walk.cReg ?_; simp only [size58_0, size58_1, size58_2, size58_3, size58_4, List.range, List.range.loop]) | (refine Walk.oq ?_; try walk_nrm) | (refine Walk.un ?_; walk_nrm))
  by_cases hv : W.get (K.s e1) = old
  · obtain ⟨e', m⟩ := W.put_mv K e1 x (W.up ha.le hon) hx
    refine Walk.callV (x := .bool true) (W := (K.w e1).setCell ⟨W.b, W.q, none⟩ (.int .i64 x)) ?_ (ho_of (by conv => lhs; whnf) (by kernel_rfl)) (by rfl) (by decide) rfl Try.func75 (by kernel_rfl) (by rfl) ?_
    · walk_nrm
      rw [hv] at hc
      exact atCas_hit W.b W.q old x (K.w e1) hc hz ((K.shA e1 _ (W.sh _ (W.up ha.le hon))).1 _ rfl)
    walk_nrm
    repeat (first | refine Walk.c rfl ?_ | refine Walk.cRet ?_ | refine Walk.cEnd ?_ | (refine Walk.cReg ?_; simp only [size58_0, size58_1, size58_2, size58_3, size58_4, List.range, List.range.loop]) | (refine Walk.oq ?_; try walk_nrm) | (refine Walk.un ?_; walk_nrm))
    exact Walk.on1 rfl rfl Try.func58 rfl (LW.to m (hk _ e' ⟨K.s e1, .inl ⟨hv, rfl, Wrote.of hon ha m⟩⟩))
  · refine Walk.callV (x := .bool false) (W := K.w e1) ?_ (ho_of (by conv => lhs; whnf) (by kernel_rfl)) (by rfl) (by decide) rfl Try.func75 (by kernel_rfl) (by rfl) ?_
    · walk_nrm
      exact atCas_miss W.b W.q _ old x (K.w e1) hc hz hv
    walk_nrm
    repeat (first | refine Walk.c rfl ?_ | refine Walk.cRet ?_ | refine Walk.cEnd ?_ | (refine Walk.cReg ?_; simp only [size58_0, size58_1, size58_2, size58_3, size58_4, List.range, List.range.loop]) | (refine Walk.oq ?_; try walk_nrm) | (refine Walk.un ?_; walk_nrm))
    exact Walk.on1 rfl rfl Try.func58 rfl (hk _ e1 ⟨K.s e1, .inr ⟨hv, rfl, Wrote.same ha⟩⟩)
end
end
end Go.Proofs.Ytjenoiekfkhafaa
