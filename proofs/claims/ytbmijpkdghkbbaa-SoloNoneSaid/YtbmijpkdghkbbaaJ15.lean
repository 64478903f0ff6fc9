/- Part 15. -/
import Derived.Test.YtbmijpkdghkbbaaJ3
import Derived.Test.YtbmijpkdghkbbaaJ4
import Derived.Test.YtbmijpkdghkbbaaJ5
import Derived.Test.YtbmijpkdghkbbaaJ6
import Derived.Test.YtbmijpkdghkbbaaJ14
import Derived.Conc.AtomicLaws2
set_option linter.unusedSimpArgs false
set_option linter.unusedVariables false
set_option linter.unusedVariables false
set_option maxHeartbeats 8000000
set_option maxRecDepth 100000
namespace Go.Proofs.Ytbmijpkdghkbbaa
open Go.Conc Go.RowKit Go.Relay
open Go.ConcN (upd upd_ne upd_same)
section
theorem structT (t : TypeId) (h : (match Try.prog.underlying t with | some (.struct _) => true | _ => false) = true) : ∃ fs, Try.prog.underlying t = some (.struct fs) := by
  revert h
  cases Try.prog.underlying t with
  | none => simp
  | some d =>
    cases d with
    | struct fs => exact fun _ => ⟨fs, rfl⟩
    | _ => simp
section
variable {P : Program} {w : World}
theorem run_eql_func (t : TypeId) (f : Fn) (x y : Array Value) {a b c} (hu : P.underlying t = some (.func a b c)) : (binOp .eql t (.func f x y) .nilFunc).run P w = .ok (.bool false) w := by
  simp only [binOp]
  simp [Op.equal, Op.maxDepth, run_eqIn_func (w := w) 9999 t f x y hu]
theorem ev_eql_func (t : TypeId) (f : Fn) (x y : Array Value) (es : Array Event) {a b c} (hu : P.underlying t = some (.func a b c)) : (binOp .eql t (.func f x y) .nilFunc).events P w es = es := by
  simp only [binOp]
  simp [Op.equal, Op.maxDepth, run_eqIn_func (w := w) 9999 t f x y hu, ev_eqIn_func (w := w) 9999 t f x y es hu]
end
section
variable {P : Program} {w : World}
theorem run_eqIn_nilSlice (d : Nat) (t : TypeId) {e} (hu : P.underlying t = some (.slice e)) : (Op.equalIn (d + 1) t (.slice none 0 0) (.slice none 0 0)).run P w = .ok true w := by simp [Op.equalIn, run_underlying hu]
theorem ev_eqIn_nilSlice (d : Nat) (t : TypeId) (es : Array Event) {e} (hu : P.underlying t = some (.slice e)) : (Op.equalIn (d + 1) t (.slice none 0 0) (.slice none 0 0)).events P w es = es := by simp [Op.equalIn, run_underlying hu]
theorem run_eql_nilSlice (t : TypeId) {e} (hu : P.underlying t = some (.slice e)) : (binOp .eql t (.slice none 0 0) (.slice none 0 0)).run P w = .ok (.bool true) w := by
  simp only [binOp]
  simp [Op.equal, Op.maxDepth, run_eqIn_nilSlice (w := w) 9999 t hu]
theorem ev_eql_nilSlice (t : TypeId) (es : Array Event) {e} (hu : P.underlying t = some (.slice e)) : (binOp .eql t (.slice none 0 0) (.slice none 0 0)).events P w es = es := by
  simp only [binOp]
  simp [Op.equal, Op.maxDepth, run_eqIn_nilSlice (w := w) 9999 t hu, ev_eqIn_nilSlice (w := w) 9999 t es hu]
end
theorem results_cell {fn : Func} {tmps : Array Value} {t : Tmp} {ty tt : TypeId} {T : Nat} {cells : Array Value} {w : World} {V : Nat → Option Wait} (hr : fn.results = #[.cell t ty]) (h8 : tmps.getD t undef = .pointer (some ⟨T, 0, none⟩)) (hT : w.heap[T]? = some (.cells cells tt (0, 0)))
    {fs} (hu : Try.prog.underlying ty = some (.struct fs)) (hi : (Try.prog.info? ty).map (·.size) = some cells.size) :
    (results fn tmps).run Try.prog w = .ok (.agg cells) w ∧ ∀ e ∈ (results fn tmps).events Try.prog w #[], EvR V e := by
  have hl := run_loadVar_row (P := Try.prog) w T tt ty cells (0, 0) _ hT hu rfl hi
  have he := events_loadVar_reads (P := Try.prog) w ⟨T, 0, none⟩ ty hu rfl hi
  simp only [Array.getD_eq_getD_getElem?] at h8
  constructor
  · simp only [results, hr]
    simp [h8, asAddr, hl]
  · intro e hm
    refine evR_isRead (he e ?_)
    simp only [results, hr] at hm
    simpa [h8, asAddr, hl] using hm
theorem Walk.onCell {main : Bool} {V : Nat → Option Wait} {Stop : Goroutine → World → Prop} {fr c : Frame} {cs : List Frame} {w : World} {fn : Func} {t : Tmp} {ty tt : TypeId} {T : Nat} {cells : Array Value} (hm : fr.mode = .returning) (hn : fr.kind = .normal) (hd : fr.defers = []) (hf : Try.prog.funcs[fr.fn]? = some fn)
    (hr : fn.results = #[.cell t ty]) (h8 : fr.tmps.getD t undef = .pointer (some ⟨T, 0, none⟩)) (hT : w.heap[T]? = some (.cells cells tt (0, 0))) (hs : (match Try.prog.underlying ty with | some (.struct _) => true | _ => false) = true) (hi : (Try.prog.info? ty).map (·.size) = some cells.size)
    (h : Walk Try.prog main (DR V) Stop (G (c.finish (.agg cells)) cs) w) : Walk Try.prog main (DR V) Stop (G fr (c :: cs)) w := by
  obtain ⟨fs, hu⟩ := structT ty hs
  exact Walk.evs (fun x => seen Try.prog fr.fn ((results fn fr.tmps).events Try.prog (w.at x) #[])) rfl (fun x => stepG_leaveF hm hn hd hf (results_cell (V := V) (w := w.at x) hr h8 hT hu hi).1)
    (fun x e he => (results_cell (V := V) (w := w.at x) hr h8 hT hu hi).2 e (mem_seen he)) h
section
variable {P : Program}
theorem run_eqIn_someSlice (d : Nat) (t : TypeId) {e} (hu : P.underlying t = some (.slice e)) (a : Addr) (n c : Nat) (w : World) (es : Array Event) : (Op.equalIn (d + 1) t (.slice (some a) n c) (.slice none 0 0)).run P w = .ok false w ∧ (Op.equalIn (d + 1) t (.slice (some a) n c) (.slice none 0 0)).events P w es = es := by
  constructor <;> simp [Op.equalIn, run_underlying hu]
theorem run_eql_someSlice (t : TypeId) {e} (hu : P.underlying t = some (.slice e)) (a : Addr) (n c : Nat) (w : World) : (binOp .eql t (.slice (some a) n c) (.slice none 0 0)).run P w = .ok (.bool false) w := by
  simp only [binOp]
  simp [Op.equal, Op.maxDepth, (run_eqIn_someSlice 9999 t hu a n c w #[]).1]
theorem ev_eql_someSlice (t : TypeId) {e} (hu : P.underlying t = some (.slice e)) (a : Addr) (n c : Nat) (w : World) (es : Array Event) : (binOp .eql t (.slice (some a) n c) (.slice none 0 0)).events P w es = es := by
  simp only [binOp]
  simp [Op.equal, Op.maxDepth, (run_eqIn_someSlice 9999 t hu a n c w #[]).1, (run_eqIn_someSlice 9999 t hu a n c w es).2]
theorem run_app0 {t e : TypeId} {ti : TypeInfo} (hu : P.underlying t = some (.slice e)) (hi : P.info? e = some ti) (ty : TypeId) (a : Addr) (x : Option Addr) (c : Nat) (w : World) (es : Array Event) : (Builtin.append_ #[t, t] ty #[.slice (some a) 0 0, .slice x 0 c]).run P w = .ok (.slice (some a) 0 0) w ∧ (Builtin.append_ #[t, t] ty #[.slice (some a) 0 0, .slice x 0 c]).events P w es = es := by
  constructor <;> cases x <;> simp [Builtin.append_, run_underlying hu, sizeOf, typeInfo, hi, Builtin.lenOf, Builtin.firstCells, loadCells] <;> rfl
end
section
variable {main : Bool} {V : Nat → Option Wait}
noncomputable def reg137_0 := rg Try.f137.body [0]
noncomputable def reg137_1 := rg Try.f137.body [1, 0, 0]
noncomputable def reg137_2 := rg Try.f137.body [1, 0, 1, 0, 0]
noncomputable def reg137_3 := rg Try.f137.body [1, 1, 0]
theorem z137 : List.range reg137_0.size = [0] ∧ List.range reg137_1.size = [0, 1] ∧ List.range reg137_2.size = [0] ∧ List.range reg137_3.size = [0, 1, 2, 3] := by refine ⟨?_, ?_, ?_, ?_⟩ <;> kernel_rfl
theorem code137_is : Try.f137.body = some (.seq (.region 0 reg137_0 false) (.seq (.seq (.region 1 reg137_1 false) (.cond (.tmp 4 ) (.seq (.region 2 reg137_2 false) (.ret)) (.skip))) (.seq (.region 3 reg137_3 false) (.ret)))) := by kernel_rfl
theorem huI64s : Try.prog.underlying 22 = some (.slice 2) := by kernel_rfl
theorem clone_nil (w : World) : CallV Try.prog main V 137 #[.slice none 0 0] w (.slice none 0 0) w := by
  have hn1 := fun w => run_eql_nilSlice (P := Try.prog) (w := w) 22 huI64s
  have hn2 := fun w es => ev_eql_nilSlice (P := Try.prog) (w := w) 22 es huI64s
  refine callW_in Try.func137 code137_is fun fr cs => ?_
  simp only [Try.ntmps137, ez, Nat.reduceAdd, Nat.reduceSub]
  repeat (first | refine Walk.cx ?_ | (refine Walk.cReg ?_; simp only [z137]) | (refine Walk.oq ?_; try walk_nrm) | (refine Walk.un ?_; walk_nrm))
  exact Walk.ret1 rfl rfl Try.func137 rfl fun d => ⟨rfl, d, rfl⟩
theorem clone_some (w : World) (a : Addr) (c : Nat) (l : List Int) (h63 : l.length ≤ 1048576) (hA : ∀ b, w.heap.size ≤ b → Apart V b) (hcells : ∀ (j : Nat) (z : Int), l[j]? = some z → ∃ b off, some a = some ⟨b, off, none⟩ ∧ w.cell? ⟨b, off + j, none⟩ = some (.int .i64 z)) :
    CallW Try.prog main V 137 #[.slice (some a) l.length c] w (fun v w' => LsAt w.heap.size (fun b => w.heap.size ≤ b ∧ b < w'.heap.size) v l w' ∧ w.heap.size ≤ w'.heap.size ∧ ∀ b, b < w.heap.size → w'.heap[b]? = w.heap[b]?) := by
  have hi1 := Option.some_get (show (Try.prog.info? 2).isSome = true by kernel_rfl)
  have hn1 := fun w => run_eql_someSlice (P := Try.prog) 22 huI64s a l.length c w
  have hn2 := fun w es => ev_eql_someSlice (P := Try.prog) 22 huI64s a l.length c w es
  refine callW_in Try.func137 code137_is fun fr cs => ?_
  simp only [Try.ntmps137, ez, Nat.reduceAdd, Nat.reduceSub]
  repeat (first | refine Walk.cx ?_ | (refine Walk.cReg ?_; simp only [z137]) | (refine Walk.oq ?_; try walk_nrm) | (refine Walk.un ?_; walk_nrm))
  (refine Walk.oa ?_; try walk_nrm)
  have s1 : (w.alloc (.cells #[] 2)).heap.size = w.heap.size + 1 := by simp
  have o1 : ∀ b, b < w.heap.size → (w.alloc (.cells #[] 2)).heap[b]? = w.heap[b]? := fun b hb => heap_new_lt _ _ hb
  have hown : (w.alloc (.cells #[] 2)).ownsRow w.heap.size 2 1 (.slice (some ⟨w.heap.size, 0, none⟩) 0 0) 0 [] := World.ownsRow_made w #[] 0 (Nat.le_refl _) (by decide) (by simp)
  have hap := hA w.heap.size (Nat.le_refl _)
  have hcells1 : ∀ (j : Nat) (z : Int), l[j]? = some z → ∃ b off, a = ⟨b, off, none⟩ ∧ (w.alloc (.cells #[] 2)).cell? ⟨b, off + j, none⟩ = some (.int .i64 z) := fun j z hj => by
    obtain ⟨b, off, e, h⟩ := hcells j z hj
    exact ⟨b, off, Option.some.inj e, cell_alloc w _ h⟩
  generalize w.alloc (.cells #[] 2) = w1 at *
  generalize hT : w.heap.size = T at *
  cases l with
  | nil =>
    have hz := fun w es => run_app0 huI64s hi1.symm 22 ⟨T, 0, none⟩ (some a) c w es
    have hz1 := fun w => (hz w #[]).1
    have hz2 := fun w es => (hz w es).2
    clear hz
    repeat (first | refine Walk.cx ?_ | (refine Walk.cReg ?_; simp only [z137]) | (refine Walk.oq ?_; try walk_nrm) | (refine Walk.un ?_; walk_nrm))
    refine Walk.ret1 rfl rfl Try.func137 rfl fun d => ⟨⟨some ⟨T, 0, none⟩, 0, rfl, Nat.zero_le _, fun _ => ⟨row_same hown fun _ _ => rfl, fun b hb => ?_⟩⟩, ?_, o1⟩
    · have hb : some T = some b := hb
      obtain rfl := Option.some.inj hb
      exact ⟨Nat.le_refl _, show T < w1.heap.size by omega⟩
    · show T ≤ w1.heap.size
      omega
  | cons z l =>
    obtain ⟨b, off, rfl, _⟩ := hcells1 0 z rfl
    repeat (first | refine Walk.cx ?_ | (refine Walk.cReg ?_; simp only [z137]) | (refine Walk.oq ?_; try walk_nrm) | (refine Walk.un ?_; walk_nrm))
    refine Walk.append (.tmp 5) (.tmp 6) 22 (ho_of (by conv => lhs; whnf) (by kernel_rfl)) (by rfl) (by decide) rfl T 2 _ (.int .i64 0) 1 8 huI64s hi1.symm (by rfl) (by rfl) (by rfl) (by rfl) (by decide) (.slice (some ⟨T, 0, none⟩) 0 0) 0 [] rfl hown ⟨b, off, none⟩ (z :: l).length c ((z :: l).map fun z => .int .i64 z) rfl (by simp) (fun j u hu => ?_) (fun u hu => ?_) (by simp) (by simp only [maxLen]; omega) (by omega) (by omega) (fun g hg => ?_) (fun g cap w' hown' hgr hat hlt => ?_)
    · rw [List.getElem?_map, Option.map_eq_some_iff] at hu
      obtain ⟨y, hy, rfl⟩ := hu
      obtain ⟨b', off', e, h⟩ := hcells1 j y hy
      obtain ⟨rfl, rfl, _⟩ := Addr.mk.inj e
      rw [add_none]; exact h
    · obtain ⟨y, _, rfl⟩ := List.mem_map.1 hu
      rfl
    · simp only [Value.ownBlock, Option.some.injEq] at hg
      rw [← hg]; exact hap
    · walk_nrm
      repeat (first | refine Walk.cx ?_ | (refine Walk.cReg ?_; simp only [z137]) | (refine Walk.oq ?_; try walk_nrm) | (refine Walk.un ?_; walk_nrm))
      have hgT : T ≤ g := by
        rcases hat with h | h
        · simp only [Value.ownBlock, Option.some.injEq] at h
          omega
        · omega
      refine Walk.ret1 rfl rfl Try.func137 rfl fun d => ⟨⟨some ⟨g, 0, none⟩, cap, by simp, h63, fun _ => ⟨?_, fun b' hb' => ?_⟩⟩, ?_, fun b' hb' => ?_⟩
      · have h := hown'
        simp only [Nat.zero_add, List.nil_append] at h
        exact row_same h fun _ _ => rfl
      · have hb' : some g = some b' := hb'
        obtain rfl := Option.some.inj hb'
        exact ⟨hgT, hlt⟩
      · show T ≤ w'.heap.size
        have := hgr.size; omega
      · exact (hgr.block b' (by omega) (by simp [Value.ownBlock]; omega)).trans (o1 b' hb')
theorem clone_w (w : World) (sl : Value) (l : List Int) (hl : LsR sl l w) (h63 : l.length ≤ 1048576) (hA : ∀ b, w.heap.size ≤ b → Apart V b) :
    CallW Try.prog main V 137 #[sl] w (fun v w' => LsAt w.heap.size (fun b => w.heap.size ≤ b ∧ b < w'.heap.size) v l w' ∧ w.heap.size ≤ w'.heap.size ∧ ∀ b, b < w.heap.size → w'.heap[b]? = w.heap[b]?) := by
  obtain ⟨a, c, rfl, hc, hn, hcells⟩ := hl
  cases a with
  | none =>
    obtain rfl := hn rfl
    have h0 : l.length = 0 := Nat.le_zero.1 hc
    rw [h0]
    intro fr cs
    refine (clone_nil w fr cs).mono ?_
    rintro g w' ⟨v, ⟨rfl, d, rfl⟩, rfl⟩
    exact ⟨_, ⟨⟨none, 0, by rw [h0], by omega, fun _ => ⟨by rw [List.eq_nil_of_length_eq_zero h0]; exact ⟨rfl, .inl ⟨rfl, rfl⟩⟩, fun b h => by simp [Value.ownBlock] at h⟩⟩, Nat.le_refl _, fun _ _ => rfl⟩, rfl⟩
  | some a => exact clone_some w a c l h63 hA hcells
end
theorem setRow_self {w : World} {g : Nat} {old cells : Array Value} {tt : TypeId} {fr : Nat × Nat} (h : w.heap[g]? = some (.cells old tt fr)) : (w.setRow g cells).heap[g]? = some (.cells cells tt fr) := setRow_heap w g old cells tt fr h
theorem setRow_other (w : World) {g b : Nat} (cells : Array Value) (h : b ≠ g) : (w.setRow g cells).heap[b]? = w.heap[b]? := by
  unfold World.setRow
  simp only [Array.getElem?_modify]
  rw [if_neg (Ne.symm h)]
theorem setRow_size (w : World) (g : Nat) (cells : Array Value) : (w.setRow g cells).heap.size = w.heap.size := by
  unfold World.setRow
  simp
end
section
section
variable {main : Bool} {V : Nat → Option Wait}
theorem Walk.turn {P : Program} {Stop : Goroutine → World → Prop} {g g' : Goroutine} {w W : World} {es : Array Event} (hr : g.status = .running) (hs : ∀ d, stepG P main g (w.at d) = .go g' (W.at d) es) (hd : ∀ d, DR V (w.at d) (W.at d) es) (h : Walk P main (DR V) Stop g' W) : Walk P main (DR V) Stop g w :=
  Walk.step hr (fun _ => g') (fun d => W.at d) (fun _ => es) hs hd (fun d => h.back d)
theorem atLoad (b q : Nat) (v : Int) (w : World) (hc : w.cell? ⟨b, q, none⟩ = some (.int .i64 v)) : CallV Try.prog main V 192 #[.pointer (some ⟨b, q, none⟩)] w (.int .i64 v) w := by
  refine callW_in Try.func192 rfl fun fr cs => ?_
  simp only [Try.ntmps192, ez, Nat.reduceAdd, Nat.reduceSub]
  repeat (first | refine Walk.cx ?_ | refine Walk.cR ?_ | (refine Walk.oq ?_; try walk_nrm) | (refine Walk.un ?_; walk_nrm))
  refine Walk.evs (fun _ => #[⟨.cell ⟨b, q, none⟩, false, true⟩]) rfl (fun d => stepG_load_atomic (w := w.at d) rfl (by rfl) (by decide) rfl Try.func193 (by kernel_rfl) (by rfl) (by kernel_rfl) .i64 (by kernel_rfl) rfl hc) (fun d e he => by simp at he; subst he; exact evR_read _ _) ?_
  walk_nrm
  repeat (first | refine Walk.cx ?_ | refine Walk.cR ?_ | (refine Walk.oq ?_; try walk_nrm) | (refine Walk.un ?_; walk_nrm))
  exact Walk.ret1 rfl rfl Try.func192 rfl fun d => ⟨rfl, d, rfl⟩
theorem atStore (b q : Nat) (u : Value) (v : Int) (w : World) (hc : w.cell? ⟨b, q, none⟩ = some u) (hz : w.frozen? ⟨b, q, none⟩ = false) (hf : Free V ⟨b, q, none⟩) : CallV Try.prog main V 102 #[.pointer (some ⟨b, q, none⟩), .int .i64 v] w (.tuple #[]) (w.setCell ⟨b, q, none⟩ (.int .i64 v)) := by
  refine callW_in Try.func102 rfl fun fr cs => ?_
  simp only [Try.ntmps102, ez, Nat.reduceAdd, Nat.reduceSub]
  repeat (first | refine Walk.cx ?_ | refine Walk.cR ?_ | (refine Walk.oq ?_; try walk_nrm) | (refine Walk.un ?_; walk_nrm))
  refine Walk.turn (W := w.setCell ⟨b, q, none⟩ (.int .i64 v)) rfl (fun d => stepG_store_atomic (w := w.at d) rfl (by rfl) (by decide) rfl Try.func125 (by kernel_rfl) (by rfl) (by kernel_rfl) (by kernel_rfl) rfl rfl hc hz) (fun d => DR.set' hf hc d _ (fun e he => by simp at he; subst he; exact evR_write _ _ hf)) ?_
  walk_nrm
  repeat (first | refine Walk.cx ?_ | refine Walk.cR ?_ | (refine Walk.oq ?_; try walk_nrm) | (refine Walk.un ?_; walk_nrm))
  exact Walk.ret0 rfl rfl Try.func102 rfl fun d => ⟨rfl, d, rfl⟩
end
structure Wd (L : La) where
  on : L.Gh → Prop
  up : ∀ {y y' : L.Gh}, L.le y y' → on y → on y'
  b : Nat
  q : Nat
  get : L.Sg → Int
  put : L.Sg → Int → L.Sg
  ok : Int → Prop
  sh : ∀ y, on y → L.sh y b
  rd : ∀ y s w, on y → L.I y s w → w.cell? ⟨b, q, none⟩ = some (.int .i64 (get s)) ∧ w.frozen? ⟨b, q, none⟩ = false
  wr : ∀ y s w v, on y → ok v → L.I y s w → L.I y (put s v) (w.setCell ⟨b, q, none⟩ (.int .i64 v))
def Wd.p {L : La} (W : Wd L) : Value := .pointer (some ⟨W.b, W.q, none⟩)
noncomputable def reg104_0 := rg Try.f104.body [0]
noncomputable def reg104_1 := rg Try.f104.body [1, 0]
noncomputable def reg104_2 := rg Try.f104.body [1, 1, 0]
theorem z104 : List.range reg104_0.size = [0] ∧ List.range reg104_1.size = [0, 1] ∧ List.range reg104_2.size = [0, 1, 2, 3] := by refine ⟨?_, ?_, ?_⟩ <;> kernel_rfl
theorem code104_is : Try.f104.body = some (.seq (.region 0 reg104_0 false) (.seq (.region 1 reg104_1 false) (.seq (.region 2 reg104_2 false) (.ret)))) := by kernel_rfl
noncomputable def reg73_0 := rg Try.f73.body [0]
noncomputable def reg73_1 := rg Try.f73.body [1, 0, 0]
noncomputable def reg73_2 := rg Try.f73.body [1, 0, 1, 0, 0]
noncomputable def reg73_3 := rg Try.f73.body [1, 1, 0]
theorem z73 : List.range reg73_0.size = [0] ∧ List.range reg73_1.size = [0, 1] ∧ List.range reg73_2.size = [0] ∧ List.range reg73_3.size = [0, 1, 2, 3, 4, 5] := by refine ⟨?_, ?_, ?_, ?_⟩ <;> kernel_rfl
theorem code73_is : Try.f73.body = some (.seq (.region 0 reg73_0 false) (.seq (.seq (.region 1 reg73_1 false) (.cond (.tmp 6 ) (.seq (.region 2 reg73_2 false) (.ret)) (.skip))) (.seq (.region 3 reg73_3 false) (.ret)))) := by kernel_rfl
noncomputable def reg63_0 := rg Try.f63.body [0, 0]
noncomputable def reg63_1 := rg Try.f63.body [1, 0]
noncomputable def reg63_2 := rg Try.f63.body [1, 1]
theorem z63 : List.range reg63_0.size = [0, 1] ∧ List.range reg63_1.size = [0, 1] ∧ List.range reg63_2.size = [0, 1, 2, 3, 4] := by refine ⟨?_, ?_, ?_⟩ <;> kernel_rfl
theorem code63_is : Try.f63.body = some (.seq (.seq (.region 0 reg63_0 false) (.cond (.tmp 7 ) (.ret) (.skip))) (.seq (.region 1 reg63_1 false) (.region 2 reg63_2 false))) := by kernel_rfl
section
variable {L : La} {sv : Value}
theorem step_s (K : Lg L sv) (e : K.E) (d : L.D) (ht : K.tgt e = (K.s e, .inr d)) : SCall K.toLb 101 #[sv] e (fun _ e' => Aft K.toLb e d e') := fun fr l hp hl hk => K.step e d ht fr l hp hl fun e' ha => hk _ e' ha
theorem plain_cons {fr : Frame} {l : List Frame} (hp : Plain fr) (hl : ∀ f ∈ l, Plain f) : ∀ f ∈ fr :: l, Plain f := fun x hx => by
  rcases List.mem_cons.1 hx with rfl | hx
  · exact hp
  · exact hl x hx
theorem Wd.put_mv (W : Wd L) (K : Lg L sv) (e : K.E) (v : Int) (hon : W.on (K.gh e)) (hv : W.ok v) : ∃ e', Mv K.toLb e e' (W.put (K.s e) v) ((K.w e).setCell ⟨W.b, W.q, none⟩ (.int .i64 v)) :=
  K.mv e _ _ (Nat.le_of_eq (size_set ..).symm) (fun b _ _ hs => heap_set_other _ _ _ _ fun he : b = W.b => hs (by rw [he]; exact W.sh _ hon)) (W.wr _ _ _ v hon hv (K.inv e))
theorem holds_s (K : Lg L sv) (W : Wd L) (e : K.E) (d : L.D) (hon : W.on (K.gh e)) (ht : K.tgt e = (K.s e, .inr d)) : SCall K.toLb 104 #[sv, W.p] e (fun v e' => Aft K.toLb e d e' ∧ v = .int .i64 (W.get (K.s e'))) := by
  intro fr l hp hl hk
  unfold LW Wd.p
  rw [enter_at _ Try.func104 code104_is]
  simp only [Try.ntmps104, ez, Nat.reduceAdd, Nat.reduceSub]
  repeat (first | refine Walk.cx ?_ | (refine Walk.cReg ?_; simp only [z104]) | (refine Walk.oq ?_; try walk_nrm) | (refine Walk.un ?_; walk_nrm))
  refine LW.callS (K := K.toLb) (e := e) (l := fr :: l) (f := 101) (Q := fun _ e' => Aft K.toLb e d e') ?_ (ho_of (by conv => lhs; whnf) (by kernel_rfl)) (by rfl) (by decide) rfl Try.func101 (by kernel_rfl) (by rfl) ⟨rfl, rfl, _, Try.func104⟩ (plain_cons hp hl) ?_
  · walk_nrm
    exact step_s K e d ht
  intro v e' ha
  have hc := (W.rd _ _ _ (W.up ha.le hon) (K.inv e')).1
  have hi1 := run_ifaceAtomic
  have hi2 := ev_ifaceAtomic
  unfold LW
  walk_nrm
  repeat (first | refine Walk.cx ?_ | (refine Walk.cReg ?_; simp only [z104]) | (refine Walk.oq ?_; try walk_nrm) | (refine Walk.un ?_; walk_nrm))
  refine Walk.invokeLoad W.b W.q (ho_of (by conv => lhs; whnf) (by kernel_rfl)) (by rfl) (by decide) rfl rfl ?_
  refine (atLoad W.b W.q _ (K.w e') hc _ _).then ?_
  rintro g' w' ⟨v', ⟨rfl, dd, rfl⟩, rfl⟩
  refine Walk.back ?_ dd
  refine Walk.finish (ho_of (by conv => lhs; whnf) (by kernel_rfl)) ?_
  walk_nrm
  repeat (first | refine Walk.cx ?_ | (refine Walk.cReg ?_; simp only [z104]) | (refine Walk.oq ?_; try walk_nrm) | (refine Walk.un ?_; walk_nrm))
  exact Walk.on1 rfl rfl Try.func104 rfl (hk _ e' ⟨ha, rfl⟩)
theorem word_load (K : Lg L sv) (W : Wd L) (e : K.E) (d : L.D) (hon : W.on (K.gh e)) (ht : K.tgt e = (K.s e, .inr d)) : SCall K.toLb 73 #[W.p, sv] e (fun v e' => Aft K.toLb e d e' ∧ v = .int .i64 (W.get (K.s e'))) := by
  intro fr l hp hl hk
  have hh := holds_s K W e d hon ht
  unfold Wd.p at *
  unfold LW
  have hp1 := fun w => run_eql_ptr (P := Try.prog) 175 undWord (some ⟨W.b, W.q, none⟩) w
  have hp2 := fun w es => ev_eql_ptr (P := Try.prog) 175 undWord (some ⟨W.b, W.q, none⟩) w es
  simp only [Option.isNone_some] at hp1
  rw [enter_at _ Try.func73 code73_is]
  simp only [Try.ntmps73, ez, Nat.reduceAdd, Nat.reduceSub]
  repeat (first | refine Walk.cx ?_ | (refine Walk.cReg ?_; simp only [z73]) | (refine Walk.oq ?_; try walk_nrm) | (refine Walk.un ?_; walk_nrm))
  refine LW.callS (K := K.toLb) (e := e) (l := fr :: l) (f := 104) (Q := fun v e' => Aft K.toLb e d e' ∧ v = .int .i64 (W.get (K.s e'))) ?_ (ho_of (by conv => lhs; whnf) (by kernel_rfl)) (by rfl) (by decide) rfl Try.func104 (by kernel_rfl) (by rfl) ⟨rfl, rfl, _, Try.func73⟩ (plain_cons hp hl) ?_
  · walk_nrm
    exact hh
  rintro v e' ⟨ha, rfl⟩
  unfold LW
  walk_nrm
  repeat (first | refine Walk.cx ?_ | (refine Walk.cReg ?_; simp only [z73]) | (refine Walk.oq ?_; try walk_nrm) | (refine Walk.un ?_; walk_nrm))
  exact Walk.on1 rfl rfl Try.func73 rfl (hk _ e' ⟨ha, rfl⟩)
structure Wrote (K : Lg L sv) (e : K.E) (d : L.D) (s : L.Sg) (s' : L.Sg) (e' : K.E) : Prop where
  tgt : K.tgt e' = L.act s d
  fuel : K.fuel e' < K.fuel e
  le : L.le (K.gh e) (K.gh e')
  s : K.s e' = s'
  size : (K.w e).heap.size ≤ (K.w e').heap.size
  mine : ∀ b, K.mine e b → K.mine e' b ∧ (K.w e').heap[b]? = (K.w e).heap[b]?
theorem Wrote.of {K : Lg L sv} {e e1 e' : K.E} {d : L.D} {s' : L.Sg} {W : Wd L} {v : Int} (hon : W.on (K.gh e)) (ha : Aft K.toLb e d e1) (m : Mv K.toLb e1 e' s' ((K.w e1).setCell ⟨W.b, W.q, none⟩ (.int .i64 v))) : Wrote K e d (K.s e1) s' e' :=
  ⟨m.tgt.trans ha.tgt, by rw [m.fuel]; exact ha.fuel, by rw [m.gh]; exact ha.le, m.s, by rw [m.w, size_set]; exact ha.size, fun b hb => by
    obtain ⟨h1, h2⟩ := ha.mine b hb
    have hne : b ≠ W.b := fun he => (K.mineA e1 b h1).2.1 (by rw [he]; exact W.sh _ (W.up ha.le hon))
    refine ⟨(m.mine b).2 (.inl h1), ?_⟩
    rw [m.w, heap_set_other _ _ _ _ hne]
    exact h2⟩
theorem Wrote.same {K : Lg L sv} {e e1 : K.E} {d : L.D} (ha : Aft K.toLb e d e1) : Wrote K e d (K.s e1) (K.s e1) e1 := ⟨ha.tgt, ha.fuel, ha.le, rfl, ha.size, ha.mine⟩
theorem word_store (K : Lg L sv) (W : Wd L) (e : K.E) (d : L.D) (x : Int) (hx : W.ok x) (hon : W.on (K.gh e)) (ht : K.tgt e = (K.s e, .inr d)) : SCall K.toLb 63 #[W.p, sv, .int .i64 x] e (fun _ e' => ∃ s, Wrote K e d s (W.put s x) e') := by
  intro fr l hp hl hk
  unfold Wd.p
  unfold LW
  have hp1 := fun w => run_eql_ptr (P := Try.prog) 175 undWord (some ⟨W.b, W.q, none⟩) w
  have hp2 := fun w es => ev_eql_ptr (P := Try.prog) 175 undWord (some ⟨W.b, W.q, none⟩) w es
  simp only [Option.isNone_some] at hp1
  rw [enter_at _ Try.func63 code63_is]
  simp only [Try.ntmps63, ez, Nat.reduceAdd, Nat.reduceSub]
  repeat (first | refine Walk.cx ?_ | (refine Walk.cReg ?_; simp only [z63]) | (refine Walk.oq ?_; try walk_nrm) | (refine Walk.un ?_; walk_nrm))
  refine LW.callS (K := K.toLb) (e := e) (l := fr :: l) (f := 101) (Q := fun _ e' => Aft K.toLb e d e') ?_ (ho_of (by conv => lhs; whnf) (by kernel_rfl)) (by rfl) (by decide) rfl Try.func101 (by kernel_rfl) (by rfl) ⟨rfl, rfl, _, Try.func63⟩ (plain_cons hp hl) ?_
  · walk_nrm
    exact step_s K e d ht
  intro v e1 ha
  obtain ⟨hc, hz⟩ := W.rd _ _ _ (W.up ha.le hon) (K.inv e1)
  obtain ⟨e', m⟩ := W.put_mv K e1 x (W.up ha.le hon) hx
  unfold LW
  walk_nrm
  repeat (first | refine Walk.cx ?_ | (refine Walk.cReg ?_; simp only [z63]) | (refine Walk.oq ?_; try walk_nrm) | (refine Walk.un ?_; walk_nrm))
  refine Walk.callV (x := .tuple #[]) (W := (K.w e1).setCell ⟨W.b, W.q, none⟩ (.int .i64 x)) ?_ (ho_of (by conv => lhs; whnf) (by kernel_rfl)) (by rfl) (by decide) rfl Try.func102 (by kernel_rfl) (by rfl) ?_
  · walk_nrm
    exact atStore W.b W.q _ x (K.w e1) hc hz ((K.shA e1 _ (W.sh _ (W.up ha.le hon))).1 _ rfl)
  walk_nrm
  repeat (first | refine Walk.cx ?_ | (refine Walk.cReg ?_; simp only [z63]) | (refine Walk.oq ?_; try walk_nrm) | (refine Walk.un ?_; walk_nrm))
  exact Walk.on0 rfl rfl Try.func63 rfl (LW.to m (hk _ e' ⟨K.s e1, Wrote.of hon ha m⟩))
end
end
section
structure Rg where
  st : Nat → Int
  va : Nat → Int
inductive RD where
  | p1 (q v : Int) | p2 (q v : Int) | p3 (q : Int) | g1 (q : Int) | g2 (q : Int) | g3 (q v : Int) | t (q : Int) | h (q l : Int) | a1 (q m : Int) (l : List Int) | a2 (q m : Int) (l : List Int) | a3 (q m : Int) (l : List Int) (v : Int)
def good (q : Int) : Prop := 0 ≤ q ∧ q < 4611686018427387904
instance (q : Int) : Decidable (good q) := inferInstanceAs (Decidable (_ ∧ _))
def ixR (n : Nat) (q : Int) : Nat := (q % n).toNat
def laR (n : Nat) (q : Int) : Int := 2 * (q / n)
def rgPutS (s : Rg) (i : Nat) (x : Int) : Rg := ⟨upd s.st i x, s.va⟩
def rgPutV (s : Rg) (i : Nat) (x : Int) : Rg := ⟨s.st, upd s.va i x⟩
def endA (l : List Int) (e : Int) : Ans := if l = [] then ⟨false, e, []⟩ else ⟨true, 0, l⟩
def rgEnter (n : Nat) (s : Rg) (_ : Int) (o : OpV) : Rg × (Ans ⊕ RD) :=
  if o.k = 1 then (s, if good o.a then .inr (.p1 o.a o.b) else .inl ⟨false, 1, []⟩)
  else if o.k = 2 then (s, if good o.a then .inr (.g1 o.a) else .inl ⟨false, 1, []⟩)
  else if o.k = 3 then (s, if good o.a then .inr (.t o.a) else .inl ⟨false, 0, []⟩)
  else if o.k = 4 then (s, if o.a = -9223372036854775808 then .inl ⟨true, o.a, []⟩ else if good o.a ∧ o.a ≤ o.b then .inr (.h o.a (min o.b (min 4611686018427387903 (o.a + n - 1)))) else .inl ⟨true, IntKind.i64.wrap (o.a - 1), []⟩)
  else if o.k = 5 then (s, if good o.a then (if min o.b n ≤ 0 then .inl ⟨true, 0, []⟩ else .inr (.a1 o.a (min o.b n) [])) else .inl ⟨false, 1, []⟩)
  else (s, .inl ⟨false, 0, []⟩)
def rgAct (n : Nat) (s : Rg) : RD → Rg × (Ans ⊕ RD)
  | .p1 q v => (rgPutS s (ixR n q) (laR n q - 1), .inr (.p2 q v))
  | .p2 q v => (rgPutV s (ixR n q) v, .inr (.p3 q))
  | .p3 q => (rgPutS s (ixR n q) (laR n q), .inl ⟨true, 0, []⟩)
  | .g1 q => (s, if s.st (ixR n q) < laR n q then .inl ⟨false, 6, []⟩ else if laR n q < s.st (ixR n q) then .inl ⟨false, 10, []⟩ else .inr (.g2 q))
  | .g2 q => (s, .inr (.g3 q (s.va (ixR n q))))
  | .g3 q v => (s, if s.st (ixR n q) = laR n q then .inl ⟨true, v, []⟩ else .inl ⟨false, 10, []⟩)
  | .t q => (s, .inl ⟨decide (s.st (ixR n q) = laR n q), 0, []⟩)
  | .h q l => (s, if s.st (ixR n q) = laR n q then (if q < l then .inr (.h (q + 1) l) else .inl ⟨true, l, []⟩) else .inl ⟨true, q - 1, []⟩)
  | .a1 q m l => (s, if s.st (ixR n q) < laR n q then .inl (endA l 6) else if laR n q < s.st (ixR n q) then .inl (endA l 10) else .inr (.a2 q m l))
  | .a2 q m l => (s, .inr (.a3 q m l (s.va (ixR n q))))
  | .a3 q m l v => (s, if s.st (ixR n q) = laR n q then (if ((l.length : Int) + 1 < m) ∧ good (q + 1) then .inr (.a1 (q + 1) m (l ++ [v])) else .inl ⟨true, 0, l ++ [v]⟩) else .inl (endA l 10))
structure RgI (rb sb n : Nat) (s : Rg) (w : World) : Prop where
  hd : w.heap[rb]? = some (.cells #[.slice (some ⟨sb, 0, none⟩) n n] 72)
  sl : ∃ arr : Array Value, w.heap[sb]? = some (.cells arr 131) ∧ arr.size = 2 * n ∧ (∀ i, i < n → arr[i * 2]? = some (.int .i64 (s.st i)) ∧ arr[i * 2 + 1]? = some (.int .i64 (s.va i)))
  pos : 1 ≤ n ∧ n ≤ 65536
theorem RgI.old {rb sb n : Nat} {s : Rg} {w w' : World} (h : RgI rb sb n s w) (hb : w'.heap[rb]? = w.heap[rb]?) (hc : w'.heap[sb]? = w.heap[sb]?) : RgI rb sb n s w' := by
  obtain ⟨arr, h1, h2⟩ := h.sl
  exact ⟨hb.trans h.hd, ⟨arr, hc.trans h1, h2⟩, h.pos⟩
theorem RgI.lt {rb sb n : Nat} {s : Rg} {w : World} (h : RgI rb sb n s w) : rb < w.heap.size ∧ sb < w.heap.size := by
  obtain ⟨arr, h1, h2⟩ := h.sl
  exact ⟨(Array.getElem?_eq_some_iff.1 h.hd).1, (Array.getElem?_eq_some_iff.1 h1).1⟩
theorem RgI.ne {rb sb n : Nat} {s : Rg} {w : World} (h : RgI rb sb n s w) : rb ≠ sb := fun e => by
  obtain ⟨arr, h1, h2⟩ := h.sl
  have := h.hd
  rw [e, h1] at this
  cases this
def rgLa (rb sb n : Nat) : La where
  Sg := Rg
  D := RD
  Gh := Unit
  le := fun _ _ => True
  refl := fun _ => trivial
  trans := fun _ _ => trivial
  enter := rgEnter n
  act := rgAct n
  sh := fun _ b => b = rb ∨ b = sb
  mono := fun _ h => h
  I := fun _ => RgI rb sb n
  stable := fun h hb => h.old (hb _ (.inl rfl)) (hb _ (.inr rfl))
  lt := fun h hb => hb.elim (fun e => e ▸ h.lt.1) (fun e => e ▸ h.lt.2)
section
variable {rb sb n : Nat}
theorem RgI.size {s : Rg} {w : World} (h : RgI rb sb n s w) : w.cell? ⟨rb, 0, none⟩ = some (.slice (some ⟨sb, 0, none⟩) n n) := (cell_of h.hd 0).trans rfl
theorem RgI.rdS {i : Nat} (hi : i < n) {s : Rg} {w : World} (h : RgI rb sb n s w) : w.cell? ⟨sb, i * 2, none⟩ = some (.int .i64 (s.st i)) ∧ w.frozen? ⟨sb, i * 2, none⟩ = false := by
  obtain ⟨arr, h1, h2, h3⟩ := h.sl
  exact ⟨(cell_of h1 _).trans (h3 i hi).1, frozen_of h1 _⟩
theorem RgI.rdV {i : Nat} (hi : i < n) {s : Rg} {w : World} (h : RgI rb sb n s w) : w.cell? ⟨sb, i * 2 + 1, none⟩ = some (.int .i64 (s.va i)) ∧ w.frozen? ⟨sb, i * 2 + 1, none⟩ = false := by
  obtain ⟨arr, h1, h2, h3⟩ := h.sl
  exact ⟨(cell_of h1 _).trans (h3 i hi).2, frozen_of h1 _⟩
theorem RgI.wrS {i : Nat} (hi : i < n) {s : Rg} {w : World} (v : Int) (h : RgI rb sb n s w) : RgI rb sb n (rgPutS s i v) (w.setCell ⟨sb, i * 2, none⟩ (.int .i64 v)) := by
  obtain ⟨arr, h1, h2, h3⟩ := h.sl
  refine ⟨(heap_set_other _ _ _ _ h.ne).trans h.hd, ⟨_, heap_set_self _ _ h1, by simp [h2], fun j hj => ⟨?_, ?_⟩⟩, h.pos⟩
  · show _ = some (Value.int .i64 (upd s.st i v j))
    by_cases e : j = i
    · subst e
      rw [upd_same]
      exact Array.getElem?_setIfInBounds_self_of_lt (by omega)
    · rw [upd_ne _ _ e, Array.getElem?_setIfInBounds_ne (by omega)]; exact (h3 j hj).1
  · rw [Array.getElem?_setIfInBounds_ne (by omega)]; exact (h3 j hj).2
theorem RgI.wrV {i : Nat} (hi : i < n) {s : Rg} {w : World} (v : Int) (h : RgI rb sb n s w) : RgI rb sb n (rgPutV s i v) (w.setCell ⟨sb, i * 2 + 1, none⟩ (.int .i64 v)) := by
  obtain ⟨arr, h1, h2, h3⟩ := h.sl
  refine ⟨(heap_set_other _ _ _ _ h.ne).trans h.hd, ⟨_, heap_set_self _ _ h1, by simp [h2], fun j hj => ⟨?_, ?_⟩⟩, h.pos⟩
  · rw [Array.getElem?_setIfInBounds_ne (by omega)]; exact (h3 j hj).1
  · show _ = some (Value.int .i64 (upd s.va i v j))
    by_cases e : j = i
    · subst e
      rw [upd_same]
      exact Array.getElem?_setIfInBounds_self_of_lt (by omega)
    · rw [upd_ne _ _ e, Array.getElem?_setIfInBounds_ne (by omega)]; exact (h3 j hj).2
def stpW (i : Nat) (hi : i < n) : Wd (rgLa rb sb n) where
  on := fun _ => True
  up := fun _ _ => trivial
  b := sb
  q := i * 2
  get := fun s => (s : Rg).st i
  put := fun s v => rgPutS s i v
  ok := fun _ => True
  sh := fun _ _ => .inr rfl
  rd := fun _ s w _ h => RgI.rdS hi h
  wr := fun _ s w v _ _ h => RgI.wrS hi v h
def vluW (i : Nat) (hi : i < n) : Wd (rgLa rb sb n) where
  on := fun _ => True
  up := fun _ _ => trivial
  b := sb
  q := i * 2 + 1
  get := fun s => (s : Rg).va i
  put := fun s v => rgPutV s i v
  ok := fun _ => True
  sh := fun _ _ => .inr rfl
  rd := fun _ s w _ h => RgI.rdV hi h
  wr := fun _ s w v _ _ h => RgI.wrV hi v h
end
theorem ixR_lt {n : Nat} (hn : 1 ≤ n) (q : Int) : ixR n q < n := by
  unfold ixR
  have h1 := Int.emod_nonneg q (show (n : Int) ≠ 0 by omega)
  have h2 := Int.emod_lt_of_pos q (show (0 : Int) < n by omega)
  omega
end
end Go.Proofs.Ytbmijpkdghkbbaa
