/- Part 19. -/
import Derived.Test.YtcdcnmphjhfbpaaJ9
import Derived.Test.YtcdcnmphjhfbpaaJ10
import Derived.Test.YtcdcnmphjhfbpaaJ16
import Derived.Test.YtcdcnmphjhfbpaaJ18
set_option linter.unusedSimpArgs false
set_option linter.unusedVariables false
set_option linter.unusedVariables false
set_option maxHeartbeats 8000000
set_option maxRecDepth 100000
namespace Go.Proofs.Ytcdcnmphjhfbpaa
open Go.Conc Go.RowKit Go.Relay
open Go.ConcN (upd upd_ne upd_same)
section
def NumB (w : World) (B : Nat) (xs : List Int) : Prop := w.heap[B]? = some (.cells (xs.map fun z => Value.int .i64 z).toArray 2)
theorem NumB.cell {w : World} {B : Nat} {xs : List Int} (h : NumB w B xs) {j : Nat} {z : Int} (hj : xs[j]? = some z) : w.cell? ⟨B, j, none⟩ = some (.int .i64 z) := by
 refine (Ac h j).trans ?_
 simp [hj]
theorem NumB.frozen {w : World} {B : Nat} {xs : List Int} (h : NumB w B xs) (j : Nat) : w.frozen? ⟨B, j, none⟩ = false := Aq h j
theorem NumB.set {w : World} {B : Nat} {xs : List Int} (h : NumB w B xs) (j : Nat) (z : Int) : NumB (w.setCell ⟨B, j, none⟩ (.int .i64 z)) B (xs.set j z) := by
 unfold NumB
 rw [Am _ _ h]
 simp [List.map_set]
theorem NumB.same {w w' : World} {B : Nat} {xs : List Int} (h : NumB w B xs) (hb : w'.heap[B]? = w.heap[B]?) : NumB w' B xs := hb.trans h
theorem NumB.lt {w : World} {B : Nat} {xs : List Int} (h : NumB w B xs) : B < w.heap.size := (Array.getElem?_eq_some_iff.1 h).1
theorem NumB.row {w : World} {B : Nat} {xs : List Int} (h : NumB w B xs) {base : Nat} (hb : base <= B) (hn : xs.length <= maxLen) : w.ownsRow base 2 1 (.slice (some ⟨B, 0, none⟩) xs.length xs.length) xs.length (xs.map fun z => .int .i64 z) :=
 ⟨by simp, .inr ⟨B, xs.length, _, rfl, hb, h, Nat.le_refl _, hn, by simp, by simpa using List.take_of_length_le (by simp)⟩⟩
theorem NumB.lsR {w : World} {B : Nat} {xs : List Int} (h : NumB w B xs) : LsR (.slice (some ⟨B, 0, none⟩) xs.length xs.length) xs w :=
 ⟨_, _, rfl, Nat.le_refl _, fun e => (by cases e), fun j z hj => ⟨B, 0, rfl, by rw [Nat.zero_add]; exact h.cell hj⟩⟩
theorem Ka (n : Nat) : madeCells #[Value.int .i64 0] n = ((List.replicate n (0 : Int)).map fun z => Value.int .i64 z).toArray := by
 apply Array.ext'
 rw [toList_madeCells_one]
 simp
def Mz (l : List Int) (n : Nat) : List Int := l ++ List.replicate (n - l.length) 0
theorem padL_nil (n : Nat) : Mz [] n = List.replicate n 0 := rfl
theorem padL_full {l : List Int} {n : Nat} (h : l.length = n) : Mz l n = l := by simp [Mz, h]
theorem padL_set {l : List Int} {n : Nat} (h : l.length < n) (v : Int) : (Mz l n).set l.length v = Mz (l ++ [v]) n := by
 unfold Mz
 obtain ⟨m, hm⟩ : ∃ m, n - l.length = m + 1 := ⟨n - l.length - 1, by omega⟩
 have hm2 : n - (l ++ [v]).length = m := by simp; omega
 rw [hm, hm2, List.replicate_succ, List.set_append_right _ _ (Nat.le_refl _)]
 simp
theorem range_snoc (f : Nat -> Int) (j : Nat) : (List.range (j + 1)).map f = (List.range j).map f ++ [f j] := by simp [List.range_succ]
section
variable {P : Program} {main : Bool} {V : Nat -> Option Wait} {Stop : Goroutine -> World -> Prop} {b : Frame} {a : Act} {cs : List Frame} {w : World} {fn : Func} {todo : List Item} {c : Frame} {t s r : Tmp}
theorem Gn (hn : b.kind = .normal) (hd : a.defers = []) (hf : P.funcs[b.fn]? = some fn) (hr : fn.results = #[.tmp t, .tmp s, .tmp r]) (h : Walk P main (DR V) Stop (G (c.finish (.tuple #[a.tmps.getD t undef, a.tmps.getD s undef, a.tmps.getD r undef])) cs) w) : Walk P main (DR V) Stop (G { b.at a todo with mode := .returning } (c :: cs)) w :=
 Walk.ctl rfl (fun w => stepG_leave (v := .tuple #[a.tmps.getD t undef, a.tmps.getD s undef, a.tmps.getD r undef]) hn hd hf (by simp [results, hr]) (by simp [results, hr])) h
end
section
variable {main : Bool} {V : Nat -> Option Wait}
theorem step_nil (w : World) : As Try.prog main V 120 #[.nilIface] w (.tuple #[]) w := by
 obtain ⟨ms, hu⟩ := Kh
 have hn1 := fun w => Dd (P := Try.prog) (w := w) 137 hu
 have hn2 := fun w es => Dn (P := Try.prog) (w := w) 137 es hu
 refine Ap Try.func120 code120_is fun fr cs => ?_
 simp only [Try.ntmps120, ez, Nat.reduceAdd, Nat.reduceSub]
 refine Aa z120 ?_
 exact Ke rfl rfl Try.func120 rfl fun d => ⟨rfl, d, rfl⟩
theorem holds_nil (b q : Nat) (v : Int) (w : World) (hc : w.cell? ⟨b, q, none⟩ = some (.int .i64 v)) : As Try.prog main V 133 #[.nilIface, .pointer (some ⟨b, q, none⟩)] w (.int .i64 v) w := by
 have hi1 := Gz
 have hi2 := Hu
 refine Ap Try.func133 code133_is fun fr cs => ?_
 simp only [Try.ntmps133, ez, Nat.reduceAdd, Nat.reduceSub]
 refine Aa z133 ?_
 refine Walk.callV (x := .tuple #[]) (W := w) ?_ Aj (by rfl) (by decide) rfl Try.func120 (by kernel_rfl) (by rfl) ?_
 ·walk_nrm
  exact step_nil w
 walk_nrm
 refine Aa z133 ?_
 refine Hc b q Aj (by rfl) (by decide) rfl rfl ?_
 refine (atLoad b q _ w hc _ _).then ?_
 rintro g' w' ⟨v', ⟨rfl, dd, rfl⟩, rfl⟩
 refine Walk.back ?_ dd
 refine Walk.finish Aj ?_
 walk_nrm
 refine Aa z133 ?_
 exact An rfl rfl Try.func133 rfl fun d => ⟨rfl, d, rfl⟩
theorem load_nil (b q : Nat) (v : Int) (w : World) (hc : w.cell? ⟨b, q, none⟩ = some (.int .i64 v)) : As Try.prog main V 100 #[.pointer (some ⟨b, q, none⟩), .nilIface] w (.int .i64 v) w := by
 have hp1 := fun w => Bz (P := Try.prog) 193 Fj (some ⟨b, q, none⟩) w
 have hp2 := fun w es => Cn (P := Try.prog) 193 Fj (some ⟨b, q, none⟩) w es
 simp only [Option.isNone_some] at hp1
 refine Ap Try.func100 code100_is fun fr cs => ?_
 simp only [Try.ntmps100, ez, Nat.reduceAdd, Nat.reduceSub]
 refine Aa z100 ?_
 refine Walk.callV (x := .int .i64 v) (W := w) ?_ Aj (by rfl) (by decide) rfl Try.func133 (by kernel_rfl) (by rfl) ?_
 ·walk_nrm
  exact holds_nil b q v w hc
 walk_nrm
 refine Aa z100 ?_
 exact An rfl rfl Try.func100 rfl fun d => ⟨rfl, d, rfl⟩
noncomputable def reg78_0 := rk Try.f78.body 0
noncomputable def reg78_1 := rk Try.f78.body 1
theorem z78 : reg78_0.size = 1 /\ reg78_1.size = 3 := by and_intros <;> kernel_rfl
theorem code78_is : Try.f78.body = some (.seq (.region 0 reg78_0 false) (.seq (.region 1 reg78_1 false) (.ret))) := by kernel_rfl
theorem value_nil (b q : Nat) (v : Int) (w : World) (hc : w.cell? ⟨b, q, none⟩ = some (.int .i64 v)) : As Try.prog main V 78 #[.pointer (some ⟨b, q, none⟩)] w (.int .i64 v) w := by
 refine Ap Try.func78 code78_is fun fr cs => ?_
 simp only [Try.ntmps78, ez, Nat.reduceAdd, Nat.reduceSub]
 refine Aa z78 ?_
 refine Walk.callV (x := .int .i64 v) (W := w) ?_ Aj (by rfl) (by decide) rfl Try.func100 (by kernel_rfl) (by rfl) ?_
 ·walk_nrm
  exact load_nil b q v w hc
 walk_nrm
 refine Aa z78 ?_
 exact An rfl rfl Try.func78 rfl fun d => ⟨rfl, d, rfl⟩
end
noncomputable def reg76_0 := rk Try.f76.body 0
noncomputable def reg76_1 := rk Try.f76.body 1
noncomputable def reg76_2 := rk Try.f76.body 2
noncomputable def reg76_3 := rk Try.f76.body 3
noncomputable def reg76_4 := rk Try.f76.body 4
noncomputable def reg76_5 := rk Try.f76.body 5
noncomputable def reg76_6 := rk Try.f76.body 6
noncomputable def reg76_7 := rk Try.f76.body 7
theorem z76 : reg76_0.size = 1 /\ reg76_1.size = 4 /\ reg76_2.size = 3 /\ reg76_3.size = 1 /\ reg76_4.size = 2 /\ reg76_5.size = 12 /\ reg76_6.size = 2 /\ reg76_7.size = 2 := by and_intros <;> kernel_rfl
theorem code76_is : Try.f76.body = some (.seq (.region 0 reg76_0 false) (.seq (.region 1 reg76_1 false) (.seq (.seq (.region 2 reg76_2 false) (.block 0 (.loop (.seq (.region 3 reg76_3 false) (.seq (.cond (.tmp 13 ) (.skip) (.exit 0)) (.seq (.block 1 (.seq (.region 4 reg76_4 false) (.region 5 reg76_5 false))) (.region 6 reg76_6 false))))))) (.seq (.region 7 reg76_7 false) (.ret))))) := by kernel_rfl
noncomputable def reg26_0 := rk Try.f26.body 0
noncomputable def reg26_1 := rk Try.f26.body 1
theorem z26 : reg26_0.size = 1 /\ reg26_1.size = 3 := by and_intros <;> kernel_rfl
theorem code26_is : Try.f26.body = some (.seq (.region 0 reg26_0 false) (.seq (.region 1 reg26_1 false) (.ret))) := by kernel_rfl
noncomputable def reg27_0 := rk Try.f27.body 0
noncomputable def reg27_1 := rk Try.f27.body 1
theorem z27 : reg27_0.size = 1 /\ reg27_1.size = 3 := by and_intros <;> kernel_rfl
theorem code27_is : Try.f27.body = some (.seq (.region 0 reg27_0 false) (.seq (.region 1 reg27_1 false) (.ret))) := by kernel_rfl
noncomputable def reg77_0 := rk Try.f77.body 0
noncomputable def reg77_1 := rk Try.f77.body 1
theorem z77 : reg77_0.size = 1 /\ reg77_1.size = 5 := by and_intros <;> kernel_rfl
theorem code77_is : Try.f77.body = some (.seq (.region 0 reg77_0 false) (.seq (.region 1 reg77_1 false) (.ret))) := by kernel_rfl
noncomputable def reg79_0 := rk Try.f79.body 0
noncomputable def reg79_1 := rk Try.f79.body 1
theorem z79 : reg79_0.size = 1 /\ reg79_1.size = 5 := by and_intros <;> kernel_rfl
theorem code79_is : Try.f79.body = some (.seq (.region 0 reg79_0 false) (.seq (.region 1 reg79_1 false) (.ret))) := by kernel_rfl
noncomputable def hdEa (rb f N n j : Nat) (u : Nat -> Value) : Frame :=
 (base 76).at { tmps := #[.pointer (some ⟨rb, 0, none⟩), .func (.func f) #[] #[], u 2, u 3, .slice none 0 0, .slice (some ⟨N, 0, none⟩) n n, u 6, u 7, u 8, u 9, u 10, .int .i64 n, .int .i64 j, u 13, u 14, u 15, u 16, u 17, u 18, u 19, u 20, u 21, u 22, u 23, u 24, u 25, u 26, u 27], defers := [] } [.code (.seq (.region 3 reg76_3 false) (.seq (.cond (.tmp 13 ) (.skip) (.exit 0)) (.seq (.block 1 (.seq (.region 4 reg76_4 false) (.region 5 reg76_5 false))) (.region 6 reg76_6 false)))), .inLoop (.seq (.region 3 reg76_3 false) (.seq (.cond (.tmp 13 ) (.skip) (.exit 0)) (.seq (.block 1 (.seq (.region 4 reg76_4 false) (.region 5 reg76_5 false))) (.region 6 reg76_6 false)))), .inBlock 0, .code (.seq (.region 7 reg76_7 false) (.ret))]
section
variable {main : Bool} {V : Nat -> Option Wait} {rb sb n : Nat} {s : Rg}
theorem stamps1_w (w : World) (I : RgI rb sb n s w) (i : Nat) (hi : i < n) : As Try.prog main V 77 #[.pointer (some ⟨sb, i * 2, none⟩)] w (.int .i64 (s.st i)) w := by
 have hv := value_nil (main := main) (V := V) sb (i * 2) (s.st i) w (I.rdS hi).1
 refine Ap Try.func77 code77_is fun fr cs => ?_
 simp only [Try.ntmps77, ez, Nat.reduceAdd, Nat.reduceSub]
 refine Aa z77 ?_
 refine Walk.callV (x := .int .i64 (s.st i)) (W := w) ?_ Aj (by rfl) (by decide) rfl Try.func78 (by kernel_rfl) (by rfl) ?_
 ·walk_nrm
  exact hv
 walk_nrm
 refine Aa z77 ?_
 exact An rfl rfl Try.func77 rfl fun d => ⟨rfl, d, rfl⟩
theorem values1_w (w : World) (I : RgI rb sb n s w) (i : Nat) (hi : i < n) : As Try.prog main V 79 #[.pointer (some ⟨sb, i * 2, none⟩)] w (.int .i64 (s.va i)) w := by
 have hv := value_nil (main := main) (V := V) sb (i * 2 + 1) (s.va i) w (I.rdV hi).1
 refine Ap Try.func79 code79_is fun fr cs => ?_
 simp only [Try.ntmps79, ez, Nat.reduceAdd, Nat.reduceSub]
 refine Aa z79 ?_
 refine Walk.callV (x := .int .i64 (s.va i)) (W := w) ?_ Aj (by rfl) (by decide) rfl Try.func78 (by kernel_rfl) (by rfl) ?_
 ·walk_nrm
  exact hv
 walk_nrm
 refine Aa z79 ?_
 exact An rfl rfl Try.func79 rfl fun d => ⟨rfl, d, rfl⟩
end
end
section
noncomputable def reg150_0 := rk Try.f150.body 0
noncomputable def reg150_1 := rk Try.f150.body 1
theorem size150_1 : reg150_1.size = 22 := by kernel_rfl
noncomputable def reg150_2 := rk Try.f150.body 2
noncomputable def reg150_3 := rk Try.f150.body 3
noncomputable def reg150_4 := rk Try.f150.body 4
theorem size150_4 : reg150_4.size = 15 := by kernel_rfl
noncomputable def reg150_5 := rk Try.f150.body 5
noncomputable def reg150_6 := rk Try.f150.body 6
noncomputable def reg150_7 := rk Try.f150.body 7
noncomputable def reg150_8 := rk Try.f150.body 8
noncomputable def reg150_9 := rk Try.f150.body 9
noncomputable def reg150_10 := rk Try.f150.body 10
noncomputable def reg150_11 := rk Try.f150.body 11
theorem size150_11 : reg150_11.size = 15 := by kernel_rfl
noncomputable def reg150_12 := rk Try.f150.body 12
noncomputable def reg150_13 := rk Try.f150.body 13
theorem size150_13 : reg150_13.size = 16 := by kernel_rfl
noncomputable def reg150_14 := rk Try.f150.body 14
noncomputable def reg150_15 := rk Try.f150.body 15
theorem z150 : reg150_0.size = 3 /\ reg150_1.size = 22 /\ reg150_2.size = 1 /\ reg150_3.size = 2 /\ reg150_4.size = 15 /\ reg150_5.size = 10 /\ reg150_6.size = 3 /\ reg150_7.size = 10 /\ reg150_8.size = 3 /\ reg150_9.size = 3 /\ reg150_10.size = 2 /\ reg150_11.size = 15 /\ reg150_12.size = 3 /\ reg150_13.size = 16 /\ reg150_14.size = 11 /\ reg150_15.size = 3 := by and_intros <;> kernel_rfl
theorem code150_is : Try.f150.body = some (.seq (.region 0 reg150_0 false) (.seq (.region 1 reg150_1 true) (.seq (.seq (.region 2 reg150_2 false) (.block 0 (.seq (.region 3 reg150_3 false) (.cond (.tmp 32 ) (.seq (.region 4 reg150_4 true) (.seq (.seq (.region 5 reg150_5 false) (.cond (.tmp 57 ) (.seq (.region 6 reg150_6 false) (.ret)) (.skip))) (.seq (.seq (.region 7 reg150_7 false) (.cond (.tmp 67 ) (.seq (.region 8 reg150_8 false) (.ret)) (.skip))) (.seq (.region 9 reg150_9 false) (.ret))))) (.seq (.region 10 reg150_10 false) (.cond (.tmp 68 ) (.seq (.region 11 reg150_11 true) (.seq (.region 12 reg150_12 false) (.ret))) (.skip))))))) (.seq (.seq (.region 13 reg150_13 true) (.cond (.tmp 99 ) (.seq (.region 14 reg150_14 false) (.ret)) (.skip))) (.seq (.region 15 reg150_15 false) (.ret)))))) := by kernel_rfl
section
variable {a0 M tb tc n m : Nat} {cb : CB} {ta : Option Addr} {S : Rg} {T : Nat -> R11}
theorem get_1l {main : Bool} {i : Nat} (hi : i < n) (hg : good (T i).q) (hm : 0 < m) (hm2 : m <= 65536) (h : S.st (Bq m (T i).q) < Ce m (T i).q) (w0 : World) (I0 : M11 a0 M cb tb tc n m ta S T w0) (hn : n <= 64) (ha0 : a0 <= w0.heap.size) :
  CallW Try.prog main (fun _ => none) 150 #[.pointer (some ⟨M, 0, none⟩), .int .i64 i, .int .i64 1] w0 (fun v w' => v = .tuple #[.int .i64 0, .int .i64 6, .bool true] /\ M11 a0 M cb tb tc n m ta S (upd T i { T i with x := S.st (Bq m (T i).q) }) w' /\ Got M cb m tb n T (upd T i { T i with x := S.st (Bq m (T i).q) }) w0 w') := by
 intro kf cs
 have hi0 : (0 : Int) <= i := by omega
 have hi1 : decide ((i : Int) < n) = true := by simp; omega
 have hi3 : decide (i < n) = true := by simp; omega
 have hi4 : (i : Int) < n := by omega
 have ll3 := I0.lt.2.2 (by omega)
 have hsl := Dx (main := main) (V := fun _ => none) (T i).q hg hm hm2 w0 I0
 have hla := Fp (main := main) (V := fun _ => none) (T i).q hg hm hm2 w0 I0
 have hxm := Eh hg hm
 have hL := Es hg m
 have hlb := Dw hg m
 have hw : IntKind.wrap .i64 (2 * (T i).q.tdiv m) = Ce m (T i).q := by rw [IntKind.wrap_i64, hL]; omega
 have cs1 := I0.scell hxm
 have cv1 := I0.vcell hxm
 have c1 : w0.cell? ⟨M, 3, none⟩ = some (.slice (some ⟨tb, 0, none⟩) n tc) := I0.cT (by omega)
 have c3 : w0.cell? ⟨tb, i * 9 + 5, none⟩ = some (.int .i64 (T i).q) := I0.tcell hi rfl
 generalize hX : Bq m (T i).q = x at *
 generalize hK : S.st x = st at *
 generalize hU : S.va x = va at *
 generalize hlp : (T i).q.tdiv m = lp at *
 generalize hLL : Ce m (T i).q = L at *
 have hx0 : (0 : Int) <= x := by omega
 have hx1 : decide ((x : Int) < m) = true := by simp; omega
 have hx3 : decide (x < m) = true := by simp; omega
 have hx4 : (x : Int) < m := by omega
 clear hL
 generalize hqq : (T i).q = q at *
 rw [enter_at _ Try.func150 code150_is]
 simp only [Try.ntmps150, ez, Nat.reduceAdd, Nat.reduceSub]
 refine Aa z150 ?_
 (refine Ba (by kernel_rfl) size150_1 (by kernel_rfl) (by kernel_rfl) (by decide) ?_; simp only [List.range, List.range.loop]; repeat (first | (refine Cm.oq ?_) | (refine Al Aj (by rfl) ?_; walk_nrm)))
 refine Cm.callV (x := .int .i64 (x : Nat)) ?_ Aj (by rfl) rfl Try.func115 (by kernel_rfl) (by rfl) ?_
 ·intro w' e
  subst e
  walk_nrm
  exact hsl
 walk_nrm
 repeat (first | (refine Cm.oq ?_) | (refine Al Aj (by rfl) ?_; walk_nrm))
 refine Cm.callV (x := .int .i64 lp) ?_ Aj (by rfl) rfl Try.func114 (by kernel_rfl) (by rfl) ?_
 ·intro w' e
  subst e
  walk_nrm
  exact hla
 walk_nrm
 repeat (first | (refine Cm.oq ?_) | (refine Al Aj (by rfl) ?_; walk_nrm))
 refine Cm.done ?_
 clear c1 c3 hsl hla
 have c1 : w0.cell? ⟨M, 3, none⟩ = some (.slice (some ⟨tb, 0, none⟩) n tc) := I0.cT (by omega)
 have c2 := I0.cS hm
 have c3 : w0.cell? ⟨tb, i * 9 + 6, none⟩ = some (.int .i64 (T i).x) := I0.tcell hi rfl
 have z3 := I0.tfrz hi (i * 9 + 6)
 have I1 := I0.put hi (j := 6) (v := .int .i64 st) (t := { T i with x := st }) rfl (by decide) ⟨rfl, rfl, rfl, rfl, rfl, rfl, rfl, rfl⟩
 try walk_nrm
 refine Aa z150 ?_
 (refine Ay (by kernel_rfl) size150_4 (by kernel_rfl) (by kernel_rfl) (by kernel_rfl) (by decide) ?_; simp only [List.range, List.range.loop]; repeat (first | (refine Cm.oq ?_) | (refine Al Aj (by rfl) ?_; walk_nrm)))
 refine Cm.done ?_
 intro rest hr
 (have hfr := Dq tb (i * 9 + 6); refine Walk.os hfr c3 ?_; clear hfr; try walk_nrm)
 refine hr _ _ ?_
 have s1 := Af w0 ⟨tb, i * 9 + 6, none⟩ (.int .i64 st)
 have o1 : ∀ y, y ≠ tb -> (w0.setCell ⟨tb, i * 9 + 6, none⟩ (.int .i64 st)).heap[y]? = w0.heap[y]? := fun y hy => Ab _ _ _ _ hy
 have g1 : Got M cb m tb n T (upd T i { T i with x := st }) w0 (w0.setCell ⟨tb, i * 9 + 6, none⟩ (.int .i64 st)) := ⟨⟨by omega, fun y hy hn => o1 y fun e => hn (.inr (.inr (.inl e)))⟩, fun b hb => Au (t := { T i with x := st }) hi (fun b hb => .inl hb) b hb⟩
 generalize w0.setCell ⟨tb, i * 9 + 6, none⟩ (.int .i64 st) = w1 at *
 clear c1 c2 c3 z3 o1 cs1 cv1
 have k1 : decide (st < L) = true := decide_eq_true h
 have c2 := I1.cS hm
 have cs1 := I1.scell hxm
 rw [hK] at cs1
 try walk_nrm
 refine Aa z150 ?_
 exact Gn rfl rfl Try.func150 rfl (.stop fun d => ⟨_, ⟨rfl, I1.same fun _ _ => rfl, ⟨g1.chg.at d, g1.own⟩⟩, rfl⟩)
theorem get_1g {main : Bool} {i : Nat} (hi : i < n) (hg : good (T i).q) (hm : 0 < m) (hm2 : m <= 65536) (h : Ce m (T i).q < S.st (Bq m (T i).q)) (w0 : World) (I0 : M11 a0 M cb tb tc n m ta S T w0) (hn : n <= 64) (ha0 : a0 <= w0.heap.size) :
  CallW Try.prog main (fun _ => none) 150 #[.pointer (some ⟨M, 0, none⟩), .int .i64 i, .int .i64 1] w0 (fun v w' => v = .tuple #[.int .i64 0, .int .i64 10, .bool true] /\ M11 a0 M cb tb tc n m ta S (upd T i { T i with x := S.st (Bq m (T i).q) }) w' /\ Got M cb m tb n T (upd T i { T i with x := S.st (Bq m (T i).q) }) w0 w') := by
 intro kf cs
 have hi0 : (0 : Int) <= i := by omega
 have hi1 : decide ((i : Int) < n) = true := by simp; omega
 have hi3 : decide (i < n) = true := by simp; omega
 have hi4 : (i : Int) < n := by omega
 have ll3 := I0.lt.2.2 (by omega)
 have hsl := Dx (main := main) (V := fun _ => none) (T i).q hg hm hm2 w0 I0
 have hla := Fp (main := main) (V := fun _ => none) (T i).q hg hm hm2 w0 I0
 have hxm := Eh hg hm
 have hL := Es hg m
 have hlb := Dw hg m
 have hw : IntKind.wrap .i64 (2 * (T i).q.tdiv m) = Ce m (T i).q := by rw [IntKind.wrap_i64, hL]; omega
 have cs1 := I0.scell hxm
 have cv1 := I0.vcell hxm
 have c1 : w0.cell? ⟨M, 3, none⟩ = some (.slice (some ⟨tb, 0, none⟩) n tc) := I0.cT (by omega)
 have c3 : w0.cell? ⟨tb, i * 9 + 5, none⟩ = some (.int .i64 (T i).q) := I0.tcell hi rfl
 generalize hX : Bq m (T i).q = x at *
 generalize hK : S.st x = st at *
 generalize hU : S.va x = va at *
 generalize hlp : (T i).q.tdiv m = lp at *
 generalize hLL : Ce m (T i).q = L at *
 have hx0 : (0 : Int) <= x := by omega
 have hx1 : decide ((x : Int) < m) = true := by simp; omega
 have hx3 : decide (x < m) = true := by simp; omega
 have hx4 : (x : Int) < m := by omega
 clear hL
 generalize hqq : (T i).q = q at *
 rw [enter_at _ Try.func150 code150_is]
 simp only [Try.ntmps150, ez, Nat.reduceAdd, Nat.reduceSub]
 refine Aa z150 ?_
 (refine Ba (by kernel_rfl) size150_1 (by kernel_rfl) (by kernel_rfl) (by decide) ?_; simp only [List.range, List.range.loop]; repeat (first | (refine Cm.oq ?_) | (refine Al Aj (by rfl) ?_; walk_nrm)))
 refine Cm.callV (x := .int .i64 (x : Nat)) ?_ Aj (by rfl) rfl Try.func115 (by kernel_rfl) (by rfl) ?_
 ·intro w' e
  subst e
  walk_nrm
  exact hsl
 walk_nrm
 repeat (first | (refine Cm.oq ?_) | (refine Al Aj (by rfl) ?_; walk_nrm))
 refine Cm.callV (x := .int .i64 lp) ?_ Aj (by rfl) rfl Try.func114 (by kernel_rfl) (by rfl) ?_
 ·intro w' e
  subst e
  walk_nrm
  exact hla
 walk_nrm
 repeat (first | (refine Cm.oq ?_) | (refine Al Aj (by rfl) ?_; walk_nrm))
 refine Cm.done ?_
 clear c1 c3 hsl hla
 have c1 : w0.cell? ⟨M, 3, none⟩ = some (.slice (some ⟨tb, 0, none⟩) n tc) := I0.cT (by omega)
 have c2 := I0.cS hm
 have c3 : w0.cell? ⟨tb, i * 9 + 6, none⟩ = some (.int .i64 (T i).x) := I0.tcell hi rfl
 have z3 := I0.tfrz hi (i * 9 + 6)
 have I1 := I0.put hi (j := 6) (v := .int .i64 st) (t := { T i with x := st }) rfl (by decide) ⟨rfl, rfl, rfl, rfl, rfl, rfl, rfl, rfl⟩
 try walk_nrm
 refine Aa z150 ?_
 (refine Ay (by kernel_rfl) size150_4 (by kernel_rfl) (by kernel_rfl) (by kernel_rfl) (by decide) ?_; simp only [List.range, List.range.loop]; repeat (first | (refine Cm.oq ?_) | (refine Al Aj (by rfl) ?_; walk_nrm)))
 refine Cm.done ?_
 intro rest hr
 (have hfr := Dq tb (i * 9 + 6); refine Walk.os hfr c3 ?_; clear hfr; try walk_nrm)
 refine hr _ _ ?_
 have s1 := Af w0 ⟨tb, i * 9 + 6, none⟩ (.int .i64 st)
 have o1 : ∀ y, y ≠ tb -> (w0.setCell ⟨tb, i * 9 + 6, none⟩ (.int .i64 st)).heap[y]? = w0.heap[y]? := fun y hy => Ab _ _ _ _ hy
 have g1 : Got M cb m tb n T (upd T i { T i with x := st }) w0 (w0.setCell ⟨tb, i * 9 + 6, none⟩ (.int .i64 st)) := ⟨⟨by omega, fun y hy hn => o1 y fun e => hn (.inr (.inr (.inl e)))⟩, fun b hb => Au (t := { T i with x := st }) hi (fun b hb => .inl hb) b hb⟩
 generalize w0.setCell ⟨tb, i * 9 + 6, none⟩ (.int .i64 st) = w1 at *
 clear c1 c2 c3 z3 o1 cs1 cv1
 have k1 : decide (st < L) = false := by simp; omega
 have k2 : decide (L < st) = true := decide_eq_true h
 have c2 := I1.cS hm
 have cs1 := I1.scell hxm
 rw [hK] at cs1
 try walk_nrm
 refine Aa z150 ?_
 exact Gn rfl rfl Try.func150 rfl (.stop fun d => ⟨_, ⟨rfl, I1.same fun _ _ => rfl, ⟨g1.chg.at d, g1.own⟩⟩, rfl⟩)
theorem get_1e {main : Bool} {i : Nat} (hi : i < n) (hg : good (T i).q) (hm : 0 < m) (hm2 : m <= 65536) (h1 : S.st (Bq m (T i).q) <= Ce m (T i).q) (h2 : Ce m (T i).q <= S.st (Bq m (T i).q)) (w0 : World) (I0 : M11 a0 M cb tb tc n m ta S T w0) (hn : n <= 64) (ha0 : a0 <= w0.heap.size) :
  CallW Try.prog main (fun _ => none) 150 #[.pointer (some ⟨M, 0, none⟩), .int .i64 i, .int .i64 1] w0 (fun v w' => v = .tuple #[.int .i64 0, .int .i64 0, .bool false] /\ M11 a0 M cb tb tc n m ta S (upd T i { T i with x := S.st (Bq m (T i).q) }) w' /\ Got M cb m tb n T (upd T i { T i with x := S.st (Bq m (T i).q) }) w0 w') := by
 intro kf cs
 have hi0 : (0 : Int) <= i := by omega
 have hi1 : decide ((i : Int) < n) = true := by simp; omega
 have hi3 : decide (i < n) = true := by simp; omega
 have hi4 : (i : Int) < n := by omega
 have ll3 := I0.lt.2.2 (by omega)
 have hsl := Dx (main := main) (V := fun _ => none) (T i).q hg hm hm2 w0 I0
 have hla := Fp (main := main) (V := fun _ => none) (T i).q hg hm hm2 w0 I0
 have hxm := Eh hg hm
 have hL := Es hg m
 have hlb := Dw hg m
 have hw : IntKind.wrap .i64 (2 * (T i).q.tdiv m) = Ce m (T i).q := by rw [IntKind.wrap_i64, hL]; omega
 have cs1 := I0.scell hxm
 have cv1 := I0.vcell hxm
 have c1 : w0.cell? ⟨M, 3, none⟩ = some (.slice (some ⟨tb, 0, none⟩) n tc) := I0.cT (by omega)
 have c3 : w0.cell? ⟨tb, i * 9 + 5, none⟩ = some (.int .i64 (T i).q) := I0.tcell hi rfl
 generalize hX : Bq m (T i).q = x at *
 generalize hK : S.st x = st at *
 generalize hU : S.va x = va at *
 generalize hlp : (T i).q.tdiv m = lp at *
 generalize hLL : Ce m (T i).q = L at *
 have hx0 : (0 : Int) <= x := by omega
 have hx1 : decide ((x : Int) < m) = true := by simp; omega
 have hx3 : decide (x < m) = true := by simp; omega
 have hx4 : (x : Int) < m := by omega
 clear hL
 generalize hqq : (T i).q = q at *
 rw [enter_at _ Try.func150 code150_is]
 simp only [Try.ntmps150, ez, Nat.reduceAdd, Nat.reduceSub]
 refine Aa z150 ?_
 (refine Ba (by kernel_rfl) size150_1 (by kernel_rfl) (by kernel_rfl) (by decide) ?_; simp only [List.range, List.range.loop]; repeat (first | (refine Cm.oq ?_) | (refine Al Aj (by rfl) ?_; walk_nrm)))
 refine Cm.callV (x := .int .i64 (x : Nat)) ?_ Aj (by rfl) rfl Try.func115 (by kernel_rfl) (by rfl) ?_
 ·intro w' e
  subst e
  walk_nrm
  exact hsl
 walk_nrm
 repeat (first | (refine Cm.oq ?_) | (refine Al Aj (by rfl) ?_; walk_nrm))
 refine Cm.callV (x := .int .i64 lp) ?_ Aj (by rfl) rfl Try.func114 (by kernel_rfl) (by rfl) ?_
 ·intro w' e
  subst e
  walk_nrm
  exact hla
 walk_nrm
 repeat (first | (refine Cm.oq ?_) | (refine Al Aj (by rfl) ?_; walk_nrm))
 refine Cm.done ?_
 clear c1 c3 hsl hla
 have c1 : w0.cell? ⟨M, 3, none⟩ = some (.slice (some ⟨tb, 0, none⟩) n tc) := I0.cT (by omega)
 have c2 := I0.cS hm
 have c3 : w0.cell? ⟨tb, i * 9 + 6, none⟩ = some (.int .i64 (T i).x) := I0.tcell hi rfl
 have z3 := I0.tfrz hi (i * 9 + 6)
 have I1 := I0.put hi (j := 6) (v := .int .i64 st) (t := { T i with x := st }) rfl (by decide) ⟨rfl, rfl, rfl, rfl, rfl, rfl, rfl, rfl⟩
 try walk_nrm
 refine Aa z150 ?_
 (refine Ay (by kernel_rfl) size150_4 (by kernel_rfl) (by kernel_rfl) (by kernel_rfl) (by decide) ?_; simp only [List.range, List.range.loop]; repeat (first | (refine Cm.oq ?_) | (refine Al Aj (by rfl) ?_; walk_nrm)))
 refine Cm.done ?_
 intro rest hr
 (have hfr := Dq tb (i * 9 + 6); refine Walk.os hfr c3 ?_; clear hfr; try walk_nrm)
 refine hr _ _ ?_
 have s1 := Af w0 ⟨tb, i * 9 + 6, none⟩ (.int .i64 st)
 have o1 : ∀ y, y ≠ tb -> (w0.setCell ⟨tb, i * 9 + 6, none⟩ (.int .i64 st)).heap[y]? = w0.heap[y]? := fun y hy => Ab _ _ _ _ hy
 have g1 : Got M cb m tb n T (upd T i { T i with x := st }) w0 (w0.setCell ⟨tb, i * 9 + 6, none⟩ (.int .i64 st)) := ⟨⟨by omega, fun y hy hn => o1 y fun e => hn (.inr (.inr (.inl e)))⟩, fun b hb => Au (t := { T i with x := st }) hi (fun b hb => .inl hb) b hb⟩
 generalize w0.setCell ⟨tb, i * 9 + 6, none⟩ (.int .i64 st) = w1 at *
 clear c1 c2 c3 z3 o1 cs1 cv1
 have k1 : decide (st < L) = false := by simp; omega
 have k2 : decide (L < st) = false := by simp; omega
 have c2 := I1.cS hm
 have cs1 := I1.scell hxm
 rw [hK] at cs1
 try walk_nrm
 refine Aa z150 ?_
 exact Gn rfl rfl Try.func150 rfl (.stop fun d => ⟨_, ⟨rfl, I1.same fun _ _ => rfl, ⟨g1.chg.at d, g1.own⟩⟩, rfl⟩)
theorem get_2 {main : Bool} {i : Nat} (hi : i < n) (hg : good (T i).q) (hm : 0 < m) (hm2 : m <= 65536)  (w0 : World) (I0 : M11 a0 M cb tb tc n m ta S T w0) (hn : n <= 64) (ha0 : a0 <= w0.heap.size) :
  CallW Try.prog main (fun _ => none) 150 #[.pointer (some ⟨M, 0, none⟩), .int .i64 i, .int .i64 2] w0 (fun v w' => v = .tuple #[.int .i64 0, .int .i64 0, .bool false] /\ M11 a0 M cb tb tc n m ta S (upd T i { T i with v := S.va (Bq m (T i).q) }) w' /\ Got M cb m tb n T (upd T i { T i with v := S.va (Bq m (T i).q) }) w0 w') := by
 intro kf cs
 have hi0 : (0 : Int) <= i := by omega
 have hi1 : decide ((i : Int) < n) = true := by simp; omega
 have hi3 : decide (i < n) = true := by simp; omega
 have hi4 : (i : Int) < n := by omega
 have ll3 := I0.lt.2.2 (by omega)
 have hsl := Dx (main := main) (V := fun _ => none) (T i).q hg hm hm2 w0 I0
 have hla := Fp (main := main) (V := fun _ => none) (T i).q hg hm hm2 w0 I0
 have hxm := Eh hg hm
 have hL := Es hg m
 have hlb := Dw hg m
 have hw : IntKind.wrap .i64 (2 * (T i).q.tdiv m) = Ce m (T i).q := by rw [IntKind.wrap_i64, hL]; omega
 have cs1 := I0.scell hxm
 have cv1 := I0.vcell hxm
 have c1 : w0.cell? ⟨M, 3, none⟩ = some (.slice (some ⟨tb, 0, none⟩) n tc) := I0.cT (by omega)
 have c3 : w0.cell? ⟨tb, i * 9 + 5, none⟩ = some (.int .i64 (T i).q) := I0.tcell hi rfl
 generalize hX : Bq m (T i).q = x at *
 generalize hK : S.st x = st at *
 generalize hU : S.va x = va at *
 generalize hlp : (T i).q.tdiv m = lp at *
 generalize hLL : Ce m (T i).q = L at *
 have hx0 : (0 : Int) <= x := by omega
 have hx1 : decide ((x : Int) < m) = true := by simp; omega
 have hx3 : decide (x < m) = true := by simp; omega
 have hx4 : (x : Int) < m := by omega
 clear hL
 generalize hqq : (T i).q = q at *
 rw [enter_at _ Try.func150 code150_is]
 simp only [Try.ntmps150, ez, Nat.reduceAdd, Nat.reduceSub]
 refine Aa z150 ?_
 (refine Ba (by kernel_rfl) size150_1 (by kernel_rfl) (by kernel_rfl) (by decide) ?_; simp only [List.range, List.range.loop]; repeat (first | (refine Cm.oq ?_) | (refine Al Aj (by rfl) ?_; walk_nrm)))
 refine Cm.callV (x := .int .i64 (x : Nat)) ?_ Aj (by rfl) rfl Try.func115 (by kernel_rfl) (by rfl) ?_
 ·intro w' e
  subst e
  walk_nrm
  exact hsl
 walk_nrm
 repeat (first | (refine Cm.oq ?_) | (refine Al Aj (by rfl) ?_; walk_nrm))
 refine Cm.callV (x := .int .i64 lp) ?_ Aj (by rfl) rfl Try.func114 (by kernel_rfl) (by rfl) ?_
 ·intro w' e
  subst e
  walk_nrm
  exact hla
 walk_nrm
 repeat (first | (refine Cm.oq ?_) | (refine Al Aj (by rfl) ?_; walk_nrm))
 refine Cm.done ?_
 clear c1 c3 hsl hla
 have c1 : w0.cell? ⟨M, 3, none⟩ = some (.slice (some ⟨tb, 0, none⟩) n tc) := I0.cT (by omega)
 have c2 := I0.cV hm
 have c3 : w0.cell? ⟨tb, i * 9 + 7, none⟩ = some (.int .i64 (T i).v) := I0.tcell hi rfl
 have z3 := I0.tfrz hi (i * 9 + 7)
 have I1 := I0.put hi (j := 7) (v := .int .i64 va) (t := { T i with v := va }) rfl (by decide) ⟨rfl, rfl, rfl, rfl, rfl, rfl, rfl, rfl⟩
 try walk_nrm
 refine Aa z150 ?_
 (refine Ay (by kernel_rfl) size150_11 (by kernel_rfl) (by kernel_rfl) (by kernel_rfl) (by decide) ?_; simp only [List.range, List.range.loop]; repeat (first | (refine Cm.oq ?_) | (refine Al Aj (by rfl) ?_; walk_nrm)))
 refine Cm.done ?_
 intro rest hr
 (have hfr := Dq tb (i * 9 + 7); refine Walk.os hfr c3 ?_; clear hfr; try walk_nrm)
 refine hr _ _ ?_
 have s1 := Af w0 ⟨tb, i * 9 + 7, none⟩ (.int .i64 va)
 have o1 : ∀ y, y ≠ tb -> (w0.setCell ⟨tb, i * 9 + 7, none⟩ (.int .i64 va)).heap[y]? = w0.heap[y]? := fun y hy => Ab _ _ _ _ hy
 have g1 : Got M cb m tb n T (upd T i { T i with v := va }) w0 (w0.setCell ⟨tb, i * 9 + 7, none⟩ (.int .i64 va)) := ⟨⟨by omega, fun y hy hn => o1 y fun e => hn (.inr (.inr (.inl e)))⟩, fun b hb => Au (t := { T i with v := va }) hi (fun b hb => .inl hb) b hb⟩
 generalize w0.setCell ⟨tb, i * 9 + 7, none⟩ (.int .i64 va) = w1 at *
 clear c1 c2 c3 z3 o1 cs1 cv1
 try walk_nrm
 refine Aa z150 ?_
 exact Gn rfl rfl Try.func150 rfl (.stop fun d => ⟨_, ⟨rfl, I1.same fun _ _ => rfl, ⟨g1.chg.at d, g1.own⟩⟩, rfl⟩)
theorem get_3e {main : Bool} {i : Nat} (hi : i < n) (hg : good (T i).q) (hm : 0 < m) (hm2 : m <= 65536) (h : S.st (Bq m (T i).q) = (T i).x) (w0 : World) (I0 : M11 a0 M cb tb tc n m ta S T w0) (hn : n <= 64) (ha0 : a0 <= w0.heap.size) :
  As Try.prog main (fun _ => none) 150 #[.pointer (some ⟨M, 0, none⟩), .int .i64 i, .int .i64 3] w0 (.tuple #[.int .i64 (T i).v, .int .i64 0, .bool true]) w0 := by
 intro kf cs
 have hi0 : (0 : Int) <= i := by omega
 have hi1 : decide ((i : Int) < n) = true := by simp; omega
 have hi3 : decide (i < n) = true := by simp; omega
 have hi4 : (i : Int) < n := by omega
 have ll3 := I0.lt.2.2 (by omega)
 have hsl := Dx (main := main) (V := fun _ => none) (T i).q hg hm hm2 w0 I0
 have hla := Fp (main := main) (V := fun _ => none) (T i).q hg hm hm2 w0 I0
 have hxm := Eh hg hm
 have hL := Es hg m
 have hlb := Dw hg m
 have hw : IntKind.wrap .i64 (2 * (T i).q.tdiv m) = Ce m (T i).q := by rw [IntKind.wrap_i64, hL]; omega
 have cs1 := I0.scell hxm
 have cv1 := I0.vcell hxm
 have c1 : w0.cell? ⟨M, 3, none⟩ = some (.slice (some ⟨tb, 0, none⟩) n tc) := I0.cT (by omega)
 have c3 : w0.cell? ⟨tb, i * 9 + 5, none⟩ = some (.int .i64 (T i).q) := I0.tcell hi rfl
 generalize hX : Bq m (T i).q = x at *
 generalize hK : S.st x = st at *
 generalize hU : S.va x = va at *
 generalize hlp : (T i).q.tdiv m = lp at *
 generalize hLL : Ce m (T i).q = L at *
 have hx0 : (0 : Int) <= x := by omega
 have hx1 : decide ((x : Int) < m) = true := by simp; omega
 have hx3 : decide (x < m) = true := by simp; omega
 have hx4 : (x : Int) < m := by omega
 clear hL
 generalize hqq : (T i).q = q at *
 rw [enter_at _ Try.func150 code150_is]
 simp only [Try.ntmps150, ez, Nat.reduceAdd, Nat.reduceSub]
 refine Aa z150 ?_
 (refine Ba (by kernel_rfl) size150_1 (by kernel_rfl) (by kernel_rfl) (by decide) ?_; simp only [List.range, List.range.loop]; repeat (first | (refine Cm.oq ?_) | (refine Al Aj (by rfl) ?_; walk_nrm)))
 refine Cm.callV (x := .int .i64 (x : Nat)) ?_ Aj (by rfl) rfl Try.func115 (by kernel_rfl) (by rfl) ?_
 ·intro w' e
  subst e
  walk_nrm
  exact hsl
 walk_nrm
 repeat (first | (refine Cm.oq ?_) | (refine Al Aj (by rfl) ?_; walk_nrm))
 refine Cm.callV (x := .int .i64 lp) ?_ Aj (by rfl) rfl Try.func114 (by kernel_rfl) (by rfl) ?_
 ·intro w' e
  subst e
  walk_nrm
  exact hla
 walk_nrm
 repeat (first | (refine Cm.oq ?_) | (refine Al Aj (by rfl) ?_; walk_nrm))
 refine Cm.done ?_
 clear c1 c3 hsl hla
 have c1 : w0.cell? ⟨M, 3, none⟩ = some (.slice (some ⟨tb, 0, none⟩) n tc) := I0.cT (by omega)
 have c2 := I0.cS hm
 have c6 : w0.cell? ⟨tb, i * 9 + 6, none⟩ = some (.int .i64 (T i).x) := I0.tcell hi rfl
 have c7 : w0.cell? ⟨tb, i * 9 + 7, none⟩ = some (.int .i64 (T i).v) := I0.tcell hi rfl
 rw [<- h] at c6
 have k1 : (st == st) = true := by simp
 clear h
 clear I0 cv1
 try walk_nrm
 refine Aa z150 ?_
 (refine Ba (by kernel_rfl) size150_13 (by kernel_rfl) (by kernel_rfl) (by decide) ?_; simp only [List.range, List.range.loop]; repeat (first | (refine Cm.oq ?_) | (refine Al Aj (by rfl) ?_; walk_nrm)))
 refine Cm.done ?_
 try simp only [k1]
 refine Aa z150 ?_
 exact Gn rfl rfl Try.func150 rfl (.stop fun d => ⟨_, ⟨rfl, d, rfl⟩, rfl⟩)
theorem get_3n {main : Bool} {i : Nat} (hi : i < n) (hg : good (T i).q) (hm : 0 < m) (hm2 : m <= 65536) (h : S.st (Bq m (T i).q) ≠ (T i).x) (w0 : World) (I0 : M11 a0 M cb tb tc n m ta S T w0) (hn : n <= 64) (ha0 : a0 <= w0.heap.size) :
  As Try.prog main (fun _ => none) 150 #[.pointer (some ⟨M, 0, none⟩), .int .i64 i, .int .i64 3] w0 (.tuple #[.int .i64 0, .int .i64 10, .bool true]) w0 := by
 intro kf cs
 have hi0 : (0 : Int) <= i := by omega
 have hi1 : decide ((i : Int) < n) = true := by simp; omega
 have hi3 : decide (i < n) = true := by simp; omega
 have hi4 : (i : Int) < n := by omega
 have ll3 := I0.lt.2.2 (by omega)
 have hsl := Dx (main := main) (V := fun _ => none) (T i).q hg hm hm2 w0 I0
 have hla := Fp (main := main) (V := fun _ => none) (T i).q hg hm hm2 w0 I0
 have hxm := Eh hg hm
 have hL := Es hg m
 have hlb := Dw hg m
 have hw : IntKind.wrap .i64 (2 * (T i).q.tdiv m) = Ce m (T i).q := by rw [IntKind.wrap_i64, hL]; omega
 have cs1 := I0.scell hxm
 have cv1 := I0.vcell hxm
 have c1 : w0.cell? ⟨M, 3, none⟩ = some (.slice (some ⟨tb, 0, none⟩) n tc) := I0.cT (by omega)
 have c3 : w0.cell? ⟨tb, i * 9 + 5, none⟩ = some (.int .i64 (T i).q) := I0.tcell hi rfl
 generalize hX : Bq m (T i).q = x at *
 generalize hK : S.st x = st at *
 generalize hU : S.va x = va at *
 generalize hlp : (T i).q.tdiv m = lp at *
 generalize hLL : Ce m (T i).q = L at *
 have hx0 : (0 : Int) <= x := by omega
 have hx1 : decide ((x : Int) < m) = true := by simp; omega
 have hx3 : decide (x < m) = true := by simp; omega
 have hx4 : (x : Int) < m := by omega
 clear hL
 generalize hqq : (T i).q = q at *
 rw [enter_at _ Try.func150 code150_is]
 simp only [Try.ntmps150, ez, Nat.reduceAdd, Nat.reduceSub]
 refine Aa z150 ?_
 (refine Ba (by kernel_rfl) size150_1 (by kernel_rfl) (by kernel_rfl) (by decide) ?_; simp only [List.range, List.range.loop]; repeat (first | (refine Cm.oq ?_) | (refine Al Aj (by rfl) ?_; walk_nrm)))
 refine Cm.callV (x := .int .i64 (x : Nat)) ?_ Aj (by rfl) rfl Try.func115 (by kernel_rfl) (by rfl) ?_
 ·intro w' e
  subst e
  walk_nrm
  exact hsl
 walk_nrm
 repeat (first | (refine Cm.oq ?_) | (refine Al Aj (by rfl) ?_; walk_nrm))
 refine Cm.callV (x := .int .i64 lp) ?_ Aj (by rfl) rfl Try.func114 (by kernel_rfl) (by rfl) ?_
 ·intro w' e
  subst e
  walk_nrm
  exact hla
 walk_nrm
 repeat (first | (refine Cm.oq ?_) | (refine Al Aj (by rfl) ?_; walk_nrm))
 refine Cm.done ?_
 clear c1 c3 hsl hla
 have c1 : w0.cell? ⟨M, 3, none⟩ = some (.slice (some ⟨tb, 0, none⟩) n tc) := I0.cT (by omega)
 have c2 := I0.cS hm
 have c6 : w0.cell? ⟨tb, i * 9 + 6, none⟩ = some (.int .i64 (T i).x) := I0.tcell hi rfl
 have c7 : w0.cell? ⟨tb, i * 9 + 7, none⟩ = some (.int .i64 (T i).v) := I0.tcell hi rfl
 generalize (T i).x = xx at *
 have k1 : (st == xx) = false := by simpa using h
 clear h
 clear I0 cv1
 try walk_nrm
 refine Aa z150 ?_
 (refine Ba (by kernel_rfl) size150_13 (by kernel_rfl) (by kernel_rfl) (by decide) ?_; simp only [List.range, List.range.loop]; repeat (first | (refine Cm.oq ?_) | (refine Al Aj (by rfl) ?_; walk_nrm)))
 refine Cm.done ?_
 try simp only [k1]
 refine Aa z150 ?_
 exact Gn rfl rfl Try.func150 rfl (.stop fun d => ⟨_, ⟨rfl, d, rfl⟩, rfl⟩)
end
end
end Go.Proofs.Ytcdcnmphjhfbpaa
