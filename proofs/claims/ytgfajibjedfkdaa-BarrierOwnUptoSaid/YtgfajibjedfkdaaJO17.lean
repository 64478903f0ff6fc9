/- Part 17. -/
import Derived.Test.YtgfajibjedfkdaaJO2
import Derived.Test.YtgfajibjedfkdaaJO13
import Derived.Test.YtgfajibjedfkdaaJO15
import Derived.Test.YtgfajibjedfkdaaJO16
import Derived.Conc.AtomicLaws2
import Derived.Conc.SmallLaws
import Derived.Laws.LoneSync
import Derived.LaidEql
set_option linter.unusedSimpArgs false
set_option linter.unusedVariables false
set_option linter.unusedVariables false
set_option maxHeartbeats 8000000
set_option maxRecDepth 100000
namespace Go.Proofs.Ytgfajibjedfkdaa
open Go.Conc Go.RowKit Go.Relay
open Go.ConcN (upd upd_ne upd_same)
def LsI (base : Nat) (P : Nat → Prop) (sl : Value) (l : List Int) (w : World) : Prop := ∃ a c, sl = .slice a l.length c ∧ l.length ≤ 1048576 ∧ (∀ {p : Prop}, p → w.ownsRow base 3 1 sl l.length (l.map fun z => .int .i64 z) ∧ ∀ b, sl.ownBlock = some b → P b)
theorem LsI.same {base : Nat} {P : Nat → Prop} {sl : Value} {l : List Int} {w w' : World} (h : LsI base P sl l w) (hb : ∀ b, P b → w'.heap[b]? = w.heap[b]?) : LsI base P sl l w' := by
  obtain ⟨a, c, e, hn, hr⟩ := h
  exact ⟨a, c, e, hn, fun hl => ⟨row_same (hr hl).1 fun b e => hb b ((hr hl).2 b e), (hr hl).2⟩⟩
theorem LsI.imp {base : Nat} {P P' : Nat → Prop} {sl : Value} {l : List Int} {w : World} (h : LsI base P sl l w) (hP : ∀ b, P b → P' b) : LsI base P' sl l w := by
  obtain ⟨a, c, e, hn, hr⟩ := h
  exact ⟨a, c, e, hn, fun hl => ⟨(hr hl).1, fun b e => hP b ((hr hl).2 b e)⟩⟩
theorem LsI.low {base base' : Nat} {P : Nat → Prop} {sl : Value} {l : List Int} {w : World} (h : LsI base P sl l w) (hb : base' ≤ base) : LsI base' P sl l w := by
  obtain ⟨a, c, e, hn, hr⟩ := h
  exact ⟨a, c, e, hn, fun hl => ⟨⟨(hr hl).1.1, (hr hl).1.2.imp id fun ⟨g, cap, cur, h1, h2, h3⟩ => ⟨g, cap, cur, h1, Nat.le_trans hb h2, h3⟩⟩, (hr hl).2⟩⟩
section
section
variable {main : Bool} {V : Nat → Option Wait}
structure DfM (g n c : Nat) (f : Nat → Int) (w : World) : Prop where
  row : ∃ cur : Array Value, w.heap[g]? = some (.cells cur 3) ∧ cur.size = c ∧ ∀ k, k < n → cur[k]? = some (.int .i64 (f k))
  le : n ≤ c ∧ c ≤ maxLen
theorem DfM.cell {g n c : Nat} {f : Nat → Int} {w : World} (h : DfM g n c f w) {k : Nat} (hk : k < n) : w.cell? ⟨g, k, none⟩ = some (.int .i64 (f k)) ∧ w.frozen? ⟨g, k, none⟩ = false := by
  obtain ⟨cur, h1, h2, h3⟩ := h.row
  exact ⟨(cell_of h1 k).trans (h3 k hk), frozen_of h1 k⟩
theorem DfM.set {g n c : Nat} {f : Nat → Int} {w : World} (h : DfM g n c f w) {k : Nat} (hk : k < n) (v : Int) : DfM g n c (upd f k v) (w.setCell ⟨g, k, none⟩ (.int .i64 v)) := by
  obtain ⟨cur, h1, h2, h3⟩ := h.row
  have := h.le
  refine ⟨⟨_, heap_set_self _ _ h1, by simp [h2], fun j hj => ?_⟩, h.le⟩
  by_cases e : j = k
  · subst e
    rw [upd_same]
    exact Array.getElem?_setIfInBounds_self_of_lt (by omega)
  · rw [upd_ne _ _ e, Array.getElem?_setIfInBounds_ne (by omega)]
    exact h3 j hj
theorem DfM.ext {g n c : Nat} {f f' : Nat → Int} {w : World} (h : DfM g n c f w) (e : ∀ k, k < n → f k = f' k) : DfM g n c f' w := by
  obtain ⟨cur, h1, h2, h3⟩ := h.row
  exact ⟨⟨cur, h1, h2, fun k hk => by rw [← e k hk]; exact h3 k hk⟩, h.le⟩
end
end
section
section
variable {main : Bool} {V : Nat → Option Wait}
theorem LsI.numA {base : Nat} {P : Nat → Prop} {a : Option Addr} {n c : Nat} {l : List Int} {w : World} (h : w.ownsRow base 3 1 (.slice a n c) l.length (l.map fun z => .int .i64 z)) : NumA a l w := by
  intro j z hj
  rcases h.2 with ⟨e, e0⟩ | ⟨g, cap, cur, e, _, hg, _, _, _, ht⟩
  · have := (List.getElem?_eq_some_iff.1 hj).1
    omega
  · cases e
    refine ⟨g, 0, rfl, ?_⟩
    rw [Nat.zero_add, cell_of hg j]
    have hlt := (List.getElem?_eq_some_iff.1 hj).1
    have h2 : (cur.toList.take (l.length * 1))[j]? = some (.int .i64 z) := by
      rw [ht, List.getElem?_map, hj]
      rfl
    rw [List.getElem?_take, if_pos (by omega)] at h2
    simpa using h2
end
end
section
section
variable {P : Program}
theorem run_upto_nil {t e : TypeId} {ti : TypeInfo} (hu : P.underlying t = some (.slice e)) (hi : P.info? e = some ti) (hz : ti.size = 1) (w : World) (es : Array Event) : (Instr.sliceAt t (.slice none 0 0) none (some (.int .i64 0)) none).run P w = .ok (.slice none 0 0) w ∧ (Instr.sliceAt t (.slice none 0 0) none (some (.int .i64 0)) none).events P w es = es := by
  constructor <;> simp [Instr.sliceAt, Instr.slice, run_underlying hu, Instr.sliceBounds, Instr.sliceBound, asIntOf, sizeOf, typeInfo, hi, hz, Addr.add]
theorem run_appN {t e : TypeId} {ti : TypeInfo} (hu : P.underlying t = some (.slice e)) (hi : P.info? e = some ti) (ty : TypeId) (a : Addr) (m cap : Nat) (hm : m ≤ cap) (x : Option Addr) (c : Nat) (w : World) (es : Array Event) : (Builtin.append_ #[t, t] ty #[.slice (some a) m cap, .slice x 0 c]).run P w = .ok (.slice (some a) m cap) w ∧ (Builtin.append_ #[t, t] ty #[.slice (some a) m cap, .slice x 0 c]).events P w es = es := by
  constructor <;> cases x <;> simp [Builtin.append_, run_underlying hu, sizeOf, typeInfo, hi, Builtin.lenOf, Builtin.firstCells, loadCells, hm] <;> rfl
end
theorem undInt : ∃ k, Try.prog.underlying 3 = some (.int k) := by
  have h : (match Try.prog.underlying 3 with | some (.int _) => true | _ => false) = true := by kernel_rfl
  revert h
  cases Try.prog.underlying 3 with
  | none => simp
  | some d =>
    cases d with
    | int k => exact fun _ => ⟨k, rfl⟩
    | _ => simp
end
section
noncomputable def reg75_0 := rg Try.f75.body [0]
noncomputable def reg75_1 := rg Try.f75.body [1, 0, 0]
noncomputable def reg75_2 := rg Try.f75.body [1, 0, 1, 0]
noncomputable def reg75_3 := rg Try.f75.body [1, 1, 0, 0]
noncomputable def reg75_4 := rg Try.f75.body [1, 1, 0, 1, 0]
noncomputable def reg75_5 := rg Try.f75.body [1, 1, 0, 1, 1, 0]
noncomputable def reg75_6 := rg Try.f75.body [1, 1, 1, 0]
theorem z75 : List.range reg75_0.size = [0] ∧ List.range reg75_1.size = [0, 1] ∧ List.range reg75_2.size = [0, 1] ∧ List.range reg75_3.size = [0, 1, 2, 3, 4, 5, 6, 7] ∧ List.range reg75_4.size = [0, 1] ∧ List.range reg75_5.size = [0, 1, 2, 3, 4, 5, 6, 7, 8, 9] ∧ List.range reg75_6.size = [0, 1] := by refine ⟨?_, ?_, ?_, ?_, ?_, ?_, ?_⟩ <;> kernel_rfl
theorem code75_is : Try.f75.body = some (.seq (.region 0 reg75_0 false) (.seq (.seq (.region 1 reg75_1 false) (.cond (.tmp 6 ) (.region 2 reg75_2 false) (.skip))) (.seq (.seq (.region 3 reg75_3 false) (.seq (.region 4 reg75_4 false) (.cond (.tmp 16 ) (.region 5 reg75_5 false) (.skip)))) (.seq (.region 6 reg75_6 false) (.ret))))) := by kernel_rfl
noncomputable def reg38_0 := rg Try.f38.body [0]
noncomputable def reg38_1 := rg Try.f38.body [1, 0]
noncomputable def reg38_2 := rg Try.f38.body [1, 1, 0, 0]
noncomputable def reg38_3 := rg Try.f38.body [1, 1, 0, 1, 0, 0, 0]
noncomputable def reg38_4 := rg Try.f38.body [1, 1, 0, 1, 0, 0, 1, 1, 0, 0, 0]
noncomputable def reg38_5 := rg Try.f38.body [1, 1, 0, 1, 0, 0, 1, 1, 0, 0, 1, 0]
noncomputable def reg38_6 := rg Try.f38.body [1, 1, 0, 1, 0, 0, 1, 1, 0, 0, 1, 1, 0]
noncomputable def reg38_7 := rg Try.f38.body [1, 1, 0, 1, 0, 0, 1, 1, 0, 0, 1, 1, 1, 0]
noncomputable def reg38_8 := rg Try.f38.body [1, 1, 0, 1, 0, 0, 1, 1, 1]
noncomputable def reg38_9 := rg Try.f38.body [1, 1, 1, 0]
noncomputable def reg38_10 := rg Try.f38.body [1, 1, 1, 1, 0, 0]
noncomputable def reg38_11 := rg Try.f38.body [1, 1, 1, 1, 0, 1, 0, 0, 0]
noncomputable def reg38_12 := rg Try.f38.body [1, 1, 1, 1, 0, 1, 0, 0, 1, 1, 0, 0, 0]
noncomputable def reg38_13 := rg Try.f38.body [1, 1, 1, 1, 0, 1, 0, 0, 1, 1, 0, 0, 1]
noncomputable def reg38_14 := rg Try.f38.body [1, 1, 1, 1, 0, 1, 0, 0, 1, 1, 1]
noncomputable def reg38_15 := rg Try.f38.body [1, 1, 1, 1, 1, 0]
theorem z38 : List.range reg38_0.size = [0] ∧ List.range reg38_1.size = [0] ∧ List.range reg38_2.size = [0, 1, 2] ∧ List.range reg38_3.size = [0] ∧ List.range reg38_4.size = [0, 1, 2] ∧ List.range reg38_5.size = [0, 1, 2, 3, 4] ∧ List.range reg38_6.size = [0, 1] ∧ List.range reg38_7.size = [0, 1] ∧ List.range reg38_8.size = [0, 1] ∧ List.range reg38_9.size = [0, 1, 2] ∧ List.range reg38_10.size = [0, 1, 2] ∧ List.range reg38_11.size = [0] ∧ List.range reg38_12.size = [0, 1, 2] ∧ List.range reg38_13.size = [0, 1, 2, 3] ∧ List.range reg38_14.size = [0, 1] ∧ List.range reg38_15.size = [0, 1] := by refine ⟨?_, ?_, ?_, ?_, ?_, ?_, ?_, ?_, ?_, ?_, ?_, ?_, ?_, ?_, ?_, ?_⟩ <;> kernel_rfl
theorem code38_is : Try.f38.body = some (.seq (.region 0 reg38_0 false) (.seq (.region 1 reg38_1 false) (.seq (.seq (.region 2 reg38_2 false) (.block 0 (.loop (.seq (.region 3 reg38_3 false) (.seq (.cond (.tmp 12 ) (.skip) (.exit 0)) (.seq (.block 1 (.seq (.region 4 reg38_4 false) (.seq (.region 5 reg38_5 false) (.seq (.region 6 reg38_6 false) (.cond (.tmp 20 ) (.region 7 reg38_7 false) (.skip)))))) (.region 8 reg38_8 false))))))) (.seq (.region 9 reg38_9 false) (.seq (.seq (.region 10 reg38_10 false) (.block 2 (.loop (.seq (.region 11 reg38_11 false) (.seq (.cond (.tmp 28 ) (.skip) (.exit 2)) (.seq (.block 3 (.seq (.region 12 reg38_12 false) (.region 13 reg38_13 false))) (.region 14 reg38_14 false))))))) (.seq (.region 15 reg38_15 false) (.ret))))))) := by kernel_rfl
noncomputable def hdSa (B : Nat) (s i : Nat) (u : Nat → Value) : Frame :=
  (base 38).at { tmps := #[.slice (some ⟨B, 0, none⟩) 2 2, u 1, u 2, .int .i64 s, u 4, u 5, u 6, u 7, u 8, .slice (some ⟨B, 0, none⟩) 2 2, .int .i64 2, .int .i64 i, u 12, u 13, u 14, u 15, u 16, u 17, u 18, u 19, u 20, u 21, u 22, u 23, u 24, u 25, u 26, u 27, u 28, u 29, u 30, u 31, u 32, u 33, u 34, u 35], defers := [] } [.code (.seq (.region 3 reg38_3 false) (.seq (.cond (.tmp 12 ) (.skip) (.exit 0)) (.seq (.block 1 (.seq (.region 4 reg38_4 false) (.seq (.region 5 reg38_5 false) (.seq (.region 6 reg38_6 false) (.cond (.tmp 20 ) (.region 7 reg38_7 false) (.skip)))))) (.region 8 reg38_8 false)))), .inLoop (.seq (.region 3 reg38_3 false) (.seq (.cond (.tmp 12 ) (.skip) (.exit 0)) (.seq (.block 1 (.seq (.region 4 reg38_4 false) (.seq (.region 5 reg38_5 false) (.seq (.region 6 reg38_6 false) (.cond (.tmp 20 ) (.region 7 reg38_7 false) (.skip)))))) (.region 8 reg38_8 false)))), .inBlock 0, .code (.seq (.region 9 reg38_9 false) (.seq (.seq (.region 10 reg38_10 false) (.block 2 (.loop (.seq (.region 11 reg38_11 false) (.seq (.cond (.tmp 28 ) (.skip) (.exit 2)) (.seq (.block 3 (.seq (.region 12 reg38_12 false) (.region 13 reg38_13 false))) (.region 14 reg38_14 false))))))) (.seq (.region 15 reg38_15 false) (.ret))))]
noncomputable def hdSb (B : Nat) (v : Value) (i : Nat) (u : Nat → Value) : Frame :=
  (base 38).at { tmps := #[.slice (some ⟨B, 0, none⟩) 2 2, u 1, u 2, u 3, u 4, u 5, v, u 7, u 8, u 9, u 10, u 11, u 12, u 13, u 14, u 15, u 16, u 17, u 18, u 19, u 20, u 21, u 22, u 23, u 24, .slice (some ⟨B, 0, none⟩) 2 2, .int .i64 2, .int .i64 i, u 28, u 29, u 30, u 31, u 32, u 33, u 34, u 35], defers := [] } [.code (.seq (.region 11 reg38_11 false) (.seq (.cond (.tmp 28 ) (.skip) (.exit 2)) (.seq (.block 3 (.seq (.region 12 reg38_12 false) (.region 13 reg38_13 false))) (.region 14 reg38_14 false)))), .inLoop (.seq (.region 11 reg38_11 false) (.seq (.cond (.tmp 28 ) (.skip) (.exit 2)) (.seq (.block 3 (.seq (.region 12 reg38_12 false) (.region 13 reg38_13 false))) (.region 14 reg38_14 false)))), .inBlock 2, .code (.seq (.region 15 reg38_15 false) (.ret))]
section
variable {main : Bool} {V : Nat → Option Wait}
theorem growS_w (n : Nat) (h0 : 0 < n) (hn : n ≤ 1048576) (w : World) : CallW Try.prog main V 75 #[.slice none 0 0, .int .i64 n] w (fun v w' => ∃ cap, v = .slice (some ⟨w.heap.size, 0, none⟩) 0 cap ∧ w'.ownsRow w.heap.size 32 1 (.slice (some ⟨w.heap.size, 0, none⟩) 0 cap) 0 [] ∧ n ≤ cap ∧ (∀ b, b < w.heap.size → w'.heap[b]? = w.heap[b]?) ∧ w.heap.size < w'.heap.size) := by
  obtain ⟨ti, hti, htz, htv, htb⟩ := tiSrc
  obtain ⟨kn, hkn⟩ := undInt
  have hn1 : decide ((n : Int) < 0) = false := decide_eq_false (by omega)
  have hn2 : decide ((0 : Int) < n) = true := by simp; omega
  have hn3 : decide (0 < n) = true := by simp; omega
  have hw0 : IntKind.wrap .i64 0 = 0 := by decide
  have hw1 : IntKind.wrap .i64 ((n : Int) - 0) = n := by rw [IntKind.wrap_i64]; omega
  have hw2 : IntKind.wrap .i64 (n : Int) = n := by rw [IntKind.wrap_i64]; omega
  have hc1 : ∀ (ty : TypeId) (w : World), (Builtin.cap_ #[25] ty #[.slice none 0 0]).run Try.prog w = .ok (.int .i64 0) w := fun ty w => by simp [Builtin.cap_, run_underlying huSrc, goInt]
  have hc2 : ∀ (ty : TypeId) (w : World) (es : Array Event), (Builtin.cap_ #[25] ty #[.slice none 0 0]).events Try.prog w es = es := fun ty w es => by simp [Builtin.cap_, run_underlying huSrc, goInt]
  have hz1 := fun w => (run_upto_nil (P := Try.prog) huSrc hti htz w #[]).1
  have hz2 := fun w es => (run_upto_nil (P := Try.prog) huSrc hti htz w es).2
  refine callW_in Try.func75 code75_is fun fr cs => ?_
  simp only [Try.ntmps75, ez, Nat.reduceAdd, Nat.reduceSub]
  repeat (first | refine Walk.cx ?_ | (refine Walk.cReg ?_; simp only [z75]) | (refine Walk.oq ?_; try walk_nrm) | (refine Walk.un ?_; walk_nrm))
  refine Walk.appendY (.tmp 20) (.tmp 21) 25 3 32 .i64 kn (ho_of (by conv => lhs; whnf) (by kernel_rfl)) (by rfl) (by decide) rfl ti .nilIface huSrc hkn hti htv htz (by omega) (by rfl) n rfl rfl h0 hn ?_
  intro cap w1 hown hcap hold hsz
  have hu1 : ∀ w0 : World, (Instr.sliceAt 25 (.slice (some ⟨w.heap.size, 0, none⟩) n cap) none (some (.int .i64 0)) none).run Try.prog w0 = .ok (.slice (some ⟨w.heap.size, 0, none⟩) 0 cap) w0 := fun w0 => (run_upto (P := Try.prog) huSrc hti htz w.heap.size 0 0 n cap (by omega) h0 hcap w0 #[]).1
  have hu2 : ∀ (w0 : World) (es : Array Event), (Instr.sliceAt 25 (.slice (some ⟨w.heap.size, 0, none⟩) n cap) none (some (.int .i64 0)) none).events Try.prog w0 es = es := fun w0 es => (run_upto (P := Try.prog) huSrc hti htz w.heap.size 0 0 n cap (by omega) h0 hcap w0 es).2
  generalize hT : w.heap.size = T at *
  walk_nrm
  repeat (first | refine Walk.cx ?_ | (refine Walk.cReg ?_; simp only [z75]) | (refine Walk.oq ?_; try walk_nrm) | (refine Walk.un ?_; walk_nrm))
  exact Walk.on1 rfl rfl Try.func75 rfl (.stop fun d => ⟨_, ⟨cap, rfl, row_same hown fun _ _ => rfl, hcap, hold, hsz⟩, rfl⟩)
end
section
variable {main : Bool} {V : Nat → Option Wait}
theorem sa_in (B : Nat) (cs : List Frame) (w : World) :
    Walk Try.prog main (DR V) (fun g w' => (∃ u, g = G (hdSa B 0 0 u) cs) ∧ ∃ d, w' = w.at d) (G (Frame.enter Try.prog 38 #[.slice (some ⟨B, 0, none⟩) 2 2] .normal) cs) w := by
  rw [enter_at _ Try.func38 code38_is]
  simp only [Try.ntmps38, ez, Nat.reduceAdd, Nat.reduceSub]
  repeat (first | refine Walk.cx ?_ | (refine Walk.cReg ?_; simp only [z38]) | (refine Walk.oq ?_; try walk_nrm) | (refine Walk.un ?_; walk_nrm))
  refine Walk.ctl rfl (fun w => stepG_loop) ?_
  refine .stop fun d => ⟨at_slots ?_, d, rfl⟩
  simp only [hdSa]
  rfl
theorem sa_go (B s i : Nat) (hi : i < 2) (a : Option Addr) (n c : Nat) (hs : s + n ≤ 1048576) (u : Nat → Value) (cs : List Frame) (w : World) (hc : w.cell? ⟨B, i, none⟩ = some (.slice a n c)) :
    Walk Try.prog main (DR V) (fun g w' => (∃ u, g = G (hdSa B (s + n) (i + 1) u) cs) ∧ ∃ d, w' = w.at d) (G (hdSa B s i u) cs) w := by
  have hi1 : decide ((i : Int) < 2) = true := by simp; omega
  have hi4 : (i : Int) < 2 := by omega
  have hi0 : (0 : Int) ≤ i := by omega
  have hw1 : IntKind.wrap .i64 ((i : Int) + 1) = (i : Int) + 1 := by rw [IntKind.wrap_i64]; omega
  have hw2 : IntKind.wrap .i64 ((s : Int) + n) = (s : Int) + n := by rw [IntKind.wrap_i64]; omega
  have hn : decide ((s : Int) + n < 0) = false := decide_eq_false (by omega)
  have hc1 : ((i + 1 : Nat) : Int) = (i : Int) + 1 := by simp
  have hc2 : ((s + n : Nat) : Int) = (s : Int) + n := by simp
  conv => arg 5; unfold hdSa
  repeat (first | refine Walk.cx ?_ | (refine Walk.cReg ?_; simp only [z38]) | (refine Walk.oq ?_; try walk_nrm) | (refine Walk.un ?_; walk_nrm))
  refine Walk.ctl rfl (fun w => stepG_inLoop) ?_
  refine .stop fun d => ⟨at_slots ?_, d, rfl⟩
  simp only [hdSa, hc1, hc2]
  rfl
theorem sa_out (B s : Nat) (h0 : 0 < s) (hs : s ≤ 1048576) (u : Nat → Value) (cs : List Frame) (w : World) :
    Walk Try.prog main (DR V) (fun g w' => ∃ cap, (∃ u, g = G (hdSb B (.slice (some ⟨w.heap.size, 0, none⟩) 0 cap) 0 u) cs) ∧ w'.ownsRow w.heap.size 32 1 (.slice (some ⟨w.heap.size, 0, none⟩) 0 cap) 0 [] ∧ (∀ b, b < w.heap.size → w'.heap[b]? = w.heap[b]?) ∧ w.heap.size < w'.heap.size) (G (hdSa B s 2 u) cs) w := by
  have hg := growS_w (main := main) (V := V) s h0 hs w
  generalize hT : w.heap.size = T at *
  clear hT
  conv => arg 5; unfold hdSa
  repeat (first | refine Walk.cx ?_ | (refine Walk.cReg ?_; simp only [z38]) | (refine Walk.oq ?_; try walk_nrm) | (refine Walk.un ?_; walk_nrm))
  refine Walk.callW (Post := fun v w' => ∃ cap, v = .slice (some ⟨T, 0, none⟩) 0 cap ∧ w'.ownsRow T 32 1 (.slice (some ⟨T, 0, none⟩) 0 cap) 0 [] ∧ s ≤ cap ∧ (∀ b, b < T → w'.heap[b]? = w.heap[b]?) ∧ T < w'.heap.size) ?_ (ho_of (by conv => lhs; whnf) (by kernel_rfl)) (by rfl) (by decide) rfl Try.func75 (by kernel_rfl) (by rfl) ?_
  · walk_nrm
    exact hg
  rintro v w1 ⟨cap, rfl, hown, hcap, hold, hsz⟩
  clear hg
  walk_nrm
  repeat (first | refine Walk.cx ?_ | (refine Walk.cReg ?_; simp only [z38]) | (refine Walk.oq ?_; try walk_nrm) | (refine Walk.un ?_; walk_nrm))
  refine Walk.ctl rfl (fun w => stepG_loop) ?_
  refine .stop fun d => ⟨cap, at_slots ?_, row_same hown fun _ _ => rfl, hold, hsz⟩
  simp only [hdSb]
  rfl
structure SbI (T : Nat) (w0 : World) (g m cap : Nat) (xs : List (Option Nat)) (w : World) : Prop where
  row : w.ownsRow T 32 1 (.slice (some ⟨g, 0, none⟩) m cap) m (xs.map srcO)
  len : xs.length = m
  old : ∀ b, b < T → w.heap[b]? = w0.heap[b]?
theorem SbI.at {T : Nat} {w0 w : World} {g m cap : Nat} {xs : List (Option Nat)} (h : SbI T w0 g m cap xs w) (d : Nat) : SbI T w0 g m cap xs (w.at d) := ⟨row_same h.row fun _ _ => rfl, h.len, h.old⟩
theorem SbI.lt {T : Nat} {w0 w : World} {g m cap : Nat} {xs : List (Option Nat)} (h : SbI T w0 g m cap xs w) : T ≤ g ∧ g < w.heap.size := h.row.lt g rfl
theorem sb_go (B i T : Nat) (hi : i < 2) (w0 : World) (a : Option Addr) (l : List (Option Nat)) (c : Nat) (hl : l.length ≤ 1000) (g m cap : Nat) (hm : m ≤ 1000) (xs : List (Option Nat)) (u : Nat → Value) (cs : List Frame) (w : World) (I : SbI T w0 g m cap xs w) (hc : w.cell? ⟨B, i, none⟩ = some (.slice a l.length c)) (ha : SrcA a l w) (hA : ∀ b, T ≤ b → Apart V b) :
    Walk Try.prog main (DR V) (fun gr w' => ∃ g' cap', (∃ u, gr = G (hdSb B (.slice (some ⟨g', 0, none⟩) (m + l.length) cap') (i + 1) u) cs) ∧ SbI T w0 g' (m + l.length) cap' (xs ++ l) w') (G (hdSb B (.slice (some ⟨g, 0, none⟩) m cap) i u) cs) w := by
  have hi1 : decide ((i : Int) < 2) = true := by simp; omega
  have hi4 : (i : Int) < 2 := by omega
  have hi0 : (0 : Int) ≤ i := by omega
  have hw1 : IntKind.wrap .i64 ((i : Int) + 1) = (i : Int) + 1 := by rw [IntKind.wrap_i64]; omega
  have hc1 : ((i + 1 : Nat) : Int) = (i : Int) + 1 := by simp
  obtain ⟨ti, hti, htz, htv, htb⟩ := tiSrc
  obtain ⟨hgT, hgl⟩ := I.lt
  have hcap : m ≤ cap := by
    rcases I.row.2 with ⟨e, _⟩ | ⟨g', cap', cur, e, _, _, hle, _⟩
    · cases e
    · injection e with _ _ e3
      rw [e3]; exact hle
  conv => arg 5; unfold hdSb
  cases l with
  | nil =>
    have hz := fun ty w es => run_appN (P := Try.prog) huSrc hti ty ⟨g, 0, none⟩ m cap hcap a c w es
    have hc0 : w.cell? ⟨B, i, none⟩ = some (.slice a 0 c) := hc
    clear hc hcap ha
    repeat (first | refine Walk.cx ?_ | (refine Walk.cReg ?_; simp only [z38]) | (refine Walk.oq ?_; try walk_nrm) | (refine Walk.un ?_; walk_nrm))
    refine Walk.opq (ho_of (by conv => lhs; whnf) (by kernel_rfl)) (by rfl) (by decide) (fun dd e he => ?_) (fun dd K hK => uponK_append (.tmp 31) (.tmp 32) 25 rfl rfl rfl (hz _ (w.at dd) #[]).1 (hK _ ?_))
    · rw [events_append_op (v := .slice (some ⟨g, 0, none⟩) m cap) (xv := .slice a 0 c) (.tmp 31) (.tmp 32) 25 rfl (by rfl) (by rfl), (hz _ (w.at dd) #[]).2] at he
      simp at he
    clear hz hK
    walk_nrm
    repeat (first | refine Walk.cx ?_ | (refine Walk.cReg ?_; simp only [z38]) | (refine Walk.oq ?_; try walk_nrm) | (refine Walk.un ?_; walk_nrm))
    refine Walk.ctl rfl (fun w => stepG_inLoop) ?_
    refine .stop fun d => ⟨g, cap, at_slots ?_, ?_⟩
    · simp only [hdSb, hc1, List.length_nil, Nat.add_zero]
      rfl
    · rw [List.append_nil]
      exact I.at d
  | cons z l =>
    obtain ⟨b, off, rfl, _⟩ := ha 0 z rfl
    have hn0 : 0 < (z :: l).length := by simp
    generalize hn : (z :: l).length = n at *
    repeat (first | refine Walk.cx ?_ | (refine Walk.cReg ?_; simp only [z38]) | (refine Walk.oq ?_; try walk_nrm) | (refine Walk.un ?_; walk_nrm))
    refine Walk.append (.tmp 31) (.tmp 32) 25 (ho_of (by conv => lhs; whnf) (by kernel_rfl)) (by rfl) (by decide) rfl T 32 ti .nilIface 1 16 huSrc hti htv htz htb (by rfl) (by decide) (.slice (some ⟨g, 0, none⟩) m cap) m (xs.map srcO) rfl I.row ⟨b, off, none⟩ n c ((z :: l).map srcO) rfl (by simp [← hn]) (fun j u hu => ?_) (fun u hu => ?_) hn0 (by simp only [maxLen]; omega) (by omega) (by omega) (fun g' hg' => ?_) (fun g' cap' w' hown' hgr hat hlt => ?_)
    · rw [List.getElem?_map, Option.map_eq_some_iff] at hu
      obtain ⟨y, hy, rfl⟩ := hu
      obtain ⟨b', off', e, h⟩ := ha j y hy
      obtain ⟨rfl, rfl, _⟩ := Addr.mk.inj (Option.some.inj e)
      rw [add_none]; exact h
    · obtain ⟨y, _, rfl⟩ := List.mem_map.1 hu
      exact srcO_one y
    · simp only [Value.ownBlock, Option.some.injEq] at hg'
      rw [← hg']; exact hA g hgT
    · walk_nrm
      repeat (first | refine Walk.cx ?_ | (refine Walk.cReg ?_; simp only [z38]) | (refine Walk.oq ?_; try walk_nrm) | (refine Walk.un ?_; walk_nrm))
      refine Walk.ctl rfl (fun w => stepG_inLoop) ?_
      refine .stop fun d => ⟨g', cap', at_slots ?_, ⟨?_, ?_, fun b' hb' => ?_⟩⟩
      · simp only [hdSb, hc1]
        rfl
      · rw [List.map_append]
        exact row_same hown' fun _ _ => rfl
      · rw [List.length_append, I.len, hn]
      · exact (hgr.block b' (by omega) (by simp [Value.ownBlock]; omega)).trans (I.old b' hb')
theorem sb_out (B : Nat) (v : Value) (u : Nat → Value) (c : Frame) (cs : List Frame) (w : World) :
    Walk Try.prog main (DR V) (fun g w' => g = G (c.finish v) cs ∧ ∃ d, w' = w.at d) (G (hdSb B v 2 u) (c :: cs)) w := by
  unfold hdSb
  repeat (first | refine Walk.cx ?_ | (refine Walk.cReg ?_; simp only [z38]) | (refine Walk.oq ?_; try walk_nrm) | (refine Walk.un ?_; walk_nrm))
  exact Walk.on1 rfl rfl Try.func38 rfl (.stop fun d => ⟨rfl, d, rfl⟩)
theorem concatS_w (B : Nat) (a1 a2 : Option Addr) (l1 l2 : List (Option Nat)) (c1 c2 : Nat) (h1 : l1.length ≤ 500) (h2 : l2.length ≤ 500) (h0 : 0 < l1.length + l2.length) (w : World) (hB : w.heap[B]? = some (.cells #[.slice a1 l1.length c1, .slice a2 l2.length c2] 25)) (n1 : SrcA a1 l1 w) (n2 : SrcA a2 l2 w) (hA : ∀ b, w.heap.size ≤ b → Apart V b) :
    CallW Try.prog main V 38 #[.slice (some ⟨B, 0, none⟩) 2 2] w (fun v w' => ∃ g cap, v = .slice (some ⟨g, 0, none⟩) (l1.length + l2.length) cap ∧ SbI w.heap.size w g (l1.length + l2.length) cap (l1 ++ l2) w') := by
  intro fr cs
  have x1 := (cell_of hB 0).trans rfl
  have x2 := (cell_of hB 1).trans rfl
  refine (sa_in B (fr :: cs) w).then ?_
  rintro _ _ ⟨⟨u, rfl⟩, d, rfl⟩
  refine Walk.back ?_ d
  refine (sa_go B 0 0 (by omega) a1 l1.length c1 (by omega) u (fr :: cs) w x1).then ?_
  rintro _ _ ⟨⟨u, rfl⟩, d, rfl⟩
  refine Walk.back ?_ d
  refine (sa_go B (0 + l1.length) (0 + 1) (by omega) a2 l2.length c2 (by omega) u (fr :: cs) w x2).then ?_
  rintro _ _ ⟨⟨u, rfl⟩, d, rfl⟩
  refine Walk.back ?_ d
  refine (sa_out B (0 + l1.length + l2.length) (by omega) (by omega) u (fr :: cs) w).then ?_
  rintro _ w1 ⟨cap, ⟨u, rfl⟩, hown, hold, hsz⟩
  have I1 : SbI w.heap.size w w.heap.size 0 cap [] w1 := ⟨hown, rfl, hold⟩
  have hBl : B < w.heap.size := (Array.getElem?_eq_some_iff.1 hB).1
  have y1 := (World.cell?_of_block (a := ⟨B, 0, none⟩) (hold B hBl)).trans x1
  refine (sb_go B 0 w.heap.size (by omega) w a1 l1 c1 (by omega) w.heap.size 0 cap (by omega) [] u (fr :: cs) w1 I1 y1 (n1.same hold) hA).then ?_
  rintro _ w2 ⟨g2, cap2, ⟨u, rfl⟩, I2⟩
  have y2 := (World.cell?_of_block (a := ⟨B, 1, none⟩) (I2.old B hBl)).trans x2
  refine (sb_go B (0 + 1) w.heap.size (by omega) w a2 l2 c2 (by omega) g2 (0 + l1.length) cap2 (by omega) ([] ++ l1) u (fr :: cs) w2 I2 y2 (n2.same I2.old) hA).then ?_
  rintro _ w3 ⟨g3, cap3, ⟨u, rfl⟩, I3⟩
  refine (sb_out B _ u fr cs w3).mono ?_
  rintro _ _ ⟨rfl, d, rfl⟩
  rw [Nat.zero_add, List.nil_append] at I3
  exact ⟨_, ⟨g3, cap3, by rw [Nat.zero_add], I3.at d⟩, rfl⟩
end
end
end Go.Proofs.Ytgfajibjedfkdaa
