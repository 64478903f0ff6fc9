/- Part 29. -/
import Derived.Test.YtjenoiekfkhafaaJ22
import Derived.Test.YtjenoiekfkhafaaJ27
import Derived.Test.YtjenoiekfkhafaaJ28
set_option linter.unusedSimpArgs false
set_option linter.unusedVariables false
set_option linter.unusedVariables false
set_option maxHeartbeats 8000000
set_option maxRecDepth 100000
namespace Go.Proofs.Ytjenoiekfkhafaa
open Go.Conc Go.RowKit Go.Relay
open Go.ConcN (upd upd_ne upd_same)
section
structure RO8 (lb : Nat) (a0 M cg cc m R : Nat) (ops : Nat -> List OpV) (W : World) (n : Nat) (x : OX (Aj lb (m - 1))) (ord : List Nat) (oa : Option Addr) (oc : Nat) (w : World) : Prop where
 N : ∃ tb tc ta T, RN8 lb a0 M cg cc m R ops W tb tc ta T n x w /\ ∀ b, (Value.slice oa ord.length oc).ownBlock = some b -> ¬ No M cg tb n T b /\ b ≠ R
 row : w.ownsRow a0 3 1 (.slice oa ord.length oc) ord.length (Eg ord)
section
variable {a0 M cg cc n m R : Nat} {main : Bool} {lb : Nat} {ops : Nat -> List OpV} {W : World} {x : OX (Aj lb (m - 1))} {ord : List Nat} {oa : Option Addr} {oc : Nat} {w : World}
theorem RO8.at (H : RO8 lb a0 M cg cc m R ops W n x ord oa oc w) (d : Nat) : RO8 lb a0 M cg cc m R ops W n x ord oa oc (w.at d) := by
 obtain ⟨tb, tc, ta, T, N, F⟩ := H.N
 exact ⟨⟨tb, tc, ta, T, ⟨N.I.same fun _ _ => rfl, N.z, N.zM, N.th, N.al, N.out, N.res, N.resS, N.old, N.le⟩, F⟩, H.row⟩
theorem RO8.pc (H : RO8 lb a0 M cg cc m R ops W n x ord oa oc w) : ∃ tb tc ta T, M8 a0 M cg cc tb tc n m ta x.s T w /\ ∀ i, i < n -> (0 < (T i).pc ↔ x.out i = none) := by
 obtain ⟨tb, tc, ta, T, N, F⟩ := H.N
 refine ⟨tb, tc, ta, T, N.I, fun i hi => ?_⟩
 have h1 := N.out i hi
 rcases (N.th i hi).pos with ⟨hd, _, _, hp⟩ | ⟨d, o, hd, _, _, hs⟩
 ·rw [hd] at h1
  rw [hp]
  cases ho : x.out i with
  | none => rw [ho] at h1; cases h1
  | some v => simp
 ·rw [hd] at h1
  cases ho : x.out i with
  | none => simp [hs.on]
  | some v => rw [ho] at h1; cases h1
theorem nextO_some {L : La} (x : OX L) (i : Nat) (d : L.D) (h : (x.th i).d = some d) : Cz x i = Gi x i (Em L (i : Nat) (L.act x.s d) (x.th i).left (x.th i).ans) (x.cnt + 1) := by
 unfold Cz
 rw [h]
def MidR (lb : Nat) (a0 M cg cc m R : Nat) (ops : Nat -> List OpV) (W : World) (n : Nat) (x : OX (Aj lb (m - 1))) (ord : List Nat) (i g cap : Nat) (w2 : World) : Prop :=
 ∃ tb tc ta T t' d o w w1, RN8 lb a0 M cg cc m R ops W tb tc ta T n x w /\ (x.th i).d = some d /\ (ops i)[(T i).at']? = some o /\ (x.th i).left = (ops i).drop ((T i).at' + 1) /\ w.heap.size <= w1.heap.size /\ (∀ b, b < w.heap.size -> (b < a0 ∨ No M cg tb n T b ∨ b = R) -> w1.heap[b]? = w.heap[b]?) /\
  M8 a0 M cg cc tb tc n m ta (Bo (m - 1) x.s d).1 (upd T i t') w2 /\ Got M cg tb n T (upd T i t') w1 w2 /\ Af8 m o (Bo (m - 1) x.s d).2 (T i) t' /\ w1.ownsRow a0 3 1 (.slice (some ⟨g, 0, none⟩) (ord.length + 1) cap) (ord.length + 1) (Eg (ord ++ [i])) /\ ¬ No M cg tb n T g /\ g ≠ R /\ R < w.heap.size
theorem run_step (hm0 : 0 < m) (hm : m <= 64) (hn : n <= 64) (hol : ∀ i, i < n -> (ops i).length <= 65536) (H : RO8 lb a0 M cg cc m R ops W n x ord oa oc w) {i : Nat} (hi : i < n) (ho : x.out i = none) {g cap : Nat} {w1 : World} (A : MoreO a0 w (.slice oa ord.length oc) ord i g cap w1) :
  CallW Try.prog main (fun _ => none) 53 #[.pointer (some ⟨M, 0, none⟩), .int .i64 i] w1 (fun v w2 => v = .tuple #[] /\ MidR lb a0 M cg cc m R ops W n x ord i g cap w2) := by
 obtain ⟨tb, tc, ta, T, N, F⟩ := H.N
 have hT := N.th i hi
 have h1 := N.out i hi
 rw [ho] at h1
 have hRl := (Array.getElem?_eq_some_iff.1 N.res).1
 obtain ⟨d, o, hd, hop, hleft, hst⟩ : ∃ d o, (x.th i).d = some d /\ (ops i)[(T i).at']? = some o /\ (x.th i).left = (ops i).drop ((T i).at' + 1) /\ St8 m o (T i) d := by
  rcases hT.pos with ⟨hd, _⟩ | h
  ·rw [hd] at h1; cases h1
  ·exact h
 have hkeep : ∀ b, b < w.heap.size -> (b < a0 ∨ No M cg tb n T b ∨ b = R) -> w1.heap[b]? = w.heap[b]? := fun b hb h => A.old b hb fun e => by
  obtain ⟨f1, f2⟩ := F b e
  rcases h with h | h | h
  ·have := (H.row.lt b e).1; omega
  ·exact f1 h
  ·exact f2 h
 have I1 : M8 a0 M cg cc tb tc n m ta x.s T w1 := N.I.keep fun b hb h => hkeep b hb (h.imp id .inl)
 have hstep := step8_w (main := main) hi x.s o d w1 I1 hm0 hm hn (by have := N.le; have := A.size; omega) (by rw [hT.ops]; exact hop) (by rw [hT.ops]; exact hol i hi) (N.al i hi) hst
 have hg : ¬ No M cg tb n T g /\ g ≠ R := by
  rcases A.hat with h | h
  ·exact F g h
  ·refine ⟨fun e => ?_, by omega⟩
   obtain ⟨l1, l2, l3⟩ := N.I.lt
   rcases e with e | e | e | ⟨k, hk, e⟩
   ·omega
   ·omega
   ·have := l3 (by omega); omega
   ·have := ((N.I.rows k hk).low e).2; omega
 intro c cs
 refine (hstep c cs).mono ?_
 rintro g' w2 ⟨v, ⟨rfl, t', I2, g2, hA⟩, rfl⟩
 refine ⟨_, ⟨rfl, tb, tc, ta, T, t', d, o, w, w1, N, hd, hop, hleft, A.size, hkeep, I2, g2, hA, ?_, hg.1, hg.2, hRl⟩, rfl⟩
 rw [ordRow_snoc]
 exact A.row
theorem Mt (hm0 : 0 < m) (hm : m <= 64) (hn : n <= 64) (hol : ∀ i, i < n -> (ops i).length <= 65536) {i : Nat} (hi : i < n) {g cap : Nat} {w2 : World} (H : MidR lb a0 M cg cc m R ops W n x ord i g cap w2) :
  CallW Try.prog main (fun _ => none) 52 #[.pointer (some ⟨M, 0, none⟩), .int .i64 i] w2 (fun v w3 => v = .tuple #[] /\ RO8 lb a0 M cg cc m R ops W n (Cz x i) (ord ++ [i]) (some ⟨g, 0, none⟩) cap w3) := by
 obtain ⟨tb, tc, ta, T, t', d, o, w, w1, N, hd, hop, hleft, hsz, hkeep, I2, g2, hA, hrow, hgS, hgR, hRl⟩ := H
 have hT := N.th i hi
 have hs2 := g2.chg.size
 have hN := N.le
 have hA' : Af8 m o (Bo (m - 1) x.s d).2 (T i) (upd T i t' i) := by rw [upd_same]; exact hA
 have hse := settle_af (main := main) (lb := lb) (T := upd T i t') hi hn hm0 (i : Nat) (Bo (m - 1) x.s d).1 o (Bo (m - 1) x.s d).2 (T i) hA' (by rw [hT.ops]; exact hop) (by rw [hT.ops]; exact hol i hi) (N.al i hi) w2 (by omega) I2
 intro c cs
 refine (hse c cs).mono ?_
 rintro g' w3 ⟨v, ⟨rfl, th, t2, hland, hth, hal, I3, g3⟩, rfl⟩
 rw [Bc] at I3 g3
 have G := g2.grew.trans g3.grew
 have hs3 := G.chg.size
 rw [hT.ops, hT.ans, <- hleft] at hland
 rw [hT.ops] at hth
 have hx : Cz x i = Gi x i ((Bo (m - 1) x.s d).1, th) (x.cnt + 1) := by
  rw [nextO_some x i d hd]
  have e : Em (Aj lb (m - 1)) (i : Nat) ((Aj lb (m - 1)).act x.s d) (x.th i).left (x.th i).ans = ((Bo (m - 1) x.s d).1, th) := hland
  rw [e]
  rfl
 refine ⟨_, ⟨rfl, ⟨⟨tb, tc, ta, upd T i t2, ⟨?_, N.z, N.zM, fun j hj => ?_, fun j hj => ?_, fun j hj => ?_, ?_, fun h => ?_, fun b hb => ?_, by omega⟩, fun b hb => ?_⟩, ?_⟩⟩, rfl⟩
 ·rw [hx]; exact I3
 ·rw [hx]
  by_cases e : j = i
  ·subst e
   rw [putO_th, upd_same]
   exact hth
  ·rw [(Gp x e _ _).1, upd_ne _ _ e]
   exact N.th j hj
 ·by_cases e : j = i
  ·subst e
   rw [upd_same]
   exact hal
  ·rw [upd_ne _ _ e]
   exact N.al j hj
 ·rw [hx]
  by_cases e : j = i
  ·subst e
   exact putO_out _ _ _ _
  ·rw [(Gp x e _ _).1, (Gp x e _ _).2]
   exact N.out j hj
 ·exact (G.chg.same R (by omega) N.resS).trans ((hkeep R hRl (.inr (.inr rfl))).trans N.res)
 ·exact (G.own R h).elim N.resS fun h => by omega
 ·exact (G.chg.same b (by omega) fun h => by have := m8S_old N.I N.zM h; omega).trans ((hkeep b (by omega) (.inl hb)).trans (N.old b hb))
 ·simp only [Value.ownBlock, Option.some.injEq] at hb
  subst hb
  have hgl := (hrow.lt g rfl).2
  exact ⟨fun h => (G.own g h).elim hgS fun h => by omega, hgR⟩
 ·have e : (ord ++ [i]).length = ord.length + 1 := by simp
  rw [e]
  exact Aw hrow fun b hb => by
   simp only [Value.ownBlock, Option.some.injEq] at hb
   subst hb
   exact G.chg.same g (hrow.lt g rfl).2 hgS
end
end
section
noncomputable def hdRunE (M R n : Nat) (ov : Value) (u : Nat -> Value) : Frame :=
 (base 37).at { tmps := #[.pointer (some ⟨M, 0, none⟩), u 1, u 2, u 3, u 4, u 5, u 6, u 7, .pointer (some ⟨R, 0, none⟩), .int .i64 n, u 10, u 11, ov, u 13, u 14, u 15, u 16, u 17, u 18, u 19, u 20, u 21, u 22, u 23, u 24, u 25, u 26, u 27, u 28, u 29, u 30, u 31, u 32, u 33, u 34, u 35, u 36, u 37, u 38, u 39, u 40, u 41, u 42, u 43, u 44, u 45, u 46, u 47, u 48, u 49, u 50, u 51, u 52, u 53, u 54, u 55, u 56, u 57, u 58, u 59, u 60, u 61, u 62, u 63, u 64, u 65, u 66, u 67, u 68, u 69, u 70, u 71, u 72, u 73, u 74, u 75, u 76, u 77, u 78, u 79, u 80, u 81, u 82, u 83, u 84, u 85, u 86, u 87, u 88, u 89, u 90, u 91, u 92, u 93, u 94, u 95, u 96, u 97, u 98, u 99, u 100, u 101, u 102, u 103, u 104, u 105, u 106, u 107, u 108, u 109, u 110, u 111, u 112, u 113, u 114, u 115, u 116, u 117, u 118, u 119, u 120, u 121, u 122, u 123, u 124, u 125, u 126, u 127, u 128, u 129, u 130, u 131, u 132, u 133, u 134, u 135, u 136, u 137, u 138, u 139, u 140, u 141, u 142, u 143, u 144, u 145, u 146, u 147, u 148, u 149, u 150, u 151, u 152, u 153, u 154, u 155, u 156, u 157, u 158, u 159, u 160, u 161], defers := [] } [.code (.region 33 reg37_33 false), .code (.seq (.seq (.region 34 reg37_34 false) (.block 8 (.loop (.seq (.seq (.region 35 reg37_35 false) (.cond (.tmp 145 ) (.skip) (.exit 8))) (.seq (.block 9 (.region 37 reg37_37 true)) (.region 36 reg37_36 false)))))) (.seq (.region 38 reg37_38 false) (.ret)))]
section
variable {main : Bool}
theorem rest_no (M : Nat) (mo : Int) (R n : Nat) (ov : Value) (u : Nat -> Value) (cs : List Frame) (w : World) (hl : Bn Try.prog main (fun _ => none) 54 #[.pointer (some ⟨M, 0, none⟩)] w (.bool false) w) :
  Walk Try.prog main (DR (fun _ => none)) (fun g w' => (∃ u, g = G (hdRunE M R n ov u) cs) /\ ∃ d, w' = w.at d) (G (hdRun2 M mo R n ov u) cs) w := by
 conv => arg 5; unfold hdRun2
 refine Aa z37 ?_
 refine Walk.callV (x := .bool false) (W := w) ?_ Ao (by rfl) (by decide) rfl Try.func54 (by kernel_rfl) (by rfl) ?_
 ·walk_nrm
  exact hl
 walk_nrm
 repeat (first | (refine Walk.oq ?_; try walk_nrm) | (refine Ax ?_; walk_nrm))
 repeat (refine Walk.c rfl ?_)
 refine .stop fun d => ⟨Am ?_, d, rfl⟩
 simp only [hdRunE]
 rfl
theorem rest_most (M : Nat) (mo : Int) (R n : Nat) (oa : Option Addr) (ln oc : Nat) (hm : mo <= (ln : Int)) (u : Nat -> Value) (cs : List Frame) (w : World) (hl : Bn Try.prog main (fun _ => none) 54 #[.pointer (some ⟨M, 0, none⟩)] w (.bool true) w) :
  Walk Try.prog main (DR (fun _ => none)) (fun g w' => (∃ u, g = G (hdRunE M R n (.slice oa ln oc) u) cs) /\ ∃ d, w' = w.at d) (G (hdRun2 M mo R n (.slice oa ln oc) u) cs) w := by
 have hj5 : decide ((ln : Int) < mo) = false := by simp; omega
 have hj6 : ¬ (ln : Int) < mo := by omega
 conv => arg 5; unfold hdRun2
 refine Aa z37 ?_
 refine Walk.callV (x := .bool true) (W := w) ?_ Ao (by rfl) (by decide) rfl Try.func54 (by kernel_rfl) (by rfl) ?_
 ·walk_nrm
  exact hl
 walk_nrm
 repeat (first | (refine Walk.oq ?_; try walk_nrm) | (refine Ax ?_; walk_nrm))
 repeat (refine Walk.c rfl ?_)
 refine .stop fun d => ⟨Am ?_, d, rfl⟩
 simp only [hdRunE]
 rfl
theorem rest_yes (M : Nat) (mo : Int) (R n : Nat) (oa : Option Addr) (ln oc : Nat) (hm : (ln : Int) < mo) (u : Nat -> Value) (cs : List Frame) (w : World) (hl : Bn Try.prog main (fun _ => none) 54 #[.pointer (some ⟨M, 0, none⟩)] w (.bool true) w) :
  Walk Try.prog main (DR (fun _ => none)) (fun g w' => (∃ u, g = G (hdRun3 M mo R n (.slice oa ln oc) 0 u) cs) /\ ∃ d, w' = w.at d) (G (hdRun2 M mo R n (.slice oa ln oc) u) cs) w := by
 have hj5 : decide ((ln : Int) < mo) = true := by simp; omega
 conv => arg 5; unfold hdRun2
 refine Aa z37 ?_
 refine Walk.callV (x := .bool true) (W := w) ?_ Ao (by rfl) (by decide) rfl Try.func54 (by kernel_rfl) (by rfl) ?_
 ·walk_nrm
  exact hl
 walk_nrm
 refine Aa z37 ?_
 refine Walk.ctl rfl (fun w => stepG_loop) ?_
 refine .stop fun d => ⟨Am ?_, d, rfl⟩
 simp only [hdRun3]
 rfl
end
end
section
section
variable {a0 M cg cc n m R : Nat} {main : Bool} {lb : Nat} {ops : Nat -> List OpV} {W : World} {most : Int}
def RS8 (lb : Nat) (a0 M cg cc m R : Nat) (ops : Nat -> List OpV) (W : World) (n : Nat) (st : OX (Aj lb (m - 1)) × List Nat) (oa : Option Addr) (oc : Nat) (w : World) : Prop := RO8 lb a0 M cg cc m R ops W n st.1 st.2 oa oc w
theorem RO8.le {x : OX (Aj lb (m - 1))} {ord : List Nat} {oa : Option Addr} {oc : Nat} {w : World} (H : RO8 lb a0 M cg cc m R ops W n x ord oa oc w) : a0 <= w.heap.size /\ ∀ b, b < a0 -> w.heap[b]? = W.heap[b]? := by
 obtain ⟨tb, tc, ta, T, N, F⟩ := H.N
 exact ⟨N.le, N.old⟩
theorem RO8.left {x : OX (Aj lb (m - 1))} {ord : List Nat} {oa : Option Addr} {oc : Nat} {w : World} (hn : n <= 64) (H : RO8 lb a0 M cg cc m R ops W n x ord oa oc w) : Bn Try.prog main (fun _ => none) 54 #[.pointer (some ⟨M, 0, none⟩)] w (.bool (decide (0 < Eh (Ce (Aj lb (m - 1)) n most ops) x))) w := by
 obtain ⟨tb, tc, ta, T, I, hpc⟩ := H.pc
 have e : Lu T 0 n = decide (0 < Eh (Ce (Aj lb (m - 1)) n most ops) x) := by
  rw [Bool.eq_iff_iff, decide_eq_true_eq]
  unfold Lu Eh
  rw [<- List.range_eq_range', List.any_eq_true, List.countP_pos_iff]
  constructor
  ·rintro ⟨i, hi, h⟩
   have h1 := List.mem_range.1 hi
   refine ⟨i, hi, ?_⟩
   have := (hpc i h1).1 (by simpa using h)
   show (x.out i).isNone = true
   rw [this]
   rfl
  ·rintro ⟨i, hi, h⟩
   have h1 : i < n := List.mem_range.1 hi
   refine ⟨i, List.mem_range.2 h1, ?_⟩
   have h : (x.out i).isNone = true := h
   have := (hpc i h1).2 (by simpa using h)
   simpa using this
 have := left_w (main := main) (V := fun _ => none) w I hn
 rw [e] at this
 exact this
theorem run_sched (hm0 : 0 < m) (hm : m <= 64) (hn : n <= 64) (hol : ∀ i, i < n -> (ops i).length <= 65536) (hmo : most <= 1048576) (sa : Option Addr) (sc : Nat) (sl : List Int) (hsl : sl.length <= 17592186044416) (hs : ∀ (j : Nat) (z : Int), sl[j]? = some z -> ∃ s so, sa = some ⟨s, so, none⟩ /\ s < a0 /\ W.cell? ⟨s, so + j, none⟩ = some (.int .i64 z)) (cs : List Frame) :
  ∀ (r k : Nat) (st : OX (Aj lb (m - 1)) × List Nat) (oa : Option Addr) (oc : Nat) (u : Nat -> Value) (w : World), k + r = sl.length -> RS8 lb a0 M cg cc m R ops W n st oa oc w ->
  Walk Try.prog main (DR (fun _ => none)) (fun g w' => ∃ oa oc, (∃ u, g = G (hdRun2 M most R n (.slice oa ((sl.drop k).foldl (Bk (Ce (Aj lb (m - 1)) n most ops)) st).2.length oc) u) cs) /\ RS8 lb a0 M cg cc m R ops W n ((sl.drop k).foldl (Bk (Ce (Aj lb (m - 1)) n most ops)) st) oa oc w') (G (hdRun1 M (.slice sa sl.length sc) most R n (.slice oa st.2.length oc) k u) cs) w := by
 intro r
 induction r with
 | zero =>
  intro k st oa oc u w hk H
  have hk : k = sl.length := hk
  subst hk
  have e : sl.drop sl.length = [] := List.drop_length
  rw [e]
  refine (sched_end M sa sl.length sc most R n _ u cs w).mono ?_
  rintro g w' ⟨⟨u, rfl⟩, d, rfl⟩
  exact ⟨oa, oc, ⟨u, rfl⟩, RO8.at H d⟩
 | succ r ih =>
  intro k st oa oc u w hk H
  have hkl : k < sl.length := by omega
  obtain ⟨z, hz⟩ : ∃ z, sl[k]? = some z := ⟨_, List.getElem?_eq_getElem hkl⟩
  have ed : sl.drop k = z :: sl.drop (k + 1) := by
   rw [<- (List.getElem?_eq_some_iff.1 hz).2]; exact List.drop_eq_getElem_cons hkl
  obtain ⟨s, so, rfl, hsa, hc0⟩ := hs k z hz
  obtain ⟨hle, hold⟩ := RO8.le H
  have c0 : w.cell? ⟨s, so + k, none⟩ = some (.int .i64 z) := (World.cell?_of_block (a := ⟨s, so + k, none⟩) (hold s hsa)).trans hc0
  by_cases hfull : most <= (st.2.length : Int)
  ·have hov : Ch (Ce (Aj lb (m - 1)) n most ops) st = true := by
    unfold Ch
    have : decide ((Ce (Aj lb (m - 1)) n most ops).most <= (st.2.length : Int)) = true := decide_eq_true hfull
    rw [this, Bool.or_true]
   rw [Nj hov]
   refine (sched_full M _ sl.length sc most R n oa st.2.length oc k hkl hfull u cs w).mono ?_
   rintro g w' ⟨⟨u, rfl⟩, d, rfl⟩
   exact ⟨oa, oc, ⟨u, rfl⟩, RO8.at H d⟩
  ·have hlt : (st.2.length : Int) < most := by omega
   rw [ed, List.foldl_cons]
   by_cases hok : 0 <= z /\ z < n /\ st.1.out z.toNat = none
   ·obtain ⟨h1, h2, h3⟩ := hok
    obtain ⟨i, rfl⟩ : ∃ i : Nat, z = i := ⟨z.toNat, by omega⟩
    have hi : i < n := by omega
    have h3 : st.1.out i = none := by simpa using h3
    have hov : Ch (Ce (Aj lb (m - 1)) n most ops) st = false := by
     unfold Ch
     have e1 : decide ((Ce (Aj lb (m - 1)) n most ops).most <= (st.2.length : Int)) = false := decide_eq_false (by show ¬ most <= _; omega)
     have e2 : Eh (Ce (Aj lb (m - 1)) n most ops) st.1 ≠ 0 := by
      intro e
      have : 0 < Eh (Ce (Aj lb (m - 1)) n most ops) st.1 := List.countP_pos_iff.2 ⟨i, List.mem_range.2 hi, by show (st.1.out i).isNone = true; rw [h3]; rfl⟩
      omega
     rw [e1, Bool.or_false]
     exact decide_eq_false e2
    have es : Bk (Ce (Aj lb (m - 1)) n most ops) st (i : Nat) = (Cz st.1 i, st.2 ++ [i]) := step_yes hov hi h3
    rw [es]
    obtain ⟨tb, tc, ta, T, I, hpc⟩ := RO8.pc H
    refine (sched_go M s so sl.length sc most R st.2 oa oc k hkl hsl hlt hmo w hi I hle ((hpc i hi).2 h3) c0 H.row (fun g cap w2 => MidR lb a0 M cg cc m R ops W n st.1 st.2 i g cap w2) (fun g cap w3 => RO8 lb a0 M cg cc m R ops W n (Cz st.1 i) (st.2 ++ [i]) (some ⟨g, 0, none⟩) cap w3) (fun g cap w1 A => run_step hm0 hm hn hol H hi h3 A) (fun g cap w2 h => Mt hm0 hm hn hol hi h) u cs).then ?_
    rintro g' w' ⟨g, cap, ⟨u', rfl⟩, w2, d, H2, rfl⟩
    refine Walk.back ?_ d
    have el : st.2.length + 1 = (Cz st.1 i, st.2 ++ [i]).2.length := by simp
    rw [el]
    exact ih (k + 1) (Cz st.1 i, st.2 ++ [i]) (some ⟨g, 0, none⟩) cap u' w2 (by omega) H2
   ·have es : Bk (Ce (Aj lb (m - 1)) n most ops) st z = st := step_no hok
    rw [es]
    have go : Walk Try.prog main (DR (fun _ => none)) (fun g w' => (∃ u, g = G (hdRun1 M (.slice (some ⟨s, so, none⟩) sl.length sc) most R n (.slice oa st.2.length oc) (k + 1) u) cs) /\ ∃ d, w' = w.at d) (G (hdRun1 M (.slice (some ⟨s, so, none⟩) sl.length sc) most R n (.slice oa st.2.length oc) k u) cs) w := by
     by_cases h1 : z < 0
     ·exact sched_neg M s so sl.length sc most R n oa st.2.length oc k hkl hsl hlt z h1 u cs w c0
     ·by_cases h2 : n <= z
      ·exact sched_far M s so sl.length sc most R n oa st.2.length oc k hkl hsl hlt z (by omega) h2 u cs w c0
      ·obtain ⟨i, rfl⟩ : ∃ i : Nat, z = i := ⟨z.toNat, by omega⟩
       have hi : i < n := by omega
       obtain ⟨tb, tc, ta, T, I, hpc⟩ := RO8.pc H
       exact sched_off M s so sl.length sc most R oa st.2.length oc k hkl hsl hlt w hi I (fun h => hok ⟨by omega, by omega, by simpa using (hpc i hi).1 h⟩) u cs c0
    refine go.then ?_
    rintro g w' ⟨⟨u', rfl⟩, d, rfl⟩
    exact Walk.back (ih (k + 1) st oa oc u' w (by omega) H) d
theorem run_round (hm0 : 0 < m) (hm : m <= 64) (hn : n <= 64) (hol : ∀ i, i < n -> (ops i).length <= 65536) (hmo : most <= 1048576) (cs : List Frame) :
  ∀ (r i : Nat) (st : OX (Aj lb (m - 1)) × List Nat) (oa : Option Addr) (oc : Nat) (u : Nat -> Value) (w : World), i + r = n -> RS8 lb a0 M cg cc m R ops W n st oa oc w ->
  Walk Try.prog main (DR (fun _ => none)) (fun g w' => ∃ oa oc, (∃ u, g = G (hdRun2 M most R n (.slice oa ((List.range' i r).foldl (fun st i => Bk (Ce (Aj lb (m - 1)) n most ops) st (i : Nat)) st).2.length oc) u) cs) /\ RS8 lb a0 M cg cc m R ops W n ((List.range' i r).foldl (fun st i => Bk (Ce (Aj lb (m - 1)) n most ops) st (i : Nat)) st) oa oc w') (G (hdRun3 M most R n (.slice oa st.2.length oc) i u) cs) w := by
 intro r
 induction r with
 | zero =>
  intro i st oa oc u w hi H
  have hi : i = n := hi
  subst hi
  refine (rest_end M most R i _ u cs w).mono ?_
  rintro g w' ⟨⟨u, rfl⟩, d, rfl⟩
  exact ⟨oa, oc, ⟨u, rfl⟩, RO8.at H d⟩
 | succ r ih =>
  intro i st oa oc u w hi' H
  have hi : i < n := by omega
  obtain ⟨hle, hold⟩ := RO8.le H
  by_cases hfull : most <= (st.2.length : Int)
  ·have hov : Ch (Ce (Aj lb (m - 1)) n most ops) st = true := by
    unfold Ch
    have : decide ((Ce (Aj lb (m - 1)) n most ops).most <= (st.2.length : Int)) = true := decide_eq_true hfull
    rw [this, Bool.or_true]
   rw [Nk hov]
   refine (rest_full M most R n oa st.2.length oc i hi hfull u cs w).mono ?_
   rintro g w' ⟨⟨u, rfl⟩, d, rfl⟩
   exact ⟨oa, oc, ⟨u, rfl⟩, RO8.at H d⟩
  ·have hlt : (st.2.length : Int) < most := by omega
   rw [List.range'_succ, List.foldl_cons]
   obtain ⟨tb, tc, ta, T, I, hpc⟩ := RO8.pc H
   by_cases h3 : st.1.out i = none
   ·have hov : Ch (Ce (Aj lb (m - 1)) n most ops) st = false := by
     unfold Ch
     have e1 : decide ((Ce (Aj lb (m - 1)) n most ops).most <= (st.2.length : Int)) = false := decide_eq_false (by show ¬ most <= _; omega)
     have e2 : Eh (Ce (Aj lb (m - 1)) n most ops) st.1 ≠ 0 := by
      intro e
      have : 0 < Eh (Ce (Aj lb (m - 1)) n most ops) st.1 := List.countP_pos_iff.2 ⟨i, List.mem_range.2 hi, by show (st.1.out i).isNone = true; rw [h3]; rfl⟩
      omega
     rw [e1, Bool.or_false]
     exact decide_eq_false e2
    have es : Bk (Ce (Aj lb (m - 1)) n most ops) st (i : Nat) = (Cz st.1 i, st.2 ++ [i]) := step_yes hov hi h3
    rw [es]
    refine (rest_go M most R st.2 oa oc hlt hmo w hi hn I hle ((hpc i hi).2 h3) H.row (fun g cap w2 => MidR lb a0 M cg cc m R ops W n st.1 st.2 i g cap w2) (fun g cap w3 => RO8 lb a0 M cg cc m R ops W n (Cz st.1 i) (st.2 ++ [i]) (some ⟨g, 0, none⟩) cap w3) (fun g cap w1 A => run_step hm0 hm hn hol H hi h3 A) (fun g cap w2 h => Mt hm0 hm hn hol hi h) u cs).then ?_
    rintro g' w' ⟨g, cap, ⟨u', rfl⟩, w2, d, H2, rfl⟩
    refine Walk.back ?_ d
    have el : st.2.length + 1 = (Cz st.1 i, st.2 ++ [i]).2.length := by simp
    rw [el]
    exact ih (i + 1) (Cz st.1 i, st.2 ++ [i]) (some ⟨g, 0, none⟩) cap u' w2 (by omega) H2
   ·have es : Bk (Ce (Aj lb (m - 1)) n most ops) st (i : Nat) = st := step_no (fun h => h3 (by have h2 : st.1.out ((i : Nat) : Int).toNat = none := h.2.2; simpa using h2))
    rw [es]
    refine (rest_off' M most R oa st.2.length oc hlt w hi hn I (fun h => h3 ((hpc i hi).1 h)) u cs).then ?_
    rintro g w' ⟨⟨u', rfl⟩, d, rfl⟩
    exact Walk.back (ih (i + 1) st oa oc u' w (by omega) H) d
theorem run_rest (hm0 : 0 < m) (hm : m <= 64) (hn : n <= 64) (hol : ∀ i, i < n -> (ops i).length <= 65536) (hmo : most <= 1048576) (cs : List Frame) :
  ∀ (f : Nat) (st : OX (Aj lb (m - 1)) × List Nat) (oa : Option Addr) (oc : Nat) (u : Nat -> Value) (w : World), most <= (st.2.length + f : Nat) -> RS8 lb a0 M cg cc m R ops W n st oa oc w ->
  Walk Try.prog main (DR (fun _ => none)) (fun g w' => ∃ oa oc, (∃ u, g = G (hdRunE M R n (.slice oa (Dl (Ce (Aj lb (m - 1)) n most ops) f st).2.length oc) u) cs) /\ RS8 lb a0 M cg cc m R ops W n (Dl (Ce (Aj lb (m - 1)) n most ops) f st) oa oc w') (G (hdRun2 M most R n (.slice oa st.2.length oc) u) cs) w := by
 intro f
 have done : ∀ (st : OX (Aj lb (m - 1)) × List Nat) (oa : Option Addr) (oc : Nat) (u : Nat -> Value) (w : World), Ch (Ce (Aj lb (m - 1)) n most ops) st = true -> RS8 lb a0 M cg cc m R ops W n st oa oc w ->
   Walk Try.prog main (DR (fun _ => none)) (fun g w' => ∃ oa oc, (∃ u, g = G (hdRunE M R n (.slice oa st.2.length oc) u) cs) /\ RS8 lb a0 M cg cc m R ops W n st oa oc w') (G (hdRun2 M most R n (.slice oa st.2.length oc) u) cs) w := by
  intro st oa oc u w hov H
  have hl := RO8.left (main := main) (most := most) hn H
  by_cases hg : 0 < Eh (Ce (Aj lb (m - 1)) n most ops) st.1
  ·rw [decide_eq_true hg] at hl
   have hfull : most <= (st.2.length : Int) := by
    unfold Ch at hov
    have e : decide (Eh (Ce (Aj lb (m - 1)) n most ops) st.1 = 0) = false := decide_eq_false (by omega)
    rw [e, Bool.false_or] at hov
    exact of_decide_eq_true hov
   refine (rest_most M most R n oa st.2.length oc hfull u cs w hl).mono ?_
   rintro g w' ⟨⟨u, rfl⟩, d, rfl⟩
   exact ⟨oa, oc, ⟨u, rfl⟩, RO8.at H d⟩
  ·rw [decide_eq_false hg] at hl
   refine (rest_no M most R n _ u cs w hl).mono ?_
   rintro g w' ⟨⟨u, rfl⟩, d, rfl⟩
   exact ⟨oa, oc, ⟨u, rfl⟩, RO8.at H d⟩
 induction f with
 | zero =>
  intro st oa oc u w hf H
  refine done st oa oc u w ?_ H
  unfold Ch
  have : decide ((Ce (Aj lb (m - 1)) n most ops).most <= (st.2.length : Int)) = true := decide_eq_true (by show most <= _; omega)
  rw [this, Bool.or_true]
 | succ f ih =>
  intro st oa oc u w hf H
  cases hov : Ch (Ce (Aj lb (m - 1)) n most ops) st with
  | true =>
   rw [rest_off _ hov]
   exact done st oa oc u w hov H
  | false =>
   rw [rest_on _ hov]
   have hl := RO8.left (main := main) (most := most) hn H
   obtain ⟨hlt, j, hj, ho⟩ := over_len hov
   have hlt : (st.2.length : Int) < most := hlt
   have hg : 0 < Eh (Ce (Aj lb (m - 1)) n most ops) st.1 := List.countP_pos_iff.2 ⟨j, List.mem_range.2 hj, by show (st.1.out j).isNone = true; have ho : st.1.out j = none := ho; rw [ho]; rfl⟩
   rw [decide_eq_true hg] at hl
   refine (rest_yes M most R n oa st.2.length oc hlt u cs w hl).then ?_
   rintro g w' ⟨⟨u1, rfl⟩, d, rfl⟩
   refine Walk.back ?_ d
   have e : Hx (Ce (Aj lb (m - 1)) n most ops) st = (List.range' 0 n).foldl (fun st i => Bk (Ce (Aj lb (m - 1)) n most ops) st (i : Nat)) st := by
    unfold Hx
    rw [List.range_eq_range']
    rfl
   have h1 := roundA_one _ hov
   refine (run_round hm0 hm hn hol hmo cs n 0 st oa oc u1 w (by omega) H).then ?_
   rw [<- e]
   rintro g w2 ⟨oa2, oc2, ⟨u2, rfl⟩, H2⟩
   exact ih _ oa2 oc2 u2 w2 (by omega) H2
end
end
section
noncomputable def reg55_0 := rk Try.f55.body 0
noncomputable def reg55_1 := rk Try.f55.body 1
noncomputable def reg55_2 := rk Try.f55.body 2
theorem z55 : reg55_0.size = 1 /\ reg55_1.size = 6 /\ reg55_2.size = 7 := by and_intros <;> kernel_rfl
theorem code55_is : Try.f55.body = some (.seq (.region 0 reg55_0 false) (.seq (.region 1 reg55_1 false) (.seq (.region 2 reg55_2 false) (.ret)))) := by kernel_rfl
def cL (C : Nat -> Int) (m : Nat) : List Int := (List.range m).map C
theorem cL_get (C : Nat -> Int) (m j : Nat) (x : Int) (h : (cL C m)[j]? = some x) : j < m /\ x = C j := by
 have hj := (List.getElem?_eq_some_iff.1 h).1
 simp [cL] at hj
 refine ⟨hj, ?_⟩
 simp [cL, hj] at h
 exact h.symm
section
variable {a0 M cg cc tb tc n m : Nat} {ta : Option Addr} {S : Sq} {T : Nat -> R8} {main : Bool}
theorem state8_w (w : World) (I : M8 a0 M cg cc tb tc n m ta S T w) (hm : m <= 64) : CallW Try.prog main (fun _ => none) 55 #[.pointer (some ⟨M, 0, none⟩)] w (fun v w' => ∃ sa sc, v = .slice sa (1 + m) sc /\ w'.ownsRow w.heap.size 2 1 (.slice sa (1 + m) sc) (1 + m) (Bp (S.v :: cL S.w m)) /\ Chg (fun _ => False) w w') := by
 intro c cs
 have c0 : w.cell? ⟨M, 0, none⟩ = some (.int .i64 S.v) := I.cV
 have hi2 := Option.some_get (show (Try.prog.info? 2).isSome = true by kernel_rfl)
 rw [enter_at _ Try.func55 code55_is]
 simp only [Try.ntmps55, ez, Nat.reduceAdd, Nat.reduceSub]
 refine Aa z55 ?_
 (refine Walk.oa ?_; try walk_nrm)
 have s0 : (w.alloc (.cells #[.int .i64 S.v] 2)).heap.size = w.heap.size + 1 := by simp
 have o0 : ∀ b, b < w.heap.size -> (w.alloc (.cells #[.int .i64 S.v] 2)).heap[b]? = w.heap[b]? := fun b hb => Ab _ _ hb
 have d0 : NumB (w.alloc (.cells #[.int .i64 S.v] 2)) w.heap.size [S.v] := heap_alloc_new w (.cells #[.int .i64 S.v] 2)
 have I0 := I.same o0
 generalize hE : w.heap.size = E at *
 generalize w.alloc (.cells #[.int .i64 S.v] 2) = w0 at *
 have c1 : w0.cell? ⟨M, 1, none⟩ = some (.slice (some ⟨cg, 0, none⟩) m cc) := I0.cC
 have hnews : ∀ (j : Nat) (u : Value), (Bp (cL S.w m))[j]? = some u -> w0.cell? ((⟨cg, 0, none⟩ : Addr).add j) = some u := fun j u hu => by
  rw [Bj, Nat.zero_add]
  simp only [Bp, List.getElem?_map, Option.map_eq_some_iff] at hu
  obtain ⟨x, hx, rfl⟩ := hu
  obtain ⟨hj, rfl⟩ := cL_get S.w m j x hx
  exact I0.ccell hj
 have hrow := d0.row (base := E) (Nat.le_refl _) (by show 1 <= maxLen; decide)
 clear I I0 c0
 try walk_nrm
 refine Aa z55 ?_
 refine Walk.appendAny (.tmp 9) (.tmp 13) 22 Ao (by rfl) (by decide) rfl E 2 _ (.int .i64 0) 1 8 Ff hi2.symm (by rfl) (by rfl) (by rfl) (by rfl) (by decide) (.slice (some ⟨E, 0, none⟩) 1 1) 1 [.int .i64 S.v] rfl hrow ⟨cg, 0, none⟩ m cc (Bp (cL S.w m)) rfl (by simp [Bp, cL]) hnews (by simp [Bp, Value.oneCell']) (by simp [maxLen]; omega) (by omega) (by omega) (fun g hg => Oi g) (fun v' w' hown hg hat => ?_)
 obtain ⟨sa, sc, rfl⟩ : ∃ sa sc, v' = .slice sa (1 + m) sc := by
  rcases hown.2 with ⟨e, h0⟩ | ⟨g, cap, cur, e, _⟩
  ·omega
  ·exact ⟨_, _, e⟩
 have hC : Chg (fun _ => False) w w' := ⟨by have := hg.size; omega, fun b hb _ => (hg.block b (by omega) (fun e => by
  have e : E = b := (Option.some.inj e).symm
  omega)).trans (o0 b (by omega))⟩
 walk_nrm
 refine Aa z55 ?_
 exact Bh rfl rfl Try.func55 rfl (.stop fun d => ⟨_, ⟨sa, sc, rfl, hown, hC.at d⟩, rfl⟩)
end
end
section
theorem setRow_alloc' (w : World) (cs old : Array Value) (t : TypeId) : (w.alloc (.cells old t)).setRow w.heap.size cs = w.alloc (.cells cs t) := by
 simp only [World.setRow, World.alloc]
 congr 1
 apply Array.ext
 ·simp
 ·intro i h1 h2
  rw [Array.getElem_modify]
  by_cases e : w.heap.size = i
  ·subst e; simp
  ·rw [if_neg e, Array.getElem_push, Array.getElem_push]
   simp only [Array.size_push] at h2
   have : i < w.heap.size := by omega
   simp [this]
def Ib (hv : Nat -> Value) (n : Nat) : List Value := (List.range n).map hv
theorem hdRow_snoc (hv : Nat -> Value) (n : Nat) : Ib hv (n + 1) = Ib hv n ++ [hv n] := by simp [Ib, List.range_succ]
section
variable {main : Bool}
theorem last_in (M R n m : Nat) (oa : Option Addr) (on oc : Nat) (lf : Bool) (l : List Int) (u : Nat -> Value) (cs : List Frame) (w : World) (hl : Bn Try.prog main (fun _ => none) 54 #[.pointer (some ⟨M, 0, none⟩)] w (.bool lf) w)
  (hs : CallW Try.prog main (fun _ => none) 55 #[.pointer (some ⟨M, 0, none⟩)] w (fun v w' => ∃ sa sc, v = .slice sa m sc /\ w'.ownsRow w.heap.size 2 1 (.slice sa m sc) m (Bp l) /\ Chg (fun _ => False) w w')) :
  Walk Try.prog main (DR (fun _ => none)) (fun g w' => ∃ sa sc Q, (∃ u, g = G (hdRun4 M R n Q 0 u) cs) /\ w.heap.size <= Q /\ w'.heap[Q]? = some (.cells (Mm (.slice none 0 0) (.slice oa on oc) (.slice sa m sc) lf) 31) /\ Chg (fun _ => False) w w' /\ w'.ownsRow w.heap.size 2 1 (.slice sa m sc) m (Bp l) /\ w'.heap.size = Q + 1 /\ ∀ b, (Value.slice sa m sc).ownBlock = some b -> b < Q) (G (hdRunE M R n (.slice oa on oc) u) cs) w := by
 conv => arg 5; unfold hdRunE
 refine Aa z37 ?_
 refine Walk.callV (x := .bool lf) (W := w) ?_ Ao (by rfl) (by decide) rfl Try.func54 (by kernel_rfl) (by rfl) ?_
 ·walk_nrm
  exact hl
 walk_nrm
 repeat (first | (refine Walk.oq ?_; try walk_nrm) | (refine Ax ?_; walk_nrm))
 refine Ah (Post := fun v w' => ∃ sa sc, v = .slice sa m sc /\ w'.ownsRow w.heap.size 2 1 (.slice sa m sc) m (Bp l) /\ Chg (fun _ => False) w w') ?_ Ao (by rfl) (by decide) rfl Try.func55 (by kernel_rfl) (by rfl) ?_
 ·walk_nrm
  exact hs
 rintro v w1 ⟨sa, sc, rfl, hrow, hC⟩
 walk_nrm
 repeat (first | (refine Walk.oq ?_; try walk_nrm) | (refine Ax ?_; walk_nrm))
 (refine Walk.oa ?_; try walk_nrm)
 have hC1 := hC.size
 have hst : (w1.alloc Fq).setRow w1.heap.size (Mm (.slice none 0 0) (.slice oa on oc) (.slice sa m sc) lf) = w1.alloc (.cells (Mm (.slice none 0 0) (.slice oa on oc) (.slice sa m sc) lf) 31) := setRow_alloc' _ _ _ _
 refine Ap 31 (.tmp 16) (.tmp 142) Ao (by rfl) (by decide) rfl w1.heap.size (Mm (.slice none 0 0) (.slice oa on oc) (.slice sa m sc) lf) #[.slice none 0 0, .slice none 0 0, .slice none 0 0, .bool false] 31 rfl rfl (heap_alloc_new _ _) (by kernel_rfl) rfl (by simp [Mm, Value.oneCell']) (Oi _) ?_
 have e1 : w1.alloc (.cells #[.slice none 0 0, .slice none 0 0, .slice none 0 0, .bool false] 31) = w1.alloc Fq := rfl
 try rw [e1]
 rw [hst]
 have d2 := heap_alloc_new w1 (.cells (Mm (.slice none 0 0) (.slice oa on oc) (.slice sa m sc) lf) 31)
 have o2 : ∀ x, x < w1.heap.size -> (w1.alloc (.cells (Mm (.slice none 0 0) (.slice oa on oc) (.slice sa m sc) lf) 31)).heap[x]? = w1.heap[x]? := fun x hx => Ab _ _ hx
 have s2 : (w1.alloc (.cells (Mm (.slice none 0 0) (.slice oa on oc) (.slice sa m sc) lf) 31)).heap.size = w1.heap.size + 1 := by simp
 clear hst e1
 have hrow2 := Aw hrow (w' := w1.alloc (.cells (Mm (.slice none 0 0) (.slice oa on oc) (.slice sa m sc) lf) 31)) fun g hg => o2 g (hrow.lt g hg).2
 have hlt : ∀ b, (Value.slice sa m sc).ownBlock = some b -> b < w1.heap.size := fun b hb => (hrow.lt b hb).2
 generalize w1.alloc (.cells (Mm (.slice none 0 0) (.slice oa on oc) (.slice sa m sc) lf) 31) = w2 at *
 generalize hQ : w1.heap.size = Q at *
 try walk_nrm
 refine Aa z37 ?_
 refine Walk.ctl rfl (fun w => stepG_loop) ?_
 refine .stop fun d => ⟨sa, sc, Q, Am ?_, hC1, d2, ⟨by show w.heap.size <= w2.heap.size; omega, fun x hx hn => (o2 x (by omega)).trans (hC.same x hx hn)⟩, hrow2, s2, hlt⟩
 simp only [hdRun4]
 rfl
theorem last_go (M R n Q i tb tc : Nat) (b c : Value) (k : Bool) (ha : Option Addr) (hc : Nat) (aa : Option Addr) (al ac : Nat) (hv : Nat -> Value) (u : Nat -> Value) (cs : List Frame) (a1 : Nat) (w : World) (ho : w.heap[Q]? = some (.cells (Mm (.slice ha i hc) b c k) 31)) (hrow : w.ownsRow a1 42 1 (.slice ha i hc) i (Ib hv i)) (hi : i < n) (hn : n <= 64) (hvi : hv i = .slice aa al ac)
  (hQ : Q < a1) (ha1 : a1 <= w.heap.size) (hl : w.cell? ⟨M, 2, none⟩ = some (.slice (some ⟨tb, 0, none⟩) n tc)) (hq : w.cell? ⟨tb, i * 8 + 1, none⟩ = some (.slice aa al ac)) (hM : M < a1) (htb : tb < a1) :
  Walk Try.prog main (DR (fun _ => none)) (fun g' w' => ∃ g cap, (∃ u', g' = G (hdRun4 M R n Q (i + 1) u') cs) /\ w'.heap[Q]? = some (.cells (Mm (.slice (some ⟨g, 0, none⟩) (i + 1) cap) b c k) 31) /\ w'.ownsRow a1 42 1 (.slice (some ⟨g, 0, none⟩) (i + 1) cap) (i + 1) (Ib hv (i + 1)) /\ Chg (fun x => x = Q ∨ a1 <= x) w w')
   (G (hdRun4 M R n Q i u) cs) w := by
 have hi0 : (0 : Int) <= i := by omega
 have hi1 : decide ((i : Int) < n) = true := by simp; omega
 have hi3 : decide (i < n) = true := by simp; omega
 have hi4 : (i : Int) < n := by omega
 have hw1 : IntKind.wrap .i64 ((i : Int) + 1) = (i : Int) + 1 := by rw [IntKind.wrap_i64]; omega
 have h0 : w.cell? ⟨Q, 0, none⟩ = some (.slice ha i hc) := (Ad ho 0).trans rfl
 have hlo : Q < w.heap.size := by omega
 have hsz1 : w.heap.size + 1 <= (w.alloc (.cells #[.slice aa al ac] 42)).heap.size /\ (w.alloc (.cells #[.slice aa al ac] 42)).heap.size <= w.heap.size + 1 := by simp
 have hrow' : (w.alloc (.cells #[.slice aa al ac] 42)).ownsRow a1 42 1 (.slice ha i hc) i (Ib hv i) := Aw hrow fun g hg => Ab _ _ (hrow.lt g hg).2
 have hnews : ∀ (j : Nat) (x : Value), ([.slice aa al ac] : List Value)[j]? = some x -> (w.alloc (.cells #[.slice aa al ac] 42)).cell? ((⟨w.heap.size, 0, none⟩ : Addr).add j) = some x := fun j x hx => by
  rw [Bj, Nat.zero_add]
  refine (Ad (heap_alloc_new _ _) j).trans ?_
  simpa using hx
 have hne : ∀ x, x < a1 -> (Value.slice ha i hc).ownBlock ≠ some x := fun x hx e => by have := (hrow.lt x e).1; omega
 have hfar : ∀ (x : Nat) (w2 : World), x < w.heap.size -> (Value.slice ha i hc).ownBlock ≠ some x -> (w.alloc (.cells #[.slice aa al ac] 42)).grownBy w2 (Value.slice ha i hc).ownBlock -> w2.heap[x]? = w.heap[x]? := fun x w2 hx hn hg => (hg.block x (by omega) (fun e => hn e.symm)).trans (Ab _ _ hx)
 conv => arg 5; unfold hdRun4
 refine Aa z37 ?_
 refine Fe (iA := 10) (iB := 11) (w1 := w.alloc (.cells #[.slice aa al ac] 42)) (vA := .slice (some ⟨w.heap.size, 0, none⟩) 1 1) (Z := fun x => x.cell? ⟨Q, 0, none⟩ = some (.slice ha i hc) /\ x.cell? ⟨M, 2, none⟩ = some (.slice (some ⟨tb, 0, none⟩) n tc) /\ x.cell? ⟨tb, i * 8 + 1, none⟩ = some (.slice aa al ac))
  (fun v w2 => ∃ g cap, v = .slice (some ⟨g, 0, none⟩) (i + 1) cap /\ w2.ownsRow a1 42 1 (.slice (some ⟨g, 0, none⟩) (i + 1) cap) (i + 1) (Ib hv i ++ [.slice aa al ac]) /\ (w.alloc (.cells #[.slice aa al ac] 42)).grownBy w2 (Value.slice ha i hc).ownBlock /\ ((Value.slice ha i hc).ownBlock = some g ∨ g = (w.alloc (.cells #[.slice aa al ac] 42)).heap.size)) (by kernel_rfl) size37_37 (by kernel_rfl) (by kernel_rfl) (by kernel_rfl) (by kernel_rfl) (by decide) Ao Ao ⟨h0, hl, hq⟩ ⟨Ag _ _ h0, Ag _ _ hl, Ag _ _ hq⟩ ?_ ?_
 ·rintro v w2 ⟨g, cap, _, _, hg, _⟩
  exact ⟨(World.cell?_of_block (a := ⟨Q, 0, none⟩) (hfar Q w2 hlo (hne Q hQ) hg)).trans h0, (World.cell?_of_block (a := ⟨M, 2, none⟩) (hfar M w2 (by omega) (hne M hM) hg)).trans hl, (World.cell?_of_block (a := ⟨tb, i * 8 + 1, none⟩) (hfar tb w2 (by omega) (hne tb htb) hg)).trans hq⟩
 rw [show List.filter (Cg 10 11) (List.range 13) = [0, 1, 2, 3, 4, 5, 6, 7, 8, 9, 12] from by decide]
 repeat (first | (refine Ix Ao (by rfl) (fun wz hz dd e he => ?_) ?_; (· (obtain ⟨z1, z2, z3⟩ := hz; simp [go_sem, *] at he; try (subst he; exact Cc _ _))); apply Exists.intro; apply And.intro; (· (intro wz hz dd K hK; obtain ⟨z1, z2, z3⟩ := hz; go_simp; exact hK))) | (refine Bm Ao (by rfl) ?_; walk_nrm))
 refine Cm.done ⟨?_, ?_, ?_⟩
 ·intro x hev rest hr'
  have e0 : x.eval (.tmp 157) = .slice aa al ac := (hev (.tmp 157) (by simp [Op.operands])).trans rfl
  have e1 : x.tmps[157]?.getD undef = .slice aa al ac := by
   rw [<- Array.getD_eq_getD_getElem?]
   exact e0
  clear e0 hev
  (refine Walk.oa ?_; try walk_nrm)
  exact hr' _ _ ⟨rfl, _, rfl⟩
 ·intro x hev rest hr'
  have e1 : x.eval (.tmp 149) = .slice ha i hc := (hev (.tmp 149) (by simp [Op.operands, Call.operands])).trans rfl
  have e2 : x.eval (.tmp 158) = .slice (some ⟨w.heap.size, 0, none⟩) 1 1 := (hev (.tmp 158) (by simp [Op.operands, Call.operands])).trans rfl
  have hiA := Option.some_get (show (Try.prog.info? 42).isSome = true by kernel_rfl)
  refine Walk.append (.tmp 149) (.tmp 158) 29 Ao (by rfl) (by decide) rfl a1 42 _ (.slice none 0 0) 1 24 (by kernel_rfl) hiA.symm (by rfl) (by rfl) (by rfl) (by rfl) (by decide) (.slice ha i hc) i (Ib hv i) e1 hrow' ⟨w.heap.size, 0, none⟩ 1 1 [.slice aa al ac] e2 (by rfl) hnews (by simp [Value.oneCell']) (by decide) (by simp [maxLen]; omega) (by omega) (by omega) (fun g _ => Oi g) (fun g cap w3 hown hg hat hlt => ?_)
  exact hr' _ _ ⟨_, w3, ⟨g, cap, rfl, hown, hg, hat⟩, rfl, w3.drawn, rfl⟩
 rintro v w2 ⟨g, cap, rfl, hown, hg, hat⟩ rest hr'
 have hb := hfar Q w2 hlo (hne Q hQ) hg
 have h0' : w2.cell? ⟨Q, 0, none⟩ = some (.slice ha i hc) := (World.cell?_of_block (a := ⟨Q, 0, none⟩) hb).trans h0
 have hz0 : w2.frozen? ⟨Q, 0, none⟩ = false := An (hb.trans ho) 0
 have hgs := hg.size
 have hga : a1 <= g := (hown.lt g rfl).1
 (have hfr := Jr Q 0; refine Walk.os hfr h0' ?_; clear hfr; try walk_nrm)
 refine hr' _ _ ?_
 have hbo : (w2.setCell ⟨Q, 0, none⟩ (.slice (some ⟨g, 0, none⟩) (i + 1) cap)).heap[Q]? = some (.cells (Mm (.slice (some ⟨g, 0, none⟩) (i + 1) cap) b c k) 31) := by
  rw [Ak _ _ (hb.trans ho)]
  simp [Mm]
 have hown2 : (w2.setCell ⟨Q, 0, none⟩ (.slice (some ⟨g, 0, none⟩) (i + 1) cap)).ownsRow a1 42 1 (.slice (some ⟨g, 0, none⟩) (i + 1) cap) (i + 1) (Ib hv (i + 1)) := by
  rw [hdRow_snoc, hvi]
  exact Aw hown fun x hx => Ac _ _ _ _ (by
   simp only [Value.ownBlock, Option.some.injEq] at hx
   show x ≠ Q
   omega)
 have hC : Chg (fun x => x = Q ∨ a1 <= x) w (w2.setCell ⟨Q, 0, none⟩ (.slice (some ⟨g, 0, none⟩) (i + 1) cap)) := by
  refine ⟨by rw [Ai]; omega, fun x hx hn => ?_⟩
  rw [Ac _ _ _ _ (fun e => hn (.inl e))]
  exact hfar x w2 hx (hne x (by omega)) hg
 clear h0' hz0 hb hown hg hat hfar hnews hrow' hrow hl hq h0 ho
 generalize w2.setCell ⟨Q, 0, none⟩ (.slice (some ⟨g, 0, none⟩) (i + 1) cap) = w3 at *
 try walk_nrm
 refine Aa z37 ?_
 refine Walk.ctl rfl (fun w => stepG_inLoop) ?_
 refine .stop fun d => ⟨g, cap, Am ?_, hbo, hown2, hC.at d⟩
 have hc : ((i + 1 : Nat) : Int) = (i : Int) + 1 := by simp
 simp only [hdRun4, hc]
 rfl
theorem last_out (M R n Q : Nat) (x0 x1 x2 x3 : Value) (u : Nat -> Value) (c : Frame) (cs : List Frame) (w : World) (ho : w.heap[Q]? = some (.cells #[x0, x1, x2, x3] 31)) (hr : w.heap[R]? = some Fq) (h1 : (#[x0, x1, x2, x3] : Array Value).all (·.oneCell') = true) :
  Walk Try.prog main (DR (fun _ => none)) (fun g w' => g = G (c.finish (.agg #[x0, x1, x2, x3])) cs /\ Chg (fun x => x = R) w w') (G (hdRun4 M R n Q n u) (c :: cs)) w := by
 have hj1 : decide ((n : Int) < n) = false := by simp
 have hj3 : decide (n < n) = false := by simp
 obtain ⟨fsT, huT⟩ := Cf 31 (by kernel_rfl)
 have hc : ∀ (j : Nat) (v : Value), [x0, x1, x2, x3][j]? = some v -> w.cell? ⟨Q, 0 + j, none⟩ = some v := fun j v hv => by
  rw [Nat.zero_add]
  refine (Ad ho j).trans ?_
  simpa using hv
 have hT := setRow_self (cells := #[x0, x1, x2, x3]) hr
 have hC : Chg (fun x => x = R) w (w.setRow R #[x0, x1, x2, x3]) := ⟨by rw [Az]; exact Nat.le_refl _, fun x hx hn => Aq _ _ hn⟩
 conv => arg 5; unfold hdRun4
 refine Aa z37 ?_
 refine Walk.loadS 31 (.tmp 16) Ao (by rfl) (by decide) rfl Q 0 [x0, x1, x2, x3] (.struct fsT) rfl hc huT rfl (by kernel_rfl) ?_
 walk_nrm
 refine Ap 31 (.tmp 8) (.tmp 161) Ao (by rfl) (by decide) rfl R #[x0, x1, x2, x3] #[.slice none 0 0, .slice none 0 0, .slice none 0 0, .bool false] 31 rfl rfl hr (by kernel_rfl) rfl h1 (Oi _) ?_
 clear hc ho hr
 generalize w.setRow R #[x0, x1, x2, x3] = w2 at *
 try walk_nrm
 refine Aa z37 ?_
 exact Ec (T := R) rfl rfl rfl Try.func37 rfl (by rfl) hT (by kernel_rfl) (by kernel_rfl) (.stop fun d => ⟨rfl, hC.at d⟩)
end
end
end Go.Proofs.Ytjenoiekfkhafaa
