/- Part 27. -/
import Derived.Test.YtflcclneedldoaaJ15
import Derived.Test.YtflcclneedldoaaJ17
import Derived.Test.YtflcclneedldoaaJ18
import Derived.Test.YtflcclneedldoaaJ21
import Derived.Test.YtflcclneedldoaaJ26
set_option linter.unusedSimpArgs false
set_option linter.unusedVariables false
set_option maxHeartbeats 8000000
set_option maxRecDepth 100000
namespace Go.Proofs.Ytflcclneedldoaa
open Go.Conc Go.RowKit Go.Relay Try
open Go.ConcN (upd upd_ne upd_same)
noncomputable def reg119_0 := rk f119.body 0
noncomputable def reg119_1 := rk f119.body 1
noncomputable def reg119_2 := rk f119.body 2
noncomputable def reg119_3 := rk f119.body 3
theorem z119 : reg119_0.size = 1 /\ reg119_1.size = 1 /\ reg119_2.size = 7 /\ reg119_3.size = 7 := by and_intros <;> kernel_rfl
theorem code119_is : f119.body = some (.seq (.region 0 reg119_0 false) (.seq (.region 1 reg119_1 false) (.seq (.region 2 reg119_2 false) (.seq (.region 3 reg119_3 false) (.ret))))) := by kernel_rfl
section
variable {a0 M tb tc n m : Nat} {cb : CB} {ta : Option Addr} {S : Rg} {T : Nat -> R11} {main : Bool}
theorem rgRow_get (f : Nat -> Int) (m j : Nat) (x : Value) (h : (Bg ((List.range m).map f))[j]? = some x) : j < m /\ x = .int .i64 (f j) := by
 simp only [Bg, List.getElem?_map, Option.map_eq_some_iff] at h
 obtain ⟨y, ⟨z, hz, rfl⟩, rfl⟩ := h
 have hj := (lEs hz).1
 simp at hj
 have : z = j := by simpa [hj] using hz.symm
 exact ⟨hj, by rw [this]⟩
theorem state11_w (w : World) (I : M11 a0 M cb tb tc n m ta S T w) (hm : m <= 65536) (hz : m = 0 -> cb.sc = 0 /\ cb.vc = 0) : CallW prog main (fun _ => none) 119 #[.pointer (some ⟨M, 0, none⟩)] w (fun v w' => ∃ sa sc, v = .slice sa (m + m) sc /\ w'.ownsRow w.heap.size 2 1 (.slice sa (m + m) sc) (m + m) (Bg (It m S)) /\ Chg (fun _ => False) w w') := by
 intro kf cs
 have c1 : w.cell? ⟨M, 1, none⟩ = some (.slice (cb.sa m) m cb.sc) := (Ab I.hd 1).trans rfl
 have c2 : w.cell? ⟨M, 2, none⟩ = some (.slice (cb.va m) m cb.vc) := (Ab I.hd 2).trans rfl
 have hi2 := Option.some_get (show (prog.info? 2).isSome = true by kernel_rfl)
 have hl := I.lt
 have n1 : ∀ ad, cb.sa m = some ad -> ∀ (j : Nat) (u : Value), (Bg ((List.range m).map S.st))[j]? = some u -> w.cell? (ad.add j) = some u := fun ad had j u hu => by
  obtain ⟨hj, rfl⟩ := rgRow_get S.st m j u hu
  unfold CB.sa at had
  rw [if_pos (by omega)] at had
  cases had
  rw [Bs, Nat.zero_add]
  exact I.scell hj
 have n2 : ∀ w' : World, (∀ b, b < w.heap.size -> w'.heap[b]? = w.heap[b]?) -> ∀ ad, cb.va m = some ad -> ∀ (j : Nat) (u : Value), (Bg ((List.range m).map S.va))[j]? = some u -> w'.cell? (ad.add j) = some u := fun w' ho ad had j u hu => by
  obtain ⟨hj, rfl⟩ := rgRow_get S.va m j u hu
  unfold CB.va at had
  rw [if_pos (by omega)] at had
  cases had
  rw [Bs, Nat.zero_add]
  exact (cBk (a := ⟨cb.vg, j, none⟩) (ho _ (hl.2.1 _ ⟨by omega, .inr rfl⟩))).trans (I.vcell hj)
 have k1 : cb.sa m = none -> m = 0 /\ cb.sc = 0 := fun h => by
  by_cases h0 : m = 0
  ·exact ⟨h0, (hz h0).1⟩
  ·unfold CB.sa at h; rw [if_pos (by omega)] at h; cases h
 have k2 : cb.va m = none -> m = 0 /\ cb.vc = 0 := fun h => by
  by_cases h0 : m = 0
  ·exact ⟨h0, (hz h0).2⟩
  ·unfold CB.va at h; rw [if_pos (by omega)] at h; cases h
 have hMl := hl.1
 generalize hE : w.heap.size = E at *
 clear I hl
 generalize cb.sa m = sa0 at *
 generalize cb.va m = va0 at *
 rw [enter_at _ func119 code119_is]
 simp only [ntmps119, ez, Nat.reduceAdd, Nat.reduceSub]
 refine Aa z119 ?_
 refine Jh (.tmp 4) (.tmp 8) 31 Ah (by rfl) (by decide) rfl E 2 _ (.int .i64 0) 1 8 Ig hi2.symm (by rfl) (by rfl) (by rfl) (by rfl) (by decide) (.slice none 0 0) 0 [] rfl ⟨rfl, .inl ⟨rfl, rfl⟩⟩ sa0 m cb.sc (Bg ((List.range m).map S.st)) rfl k1 (by simp [Bg]) n1 (by simp [Bg, Value.oneCell']) (by simp [maxLen]; omega) (by omega) (by omega) (fun g hg => Ov g) (fun v1 w1 r1 hg1 hat1 => ?_)
 have o1 : ∀ b, b < E -> w1.heap[b]? = w.heap[b]? := fun b hb => hg1.block b (by omega) (fun e => by cases e)
 have s1 := hg1.size
 rw [Nat.zero_add, List.nil_append] at r1
 obtain ⟨a1, p1, rfl⟩ := Iv r1
 have c2' : w1.cell? ⟨M, 2, none⟩ = some (.slice va0 m cb.vc) := (cBk (a := ⟨M, 2, none⟩) (o1 M hMl)).trans c2
 have hn2 := n2 w1 o1
 clear n1 n2 c1 c2
 walk_nrm
 refine Aa z119 ?_
 refine Jh (.tmp 10) (.tmp 14) 31 Ah (by rfl) (by decide) rfl E 2 _ (.int .i64 0) 1 8 Ig hi2.symm (by rfl) (by rfl) (by rfl) (by rfl) (by decide) (.slice a1 m p1) m (Bg ((List.range m).map S.st)) rfl r1 va0 m cb.vc (Bg ((List.range m).map S.va)) rfl k2 (by simp [Bg]) hn2 (by simp [Bg, Value.oneCell']) (by simp [maxLen]; omega) (by omega) (by omega) (fun g hg => Ov g) (fun v2 w2 r2 hg2 hat2 => ?_)
 have hr1 := fun g hg => (r1.lt g hg).1
 obtain ⟨a2, p2, rfl⟩ := Iv r2
 have s2 := hg2.size
 have hC : Chg (fun _ => False) w w2 := ⟨by omega, fun b hb _ => (hg2.block b (by omega) (fun e => by have := hr1 b e.symm; omega)).trans (o1 b (by omega))⟩
 rw [show Bg ((List.range m).map S.st) ++ Bg ((List.range m).map S.va) = Bg (It m S) from by simp [Bg, It]] at r2
 clear hn2 c2' r1
 walk_nrm
 refine Aa z119 ?_
 exact Bk rfl rfl func119 rfl (.stop fun d => ⟨_, ⟨a2, p2, rfl, r2, hC.at d⟩, rfl⟩)
end
theorem setRow_alloc' (w : World) (cs old : Array Value) (t : TypeId) : (w.alloc (.cells old t)).setRow w.heap.size cs = w.alloc (.cells cs t) := by
 simp only [World.setRow, World.alloc]
 congr 1
 apply Array.ext
 ·simp
 ·intro i h1 h2
  rw [Array.getElem_modify]
  by_cases e : w.heap.size = i
  ·subst e; simp
  ·rw [if_neg e, Array.getElem_push, Array.getElem_push]
   simp only [Array.size_push] at h2
   have : i < w.heap.size := by omega
   simp [this]
def Ih (hv : Nat -> Value) (n : Nat) : List Value := (List.range n).map hv
theorem hdRow_snoc (hv : Nat -> Value) (n : Nat) : Ih hv (n + 1) = Ih hv n ++ [hv n] := by simp [Ih, List.range_succ]
section
variable {main : Bool}
theorem last_in (M R n m : Nat) (oa : Option Addr) (on oc : Nat) (lf : Bool) (l : List Int) (u : Nat -> Value) (cs : List Frame) (w : World) (hl : Aw prog main (fun _ => none) 118 #[.pointer (some ⟨M, 0, none⟩)] w (.bool lf) w)
  (hs : CallW prog main (fun _ => none) 119 #[.pointer (some ⟨M, 0, none⟩)] w (fun v w' => ∃ sa sc, v = .slice sa m sc /\ w'.ownsRow w.heap.size 2 1 (.slice sa m sc) m (Bg l) /\ Chg (fun _ => False) w w')) :
  Walk prog main (DR (fun _ => none)) (fun g w' => ∃ sa sc Q, (∃ u, g = G (hdRun4 M R n Q 0 u) cs) /\ w.heap.size <= Q /\ w'.heap[Q]? = some (.cells (Pc (.slice none 0 0) (.slice oa on oc) (.slice sa m sc) lf) 33) /\ Chg (fun _ => False) w w' /\ w'.ownsRow w.heap.size 2 1 (.slice sa m sc) m (Bg l) /\ w'.heap.size = Q + 1 /\ ∀ b, (Value.slice sa m sc).ownBlock = some b -> b < Q) (G (hdRunE M R n (.slice oa on oc) u) cs) w := by
 conv => arg 5; unfold hdRunE
 refine Aa z59 ?_
 refine qV (x := .bool lf) (W := w) func118 ?_ ?_
 ·walk_nrm
  exact hl
 walk_nrm
 repeat (first | (refine Wq ?_; try walk_nrm) | (refine Bh ?_; walk_nrm))
 refine qW (Post := fun v w' => ∃ sa sc, v = .slice sa m sc /\ w'.ownsRow w.heap.size 2 1 (.slice sa m sc) m (Bg l) /\ Chg (fun _ => False) w w') func119 ?_ ?_
 ·walk_nrm
  exact hs
 rintro v w1 ⟨sa, sc, rfl, hrow, hC⟩
 walk_nrm
 repeat (first | (refine Wq ?_; try walk_nrm) | (refine Bh ?_; walk_nrm))
 (refine Wa ?_; try walk_nrm)
 have hC1 := hC.size
 have hst : (w1.alloc Fl).setRow w1.heap.size (Pc (.slice none 0 0) (.slice oa on oc) (.slice sa m sc) lf) = w1.alloc (.cells (Pc (.slice none 0 0) (.slice oa on oc) (.slice sa m sc) lf) 33) := setRow_alloc' _ _ _ _
 refine Am 33 (.tmp 16) (.tmp 142) Ah (by rfl) (by decide) rfl w1.heap.size (Pc (.slice none 0 0) (.slice oa on oc) (.slice sa m sc) lf) #[.slice none 0 0, .slice none 0 0, .slice none 0 0, .bool false] 33 rfl rfl (hAw _ _) (by kernel_rfl) rfl (by simp [Pc, Value.oneCell']) (Ov _) ?_
 have e1 : w1.alloc (.cells #[.slice none 0 0, .slice none 0 0, .slice none 0 0, .bool false] 33) = w1.alloc Fl := rfl
 try rw [e1]
 rw [hst]
 have d2 := hAw w1 (.cells (Pc (.slice none 0 0) (.slice oa on oc) (.slice sa m sc) lf) 33)
 have o2 : ∀ x, x < w1.heap.size -> (w1.alloc (.cells (Pc (.slice none 0 0) (.slice oa on oc) (.slice sa m sc) lf) 33)).heap[x]? = w1.heap[x]? := fun x hx => Ad _ _ hx
 have s2 : (w1.alloc (.cells (Pc (.slice none 0 0) (.slice oa on oc) (.slice sa m sc) lf) 33)).heap.size = w1.heap.size + 1 := by simp
 clear hst e1
 have hrow2 := As hrow (w' := w1.alloc (.cells (Pc (.slice none 0 0) (.slice oa on oc) (.slice sa m sc) lf) 33)) fun g hg => o2 g (hrow.lt g hg).2
 have hlt : ∀ b, (Value.slice sa m sc).ownBlock = some b -> b < w1.heap.size := fun b hb => (hrow.lt b hb).2
 generalize w1.alloc (.cells (Pc (.slice none 0 0) (.slice oa on oc) (.slice sa m sc) lf) 33) = w2 at *
 generalize hQ : w1.heap.size = Q at *
 try walk_nrm
 refine Aa z59 ?_
 refine cLp ?_
 refine .stop fun d => ⟨sa, sc, Q, Ak ?_, hC1, d2, ⟨by show w.heap.size <= w2.heap.size; omega, fun x hx hn => (o2 x (by omega)).trans (hC.same x hx hn)⟩, hrow2, s2, hlt⟩
 simp only [hdRun4]
 rfl
theorem last_go (M R n Q i tb tc : Nat) (b c : Value) (k : Bool) (ha : Option Addr) (hc : Nat) (aa : Option Addr) (al ac : Nat) (hv : Nat -> Value) (u : Nat -> Value) (cs : List Frame) (a1 : Nat) (w : World) (ho : w.heap[Q]? = some (.cells (Pc (.slice ha i hc) b c k) 33)) (hrow : w.ownsRow a1 40 1 (.slice ha i hc) i (Ih hv i)) (hi : i < n) (hn : n <= 64) (hvi : hv i = .slice aa al ac)
  (hQ : Q < a1) (ha1 : a1 <= w.heap.size) (hl : w.cell? ⟨M, 3, none⟩ = some (.slice (some ⟨tb, 0, none⟩) n tc)) (hq : w.cell? ⟨tb, i * 9 + 1, none⟩ = some (.slice aa al ac)) (hM : M < a1) (htb : tb < a1) :
  Walk prog main (DR (fun _ => none)) (fun g' w' => ∃ g cap, (∃ u', g' = G (hdRun4 M R n Q (i + 1) u') cs) /\ w'.heap[Q]? = some (.cells (Pc (.slice (some ⟨g, 0, none⟩) (i + 1) cap) b c k) 33) /\ w'.ownsRow a1 40 1 (.slice (some ⟨g, 0, none⟩) (i + 1) cap) (i + 1) (Ih hv (i + 1)) /\ Chg (fun x => x = Q ∨ a1 <= x) w w')
   (G (hdRun4 M R n Q i u) cs) w := by
 obtain ⟨hi0, hi1, hi3, hi4⟩ := hIx i n
 have hw1 := wI ((i : Int) + 1)
 have h0 : w.cell? ⟨Q, 0, none⟩ = some (.slice ha i hc) := (Ab ho 0).trans rfl
 have hlo : Q < w.heap.size := by omega
 have hsz1 : w.heap.size + 1 <= (w.alloc (.cells #[.slice aa al ac] 40)).heap.size /\ (w.alloc (.cells #[.slice aa al ac] 40)).heap.size <= w.heap.size + 1 := by simp
 have hrow' : (w.alloc (.cells #[.slice aa al ac] 40)).ownsRow a1 40 1 (.slice ha i hc) i (Ih hv i) := As hrow fun g hg => Ad _ _ (hrow.lt g hg).2
 have hnews : ∀ (j : Nat) (x : Value), ([.slice aa al ac] : List Value)[j]? = some x -> (w.alloc (.cells #[.slice aa al ac] 40)).cell? ((⟨w.heap.size, 0, none⟩ : Addr).add j) = some x := fun j x hx => by
  rw [Bs, Nat.zero_add]
  refine (Ab (hAw _ _) j).trans ?_
  simpa using hx
 have hne : ∀ x, x < a1 -> (Value.slice ha i hc).ownBlock ≠ some x := fun x hx e => by have := (hrow.lt x e).1; omega
 have hfar : ∀ (x : Nat) (w2 : World), x < w.heap.size -> (Value.slice ha i hc).ownBlock ≠ some x -> (w.alloc (.cells #[.slice aa al ac] 40)).grownBy w2 (Value.slice ha i hc).ownBlock -> w2.heap[x]? = w.heap[x]? := fun x w2 hx hn hg => (hg.block x (by omega) (fun e => hn e.symm)).trans (Ad _ _ hx)
 conv => arg 5; unfold hdRun4
 refine Aa z59 ?_
 refine Io (iA := 10) (iB := 11) (w1 := w.alloc (.cells #[.slice aa al ac] 40)) (vA := .slice (some ⟨w.heap.size, 0, none⟩) 1 1) (Z := fun x => x.cell? ⟨Q, 0, none⟩ = some (.slice ha i hc) /\ x.cell? ⟨M, 3, none⟩ = some (.slice (some ⟨tb, 0, none⟩) n tc) /\ x.cell? ⟨tb, i * 9 + 1, none⟩ = some (.slice aa al ac))
  (fun v w2 => ∃ g cap, v = .slice (some ⟨g, 0, none⟩) (i + 1) cap /\ w2.ownsRow a1 40 1 (.slice (some ⟨g, 0, none⟩) (i + 1) cap) (i + 1) (Ih hv i ++ [.slice aa al ac]) /\ (w.alloc (.cells #[.slice aa al ac] 40)).grownBy w2 (Value.slice ha i hc).ownBlock /\ ((Value.slice ha i hc).ownBlock = some g ∨ g = (w.alloc (.cells #[.slice aa al ac] 40)).heap.size)) (by kernel_rfl) size59_37 (by kernel_rfl) (by kernel_rfl) (by kernel_rfl) (by kernel_rfl) (by decide) Ah Ah ⟨h0, hl, hq⟩ ⟨Aj _ _ h0, Aj _ _ hl, Aj _ _ hq⟩ ?_ ?_
 ·rintro v w2 ⟨g, cap, _, _, hg, _⟩
  exact ⟨(cBk (a := ⟨Q, 0, none⟩) (hfar Q w2 hlo (hne Q hQ) hg)).trans h0, (cBk (a := ⟨M, 3, none⟩) (hfar M w2 (by omega) (hne M hM) hg)).trans hl, (cBk (a := ⟨tb, i * 9 + 1, none⟩) (hfar tb w2 (by omega) (hne tb htb) hg)).trans hq⟩
 rw [show List.filter (Ck 10 11) (List.range 13) = [0, 1, 2, 3, 4, 5, 6, 7, 8, 9, 12] from by decide]
 repeat (first | (refine Nc Ah (by rfl) (fun wz hz dd e he => ?_) ?_; (· (obtain ⟨z1, z2, z3⟩ := hz; simp [go_sem, *] at he; try (subst he; exact Da _ _))); apply Exists.intro; apply And.intro; (· (intro wz hz dd K hK; obtain ⟨z1, z2, z3⟩ := hz; go_simp; exact hK))) | (refine Be Ah (by rfl) ?_; walk_nrm))
 refine cDn ⟨?_, ?_, ?_⟩
 ·intro x hev rest hr'
  have e0 : x.eval (.tmp 157) = .slice aa al ac := (hev (.tmp 157) (by simp [Op.operands])).trans rfl
  have e1 : x.tmps[157]?.getD undef = .slice aa al ac := by
   rw [<- Array.getD_eq_getD_getElem?]
   exact e0
  clear e0 hev
  (refine Wa ?_; try walk_nrm)
  exact hr' _ _ ⟨rfl, _, rfl⟩
 ·intro x hev rest hr'
  have e1 : x.eval (.tmp 149) = .slice ha i hc := (hev (.tmp 149) (by simp [Op.operands, Call.operands])).trans rfl
  have e2 : x.eval (.tmp 158) = .slice (some ⟨w.heap.size, 0, none⟩) 1 1 := (hev (.tmp 158) (by simp [Op.operands, Call.operands])).trans rfl
  have hiA := Option.some_get (show (prog.info? 40).isSome = true by kernel_rfl)
  refine Walk.append (.tmp 149) (.tmp 158) 29 Ah (by rfl) (by decide) rfl a1 40 _ (.slice none 0 0) 1 24 (by kernel_rfl) hiA.symm (by rfl) (by rfl) (by rfl) (by rfl) (by decide) (.slice ha i hc) i (Ih hv i) e1 hrow' ⟨w.heap.size, 0, none⟩ 1 1 [.slice aa al ac] e2 (by rfl) hnews (by simp [Value.oneCell']) (by decide) (by simp [maxLen]; omega) (by omega) (by omega) (fun g _ => Ov g) (fun g cap w3 hown hg hat hlt => ?_)
  exact hr' _ _ ⟨_, w3, ⟨g, cap, rfl, hown, hg, hat⟩, rfl, w3.drawn, rfl⟩
 rintro v w2 ⟨g, cap, rfl, hown, hg, hat⟩ rest hr'
 have hb := hfar Q w2 hlo (hne Q hQ) hg
 have h0' : w2.cell? ⟨Q, 0, none⟩ = some (.slice ha i hc) := (cBk (a := ⟨Q, 0, none⟩) hb).trans h0
 have hz0 : w2.frozen? ⟨Q, 0, none⟩ = false := Av (hb.trans ho) 0
 have hgs := hg.size
 have hga : a1 <= g := (hown.lt g rfl).1
 (have hfr := Ju Q 0; refine Ws hfr h0' ?_; clear hfr; try walk_nrm)
 refine hr' _ _ ?_
 have hbo : (w2.setCell ⟨Q, 0, none⟩ (.slice (some ⟨g, 0, none⟩) (i + 1) cap)).heap[Q]? = some (.cells (Pc (.slice (some ⟨g, 0, none⟩) (i + 1) cap) b c k) 33) := by
  rw [Ao _ _ (hb.trans ho)]
  simp [Pc]
 have hown2 : (w2.setCell ⟨Q, 0, none⟩ (.slice (some ⟨g, 0, none⟩) (i + 1) cap)).ownsRow a1 40 1 (.slice (some ⟨g, 0, none⟩) (i + 1) cap) (i + 1) (Ih hv (i + 1)) := by
  rw [hdRow_snoc, hvi]
  exact As hown fun x hx => Ac _ _ _ _ (by
   simp only [Value.ownBlock, Option.some.injEq] at hx
   show x ≠ Q
   omega)
 have hC : Chg (fun x => x = Q ∨ a1 <= x) w (w2.setCell ⟨Q, 0, none⟩ (.slice (some ⟨g, 0, none⟩) (i + 1) cap)) := by
  refine ⟨by rw [Ai]; omega, fun x hx hn => ?_⟩
  rw [Ac _ _ _ _ (fun e => hn (.inl e))]
  exact hfar x w2 hx (hne x (by omega)) hg
 clear h0' hz0 hb hown hg hat hfar hnews hrow' hrow hl hq h0 ho
 generalize w2.setCell ⟨Q, 0, none⟩ (.slice (some ⟨g, 0, none⟩) (i + 1) cap) = w3 at *
 try walk_nrm
 refine Aa z59 ?_
 refine cIL ?_
 refine .stop fun d => ⟨g, cap, Ak ?_, hbo, hown2, hC.at d⟩
 have hc : ((i + 1 : Nat) : Int) = (i : Int) + 1 := by simp
 simp only [hdRun4, hc]
 rfl
theorem last_out (M R n Q : Nat) (x0 x1 x2 x3 : Value) (u : Nat -> Value) (c : Frame) (cs : List Frame) (w : World) (ho : w.heap[Q]? = some (.cells #[x0, x1, x2, x3] 33)) (hr : w.heap[R]? = some Fl) (h1 : (#[x0, x1, x2, x3] : Array Value).all (·.oneCell') = true) :
  Walk prog main (DR (fun _ => none)) (fun g w' => g = G (c.finish (.agg #[x0, x1, x2, x3])) cs /\ Chg (fun x => x = R) w w') (G (hdRun4 M R n Q n u) (c :: cs)) w := by
 have hj1 : decide ((n : Int) < n) = false := by simp
 have hj3 : decide (n < n) = false := by simp
 obtain ⟨fsT, huT⟩ := Ci 33 (by kernel_rfl)
 have hc : ∀ (j : Nat) (v : Value), [x0, x1, x2, x3][j]? = some v -> w.cell? ⟨Q, 0 + j, none⟩ = some v := fun j v hv => by
  rw [Nat.zero_add]
  refine (Ab ho j).trans ?_
  simpa using hv
 have hT := Ba (cells := #[x0, x1, x2, x3]) hr
 have hC : Chg (fun x => x = R) w (w.setRow R #[x0, x1, x2, x3]) := ⟨by rw [Ay]; exact Nat.le_refl _, fun x hx hn => Ap _ _ hn⟩
 conv => arg 5; unfold hdRun4
 refine Aa z59 ?_
 refine Walk.loadS 33 (.tmp 16) Ah (by rfl) (by decide) rfl Q 0 [x0, x1, x2, x3] (.struct fsT) rfl hc huT rfl (by kernel_rfl) ?_
 walk_nrm
 refine Am 33 (.tmp 8) (.tmp 161) Ah (by rfl) (by decide) rfl R #[x0, x1, x2, x3] #[.slice none 0 0, .slice none 0 0, .slice none 0 0, .bool false] 33 rfl rfl hr (by kernel_rfl) rfl h1 (Ov _) ?_
 clear hc ho hr
 generalize w.setRow R #[x0, x1, x2, x3] = w2 at *
 try walk_nrm
 refine Aa z59 ?_
 exact Bv (T := R) rfl rfl rfl func59 rfl (by rfl) hT (by kernel_rfl) (by kernel_rfl) (.stop fun d => ⟨rfl, hC.at d⟩)
end
def CapS (cells : Array Value) : Prop := ∀ (sa : Option Addr) (m sc : Nat), cells[2]? = some (.slice sa m sc) -> m <= sc
def RunR (n m a0 : Nat) (L : La) (stx : L.Sg -> List Int) (W w : World) (F : OX L × List Nat) (v : Value) (w' : World) : Prop := ∃ cells, v = .agg cells /\ (∀ w'' : World, (∀ b, a0 <= b -> b < w'.heap.size -> w''.heap[b]? = w'.heap[b]?) -> TrA cells n (fun i => (F.1.th i).ans) F.2 (stx F.1.s) (Du n F.1) w'') /\ (∀ b, b < a0 -> w'.heap[b]? = W.heap[b]?) /\ w.heap.size <= w'.heap.size /\ (∀ i, i < n -> (F.1.th i).ans.length <= 65536) /\ CapS cells
section
variable {a0 M n m R : Nat} {cb : CB} {main : Bool} {ops : Nat -> List OpV} {W : World}
theorem run_tail11 (hm : m <= 65536) (hz : m = 0 -> cb.sc = 0 /\ cb.vc = 0) (hn : n <= 64) (hol : ∀ i, i < n -> (ops i).length <= 65536) (F : OX (Cr m) × List Nat) (oa : Option Addr) (oc : Nat) (u : Nat -> Value) (c : Frame) (cs : List Frame) (w : World) (H : Pf a0 M cb m R ops W n F oa oc w) (hRa : a0 <= R) :
  Walk prog main (DR (fun _ => none)) (fun g w' => ∃ v, RunR n m a0 (Cr m) (It m) W w F v w' /\ g = G (c.finish v) cs) (G (hdRunE M R n (.slice oa F.2.length oc) u) (c :: cs)) w := by
 obtain ⟨tb, tc, ta, T, N, hF⟩ := H.N
 have hRl := (aEs N.res).1
 have hl := RO11.left (main := main) (most := 0) hn H
 have hl : Aw prog main (fun _ => none) 118 #[.pointer (some ⟨M, 0, none⟩)] w (.bool (Du n F.1)) w := hl
 have hav : ∀ i, i < n -> ∃ aa ac, (T i).av = .slice aa (T i).ans.length ac /\ RowA a0 (T i).ownA (.slice aa (T i).ans.length ac) (T i).ans w /\ w.cell? ⟨tb, i * 9 + 1, none⟩ = some (.slice aa (T i).ans.length ac) /\ (T i).ans = (F.1.th i).ans /\ (∀ b, (T i).ownA b -> a0 <= b /\ b < w.heap.size /\ b ≠ R) := fun i hi => by
  have hr := (N.I.rows i hi).rA
  have hlo := (N.I.rows i hi).lo
  obtain ⟨aa, ac, z, _, e, _⟩ := id hr
  have hc := N.I.tcell hi (j := 1) (v := (T i).av) rfl
  refine ⟨aa, ac, e, by rw [<- e]; exact hr, by rw [<- e]; exact hc, (N.th i hi).ans, fun b hb => ⟨(hlo b hb).1, (hlo b hb).2, fun hbR => N.resS ?_⟩⟩
  subst hbR
  exact .inr (.inr (.inr ⟨i, hi, .inl hb⟩))
 refine (last_in M R n (m + m) oa F.2.length oc (Du n F.1) (It m F.1.s) u (c :: cs) w hl (state11_w w N.I hm hz)).then ?_
 rintro _ w1 ⟨sa, sc, Q, ⟨u1, rfl⟩, hQ, hQb, hC1, hst, hs1, hsQ⟩
 have loop : ∀ (r i : Nat) (ha : Option Addr) (hc : Nat) (u : Nat -> Value) (w2 : World), i + r = n -> w2.heap[Q]? = some (.cells (Pc (.slice ha i hc) (.slice oa F.2.length oc) (.slice sa (m + m) sc) (Du n F.1)) 33) -> w2.ownsRow (Q + 1) 40 1 (.slice ha i hc) i (Ih (fun i => (T i).av) i) -> Chg (fun x => x = Q ∨ Q + 1 <= x) w1 w2 ->
   Walk prog main (DR (fun _ => none)) (fun g w' => ∃ v, RunR n m a0 (Cr m) (It m) W w F v w' /\ g = G (c.finish v) cs) (G (hdRun4 M R n Q i u) (c :: cs)) w2 := by
  intro r
  induction r with
  | zero =>
   intro i ha hc u w2 hi h2 h3 h4
   obtain rfl : i = n := hi
   have hR2 : w2.heap[R]? = some Fl := (h4.same R (by have := hC1.size; omega) (by omega)).trans ((hC1.same R hRl id).trans N.res)
   have hs4 := h4.size
   refine (last_out M R i Q _ _ _ _ u c cs w2 h2 hR2 (by simp [Value.oneCell'])).mono ?_
   rintro g w' ⟨rfl, hC5⟩
   have hs5 := hC5.size
   have far : ∀ b, b < w.heap.size -> b ≠ R -> w'.heap[b]? = w.heap[b]? := fun b hb hbR => (hC5.same b (by have := hC1.size; omega) hbR).trans ((h4.same b (by have := hC1.size; omega) (by omega)).trans (hC1.same b hb id))
   refine ⟨_, ⟨_, rfl, fun w'' h'' => ⟨⟨ha, hc, oa, oc, sa, sc, ?_, ?_, ?_, fun j hj => ?_⟩⟩, fun b hb => ?_, by omega, fun j hj => ?_, fun s1 m1 c1 hc => ?_⟩, rfl⟩
   ·have e : (It m F.1.s).length = m + m := Mo _ _
    show _ = Pc _ _ (.slice sa (It m F.1.s).length sc) _
    rw [e]; rfl
   ·refine Ix (base := a0) (e := 3) (m := F.2.length) (tc := oc) ?_
    have e : ((F.2.map fun i => ((i : Nat) : Int)).map (Value.int .i64)) = Ea F.2 := by simp [Ea]
    rw [e]
    exact As H.row fun g hg => (h'' g (H.row.lt g hg).1 (by have := (H.row.lt g hg).2; have := hC1.size; omega)).trans (far g (H.row.lt g hg).2 (hF g hg).2)
   ·refine Ix (base := w.heap.size) (e := 2) (m := m + m) (tc := sc) ?_
    refine As hst fun g hg => ?_
    have g1 := (hst.lt g hg).1
    have g2 := hsQ g hg
    have gN := N.le
    exact (h'' g (by omega) (by omega)).trans <| (hC5.same g (by omega) (by omega)).trans (h4.same g (by omega) (by omega))
   ·obtain ⟨aa, ac, e1, e2, e3, e4, e5⟩ := hav j hj
    obtain ⟨g, eg, hg, hgl, hcell⟩ := Ld h3 (j := j) (x := (T j).av) (by simp [Ih, hj])
    refine ⟨g, 0, aa, ac, eg, ?_, ?_⟩
    ·rw [Nat.zero_add, <- e4, <- e1]
     have gN := N.le
     have gC := hC1.size
     exact (cBk (a := ⟨g, j, none⟩) ((h'' g (by omega) (by omega)).trans (hC5.same g hgl (by omega)))).trans hcell
    ·rw [<- e4]
     have hr : RowA a0 (T j).ownA (.slice aa (T j).ans.length ac) (T j).ans w'' := e2.same fun b hb => (h'' b (e5 b hb).1 (by have := (e5 b hb).2.1; have := hC1.size; omega)).trans (far b (e5 b hb).2.1 (e5 b hb).2.2)
     obtain ⟨ta', tc'', e, hA⟩ := ansA_of hr
     cases e
     exact hA
   ·have := N.le
    exact (far b (by omega) (by omega)).trans (N.old b hb)
   ·obtain ⟨aa, ac, e1, e2, e3, e4, e5⟩ := hav j hj
    rw [<- e4]
    have hal := N.al j hj
    have hp : (T j).at' <= (ops j).length := by
     rcases (N.th j hj).pos with ⟨_, _, h, _⟩ | ⟨_, o, _, h, _⟩
     ·omega
     ·have := (lEs h).1; omega
    have := hol j hj
    omega
   ·have hcv : Value.slice sa (m + m) sc = .slice s1 m1 c1 := by simpa [Pc] using hc
    obtain ⟨_, rfl, rfl⟩ := Value.slice.inj hcv
    rcases hst.2 with ⟨_, h⟩ | ⟨g', cap', cur, e, _, _, hle, _⟩
    ·omega
    ·injection e with _ _ e
     omega
  | succ r ih =>
   intro i ha hc u w2 hi h2 h3 h4
   obtain ⟨aa, ac, e1, e2, e3, e4, e5⟩ := hav i (by omega)
   obtain ⟨l1, l2, l3⟩ := N.I.lt
   have l3 := l3 (by omega)
   have hs4 := h4.size
   have hcell : ∀ {x j : Nat} {v : Value}, w.cell? ⟨x, j, none⟩ = some v -> w2.cell? ⟨x, j, none⟩ = some v := fun {x j v} h => (cBk (a := ⟨x, j, none⟩) ((h4.same x (by have := Al h; have := hC1.size; omega) (by have := Al h; omega)).trans (hC1.same x (Al h) id))).trans h
   refine (last_go M R n Q i tb tc _ _ _ ha hc aa (T i).ans.length ac (fun i => (T i).av) u (c :: cs) (Q + 1) w2 h2 h3 (by omega) hn e1 (by omega) (by omega) (hcell (N.I.cT (by omega))) (hcell e3) (by omega) (by omega)).then ?_
   rintro g w3 ⟨g', cap, ⟨u', rfl⟩, m1, m2, m3⟩
   exact ih (i + 1) _ cap u' w3 (by omega) m1 m2 (h4.trans m3 fun x hx h => h)
 exact loop n 0 none 0 u1 w1 (by omega) hQb (rowNil _ _ _ _) Chg.refl
theorem run_w (hm : m <= 65536) (hz : m = 0 -> cb.sc = 0 /\ cb.vc = 0) (C0 : Rg) (T : Nat -> R11) (b off n0 tcc N : Nat) (hN : N = min n0 64) (va : Option Addr) (hv : 0 < N -> va = some ⟨b, off, none⟩) (oa : Nat -> Option Addr) (ln oc : Nat -> Nat) (ops : Nat -> List OpV) (sa : Option Addr) (sc : Nat) (sl : List Int) (most : Int) (ha0 : a0 = W.heap.size) (O : OpsIn b off N oa ln oc ops W) (hwr : ∀ k, k < N -> ∀ o, o ∈ ops k -> -9223372036854775808 <= o.a)
  (hsl : sl.length <= 17592186044416) (hs : ∀ (j : Nat) (z : Int), sl[j]? = some z -> ∃ s so, sa = some ⟨s, so, none⟩ /\ W.cell? ⟨s, so + j, none⟩ = some (.int .i64 z)) (w : World) (I : M11 a0 M cb 0 0 0 m none C0 T w) (old : ∀ b, b < a0 -> w.heap[b]? = W.heap[b]?) (hle : a0 <= w.heap.size) :
  CallW prog main (fun _ => none) 59 #[.pointer (some ⟨M, 0, none⟩), .slice va n0 tcc, .slice sa sl.length sc, .int .i64 most] w (RunR N m a0 (Cr m) (It m) W w (Ca (Cr m) C0 ops N most sl)) := by
 intro c cs
 have hol : ∀ i, i < N -> (ops i).length <= 65536 := fun i hi => by have := O.len i hi; omega
 have hN64 : N <= 64 := by omega
 refine (into_run M va n0 tcc (.slice sa sl.length sc) most (c :: cs) w).then ?_
 rw [<- hN]
 rintro _ _ ⟨⟨u0, rfl⟩, d0, rfl⟩
 refine Walk.back ?_ d0
 obtain ⟨l1, l2, l3⟩ := I.lt
 have hsz : (w.alloc Fl).heap.size = w.heap.size + 1 := by simp
 have H0 : RN11 a0 M cb m w.heap.size ops W M 0 none T 0 (Qv (Cr m) C0) (w.alloc Fl) := by
  refine ⟨(I.same fun b hb => Ad _ _ hb).noT, fun _ => ⟨rfl, rfl⟩, fun _ => rfl, fun i hi => absurd hi (Nat.not_lt_zero i), fun i hi => absurd hi (Nat.not_lt_zero i), fun i hi => absurd hi (Nat.not_lt_zero i), hAw _ _, ?_, fun b hb => (Ad _ _ (by omega)).trans (old b hb), by omega⟩
  rintro (h | h | h | ⟨k, hk, _⟩)
  ·omega
  ·have := l2 _ h; omega
  ·omega
  ·exact absurd hk (Nat.not_lt_zero k)
 refine (run_threads (main := main) hN64 hm b off n0 tcc (.slice sa sl.length sc) (min (max most 0) 1048576) (min (max most 0) 1048576) oa ln oc ops (by omega) W ha0 O hwr (.slice va n0 tcc) (fun h => by rw [hv h]) (c :: cs) N 0 M 0 none T _ u0 _ (by omega) H0).then ?_
 rintro _ w1 ⟨⟨u1, rfl⟩, tb, tc', ta', T1, H1⟩
 have hs1 := H1.le
 refine (run_end0 M _ _ _ w.heap.size N u1 (c :: cs) w1).then ?_
 rintro _ _ ⟨⟨u2, rfl⟩, d, rfl⟩
 refine Walk.back ?_ d
 have HO : Pf a0 M cb m w.heap.size ops W N (Js (Cc (Cr m) N (min (max most 0) 1048576) ops) N 0 (Qv (Cr m) C0), []) none 0 w1 := ⟨⟨tb, tc', ta', T1, H1, fun b hb => by cases hb⟩, rowNil _ _ _ _⟩
 refine (run_sched (main := main) (most := min (max most 0) 1048576) hm hN64 hol (by omega) sa sc sl hsl (fun j z hz => by
  obtain ⟨s, so, e, h⟩ := hs j z hz
  exact ⟨s, so, e, by rw [ha0]; exact Al h, h⟩) (c :: cs) sl.length 0 _ none 0 u2 w1 (by omega) HO).then ?_
 rintro _ w2 ⟨oa2, oc2, ⟨u3, rfl⟩, H2⟩
 rw [List.drop_zero] at H2 ⊢
 refine (run_rest (main := main) (most := min (max most 0) 1048576) hm hN64 hol (by omega) (c :: cs) (min (max most 0) 1048576).toNat _ oa2 oc2 u3 w2 (by omega) H2).then ?_
 rintro _ w3 ⟨oa3, oc3, ⟨u4, rfl⟩, H3⟩
 have eF : Bz (Cc (Cr m) N (min (max most 0) 1048576) ops) (min (max most 0) 1048576).toNat (sl.foldl (Bb (Cc (Cr m) N (min (max most 0) 1048576) ops)) (Js (Cc (Cr m) N (min (max most 0) 1048576) ops) N 0 (Qv (Cr m) C0), [])) = Ca (Cr m) C0 ops N most sl := rfl
 rw [eF] at H3 ⊢
 obtain ⟨_, _, _, _, N3, _⟩ := H3.N
 have hR3 := (aEs N3.res).1
 refine (run_tail11 (main := main) hm hz hN64 hol _ oa3 oc3 u4 c cs w3 H3 hle).mono ?_
 rintro g w' ⟨v, ⟨cells, e1, e2, e3, e4, e5⟩, hg⟩
 exact ⟨v, ⟨cells, e1, e2, e3, by omega, e5⟩, hg⟩
end
def Kg (sz : Int) : Bool := (List.range 17).any fun j => sz == (2 : Int) ^ j
section
variable {main : Bool} {V : Nat -> Option Wait}
theorem pow_pos (k : Nat) : 0 < (2 : Int) ^ k := Int.pow_pos (by decide)
theorem pow_up {j k : Nat} (h : j <= k) : (2 : Int) ^ j <= (2 : Int) ^ k := by
 obtain ⟨d, rfl⟩ := Nat.exists_eq_add_of_le h
 induction d with
 | zero => exact Int.le_refl _
 | succ d ih =>
  have h1 := ih (by omega)
  have h2 := pow_pos (j + d)
  rw [show j + (d + 1) = (j + d) + 1 from rfl, Int.pow_succ]
  omega
end
theorem Mi (a b : Nat) (ha : a < 9223372036854775808) (hb : b < 9223372036854775808) : bits .and .i64 (a : Int) (b : Int) = ((a &&& b : Nat) : Int) := by
 have h0 : a &&& b < 9223372036854775808 := Nat.lt_of_le_of_lt Nat.and_le_left ha
 have e : (BitVec.ofInt 64 (a : Int) &&& BitVec.ofInt 64 (b : Int)).toNat = a &&& b := by
  rw [BitVec.toNat_and, BitVec.ofInt_natCast, BitVec.ofInt_natCast, BitVec.toNat_ofNat, BitVec.toNat_ofNat, Nat.mod_eq_of_lt (by omega), Nat.mod_eq_of_lt (by omega)]
 unfold bits
 show IntKind.i64.wrap ((BitVec.ofInt 64 (a : Int) &&& BitVec.ofInt 64 (b : Int)).toNat : Int) = _
 rw [e, IntKind.wrap_i64]
 omega
theorem Mr (sz : Int) : Kg sz = decide (Qw sz) := by
 by_cases hk : Qw sz
 ·rw [decide_eq_true hk]
  obtain ⟨h1, h2, h3⟩ := hk
  obtain ⟨n, rfl⟩ : ∃ n : Nat, sz = n := ⟨sz.toNat, by omega⟩
  have e : (n : Int) - 1 = ((n - 1 : Nat) : Int) := by omega
  rw [e, Mi n (n - 1) (by omega) (by omega)] at h3
  have h4 : n &&& (n - 1) = 0 := by omega
  obtain ⟨k, hk⟩ := (Nat.and_sub_one_eq_zero_iff_isPowerOfTwo (by omega : n ≠ 0)).1 h4
  have hk16 : k < 17 := by
   refine Classical.byContradiction fun h => ?_
   have h5 : 2 ^ 17 <= 2 ^ k := Nat.pow_le_pow_right (by decide) (by omega)
   rw [<- hk] at h5
   have : (2 : Nat) ^ 17 = 131072 := by decide
   omega
  refine List.any_eq_true.2 ⟨k, List.mem_range.2 hk16, ?_⟩
  rw [hk]
  simp
 ·rw [decide_eq_false hk]
  unfold Kg
  rw [List.any_eq_false]
  intro j hj
  have hj := List.mem_range.1 hj
  simp only [beq_iff_eq]
  rintro rfl
  refine hk ⟨by have := pow_pos j; omega, Int.le_trans (pow_up (show j <= 16 by omega)) (by decide), ?_⟩
  have e1 : (2 : Int) ^ j = ((2 ^ j : Nat) : Int) := by simp
  have hp : 0 < 2 ^ j := Nat.pow_pos (by decide)
  have hle : 2 ^ j <= 2 ^ 16 := Nat.pow_le_pow_right (by decide) (by omega)
  have h16 : (2 : Nat) ^ 16 = 65536 := by decide
  have e2 : (2 : Int) ^ j - 1 = ((2 ^ j - 1 : Nat) : Int) := by omega
  rw [e2, e1, Mi _ _ (by omega) (by omega)]
  have h4 : 2 ^ j &&& (2 ^ j - 1) = 0 := (Nat.and_sub_one_eq_zero_iff_isPowerOfTwo (by omega)).2 ⟨j, rfl⟩
  rw [h4]
  rfl
noncomputable def reg15_0 := rk f15.body 0
noncomputable def reg15_1 := rk f15.body 1
noncomputable def reg15_2 := rk f15.body 2
noncomputable def reg15_4 := rk f15.body 4
noncomputable def reg15_5 := rk f15.body 5
noncomputable def reg15_3 := rk f15.body 3
noncomputable def reg15_6 := rk f15.body 6
theorem z15 : reg15_0.size = 1 /\ reg15_1.size = 1 /\ reg15_2.size = 2 /\ reg15_3.size = 3 /\ reg15_4.size = 3 /\ reg15_5.size = 1 /\ reg15_6.size = 1 := by and_intros <;> kernel_rfl
theorem code15_is : f15.body = some (.seq (.region 0 reg15_0 false) (.seq (.seq (.region 1 reg15_1 false) (.block 0 (.loop (.seq (.seq (.region 2 reg15_2 false) (.cond (.tmp 5 ) (.skip) (.exit 0))) (.seq (.block 1 (.seq (.region 4 reg15_4 false) (.cond (.tmp 10 ) (.seq (.region 5 reg15_5 false) (.ret)) (.skip)))) (.region 3 reg15_3 false)))))) (.seq (.region 6 reg15_6 false) (.ret)))) := by kernel_rfl
noncomputable def hdRt (sz x : Int) (u : Nat -> Value) : Frame :=
 (base 15).at { tmps := #[.int .i64 sz, u 1, .bool false, .int .i64 x, u 4, u 5, u 6, u 7, u 8, u 9, u 10], defers := [] } [.code (.seq (.seq (.region 2 reg15_2 false) (.cond (.tmp 5 ) (.skip) (.exit 0))) (.seq (.block 1 (.seq (.region 4 reg15_4 false) (.cond (.tmp 10 ) (.seq (.region 5 reg15_5 false) (.ret)) (.skip)))) (.region 3 reg15_3 false))), .inLoop (.seq (.seq (.region 2 reg15_2 false) (.cond (.tmp 5 ) (.skip) (.exit 0))) (.seq (.block 1 (.seq (.region 4 reg15_4 false) (.cond (.tmp 10 ) (.seq (.region 5 reg15_5 false) (.ret)) (.skip)))) (.region 3 reg15_3 false))), .inBlock 0, .code (.seq (.region 6 reg15_6 false) (.ret))]
section
variable {main : Bool} {V : Nat -> Option Wait}
theorem rt_round (sz x : Int) (h0 : 0 < x) (h1 : x <= 65536) (h2 : x ≠ sz) (u : Nat -> Value) (cs : List Frame) (w : World) :
  Walk prog main (DR V) (fun g w' => (∃ u, g = G (hdRt sz (2 * x) u) cs) /\ ∃ d, w' = w.at d) (G (hdRt sz x u) cs) w := by
 have g1 : decide (x <= 65536) = true := decide_eq_true h1
 have g2 : (x == sz) = false := by simp [h2]
 have hw : IntKind.wrap .i64 (x * 2) = 2 * x := by rw [IntKind.wrap_i64]; omega
 clear h2
 conv => arg 5; unfold hdRt
 refine Aa z15 ?_
 refine cIL ?_
 refine .stop fun d => ⟨Ak ?_, d, rfl⟩
 simp only [hdRt]
 rfl
theorem rt_hit (sz : Int) (h1 : sz <= 65536) (u : Nat -> Value) (c : Frame) (cs : List Frame) (w : World) :
  Walk prog main (DR V) (fun g w' => g = G (c.finish (.bool true)) cs /\ ∃ d, w' = w.at d) (G (hdRt sz sz u) (c :: cs)) w := by
 have g1 : decide (sz <= 65536) = true := decide_eq_true h1
 have g2 : (sz == sz) = true := by simp
 conv => arg 5; unfold hdRt
 refine Aa z15 ?_
 exact Bk rfl rfl func15 rfl (.stop fun d => ⟨rfl, d, rfl⟩)
theorem rt_end (sz x : Int) (h1 : ¬ x <= 65536) (u : Nat -> Value) (c : Frame) (cs : List Frame) (w : World) :
  Walk prog main (DR V) (fun g w' => g = G (c.finish (.bool false)) cs /\ ∃ d, w' = w.at d) (G (hdRt sz x u) (c :: cs)) w := by
 have g1 : decide (x <= 65536) = false := decide_eq_false h1
 conv => arg 5; unfold hdRt
 refine Aa z15 ?_
 exact Bk rfl rfl func15 rfl (.stop fun d => ⟨rfl, d, rfl⟩)
theorem rt_loop (sz : Int) (c : Frame) (cs : List Frame) : ∀ (r k : Nat) (u : Nat -> Value) (w : World), k + r = 17 -> (∀ j, j < k -> sz ≠ (2 : Int) ^ j) -> Walk prog main (DR V) (fun g w' => g = G (c.finish (.bool (Kg sz))) cs /\ ∃ d, w' = w.at d) (G (hdRt sz ((2 : Int) ^ k) u) (c :: cs)) w := by
 intro r
 induction r with
 | zero =>
  intro k u w hk hno
  have hk : k = 17 := hk
  subst hk
  have hf : Kg sz = false := by
   unfold Kg
   rw [List.any_eq_false]
   intro j hj
   simp only [beq_iff_eq]
   exact hno j (List.mem_range.1 hj)
  rw [hf]
  exact rt_end sz _ (by decide) u c cs w
 | succ r ih =>
  intro k u w hk hno
  have hle : (2 : Int) ^ k <= 65536 := Int.le_trans (pow_up (show k <= 16 by omega)) (by decide)
  by_cases he : (2 : Int) ^ k = sz
  ·have ht : Kg sz = true := List.any_eq_true.2 ⟨k, List.mem_range.2 (by omega), by simp [he]⟩
   rw [ht]
   rw [he] at hle ⊢
   exact rt_hit sz hle u c cs w
  ·refine (rt_round sz _ (pow_pos k) hle he u (c :: cs) w).then ?_
   rintro _ _ ⟨⟨u2, rfl⟩, d, rfl⟩
   have h2 := ih (k + 1) u2 (w.at d) (by omega) fun j hj => by
    by_cases e : j = k
    ·subst e; exact Ne.symm he
    ·exact hno j (by omega)
   rw [Int.pow_succ, Int.mul_comm] at h2
   exact h2.mono fun g w' ⟨h3, d', h4⟩ => ⟨h3, d', h4⟩
theorem Mp (sz : Int) (w : World) : Aw prog main V 15 #[.int .i64 sz] w (.bool (Kg sz)) w := by
 intro c cs
 have key := fun u => (rt_loop (main := main) (V := V) sz c cs 17 0 u w (by decide) (fun j hj => by omega)).mono (Stop' := fun g w' => ∃ v, (v = .bool (Kg sz) /\ ∃ d, w' = w.at d) /\ g = G (c.finish v) cs) fun g w' ⟨h1, h2⟩ => ⟨_, ⟨rfl, h2⟩, h1⟩
 rw [enter_at _ func15 code15_is]
 simp only [ntmps15, ez, Nat.reduceAdd, Nat.reduceSub]
 refine Aa z15 ?_
 refine cLp ?_
 refine Fm (F := fun u => G (hdRt sz 1 u) (c :: cs)) key ?_
 simp only [hdRt]
 rfl
end
noncomputable def reg58_0 := rk f58.body 0
noncomputable def reg58_1 := rk f58.body 1
noncomputable def reg58_2 := rk f58.body 2
noncomputable def reg58_3 := rk f58.body 3
noncomputable def reg58_4 := rk f58.body 4
noncomputable def reg58_5 := rk f58.body 5
noncomputable def reg58_6 := rk f58.body 6
noncomputable def reg58_8 := rk f58.body 8
noncomputable def reg58_9 := rk f58.body 9
noncomputable def reg58_7 := rk f58.body 7
noncomputable def reg58_10 := rk f58.body 10
noncomputable def reg58_11 := rk f58.body 11
noncomputable def reg58_13 := rk f58.body 13
noncomputable def reg58_14 := rk f58.body 14
theorem size58_14 : reg58_14.size = 13 := by kernel_rfl
noncomputable def reg58_15 := rk f58.body 15
theorem size58_15 : reg58_15.size = 13 := by kernel_rfl
noncomputable def reg58_12 := rk f58.body 12
noncomputable def reg58_16 := rk f58.body 16
theorem z58 : reg58_0.size = 1 /\ reg58_1.size = 3 /\ reg58_2.size = 10 /\ reg58_3.size = 2 /\ reg58_4.size = 7 /\ reg58_5.size = 1 /\ reg58_6.size = 6 /\ reg58_7.size = 3 /\ reg58_8.size = 10 /\ reg58_9.size = 10 /\ reg58_10.size = 1 /\ reg58_11.size = 4 /\ reg58_12.size = 3 /\ reg58_13.size = 3 /\ reg58_14.size = 13 /\ reg58_15.size = 13 /\ reg58_16.size = 2 := by and_intros <;> kernel_rfl
theorem code58_is : f58.body = some (.seq (.region 0 reg58_0 false) (.seq (.region 1 reg58_1 false) (.seq (.seq (.region 2 reg58_2 false) (.cond (.tmp 18 ) (.seq (.region 3 reg58_3 false) (.ret)) (.skip))) (.seq (.region 4 reg58_4 false) (.seq (.seq (.region 5 reg58_5 false) (.block 0 (.loop (.seq (.seq (.region 6 reg58_6 false) (.cond (.tmp 31 ) (.skip) (.exit 0))) (.seq (.block 1 (.seq (.region 8 reg58_8 false) (.region 9 reg58_9 false))) (.region 7 reg58_7 false)))))) (.seq (.seq (.region 10 reg58_10 false) (.block 2 (.loop (.seq (.seq (.region 11 reg58_11 false) (.cond (.tmp 55 ) (.skip) (.exit 2))) (.seq (.block 3 (.seq (.region 13 reg58_13 false) (.seq (.region 14 reg58_14 true) (.region 15 reg58_15 true)))) (.region 12 reg58_12 false)))))) (.seq (.region 16 reg58_16 false) (.ret)))))))) := by kernel_rfl
noncomputable def hdNa (M : Nat) (xv : Value) (j : Nat) (u : Nat -> Value) : Frame :=
 (base 58).at { tmps := #[xv, u 1, .pointer none, .pointer (some ⟨M, 0, none⟩), .int .i64 j, u 5, u 6, u 7, u 8, u 9, u 10, u 11, u 12, u 13, u 14, u 15, u 16, u 17, u 18, u 19, u 20, u 21, u 22, u 23, u 24, u 25, u 26, u 27, u 28, u 29, u 30, u 31, u 32, u 33, u 34, u 35, u 36, u 37, u 38, u 39, u 40, u 41, u 42, u 43, u 44, u 45, u 46, u 47, u 48, u 49, u 50, u 51, u 52, u 53, u 54, u 55, u 56, u 57, u 58, u 59, u 60, u 61, u 62, u 63, u 64, u 65, u 66, u 67, u 68, u 69, u 70, u 71, u 72, u 73, u 74, u 75, u 76, u 77, u 78, u 79, u 80, u 81, u 82, u 83, u 84], defers := [] } [.code (.seq (.seq (.region 6 reg58_6 false) (.cond (.tmp 31 ) (.skip) (.exit 0))) (.seq (.block 1 (.seq (.region 8 reg58_8 false) (.region 9 reg58_9 false))) (.region 7 reg58_7 false))), .inLoop (.seq (.seq (.region 6 reg58_6 false) (.cond (.tmp 31 ) (.skip) (.exit 0))) (.seq (.block 1 (.seq (.region 8 reg58_8 false) (.region 9 reg58_9 false))) (.region 7 reg58_7 false))), .inBlock 0, .code (.seq (.seq (.region 10 reg58_10 false) (.block 2 (.loop (.seq (.seq (.region 11 reg58_11 false) (.cond (.tmp 55 ) (.skip) (.exit 2))) (.seq (.block 3 (.seq (.region 13 reg58_13 false) (.seq (.region 14 reg58_14 true) (.region 15 reg58_15 true)))) (.region 12 reg58_12 false)))))) (.seq (.region 16 reg58_16 false) (.ret)))]
noncomputable def hdNb (M : Nat) (xv : Value) (j : Nat) (u : Nat -> Value) : Frame :=
 (base 58).at { tmps := #[xv, u 1, .pointer none, .pointer (some ⟨M, 0, none⟩), u 4, .int .i64 j, u 6, u 7, u 8, u 9, u 10, u 11, u 12, u 13, u 14, u 15, u 16, u 17, u 18, u 19, u 20, u 21, u 22, u 23, u 24, u 25, u 26, u 27, u 28, u 29, u 30, u 31, u 32, u 33, u 34, u 35, u 36, u 37, u 38, u 39, u 40, u 41, u 42, u 43, u 44, u 45, u 46, u 47, u 48, u 49, u 50, u 51, u 52, u 53, u 54, u 55, u 56, u 57, u 58, u 59, u 60, u 61, u 62, u 63, u 64, u 65, u 66, u 67, u 68, u 69, u 70, u 71, u 72, u 73, u 74, u 75, u 76, u 77, u 78, u 79, u 80, u 81, u 82, u 83, u 84], defers := [] } [.code (.seq (.seq (.region 11 reg58_11 false) (.cond (.tmp 55 ) (.skip) (.exit 2))) (.seq (.block 3 (.seq (.region 13 reg58_13 false) (.seq (.region 14 reg58_14 true) (.region 15 reg58_15 true)))) (.region 12 reg58_12 false))), .inLoop (.seq (.seq (.region 11 reg58_11 false) (.cond (.tmp 55 ) (.skip) (.exit 2))) (.seq (.block 3 (.seq (.region 13 reg58_13 false) (.seq (.region 14 reg58_14 true) (.region 15 reg58_15 true)))) (.region 12 reg58_12 false))), .inBlock 2, .code (.seq (.region 16 reg58_16 false) (.ret))]
def Pe (z : Int) (sv vv : Value) : Obj := .cells #[.int .i64 z, sv, vv, .slice none 0 0, .int .i64 0] 188
structure NwA (M j : Nat) (z : Int) (sv vv : Value) (w0 w : World) : Prop where
 hd : w.heap[M]? = some (Pe z sv vv)
 rs : w.ownsRow (M + 1) 2 1 sv j (Bg (List.replicate j (-2)))
 rv : w.ownsRow (M + 1) 2 1 vv j (Bg (List.replicate j 0))
 ne : ∀ b, sv.ownBlock = some b -> vv.ownBlock ≠ some b
 old : ∀ b, b < M -> w.heap[b]? = w0.heap[b]?
 lt : M < w.heap.size
theorem NwA.at {M j : Nat} {z : Int} {sv vv : Value} {w0 w : World} (h : NwA M j z sv vv w0 w) (d : Nat) : NwA M j z sv vv w0 (w.at d) := ⟨h.hd, As h.rs fun _ _ => rfl, As h.rv fun _ _ => rfl, h.ne, h.old, h.lt⟩
theorem rep_snoc (j : Nat) (x : Int) : Bg (List.replicate (j + 1) x) = Bg (List.replicate j x) ++ [.int .i64 x] := by
 simp [Bg, List.replicate_succ']
section
variable {main : Bool}
theorem na_end (M j : Nat) (z : Int) (sv vv xv : Value) (hj : z = j) (w0 w : World) (I : NwA M j z sv vv w0 w) (cs : List Frame) (u : Nat -> Value) :
  Walk prog main (DR (fun _ => none)) (fun g w' => (∃ u, g = G (hdNb M xv 1 u) cs) /\ ∃ d, w' = w.at d) (G (hdNa M xv j u) cs) w := by
 have c0 : w.cell? ⟨M, 0, none⟩ = some (.int .i64 j) := by
  have := (Ab I.hd 0).trans rfl
  rwa [hj] at this
 have hj1 : decide ((j : Int) < j) = false := by simp
 clear hj I
 conv => arg 5; unfold hdNa
 refine Aa z58 ?_
 refine cLp ?_
 refine .stop fun d => ⟨Ak ?_, d, rfl⟩
 simp only [hdNb]
 rfl
theorem na_round (M j : Nat) (z : Int) (sv vv xv : Value) (hj : (j : Int) < z) (hz : z <= 65536) (w0 w : World) (I : NwA M j z sv vv w0 w) (cs : List Frame) (u : Nat -> Value) :
  Walk prog main (DR (fun _ => none)) (fun g w' => (∃ u, g = G (hdNa M xv (j + 1) u) cs) /\ ∃ sv' vv', NwA M (j + 1) z sv' vv' w0 w') (G (hdNa M xv j u) cs) w := by
 have hi2 := Option.some_get (show (prog.info? 2).isSome = true by kernel_rfl)
 have c0 : w.cell? ⟨M, 0, none⟩ = some (.int .i64 z) := (Ab I.hd 0).trans rfl
 have hj1 : decide ((j : Int) < z) = true := decide_eq_true hj
 have hw1 := wI ((j : Int) + 1)
 have hcc : ((j + 1 : Nat) : Int) = (j : Int) + 1 := by simp
 have hlt := I.lt
 have hrl := fun b hb => (I.rs.lt b hb)
 have hvl := fun b hb => (I.rv.lt b hb)
 have c1 : w.cell? ⟨M, 1, none⟩ = some sv := (Ab I.hd 1).trans rfl
 obtain ⟨sa, sc, rfl⟩ := Iv I.rs
 obtain ⟨va, vc, rfl⟩ := Iv I.rv
 conv => arg 5; unfold hdNa
 refine Aa z58 ?_
 (refine Wa ?_; try walk_nrm)
 have s1 : (w.alloc (.cells #[.int .i64 (-2)] 2)).heap.size = w.heap.size + 1 := by simp
 have o1 : ∀ b, b < w.heap.size -> (w.alloc (.cells #[.int .i64 (-2)] 2)).heap[b]? = w.heap[b]? := fun b hb => Ad _ _ hb
 have d1 := hAw w (.cells #[.int .i64 (-2)] 2)
 generalize hA : w.heap.size = A at *
 generalize w.alloc (.cells #[.int .i64 (-2)] 2) = w1 at *
 have r1 := As I.rs (w' := w1) fun b hb => o1 b (hrl b hb).2
 have v1 := As I.rv (w' := w1) fun b hb => o1 b (hvl b hb).2
 have hd1 := (o1 M hlt).trans I.hd
 repeat (first | (refine Wq ?_; try walk_nrm) | (refine Bh ?_; walk_nrm))
 refine Walk.append (.tmp 38) (.tmp 39) 31 Ah (by rfl) (by decide) rfl (M + 1) 2 _ (.int .i64 0) 1 8 (by kernel_rfl) hi2.symm (by rfl) (by rfl) (by rfl) (by rfl) (by decide) (.slice sa j sc) j (Bg (List.replicate j (-2))) rfl r1 ⟨A, 0, none⟩ 1 1 [.int .i64 (-2)] rfl (by rfl) (fun q x hx => ?_) (by simp [Value.oneCell']) (by decide) (by simp [maxLen]; omega) (by omega) (by omega) (fun g _ => Ov g) (fun g gc w2 hown2 hg2 hat2 hlt2 => ?_)
 ·rw [Bs, Nat.zero_add]
  refine (Ab d1 q).trans ?_
  simpa using hx
 have s2 := hg2.size
 have hd2 : w2.heap[M]? = some (Pe z (.slice sa j sc) (.slice va j vc)) := (hg2.block M (by omega) (fun e => by have := (hrl M e.symm).1; omega)).trans hd1
 have v2 := As v1 (w' := w2) fun b hb => hg2.block b (by have := (hvl b hb).2; omega) (fun e => I.ne b e.symm hb)
 have o2 : ∀ b, b < M -> w2.heap[b]? = w0.heap[b]? := fun b hb => (hg2.block b (by omega) (fun e => by have := (hrl b e.symm).1; omega)).trans ((o1 b (by omega)).trans (I.old b hb))
 have ne2 : (Value.slice va j vc).ownBlock ≠ some g := fun e => by
  rcases hat2 with h | h
  ·exact I.ne g h e
  ·have := (hvl g e).2; omega
 have gl : M + 1 <= g /\ g < w2.heap.size := by
  refine ⟨?_, hlt2⟩
  rcases hat2 with h | h
  ·exact (hrl g h).1
  ·omega
 have cM : w2.cell? ⟨M, 1, none⟩ = some (.slice sa j sc) := (Ab hd2 1).trans rfl
 have zM : w2.frozen? ⟨M, 1, none⟩ = false := Av hd2 1
 have vl2 := fun b hb => (v2.lt b hb)
 clear r1 v1 hd1 o1 d1 s1 I hrl hvl c0 c1
 walk_nrm
 repeat (first | (refine Wq ?_; try walk_nrm) | (refine Bh ?_; walk_nrm))
 (have hfr := Ju M 1; refine Ws hfr cM ?_; clear hfr; try walk_nrm)
 have hd3 : (w2.setCell ⟨M, 1, none⟩ (.slice (some ⟨g, 0, none⟩) (j + 1) gc)).heap[M]? = some (Pe z (.slice (some ⟨g, 0, none⟩) (j + 1) gc) (.slice va j vc)) := (Ao _ _ hd2).trans rfl
 have s3 := Ai w2 ⟨M, 1, none⟩ (.slice (some ⟨g, 0, none⟩) (j + 1) gc)
 have o3 : ∀ b, b ≠ M -> (w2.setCell ⟨M, 1, none⟩ (.slice (some ⟨g, 0, none⟩) (j + 1) gc)).heap[b]? = w2.heap[b]? := fun b hb => Ac _ _ _ _ hb
 generalize w2.setCell ⟨M, 1, none⟩ (.slice (some ⟨g, 0, none⟩) (j + 1) gc) = w3 at *
 replace s3 : w2.heap.size <= w3.heap.size /\ w3.heap.size <= w2.heap.size := by omega
 have r3 := As hown2 (w' := w3) fun b hb => o3 b (by have : g = b := Option.some.inj hb; omega)
 have v3 := As v2 (w' := w3) fun b hb => o3 b (by have := (vl2 b hb).1; omega)
 have old3 : ∀ b, b < M -> w3.heap[b]? = w0.heap[b]? := fun b hb => (o3 b (by omega)).trans (o2 b hb)
 have c2 : w3.cell? ⟨M, 2, none⟩ = some (.slice va j vc) := (Ab hd3 2).trans rfl
 have hlt3 : M < w3.heap.size := by omega
 clear cM zM hd2 o2 o3 v2 hown2 hg2 hat2
 try walk_nrm
 refine Aa z58 ?_
 (refine Wa ?_; try walk_nrm)
 have s4 : (w3.alloc (.cells #[.int .i64 0] 2)).heap.size = w3.heap.size + 1 := by simp
 have o4 : ∀ b, b < w3.heap.size -> (w3.alloc (.cells #[.int .i64 0] 2)).heap[b]? = w3.heap[b]? := fun b hb => Ad _ _ hb
 have d4 := hAw w3 (.cells #[.int .i64 0] 2)
 generalize hB : w3.heap.size = B at *
 generalize w3.alloc (.cells #[.int .i64 0] 2) = w4 at *
 have r4 := As r3 (w' := w4) fun b hb => o4 b (by have : g = b := Option.some.inj hb; omega)
 have v4 := As v3 (w' := w4) fun b hb => o4 b (by have := (vl2 b hb).2; omega)
 have hd4 := (o4 M hlt3).trans hd3
 repeat (first | (refine Wq ?_; try walk_nrm) | (refine Bh ?_; walk_nrm))
 refine Walk.append (.tmp 47) (.tmp 48) 31 Ah (by rfl) (by decide) rfl (M + 1) 2 _ (.int .i64 0) 1 8 (by kernel_rfl) hi2.symm (by rfl) (by rfl) (by rfl) (by rfl) (by decide) (.slice va j vc) j (Bg (List.replicate j 0)) rfl v4 ⟨B, 0, none⟩ 1 1 [.int .i64 0] rfl (by rfl) (fun q x hx => ?_) (by simp [Value.oneCell']) (by decide) (by simp [maxLen]; omega) (by omega) (by omega) (fun g _ => Ov g) (fun h hc w5 hown5 hg5 hat5 hlt5 => ?_)
 ·rw [Bs, Nat.zero_add]
  refine (Ab d4 q).trans ?_
  simpa using hx
 have s5 := hg5.size
 have hd5 : w5.heap[M]? = some (Pe z (.slice (some ⟨g, 0, none⟩) (j + 1) gc) (.slice va j vc)) := (hg5.block M (by omega) (fun e => by have := (vl2 M e.symm).1; omega)).trans hd4
 have r5 := As r4 (w' := w5) fun b hb => hg5.block b (by have : g = b := Option.some.inj hb; omega) (fun e => by
  have : g = b := Option.some.inj hb
  exact ne2 (this ▸ e.symm))
 have old5 : ∀ b, b < M -> w5.heap[b]? = w0.heap[b]? := fun b hb => (hg5.block b (by omega) (fun e => by have := (vl2 b e.symm).1; omega)).trans ((o4 b (by omega)).trans (old3 b hb))
 have ne5 : g ≠ h := fun e => by
  rcases hat5 with h' | h'
  ·exact ne2 (e ▸ h')
  ·omega
 have cM : w5.cell? ⟨M, 2, none⟩ = some (.slice va j vc) := (Ab hd5 2).trans rfl
 have zM : w5.frozen? ⟨M, 2, none⟩ = false := Av hd5 2
 have hl5 : M + 1 <= h := by
  rcases hat5 with h' | h'
  ·exact (vl2 h h').1
  ·omega
 clear r4 v4 hd4 o4 d4 r3 v3 hd3 c2 old3
 walk_nrm
 repeat (first | (refine Wq ?_; try walk_nrm) | (refine Bh ?_; walk_nrm))
 (have hfr := Ju M 2; refine Ws hfr cM ?_; clear hfr; try walk_nrm)
 have hd6 : (w5.setCell ⟨M, 2, none⟩ (.slice (some ⟨h, 0, none⟩) (j + 1) hc)).heap[M]? = some (Pe z (.slice (some ⟨g, 0, none⟩) (j + 1) gc) (.slice (some ⟨h, 0, none⟩) (j + 1) hc)) := (Ao _ _ hd5).trans rfl
 have s6 := Ai w5 ⟨M, 2, none⟩ (.slice (some ⟨h, 0, none⟩) (j + 1) hc)
 have o6 : ∀ b, b ≠ M -> (w5.setCell ⟨M, 2, none⟩ (.slice (some ⟨h, 0, none⟩) (j + 1) hc)).heap[b]? = w5.heap[b]? := fun b hb => Ac _ _ _ _ hb
 generalize w5.setCell ⟨M, 2, none⟩ (.slice (some ⟨h, 0, none⟩) (j + 1) hc) = w6 at *
 have I6 : NwA M (j + 1) z (.slice (some ⟨g, 0, none⟩) (j + 1) gc) (.slice (some ⟨h, 0, none⟩) (j + 1) hc) w0 w6 := by
  refine ⟨hd6, ?_, ?_, fun b hb hb2 => ?_, fun b hb => (o6 b (by omega)).trans (old5 b hb), by omega⟩
  ·rw [rep_snoc]
   exact As r5 fun b hb => o6 b (by have : g = b := Option.some.inj hb; omega)
  ·rw [rep_snoc]
   exact As hown5 fun b hb => o6 b (by have : h = b := Option.some.inj hb; omega)
  ·have e1 : g = b := Option.some.inj hb
   have e2 : h = b := Option.some.inj hb2
   exact ne5 (e1.trans e2.symm)
 clear cM zM hd5 hd6 o6 r5 hown5 hg5 hat5 old5
 try walk_nrm
 refine Aa z58 ?_
 refine cIL ?_
 refine .stop fun d => ⟨Ak ?_, _, _, I6.at d⟩
 simp only [hdNa, hcc]
 rfl
end
end Go.Proofs.Ytflcclneedldoaa
