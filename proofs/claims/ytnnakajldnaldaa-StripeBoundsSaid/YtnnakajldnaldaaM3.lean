/- Part 3. -/
import Derived.Test.YtnnakajldnaldaaM2
set_option linter.unusedSimpArgs false
set_option linter.unusedVariables false
set_option maxHeartbeats 8000000
set_option maxRecDepth 100000
namespace Go.Proofs.Ytnnakajldnaldaa
open Go.Conc Go.RowKit Go.Relay
open Go.ConcN (upd upd_ne upd_same)
section
section
variable {cb rb m rc : Nat} {ra : Option Addr} {ops : Nat → List OpV} {K : Nat}
def oD {D : Type} (d : Option D) : Option Bool := match d with | none => some false | some _ => none
theorem put_out {L : La} (x : OX L) (i : Nat) (r : L.Sg × Tst L) (c : Nat) : (putO x i r c).out i = oD r.2.d := by
  show upd x.out i _ i = _
  rw [upd_same]
  cases r.2.d <;> rfl
theorem put_out_ne {L : La} (x : OX L) {i j : Nat} (h : j ≠ i) (r : L.Sg × Tst L) (c : Nat) : (putO x i r c).out j = x.out j := upd_ne _ _ h
theorem put_th {L : La} (x : OX L) (i : Nat) (r : L.Sg × Tst L) (c : Nat) : (putO x i r c).th i = r.2 := upd_same ..
theorem put_th_ne {L : La} (x : OX L) {i j : Nat} (h : j ≠ i) (r : L.Sg × Tst L) (c : Nat) : (putO x i r c).th j = x.th j := upd_ne _ _ h
theorem put_both {L : La} (x : OX L) (i : Nat) (r : L.Sg × Tst L) (c : Nat) : (putO x i r c).out i = oD ((putO x i r c).th i).d := by rw [put_out, put_th]
theorem put_both_ne {L : La} (x : OX L) {i j : Nat} (h : j ≠ i) (r : L.Sg × Tst L) (c : Nat) (hx : x.out j = oD (x.th j).d) : (putO x i r c).out j = oD ((putO x i r c).th j).d := by rw [put_out_ne x h, put_th_ne x h, hx]
def rdT (ops : Nat → List OpV) (K : Nat) (l : List Nat) (c : Nat) : Int := totAt ops K l ((mineR K l).getD c 0)
structure BnP (ops : Nat → List OpV) (K m : Nat) (x : OX (spLa cb rb m ra rc)) (l : List Nat) : Prop where
  adr : ∀ i, i < K → l.count i ≤ (ops i).length ∧ ∃ az, x.th i = adT cb rb m ra rc ((ops i).drop (l.count i)) az
  out : ∀ i, i ≤ K → x.out i = oD (x.th i).d
  mem : ∀ i ∈ l, i ≤ K
  sum : sg (x.s : Sp) m = totS ops K l
  nn : ∀ j, j < m → 0 ≤ (x.s : Sp) j
  rd : RdI m (x.s : Sp) (rdT ops K l) (mineR K l).length (x.th K).left (x.th K).d (x.th K).ans
  len : (l.length : Int) = sg (fun i => (l.count i : Int)) K + (mineR K l).length
theorem len_snoc_add {l : List Nat} {i : Nat} (hi : i < K) : sg (fun j => ((l ++ [i]).count j : Int)) K = sg (fun j => (l.count j : Int)) K + 1 := by
  have e : ∀ j, j < K → (fun j => ((l ++ [i]).count j : Int)) j = upd (fun j => (l.count j : Int)) i ((l.count i : Int) + 1) j := fun j _ => by
    by_cases e : j = i
    · subst e
      rw [upd_same]
      show ((l ++ [j]).count j : Int) = _
      rw [count_snoc, if_pos rfl]
      omega
    · rw [upd_ne _ _ e]
      show ((l ++ [i]).count j : Int) = _
      rw [count_snoc, if_neg e]
  rw [sg_eq e, sg_upd hi]
  omega
theorem len_snoc_far {l : List Nat} {i : Nat} (hi : K ≤ i) : sg (fun j => ((l ++ [i]).count j : Int)) K = sg (fun j => (l.count j : Int)) K :=
  sg_eq fun j hj => by
    show ((l ++ [i]).count j : Int) = (l.count j : Int)
    rw [count_snoc, if_neg (by omega)]
theorem mine_getD {l : List Nat} {c : Nat} (h : c < (mineR K l).length) : (mineR K l).getD c 0 < l.length := by
  have := mine_mem (K := K) (l := l) (k := (mineR K l)[c]) (List.getElem_mem h)
  rw [List.getD_eq_getElem?_getD, List.getElem?_eq_getElem h]
  exact this.1
theorem rdT_add {l : List Nat} {i : Nat} (hi : i ≠ K) {c : Nat} (h : c < (mineR K l).length) : rdT ops K (l ++ [i]) c = rdT ops K l c := by
  unfold rdT
  rw [mine_snoc, if_neg hi, List.append_nil, totAt_snoc (mine_getD h)]
theorem rdT_far {l : List Nat} {c : Nat} (h : c < (mineR K l).length) : rdT ops K (l ++ [K]) c = rdT ops K l c := by
  unfold rdT
  rw [mine_snoc, if_pos rfl]
  rw [show (mineR K l ++ [l.length]).getD c 0 = (mineR K l).getD c 0 by rw [List.getD_eq_getElem?_getD, List.getD_eq_getElem?_getD, List.getElem?_append_left h]]
  exact totAt_snoc (mine_getD h)
theorem rdT_last {l : List Nat} : rdT ops K (l ++ [K]) (mineR K l).length = totS ops K l := by
  unfold rdT
  rw [mine_snoc, if_pos rfl]
  rw [show (mineR K l ++ [l.length]).getD (mineR K l).length 0 = l.length by rw [List.getD_eq_getElem?_getD, List.getElem?_append_right (Nat.le_refl _)]; simp]
  rw [totAt_last, totS_far (Nat.le_refl _)]
theorem upd_nn {s : Sp} {J : Nat} {x : Int} (h : ∀ j, j < m → 0 ≤ s j) (hx : 0 ≤ x) (j : Nat) (hj : j < m) : 0 ≤ upd s J x j := by
  by_cases e : j = J
  · subst e
    rw [upd_same]
    exact hx
  · rw [upd_ne _ _ e]
    exact h j hj
theorem upd_ge {s : Sp} {J : Nat} {x : Int} (hx : s J ≤ x) (j : Nat) : s j ≤ upd s J x j := by
  by_cases e : j = J
  · subst e
    rw [upd_same]
    exact hx
  · rw [upd_ne _ _ e]
    exact Int.le_refl _
theorem RdI.th {s : Sp} {T : Nat → Int} {c : Nat} {t t' : Tst (spLa cb rb m ra rc)} (h : RdI m s T c t'.left t'.d t'.ans) (e : t = t') : RdI m s T c t.left t.d t.ans := by subst e; exact h
theorem BnP.next (O : BnO ops K) (hm : 0 < m) {x : OX (spLa cb rb m ra rc)} {l : List Nat} (P : BnP ops K m x l) {i : Nat} (hi : i < K + 1) (ho : x.out i = none) : BnP ops K m (nextO x i) (l ++ [i]) := by
  have ho' := P.out i (by omega)
  rw [ho] at ho'
  cases hd : (x.th i).d with
  | none => rw [hd] at ho'; cases ho'
  | some d =>
    have hx : nextO x i = putO x i (landO (spLa cb rb m ra rc) ((spLa cb rb m ra rc).act x.s d) (x.th i).left (x.th i).ans) (x.cnt + 1) := by unfold nextO; rw [hd]
    rw [hx]
    clear hx
    by_cases hiK : i = K
    · subst hiK
      have htt := O.tot l
      have hs := P.sum
      have hr := P.rd
      rw [hd] at hr
      obtain ⟨lf', d', az', e, hr'⟩ := hr.step (cb := cb) (rb := rb) (rc := rc) (ra := ra) (T' := rdT ops i (l ++ [i])) hm P.nn (by omega) (fun k hk => rdT_far hk) (rdT_last.trans hs.symm)
      have e : landO (spLa cb rb m ra rc) ((spLa cb rb m ra rc).act x.s d) (x.th i).left (x.th i).ans = (x.s, ⟨lf', d', az'⟩) := e
      rw [e]
      have hlen : (mineR i (l ++ [i])).length = (mineR i l).length + 1 := by rw [mine_snoc, if_pos rfl]; simp
      refine ⟨fun j hj => ?_, fun j hj => ?_, fun j hj => ?_, ?_, P.nn, ?_, ?_⟩
      · obtain ⟨a1, az, a2⟩ := P.adr j hj
        rw [count_snoc, if_neg (by omega)]
        refine ⟨a1, az, ?_⟩
        exact (put_th_ne x (by omega) _ _).trans a2
      · by_cases e : j = i
        · subst e
          exact put_both x j _ _
        · exact put_both_ne x e _ _ (P.out j hj)
      · rcases List.mem_append.1 hj with h | h
        · exact P.mem j h
        · simp at h; omega
      · show sg (x.s : Sp) m = _
        rw [totS_far (Nat.le_refl _)]
        exact hs
      · show RdI m (x.s : Sp) _ _ (upd x.th i _ i).left (upd x.th i _ i).d (upd x.th i _ i).ans
        rw [upd_same, hlen]
        exact hr'
      · rw [List.length_append, hlen, len_snoc_far (Nat.le_refl _)]
        have := P.len
        simp only [List.length_singleton]
        omega
    · have hiK' : i < K := by omega
      obtain ⟨a1, az, a2⟩ := P.adr i hiK'
      have hcl : l.count i < (ops i).length := by
        refine Nat.lt_of_le_of_ne a1 fun e => ?_
        rw [e, List.drop_length] at a2
        rw [a2] at hd
        cases hd
      have hoi : (ops i)[l.count i]? = some (ops i)[l.count i] := List.getElem?_eq_getElem hcl
      rw [List.drop_eq_getElem_cons hcl] at a2
      have hadd := O.add i hiK' _ (List.getElem_mem hcl)
      generalize (ops i)[l.count i] = o at *
      obtain ⟨k1, k2, k3⟩ := hadd
      rw [a2] at hd ⊢
      have hd : some (SD.a1 (stAt m o.a) o.b) = some d := hd
      cases hd
      have hJm := stAt_lt hm o.a
      generalize hJ : stAt m o.a = J at *
      have hrest : ∀ o' ∈ (ops i).drop (l.count i + 1), o'.k = 1 := fun o' h => (O.add i hiK' o' (List.mem_of_mem_drop h)).1
      have hs := P.sum
      have h1 := sg_one (s := (x.s : Sp)) P.nn hJm
      have htt := O.tot l
      have hw : IntKind.i64.wrap ((x.s : Sp) J + o.b) = (x.s : Sp) J + o.b := wrap_small (by have := P.nn J hJm; omega) (by omega)
      have e : landO (spLa cb rb m ra rc) ((spLa cb rb m ra rc).act x.s (.a1 J o.b)) ((ops i).drop (l.count i + 1)) az = (upd (x.s : Sp) J ((x.s : Sp) J + o.b), adT cb rb m ra rc ((ops i).drop (l.count i + 1)) (az ++ [(true, (x.s : Sp) J + o.b)])) := by
        show landO (spLa cb rb m ra rc) (spAct m x.s (.a1 J o.b)) _ az = _
        show settleO (spLa cb rb m ra rc) (spPut x.s J (IntKind.i64.wrap ((x.s : Sp) J + o.b))) _ (az ++ [(true, IntKind.i64.wrap ((x.s : Sp) J + o.b))]) = _
        rw [hw]
        exact settle_add _ _ _ hrest
      show BnP ops K m (putO x i (landO (spLa cb rb m ra rc) ((spLa cb rb m ra rc).act x.s (.a1 J o.b)) ((ops i).drop (l.count i + 1)) az) (x.cnt + 1)) (l ++ [i])
      rw [e]
      refine ⟨fun j hj => ?_, fun j hj => ?_, fun j hj => ?_, ?_, fun j hj => ?_, ?_, ?_⟩
      · rw [count_snoc]
        by_cases e : j = i
        · subst e
          rw [if_pos rfl]
          exact ⟨hcl, az ++ [(true, (x.s : Sp) J + o.b)], put_th x j _ _⟩
        · rw [if_neg e]
          obtain ⟨b1, bz, b2⟩ := P.adr j hj
          refine ⟨b1, bz, ?_⟩
          exact (put_th_ne x e _ _).trans b2
      · by_cases e : j = i
        · subst e
          exact put_both x j _ _
        · exact put_both_ne x e _ _ (P.out j hj)
      · rcases List.mem_append.1 hj with h | h
        · exact P.mem j h
        · simp at h; omega
      · have e1 := sg_upd (s := (x.s : Sp)) (x := (x.s : Sp) J + o.b) hJm
        refine e1.trans ?_
        rw [totS_add hiK' hoi]
        omega
      · exact upd_nn (s := (x.s : Sp)) P.nn (by have := P.nn J hJm; omega) j hj
      · have hr := P.rd.up (s' := upd (x.s : Sp) J ((x.s : Sp) J + o.b)) (T' := rdT ops K (l ++ [i])) hm (fun j _ => upd_ge (s := (x.s : Sp)) (by omega) j) fun k hk => rdT_add hiK hk
        have hm1 : (mineR K (l ++ [i])).length = (mineR K l).length := by rw [mine_snoc, if_neg hiK, List.append_nil]
        rw [← hm1] at hr
        exact hr.th (put_th_ne x (fun e => hiK e.symm) _ _)
      · rw [List.length_append, mine_snoc, if_neg hiK, List.append_nil, len_snoc_add hiK']
        have := P.len
        simp only [List.length_singleton]
        omega
structure BnEnd (ops : Nat → List OpV) (K m : Nat) (l : List Nat) (az : List Ans) : Prop where
  mem : ∀ i ∈ l, i ≤ K
  cnt : ∀ i, i < K → l.count i ≤ (ops i).length
  len : l.length ≤ 31600
  rd : ∃ ev N0 b1 N1 N2, (mineR K l).length = 2 * m + ev ∧ az = [(true, N0), (b1, N1), (true, N2)] ∧ rdT ops K l 0 ≤ N0 ∧ N0 ≤ rdT ops K l (m - 1) ∧ EvOK m (rdT ops K l) ev b1 N1 ∧ rdT ops K l (m + ev) ≤ N2 ∧ N2 ≤ rdT ops K l (2 * m + ev - 1)
theorem bn_all (O : BnO ops K) (hm : 0 < m) (hm8 : m ≤ 8) (s0 : Sp) (hs0 : ∀ j, s0 j = 0) (sl : List Int) :
    stuckO (K + 1) (playO (spLa cb rb m ra rc) s0 ops (K + 1) 1048576 sl).1 = false ∧ BnEnd ops K m (playO (spLa cb rb m ra rc) s0 ops (K + 1) 1048576 sl).2 ((playO (spLa cb rb m ra rc) s0 ops (K + 1) 1048576 sl).1.th K).ans := by
  have P : BnP ops K m (playO (spLa cb rb m ra rc) s0 ops (K + 1) 1048576 sl).1 (playO (spLa cb rb m ra rc) s0 ops (K + 1) 1048576 sl).2 := by
    refine playO_inv (L := spLa cb rb m ra rc) s0 ops (K + 1) 1048576 sl (fun k x => x.s = s0 ∧ (∀ i, i < k → i < K → x.th i = adT cb rb m ra rc (ops i) []) ∧ (K < k → x.th K = ⟨[rdE, rdS], some (SD.u1 0 []), []⟩) ∧ ∀ i, i < k → x.out i = oD (x.th i).d) (BnP ops K m) ⟨rfl, fun i hi => by omega, fun h => by omega, fun i hi => by omega⟩ ?_ ?_ fun x l i P hi ho _ => P.next O hm hi ho
    · rintro k x hk ⟨h1, h2, h3, h4⟩
      have hset : settleO (spLa cb rb m ra rc) x.s (ops k) [] = (x.s, if k < K then adT cb rb m ra rc (ops k) [] else ⟨[rdE, rdS], some (SD.u1 0 []), []⟩) := by
        by_cases hkK : k < K
        · rw [if_pos hkK]
          exact settle_add x.s (ops k) [] fun o ho => (O.add k hkK o ho).1
        · rw [if_neg hkK]
          obtain rfl : k = K := by omega
          rw [O.rd]
          rfl
      show (putO x k (settleO (spLa cb rb m ra rc) x.s (ops k) []) x.cnt).s = s0 ∧ _
      unfold bornO
      rw [hset]
      refine ⟨h1, fun i hi hiK => ?_, fun hK => ?_, fun i hi => ?_⟩
      · show upd x.th k _ i = _
        by_cases e : i = k
        · subst e
          rw [upd_same]
          exact if_pos hiK
        · rw [upd_ne _ _ e]
          exact h2 i (by omega) hiK
      · show upd x.th k _ K = _
        by_cases e : K = k
        · rw [← e, upd_same]
          exact if_neg (by omega)
        · rw [upd_ne _ _ e]
          exact h3 (by omega)
      · by_cases e : i = k
        · subst e
          exact put_both x i _ _
        · exact put_both_ne x e _ _ (h4 i (by omega))
    · rintro x ⟨h1, h2, h3, h4⟩
      refine ⟨fun i hi => ⟨Nat.zero_le _, [], h2 i (by omega) hi⟩, fun i hi => h4 i (by omega), fun i hi => by simp at hi, ?_, fun j hj => ?_, ?_, ?_⟩
      · rw [h1]
        exact (sg_zero fun j _ => hs0 j).trans (sg_zero fun j _ => rfl).symm
      · rw [h1, hs0 j]
        exact Int.le_refl _
      · rw [h3 (by omega)]
        exact .r0 [] hm ⟨rfl, fun h => absurd h (Nat.lt_irrefl _)⟩
      · have e0 : sg (fun i => ((([] : List Nat).count i : Nat) : Int)) K = 0 := sg_zero fun j _ => rfl
        rw [e0]
        rfl
  have hov : overA (absO (spLa cb rb m ra rc) (K + 1) (min (max 1048576 0) 1048576) ops) (playO (spLa cb rb m ra rc) s0 ops (K + 1) 1048576 sl) = true := followA_over _ _ _
  generalize playO (spLa cb rb m ra rc) s0 ops (K + 1) 1048576 sl = F at *
  have hfew := O.few
  have hcnt : sg (fun i => (F.2.count i : Int)) K ≤ K * 500 := sg_const fun i hi => by
    have := (P.adr i hi).1
    have := O.len i hi
    show (F.2.count i : Int) ≤ 500
    omega
  have hmine : (mineR K F.2).length ≤ 4 * m := by
    have hr := P.rd
    generalize (mineR K F.2).length = c at *
    generalize (F.1.th K).left = lf at *
    generalize (F.1.th K).d = d at *
    generalize (F.1.th K).ans = az at *
    cases hr with
    | r0 seen h1 h2 => omega
    | r1 k seen N0 h1 h2 h3 h4 h5 => omega
    | r2 k seen N0 h1 h2 h3 h4 h5 => omega
    | r3 k ev seen N0 b1 N1 h1 h2 h3 h4 h5 h6 => have := h5.le hm; omega
    | r4 ev N0 b1 N1 N2 h1 h3 h4 h5 h6 h7 => have := h5.le hm; omega
  have hlen : F.2.length ≤ 31600 := by have := P.len; omega
  have hgo : goingA (absO (spLa cb rb m ra rc) (K + 1) (min (max 1048576 0) 1048576) ops) F.1 = 0 := by
    simp only [overA, Bool.or_eq_true, decide_eq_true_eq] at hov
    rcases hov with h | h
    · exact h
    · have h : (1048576 : Int) ≤ F.2.length := h
      omega
  have hst : stuckO (K + 1) F.1 = false := by
    unfold stuckO
    have h : (List.range (K + 1)).countP (fun i => (F.1.out i).isNone) = 0 := hgo
    rw [h]
    rfl
  refine ⟨hst, P.mem, fun i hi => (P.adr i hi).1, hlen, ?_⟩
  have hK : F.1.out K ≠ none := fun h => by
    have h0 : (List.range (K + 1)).countP (fun i => (F.1.out i).isNone) = 0 := hgo
    rw [List.countP_eq_zero] at h0
    have := h0 K (by simp)
    rw [h] at this
    exact this rfl
  have hout := P.out K (Nat.le_refl _)
  have hr := P.rd
  cases hd : (F.1.th K).d with
  | some d => rw [hd] at hout; exact absurd hout hK
  | none =>
    rw [hd] at hr
    generalize (F.1.th K).left = lf at *
    generalize (F.1.th K).ans = az at *
    cases hr with
    | r4 ev N0 b1 N1 N2 h1 h3 h4 h5 h6 h7 => exact ⟨ev, N0, b1, N1, N2, h1, rfl, h3, h4, h5, h6, h7⟩
end
end
end Go.Proofs.Ytnnakajldnaldaa
