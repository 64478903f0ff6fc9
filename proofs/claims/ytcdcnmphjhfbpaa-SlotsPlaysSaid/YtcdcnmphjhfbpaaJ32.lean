/- Part 32. -/
import Derived.Test.YtcdcnmphjhfbpaaJ9
import Derived.Test.YtcdcnmphjhfbpaaJ12
import Derived.Test.YtcdcnmphjhfbpaaJ29
import Derived.Test.YtcdcnmphjhfbpaaJ30
import Derived.Test.YtcdcnmphjhfbpaaJ31
set_option linter.unusedSimpArgs false
set_option linter.unusedVariables false
set_option maxHeartbeats 8000000
set_option maxRecDepth 100000
namespace Go.Proofs.Ytcdcnmphjhfbpaa
open Go.Conc Go.RowKit Go.Relay
open Go.ConcN (upd upd_ne upd_same)
section
section
variable {X X' : Type} {C : Abs X} {C' : Abs X'} {e : X -> X'}
theorem Zf (hn : C'.n = C.n) (hm : C'.most = C.most) (ho : ∀ x i, C'.out (e x) i = C.out x i) (st : X × List Nat) : Bv C' (e st.1, st.2) = Bv C st := by
 have hg : Dg C' (e st.1) = Dg C st.1 := by
  unfold Dg
  simp only [hn, ho]
 simp only [Bv, hg, hm]
theorem Qz (hn : C'.n = C.n) (hm : C'.most = C.most) (hx : ∀ x i, C'.next (e x) i = e (C.next x i)) (ho : ∀ x i, C'.out (e x) i = C.out x i) (st : X × List Nat) (z : Int) : Bj C' (e st.1, st.2) z = (e (Bj C st z).1, (Bj C st z).2) := by
 have hcond : (Bv C' (e st.1, st.2) = false /\ 0 <= z /\ z < C'.n /\ C'.out (e st.1, st.2).1 z.toNat = none) ↔ (Bv C st = false /\ 0 <= z /\ z < C.n /\ C.out st.1 z.toNat = none) := by rw [Zf hn hm ho, hn, ho]
 unfold Bj
 by_cases h : Bv C st = false /\ 0 <= z /\ z < C.n /\ C.out st.1 z.toNat = none
 ·rw [if_pos (hcond.2 h), if_pos h, hx]
 ·rw [if_neg fun q => h (hcond.1 q), if_neg h]
theorem Qq (hn : C'.n = C.n) (hm : C'.most = C.most) (hx : ∀ x i, C'.next (e x) i = e (C.next x i)) (ho : ∀ x i, C'.out (e x) i = C.out x i) : ∀ (l : List Int) (st : X × List Nat), l.foldl (Bj C') (e st.1, st.2) = (e (l.foldl (Bj C) st).1, (l.foldl (Bj C) st).2)
 | [], st => rfl
 | z :: l, st => by
  simp only [List.foldl_cons]
  rw [Qz hn hm hx ho]
  exact Qq hn hm hx ho l _
theorem Qr (hn : C'.n = C.n) (hm : C'.most = C.most) (hx : ∀ x i, C'.next (e x) i = e (C.next x i)) (ho : ∀ x i, C'.out (e x) i = C.out x i) : ∀ (l : List Nat) (st : X × List Nat), l.foldl (fun st i => Bj C' st (i : Nat)) (e st.1, st.2) = (e (l.foldl (fun st i => Bj C st (i : Nat)) st).1, (l.foldl (fun st i => Bj C st (i : Nat)) st).2)
 | [], st => rfl
 | z :: l, st => by
  simp only [List.foldl_cons]
  rw [Qz hn hm hx ho]
  exact Qr hn hm hx ho l _
theorem Zc (hn : C'.n = C.n) (hm : C'.most = C.most) (hx : ∀ x i, C'.next (e x) i = e (C.next x i)) (ho : ∀ x i, C'.out (e x) i = C.out x i) : ∀ (f : Nat) (st : X × List Nat), Dj C' f (e st.1, st.2) = (e (Dj C f st).1, (Dj C f st).2)
 | 0, st => rfl
 | f + 1, st => by
  unfold Dj
  rw [Zf hn hm ho]
  split
  ·rfl
  ·unfold Hm
   rw [hn, Qr hn hm hx ho]
   exact Zc hn hm hx ho f _
theorem Qu (hb : ∀ x i, C'.born (e x) i = e (C.born x i)) : ∀ (n k : Nat) (x : X), Fh C' n k (e x) = e (Fh C n k x)
 | 0, _, _ => rfl
 | n + 1, k, x => by
  unfold Fh
  rw [hb]
  exact Qu hb n (k + 1) _
theorem Zx (hn : C'.n = C.n) (hm : C'.most = C.most) (hb : ∀ x i, C'.born (e x) i = e (C.born x i)) (hx : ∀ x i, C'.next (e x) i = e (C.next x i)) (ho : ∀ x i, C'.out (e x) i = C.out x i) (x0 : X) (l : List Int) : runA C' (e x0) l = (e (runA C x0 l).1, (runA C x0 l).2) := by
 unfold runA Lh
 rw [hn, Qu hb, hm]
 have h := Qq hn hm hx ho l (Fh C C.n 0 x0, [])
 rw [h]
 exact Zc hn hm hx ho _ _
end
end
section
def NoR (rv : Value) (w : World) : Prop := rv = .pointer none ∨ ∃ zb, rv = .pointer (some ⟨zb, 0, none⟩) /\ w.heap[zb]? = some (.cells #[.slice none 0 0] 132)
section
variable {main : Bool} {V : Nat -> Option Wait}
theorem Yn (zb : Nat) (w : World) (h : w.heap[zb]? = some (.cells #[.slice none 0 0] 132)) : As Try.prog main V 19 #[.pointer (some ⟨zb, 0, none⟩)] w (.int .i64 0) w := by
 have c1 : w.cell? ⟨zb, 0, none⟩ = some (.slice none 0 0) := (Ac h 0).trans rfl
 have hp1 := fun w => Bz (P := Try.prog) 35 Dl (some ⟨zb, 0, none⟩) w
 have hp2 := fun w es => Cn (P := Try.prog) 35 Dl (some ⟨zb, 0, none⟩) w es
 simp only [Option.isNone_some] at hp1
 clear h
 refine Ap Try.func19 code19_is fun fr cs => ?_
 simp only [Try.ntmps19, ez, Nat.reduceAdd, Nat.reduceSub]
 refine Aa z19 ?_
 exact An rfl rfl Try.func19 rfl fun d => ⟨rfl, d, rfl⟩
theorem Qda (rv : Value) (w : World) (h : NoR rv w) : As Try.prog main V 19 #[rv] w (.int .i64 0) w := by
 rcases h with rfl | ⟨zb, rfl, h2⟩
 ·exact size_nil w
 ·exact Yn zb w h2
end
end
section
def nrLa : La where
 Sg := Rg
 D := RD
 Gh := Unit
 le := fun _ _ => True
 refl := fun _ => trivial
 trans := fun _ _ => trivial
 enter := fun s _ _ => (s, .inl ⟨false, 0, []⟩)
 act := Bh 0
 sh := fun _ _ => False
 mono := fun _ h => h
 I := fun _ _ _ => True
 stable := fun _ _ => trivial
 lt := fun _ hb => hb.elim
section
variable {sv : Value}
theorem ndo_s (K : Lg nrLa sv) (e : K.E) (th ok oa ob oc : Int) (ht : K.tgt e = (K.s e, .inl ⟨false, 0, []⟩)) :
  SCall K.toLb 67 #[.pointer none, sv, .int .i64 th, .agg #[.int .i64 ok, .int .i64 oa, .int .i64 ob, .int .i64 oc]] e (DoOutG K) := by
 intro fr l hp hl hk
 have hp1 := fun w => Bz (P := Try.prog) 35 Dl none w
 have hp2 := fun w es => Cn (P := Try.prog) 35 Dl none w es
 simp only [Option.isNone_none] at hp1
 unfold LW
 rw [enter_at _ Try.func67 code67_is]
 simp only [Try.ntmps67, ez, Nat.reduceAdd, Nat.reduceSub]
 refine Aa z67 ?_
 (refine Walk.oa ?_; try walk_nrm)
 (refine Walk.oa ?_; try walk_nrm)
 have hA1 : ((K.w e).alloc (.cells #[.int .i64 ok, .int .i64 oa, .int .i64 ob, .int .i64 oc] 49)).heap.size = (K.w e).heap.size + 1 := by simp
 have c2 : (((K.w e).alloc (.cells #[.int .i64 ok, .int .i64 oa, .int .i64 ob, .int .i64 oc] 49)).alloc (.cells #[.bool false, .int .i64 0, .slice none 0 0] 46)).heap[(K.w e).heap.size + 1]? = some (.cells #[.bool false, .int .i64 0, .slice none 0 0] 46) := by
  have := heap_alloc_new ((K.w e).alloc (.cells #[.int .i64 ok, .int .i64 oa, .int .i64 ob, .int .i64 oc] 49)) (.cells #[.bool false, .int .i64 0, .slice none 0 0] 46)
  rwa [hA1] at this
 have hs2 : (((K.w e).alloc (.cells #[.int .i64 ok, .int .i64 oa, .int .i64 ob, .int .i64 oc] 49)).alloc (.cells #[.bool false, .int .i64 0, .slice none 0 0] 46)).heap.size = (K.w e).heap.size + 2 := by simp
 obtain ⟨e1, m1⟩ := K.grow e (w' := ((K.w e).alloc (.cells #[.int .i64 ok, .int .i64 oa, .int .i64 ob, .int .i64 oc] 49)).alloc (.cells #[.bool false, .int .i64 0, .slice none 0 0] 46)) (by omega) (fun b hb' => by
  rw [Ad _ _ (by omega)]
  exact Ad _ _ hb')
 try simp only [hA1]
 generalize hw2 : ((K.w e).alloc (.cells #[.int .i64 ok, .int .i64 oa, .int .i64 ob, .int .i64 oc] 49)).alloc (.cells #[.bool false, .int .i64 0, .slice none 0 0] 46) = w2 at *
 generalize hN : (K.w e).heap.size = N at *
 have hmn : K.mine e1 (N + 1) := m1.new (by omega) (by omega)
 have ht1 : K.tgt e1 = (K.s e1, .inl aNoR) := by rw [m1.tgt, m1.s]; exact ht
 have hw1 := m1.w
 refine Jr (l := fr :: l) m1 ?_
 unfold LW
 clear hw2 m1 ht
 subst hw1
 have hapN := (K.mineA e1 _ hmn).1
 refine Aa z67 ?_
 refine Az 46 (.tmp 8) (.tmp 13) Aj (by rfl) (by decide) rfl (N + 1) #[.bool false, .int .i64 0, .slice none 0 0] _ 46 rfl rfl c2 (by kernel_rfl) (by rfl) (by simp [Value.oneCell']) hapN ?_
 walk_nrm
 refine Aa z67 ?_
 exact Dr K (a := aNoR) (sl := .slice none 0 0) hmn c2 ht1 (GatL.nil K e1) (fun e' h h' => hk _ e' ⟨_, _, h, rfl, h', by simp [aNoR]⟩) Try.func67 rfl ⟨rfl, rfl, rfl, rfl, rfl⟩
theorem Qdp : DoFn nrLa 67 #[.pointer none] #[] :=
 ⟨⟨_, Try.func67, by kernel_rfl, by rfl⟩, fun sv K e th op ht => (ndo_s K e th op.k op.a op.b op.c ht).mono fun v e' ⟨a, sl, h1, h2, h3, h4⟩ => ⟨a, sl, h1, h2, h3.lsR, by omega⟩⟩
end
section
variable {main : Bool} {V : Nat -> Option Wait}
theorem Yg (rv fv : Value) (w : World) (h : NoR rv w) : CallW Try.prog main V 76 #[rv, fv] w (Jq 0 (fun _ => 0) w) := by
 intro c cs
 have k1 := Qda (main := main) (V := V) rv w h
 have hi1 := Option.some_get (show (Try.prog.info? 2).isSome = true by kernel_rfl)
 clear h
 rw [enter_at _ Try.func76 code76_is]
 simp only [Try.ntmps76, ez, Nat.reduceAdd, Nat.reduceSub]
 refine Aa z76 ?_
 refine Walk.callV (x := .int .i64 0) (W := w) ?_ Aj (by rfl) (by decide) rfl Try.func19 (by kernel_rfl) (by rfl) ?_
 ·walk_nrm
  exact k1
 walk_nrm
 refine Aa z76 ?_
 refine Ek 22 (.tmp 8) (.tmp 8) Aj (by rfl) (by decide) rfl 2 _ (.int .i64 0) 1 8 (by kernel_rfl) hi1.symm (by rfl) (by rfl) (by rfl) 0 (by rfl) (by rfl) (by omega) (by omega) ?_
 have d0 : NumB (w.alloc (.cells (madeCells #[Value.int .i64 0] 0) 2)) w.heap.size [] := by
  have := heap_alloc_new w (.cells (madeCells #[Value.int .i64 0] 0) 2)
  rw [Ka] at this
  rw [Ka]
  exact this
 walk_nrm
 have hob : Obj.cells (madeCells #[Value.int .i64 0] 0) 2 = Obj.cells (madeCells (Value.int .i64 0).cells 0) 2 := rfl
 try simp only [Value.cells]
 have o1 : ∀ b, b < w.heap.size -> (w.alloc (.cells (madeCells #[Value.int .i64 0] 0) 2)).heap[b]? = w.heap[b]? := fun b hb => Ad _ _ hb
 have s1 : (w.alloc (.cells (madeCells #[Value.int .i64 0] 0) 2)).heap.size = w.heap.size + 1 := by simp
 clear k1 hob
 generalize hR : w.heap.size = R at *
 generalize w.alloc (.cells (madeCells #[Value.int .i64 0] 0) 2) = w1 at *
 refine Aa z76 ?_
 refine Walk.ctl rfl (fun w => stepG_loop) ?_
 refine Aa z76 ?_
 refine Be rfl rfl Try.func76 rfl (.stop fun d => ⟨_, ⟨by rw [hR]; rfl, by rw [hR]; exact d0, fun b hb => o1 b (by omega), by show w.heap.size < w1.heap.size; omega⟩, rfl⟩)
theorem Ym (rv : Value) (w : World) (h : NoR rv w) : CallW Try.prog main V 26 #[rv] w (Jq 0 (fun _ => 0) w) := by
 intro c cs
 have hE := fun fv => Yg (main := main) (V := V) rv fv w h
 clear h
 rw [enter_at _ Try.func26 code26_is]
 simp only [Try.ntmps26, ez, Nat.reduceAdd, Nat.reduceSub]
 refine Aa z26 ?_
 refine Ah (Post := Jq 0 (fun _ => 0) w) ?_ Aj (by rfl) (by decide) rfl Try.func76 (by kernel_rfl) (by rfl) ?_
 ·walk_nrm
  exact hE _
 rintro v w2 ⟨rfl, n2, o2, z2⟩
 walk_nrm
 refine Aa z26 ?_
 exact Be rfl rfl Try.func26 rfl (.stop fun d => ⟨_, ⟨rfl, n2, o2, z2⟩, rfl⟩)
theorem Yj (rv : Value) (w : World) (h : NoR rv w) : CallW Try.prog main V 27 #[rv] w (Jq 0 (fun _ => 0) w) := by
 intro c cs
 have hE := fun fv => Yg (main := main) (V := V) rv fv w h
 clear h
 rw [enter_at _ Try.func27 code27_is]
 simp only [Try.ntmps27, ez, Nat.reduceAdd, Nat.reduceSub]
 refine Aa z27 ?_
 refine Ah (Post := Jq 0 (fun _ => 0) w) ?_ Aj (by rfl) (by decide) rfl Try.func76 (by kernel_rfl) (by rfl) ?_
 ·walk_nrm
  exact hE _
 rintro v w2 ⟨rfl, n2, o2, z2⟩
 walk_nrm
 refine Aa z27 ?_
 exact Be rfl rfl Try.func27 rfl (.stop fun d => ⟨_, ⟨rfl, n2, o2, z2⟩, rfl⟩)
def StZ (w : World) (v : Value) (w' : World) : Prop := ∃ B, v = .slice (some ⟨B, 0, none⟩) 0 0 /\ NumB w' B [] /\ w.heap.size <= B /\ (∀ b, b < w.heap.size -> w'.heap[b]? = w.heap[b]?) /\ w.heap.size <= w'.heap.size
theorem Qax (w : World) : CallW Try.prog main V 68 #[.pointer none] w (StZ w) := by
 intro c cs
 have hi1 := Option.some_get (show (Try.prog.info? 2).isSome = true by kernel_rfl)
 have k1 := Ym (main := main) (V := V) (.pointer none) w (.inl rfl)
 have k2 := fun w => Yj (main := main) (V := V) (.pointer none) w (.inl rfl)
 rw [enter_at _ Try.func68 Qs]
 simp only [Try.ntmps68, ez, Nat.reduceAdd, Nat.reduceSub]
 refine Aa z68 ?_
 refine Ah (Post := Jq 0 (fun _ => 0) w) ?_ Aj (by rfl) (by decide) rfl Try.func26 (by kernel_rfl) (by rfl) ?_
 ·walk_nrm
  exact k1
 rintro v w2 ⟨rfl, n2, o2, z2⟩
 clear k1
 walk_nrm
 refine Aa z68 ?_
 refine Ah (Post := Jq 0 (fun _ => 0) w2) ?_ Aj (by rfl) (by decide) rfl Try.func27 (by kernel_rfl) (by rfl) ?_
 ·walk_nrm
  exact k2 w2
 rintro v w3 ⟨rfl, n3, o3, z3⟩
 clear k2
 have hz := fun w es => run_app0 (P := Try.prog) Gr hi1.symm 22 ⟨w.heap.size, 0, none⟩ (some ⟨w2.heap.size, 0, none⟩) 0 w es
 have hB := n2.same (w' := w3) (o3 _ (by omega))
 have ho : ∀ b, b < w.heap.size -> w3.heap[b]? = w.heap[b]? := fun b hb => (o3 b (by omega)).trans (o2 b hb)
 have hzr := fun w' => (hz w' #[]).1
 have hze := fun w' es => (hz w' es).2
 clear hz n2 n3
 walk_nrm
 refine Aa z68 ?_
 exact Be rfl rfl Try.func68 rfl (.stop fun d => ⟨_, ⟨w.heap.size, rfl, hB, Nat.le_refl _, ho, by show w.heap.size <= w3.heap.size; omega⟩, rfl⟩)
end
end
section
theorem Zr {m : Nat} (hm : 0 < m) (s : Rg) (th : Int) (o : OpV) : Fo m s th o = Ed m s th o := by
 have h0 : ¬ m = 0 := by omega
 unfold Ed Fo eR dR
 by_cases k1 : o.k = 1
 ·by_cases g : good o.a <;> simp [k1, g, h0]
 by_cases k2 : o.k = 2
 ·by_cases g : good o.a <;> simp [k2, g, h0]
 by_cases k3 : o.k = 3
 ·by_cases g : good o.a <;> simp [k3, g, h0]
 by_cases k4 : o.k = 4
 ·by_cases g : good o.a /\ o.a <= o.b
  ·have ha : ¬ o.a = -9223372036854775808 := fun e => by have := g.1.1; omega
   simp [k4, ha, g, h0]
  ·by_cases e : o.a = -9223372036854775808
   ·have g' : ¬ good (-9223372036854775808) := fun h => by have := h.1; omega
    simp [k4, e, g', h0]
   ·simp [k4, e, g, h0]
 by_cases k5 : o.k = 5
 ·by_cases g : good o.a
  ·by_cases hb : o.b < 1
   ·have hb' : min o.b m <= 0 := by omega
    simp [k5, g, hb, hb', h0]
   ·have hb' : ¬ min o.b m <= 0 := by omega
    simp only [k5, g, hb, hb', h0]
    simp
  ·simp [k5, g, h0]
 ·have hM : m = 0 ∨ o.k < 1 ∨ 5 < o.k := by omega
  rw [if_pos hM, if_neg k1, if_neg k2, if_neg k3, if_neg k4, if_neg k5]
theorem Zt (s : Rg) (th : Int) (o : OpV) : nrLa.enter s th o = Ed 0 s th o := by
 unfold Ed eR
 rw [if_pos (.inl rfl)]
 rfl
section
variable {m : Nat} (rb sb : Nat)
def Qbg (t : Tst (Bp m)) : Tst (Bs rb sb m) := ⟨t.left, t.d, t.ans⟩
def Jy (x : OX (Bp m)) : OX (Bs rb sb m) := ⟨x.s, fun i => Qbg rb sb (x.th i), x.out, x.cnt⟩
theorem Io (hm : 0 < m) (th : Int) : ∀ (l : List OpV) (s : Rg) (az : List Ans), Bc (Bs rb sb m) th s l az = ((Bc (Bp m) th s l az).1, Qbg rb sb (Bc (Bp m) th s l az).2)
 | [], s, az => rfl
 | o :: l, s, az => by
  have e1 : Bc (Bs rb sb m) th s (o :: l) az = Ch (Bs rb sb m) th (Fo m s th o) l az := rfl
  have e2 : Bc (Bp m) th s (o :: l) az = Ch (Bp m) th (Ed m s th o) l az := rfl
  rw [e1, e2, Zr hm]
  cases Ed m s th o with
  | mk s' r =>
   cases r with
   | inl a => exact Io hm th l s' (az ++ [a])
   | inr d => rfl
theorem Qbe (hm : 0 < m) (th : Int) (r : Rg × (Ans ⊕ RD)) (left : List OpV) (az : List Ans) : Ch (Bs rb sb m) th r left az = ((Ch (Bp m) th r left az).1, Qbg rb sb (Ch (Bp m) th r left az).2) := by
 cases r with
 | mk s' r =>
  cases r with
  | inl a => exact Io rb sb hm th left s' (az ++ [a])
  | inr d => rfl
theorem Yd (x : OX (Bp m)) (i : Nat) (r : Rg × Tst (Bp m)) (c : Nat) : Dy (Jy rb sb x) i (r.1, Qbg rb sb r.2) c = Jy rb sb (Dy x i r c) := by
 unfold Dy Jy
 congr 1
 ·funext j
  simp only [upd]
  split <;> rfl
 ·obtain ⟨rs, rl, rd, ra⟩ := r
  cases rd <;> rfl
theorem Qbf (hm : 0 < m) (ops : Nat -> List OpV) (x : OX (Bp m)) (i : Nat) : Gl ops (Jy rb sb x) i = Jy rb sb (Gl ops x i) := by
 unfold Gl
 rw [show Bc (Bs rb sb m) (i : Nat) (Jy rb sb x).s (ops i) [] = ((Bc (Bp m) (i : Nat) x.s (ops i) []).1, Qbg rb sb (Bc (Bp m) (i : Nat) x.s (ops i) []).2) from Io rb sb hm _ _ _ _]
 exact Yd rb sb x i _ _
theorem Qbd (hm : 0 < m) (x : OX (Bp m)) (i : Nat) : Ct (Jy rb sb x) i = Jy rb sb (Ct x i) := by
 unfold Ct
 have e : ((Jy rb sb x).th i).d = (x.th i).d := rfl
 rw [e]
 cases (x.th i).d with
 | none => rfl
 | some d =>
  show Dy (Jy rb sb x) i (Ch (Bs rb sb m) (i : Nat) (Bh m x.s d) (x.th i).left (x.th i).ans) (x.cnt + 1) = Jy rb sb (Dy x i (Ch (Bp m) (i : Nat) (Bh m x.s d) (x.th i).left (x.th i).ans) (x.cnt + 1))
  rw [Qbe rb sb hm]
  exact Yd rb sb x i _ _
theorem playR (hm : 0 < m) (s0 : Rg) (ops : Nat -> List OpV) (n : Nat) (mo : Int) (sl : List Int) : Bu (Bs rb sb m) s0 ops n mo sl = (Jy rb sb (Bu (Bp m) s0 ops n mo sl).1, (Bu (Bp m) s0 ops n mo sl).2) :=
 Zx (C := Cc (Bp m) n (min (max mo 0) 1048576) ops) (C' := Cc (Bs rb sb m) n (min (max mo 0) 1048576) ops) (e := Jy rb sb) rfl rfl (Qbf rb sb hm ops) (Qbd rb sb hm) (fun _ _ => rfl) (Ok (Bp m) s0) sl
end
section
def Qbk (t : Tst (Bp 0)) : Tst (nrLa) := ⟨t.left, t.d, t.ans⟩
def Jz (x : OX (Bp 0)) : OX (nrLa) := ⟨x.s, fun i => Qbk (x.th i), x.out, x.cnt⟩
theorem Ip (th : Int) : ∀ (l : List OpV) (s : Rg) (az : List Ans), Bc (nrLa) th s l az = ((Bc (Bp 0) th s l az).1, Qbk (Bc (Bp 0) th s l az).2)
 | [], s, az => rfl
 | o :: l, s, az => by
  have e1 : Bc (nrLa) th s (o :: l) az = Ch (nrLa) th (nrLa.enter s th o) l az := rfl
  have e2 : Bc (Bp 0) th s (o :: l) az = Ch (Bp 0) th (Ed 0 s th o) l az := rfl
  rw [e1, e2, Zt]
  cases Ed 0 s th o with
  | mk s' r =>
   cases r with
   | inl a => exact Ip th l s' (az ++ [a])
   | inr d => rfl
theorem Qbi (th : Int) (r : Rg × (Ans ⊕ RD)) (left : List OpV) (az : List Ans) : Ch (nrLa) th r left az = ((Ch (Bp 0) th r left az).1, Qbk (Ch (Bp 0) th r left az).2) := by
 cases r with
 | mk s' r =>
  cases r with
  | inl a => exact Ip th left s' (az ++ [a])
  | inr d => rfl
theorem Ye (x : OX (Bp 0)) (i : Nat) (r : Rg × Tst (Bp 0)) (c : Nat) : Dy (Jz x) i (r.1, Qbk r.2) c = Jz (Dy x i r c) := by
 unfold Dy Jz
 congr 1
theorem Qbj (ops : Nat -> List OpV) (x : OX (Bp 0)) (i : Nat) : Gl ops (Jz x) i = Jz (Gl ops x i) := by
 unfold Gl
 rw [show Bc (nrLa) (i : Nat) (Jz x).s (ops i) [] = ((Bc (Bp 0) (i : Nat) x.s (ops i) []).1, Qbk (Bc (Bp 0) (i : Nat) x.s (ops i) []).2) from Ip _ _ _ _]
 exact Ye x i _ _
theorem Qbh (x : OX (Bp 0)) (i : Nat) : Ct (Jz x) i = Jz (Ct x i) := by
 unfold Ct
 have e : ((Jz x).th i).d = (x.th i).d := rfl
 rw [e]
 cases (x.th i).d with
 | none => rfl
 | some d =>
  show Dy (Jz x) i (Ch (nrLa) (i : Nat) (Bh 0 x.s d) (x.th i).left (x.th i).ans) (x.cnt + 1) = Jz (Dy x i (Ch (Bp 0) (i : Nat) (Bh 0 x.s d) (x.th i).left (x.th i).ans) (x.cnt + 1))
  rw [Qbi]
  exact Ye x i _ _
theorem playN (s0 : Rg) (ops : Nat -> List OpV) (n : Nat) (mo : Int) (sl : List Int) : Bu (nrLa) s0 ops n mo sl = (Jz (Bu (Bp 0) s0 ops n mo sl).1, (Bu (Bp 0) s0 ops n mo sl).2) :=
 Zx (C := Cc (Bp 0) n (min (max mo 0) 1048576) ops) (C' := Cc (nrLa) n (min (max mo 0) 1048576) ops) (e := Jz) rfl rfl (Qbj ops) (Qbh) (fun _ _ => rfl) (Ok (Bp 0) s0) sl
end
end
def Qeb (T0 : Nat) (fr c : Frame) (cs : List Frame) : Prop := ∀ (A na : Nat) (oo : Option Addr) (ol ok : Nat) (stuck : Bool) (w : World), w.heap[T0]? = some (.cells #[.slice none 0 0, .slice none 0 0, .slice none 0 0, .bool false] 31) ->
 Walk Try.prog true (DR (fun _ => none)) (fun g w' => ∃ B, g = G (c.finish (.agg #[.slice (some ⟨A, 0, none⟩) na na, .slice oo ol ok, .slice (some ⟨B, 0, none⟩) 0 0, .bool stuck])) cs /\ NumB w' B [] /\ w.heap.size <= B /\ (∀ b, b < w.heap.size -> b ≠ T0 -> w'.heap[b]? = w.heap[b]?) /\ w.heap.size <= w'.heap.size)
  (G (fr.finish (.agg #[.slice (some ⟨A, 0, none⟩) na na, .slice oo ol ok, .slice none 0 0, .bool stuck])) (c :: cs)) w
theorem Qaz (sl : Value) (xs : List Int) (tv sv : Value) (mo : Int) (c : Frame) (cs : List Frame) (w : World) (hx : LsR sl xs w) (hr : ¬ Nu xs) :
  Walk Try.prog true (DR (fun _ => none)) (fun g w' => ∃ fr, g = G (Frame.enter Try.prog 66 #[tv, .func (.func 67) #[.pointer none] #[], sv, .int .i64 mo] .normal) (fr :: c :: cs) /\ (∀ b, b < w.heap.size -> w'.heap[b]? = w.heap[b]?) /\ w.heap.size + 1 <= w'.heap.size /\
    w'.heap[w.heap.size]? = some (.cells #[.slice none 0 0, .slice none 0 0, .slice none 0 0, .bool false] 31) /\ Qeb w.heap.size fr c cs)
   (G (Frame.enter Try.prog 15 #[sl, tv, sv, .int .i64 mo] .normal) (c :: cs)) w := by
 have hA : ∀ b, Bd (fun _ => none) b := fun b => ⟨fun _ _ _ _ h => (by cases h), fun _ _ h => (by cases h)⟩
 obtain ⟨fsT, huT⟩ := Co 31 (by kernel_rfl)
 rw [enter_at _ Try.func15 Qt]
 simp only [Try.ntmps15, ez, Nat.reduceAdd, Nat.reduceSub]
 refine Aa z15 ?_
 (refine Walk.oa ?_; try walk_nrm)
 have s1 : (w.alloc (.cells #[.slice none 0 0, .slice none 0 0, .slice none 0 0, .bool false] 31)).heap.size = w.heap.size + 1 := by simp
 have o1 : ∀ b, b < w.heap.size -> (w.alloc (.cells #[.slice none 0 0, .slice none 0 0, .slice none 0 0, .bool false] 31)).heap[b]? = w.heap[b]? := fun b hb => Ad _ _ hb
 have d1 := heap_alloc_new w (.cells #[.slice none 0 0, .slice none 0 0, .slice none 0 0, .bool false] 31)
 generalize hN : w.heap.size = T0 at *
 generalize w.alloc (.cells #[.slice none 0 0, .slice none 0 0, .slice none 0 0, .bool false] 31) = w1 at *
 refine Aa z15 ?_
 have hx1 : LsR sl xs w1 := hx.same (fun b hb => o1 b (by omega))
 obtain ⟨xa, xc, rfl, hxr⟩ := hx
 clear hxr
 refine Walk.callV (x := .pointer none) (W := w1) ?_ Aj (by rfl) (by decide) rfl Try.func65 (by kernel_rfl) (by rfl) ?_
 ·walk_nrm
  exact Zp xa xs xc hr w1 hx1
 clear hx1
 walk_nrm
 refine Aa z15 ?_
 refine Walk.callE Aj (by rfl) (by decide) rfl Try.func66 (by kernel_rfl) (by rfl) ?_
 walk_nrm
 refine .stop fun d => ⟨_, rfl, fun b hb => o1 b hb, show T0 + 1 <= w1.heap.size by omega, d1, ?_⟩
 clear d1 o1 s1
 intro A na oo ol ok stuck w4 hT
 refine Walk.finish Aj ?_
 walk_nrm
 (refine Walk.oa ?_; try walk_nrm)
 have d5 := heap_alloc_new w4 (.cells #[.slice none 0 0, .slice none 0 0, .slice none 0 0, .bool false] 31)
 have s5 : (w4.alloc (.cells #[.slice none 0 0, .slice none 0 0, .slice none 0 0, .bool false] 31)).heap.size = w4.heap.size + 1 := by simp
 have o5 : ∀ b, b < w4.heap.size -> (w4.alloc (.cells #[.slice none 0 0, .slice none 0 0, .slice none 0 0, .bool false] 31)).heap[b]? = w4.heap[b]? := fun b hb => Ad _ _ hb
 have hT0 : T0 < w4.heap.size := (Array.getElem?_eq_some_iff.1 hT).1
 generalize hT1 : w4.heap.size = T1 at *
 generalize w4.alloc (.cells #[.slice none 0 0, .slice none 0 0, .slice none 0 0, .bool false] 31) = w5 at *
 refine Az 31 (.tmp 10) (.tmp 18) Aj (by rfl) (by decide) rfl T1 #[.slice (some ⟨A, 0, none⟩) na na, .slice oo ol ok, .slice none 0 0, .bool stuck] _ 31 rfl rfl d5 (by kernel_rfl) (by rfl) (by simp [Value.oneCell']) (hA _) ?_
 have d6 := Bk (cells := #[.slice (some ⟨A, 0, none⟩) na na, .slice oo ol ok, .slice none 0 0, .bool stuck]) d5
 have o6 : ∀ b, b < T1 -> (w5.setRow T1 #[.slice (some ⟨A, 0, none⟩) na na, .slice oo ol ok, .slice none 0 0, .bool stuck]).heap[b]? = w4.heap[b]? := fun b hb => (Av _ _ (by omega)).trans (o5 b (by omega))
 have s6 := Bg w5 T1 #[.slice (some ⟨A, 0, none⟩) na na, .slice oo ol ok, .slice none 0 0, .bool stuck]
 rw [s5] at s6
 generalize w5.setRow T1 #[.slice (some ⟨A, 0, none⟩) na na, .slice oo ol ok, .slice none 0 0, .bool stuck] = w6 at *
 walk_nrm
 refine Aa z15 ?_
 refine Ah (Post := StZ w6) ?_ Aj (by rfl) (by decide) rfl Try.func68 (by kernel_rfl) (by rfl) ?_
 ·walk_nrm
  exact Qax w6
 rintro v w7 ⟨B, rfl, hrow, hBge, hold7, hs7⟩
 have hrB := hrow.lt
 have d7 := (hold7 T1 (by omega)).trans d6
 have c7 := (Ac d7 2).trans rfl
 have z7 := Aq d7 2
 walk_nrm
 repeat (first | (refine Walk.oq ?_; try walk_nrm) | (refine Bn ?_; walk_nrm))
 (have hfr := (hA T1).1 ⟨T1, 2, none⟩ rfl; refine Walk.os hfr c7 ?_; clear hfr; try walk_nrm)
 have d8 : (w7.setCell ⟨T1, 2, none⟩ (.slice (some ⟨B, 0, none⟩) 0 0)).heap[T1]? = some (.cells #[.slice (some ⟨A, 0, none⟩) na na, .slice oo ol ok, .slice (some ⟨B, 0, none⟩) 0 0, .bool stuck] 31) := by
  rw [Am _ _ d7]
  simp
 have o8 : ∀ b, b ≠ T1 -> (w7.setCell ⟨T1, 2, none⟩ (.slice (some ⟨B, 0, none⟩) 0 0)).heap[b]? = w7.heap[b]? := fun b hb => Ab _ _ _ _ hb
 have s8 := Af w7 ⟨T1, 2, none⟩ (.slice (some ⟨B, 0, none⟩) 0 0)
 clear c7 z7
 generalize w7.setCell ⟨T1, 2, none⟩ (.slice (some ⟨B, 0, none⟩) 0 0) = w8 at *
 refine Aa z15 ?_
 refine Walk.loadS 31 (.tmp 10) Aj (by rfl) (by decide) rfl T1 0 [.slice (some ⟨A, 0, none⟩) na na, .slice oo ol ok, .slice (some ⟨B, 0, none⟩) 0 0, .bool stuck] (.struct fsT) rfl (fun j v hj => ?_) huT rfl (by kernel_rfl) ?_
 ·rw [Nat.zero_add, Ac d8]
  simpa using hj
 have dT : w8.heap[T0]? = some (.cells #[.slice none 0 0, .slice none 0 0, .slice none 0 0, .bool false] 31) := (o8 T0 (by omega)).trans ((hold7 T0 (by omega)).trans ((o6 T0 (by omega)).trans hT))
 walk_nrm
 refine Az 31 (.tmp 8) (.tmp 22) Aj (by rfl) (by decide) rfl T0 #[.slice (some ⟨A, 0, none⟩) na na, .slice oo ol ok, .slice (some ⟨B, 0, none⟩) 0 0, .bool stuck] _ 31 rfl rfl dT (by kernel_rfl) (by rfl) (by simp [Value.oneCell']) (hA _) ?_
 have d9 := Bk (cells := #[.slice (some ⟨A, 0, none⟩) na na, .slice oo ol ok, .slice (some ⟨B, 0, none⟩) 0 0, .bool stuck]) dT
 walk_nrm
 refine Aa z15 ?_
 refine Cj (T := T0) rfl rfl rfl Try.func15 rfl (by rfl) d9 (by kernel_rfl) (by kernel_rfl) (.stop fun d => ⟨B, rfl, ?_, by omega, fun b hb hbT => ?_, ?_⟩)
 ·exact hrow.same ((Av _ _ (by omega)).trans (o8 B (by omega)))
 ·exact (Av _ _ hbT).trans ((o8 b (by omega)).trans ((hold7 b (by omega)).trans (o6 b hb)))
 ·show T1 <= (w8.setRow _ _).heap.size
  rw [Bg]
  omega
theorem Ys (xsl : Value) (xs : List Int) (tv : Value) (mo : Int) (ta : Option Addr) (tb toff tc n : Nat) (hta : 0 < n -> ta = some ⟨tb, toff, none⟩) (hn : n <= 64) (oa : Nat -> Option Addr) (ln oc : Nat -> Nat) (ops : Nat -> List OpV) (sa : Option Addr) (sc : Nat) (sl : List Int) (hsl : sl.length <= 17592186044416) (c : Frame) (cs : List Frame) (w : World) (hx : LsR xsl xs w) (hr : ¬ Nu xs)
  (I : OpsIn tb toff n oa ln oc ops w)
  (hsc : ∀ (j : Nat) (z : Int), sl[j]? = some z -> ∃ s so, sa = some ⟨s, so, none⟩ /\ w.cell? ⟨s, so + j, none⟩ = some (.int .i64 z))
  (hp : ∀ w' : World, (∀ b, b < w.heap.size -> w'.heap[b]? = w.heap[b]?) -> As Try.prog true (fun _ => none) 140 #[tv] w' (.slice ta n tc) w') :
  Runs (fun g w' => ∃ cells, SPAny n nrLa (fun _ => []) (Bu nrLa (Oj 0) ops n mo sl) w w' cells /\ g = G (c.finish (.agg cells)) cs) (G (Frame.enter Try.prog 15 #[xsl, tv, .slice sa sl.length sc, .int .i64 mo] .normal) (c :: cs)) w := by
 refine Runs.walk (Qaz xsl xs tv (.slice sa sl.length sc) mo c cs w hx hr) ?_
 rintro _ w1 ⟨fr, rfl, hO, hS, hT, hB⟩
 have hc1 : ∀ {b j : Nat} {v : Value}, w.cell? ⟨b, j, none⟩ = some v -> w1.cell? ⟨b, j, none⟩ = some v := fun {b j v} e => (World.cell?_of_block (a := ⟨b, j, none⟩) (hO b (Aw e))).trans e
 have I1 : OpsIn tb toff n oa ln oc ops w1 := I.old hO
 refine Runs.then (Yc (L := nrLa) Qdp () (Oj 0) tv mo ta tb toff tc n hta hn oa ln oc ops sa sc sl hsl fr (c :: cs) w1 I1 trivial (fun i hi j o ho b off e => fun h => h) (fun j z hz => ?_) (fun w' hw' => hp w' fun b hb => (hw' b (by omega)).trans (hO b hb))) ?_
 ·obtain ⟨s, so, e, hc⟩ := hsc j z hz
  exact ⟨s, so, e, hc1 hc, fun h => h⟩
 ·rintro _ w4 ⟨cells, H, rfl⟩
  obtain ⟨y, A, oo, ok, hd, own, O⟩ := H.all
  have hold := H.old
  have hsz := H.size
  generalize Bu nrLa (Oj 0) ops n mo sl = F at *
  obtain rfl := O.eq
  obtain ⟨arr, hAr, hAz, hAi⟩ := O.heads
  have hAl := O.Alo
  have hAlt : A < w4.heap.size := (Array.getElem?_eq_some_iff.1 hAr).1
  have hT4 : w4.heap[w.heap.size]? = some (.cells #[.slice none 0 0, .slice none 0 0, .slice none 0 0, .bool false] 31) := (hold _ (by omega) (fun h => h)).trans hT
  refine Runs.walk (hB A n oo _ ok _ w4 hT4) ?_
  rintro _ w5 ⟨B, rfl, hnum, hBge, hold5, hsz5⟩
  have hrow := hnum.row (base := w4.heap.size) hBge (by simp)
  simp only [List.length_nil, List.map_nil] at hrow
  have hrowlt : ∀ (v : Value) (e : TypeId) (sz m : Nat) (ys : List Value), w4.ownsRow w1.heap.size e sz v m ys -> w5.ownsRow w.heap.size e sz v m ys := fun v e sz m ys h => Ld (Ao h fun b hb => hold5 b (h.lt b hb).2 (by have := (h.lt b hb).1; omega)) (by omega)
  have hBb := fun b (h : (Value.slice (some (⟨B, 0, none⟩ : Addr)) 0 0).ownBlock = some b) => (hrow.lt b h).1
  refine .now ⟨_, ⟨⟨A, oo, ok, .slice (some ⟨B, 0, none⟩) 0 0, hd, fun i b => own i b /\ w1.heap.size <= b /\ b < w4.heap.size, rfl, by omega, hrowlt _ _ _ _ _ O.orow, ?_, ⟨arr, (hold5 A hAlt (by omega)).trans hAr, hAz, hAi⟩, fun i hi => ?_, fun i j b h1 h2 => O.one i j b h1.1 h2.1, fun i b h => ⟨(O.ownA i b h.1).1, O.ownO i b h.1, fun e => ?_⟩, O.Aord, fun e => ?_, fun b h e => ?_⟩, fun b hb => ?_, by omega⟩, rfl⟩
  ·exact Ld hrow (by omega)
  ·obtain ⟨ta2, tc2, z, hz1, hz2, hz3, hz4, hz5⟩ := O.rows i hi
   refine ⟨ta2, tc2, z, hz1, hz2, hrowlt _ _ _ _ _ hz3, fun b hb => ⟨hz4 b hb, hz3.lt b hb⟩, fun p hp' => ?_⟩
   obtain ⟨la, lc, e, hlen, hl⟩ := hz5 p hp'
   exact ⟨la, lc, e, hlen, fun hne => ⟨hrowlt _ _ _ _ _ (hl hne).1, fun b hb => ⟨(hl hne).2 b hb, (hl hne).1.lt b hb⟩⟩⟩
  ·have := hBb b e; omega
  ·have := hBb A e; omega
  ·have := hBb b e; have := (O.orow.lt b h).2; omega
  ·exact (hold5 b (by omega) (by omega)).trans ((hold b (by omega) (fun h => h)).trans (hO b hb))
structure Closing (f : FuncId) (t : Tmp) (v : Value) (g : Goroutine) : Prop where
 all : ∃ fr, g = G fr [] /\ fr.mode = .returning /\ fr.kind = .normal /\ fr.defers = [] /\ fr.fn = f /\ fr.tmps.getD t undef = v
noncomputable def mdSP (S : Value) (X : Nat) (u : Nat -> Value) : Frame :=
 (base 3).at { tmps := #[S, .pointer (some ⟨X, 0, none⟩), u 2, u 3, u 4, u 5, u 6, u 7, u 8, u 9, u 10, u 11, u 12, u 13, u 14, u 15, u 16, u 17, u 18, u 19, u 20, u 21, u 22, u 23], defers := [] } [.code (.region 3 reg3_3 true), .code (.ret)]
theorem sp_in (xv tv sv : Value) (mo : Int) (h1 : (#[xv, tv, sv, .int .i64 mo] : Array Value).all (·.oneCell') = true) (w : World) : Walk Try.prog true (DR (fun _ => none)) (fun g w' => ∃ fr, g = G (Frame.enter Try.prog 13 #[] .normal) [fr] /\ (∃ d, w' = (w.alloc (.cells #[xv, tv, sv, .int .i64 mo] 26)).at d) /\
   ∀ w1, Walk Try.prog true (DR (fun _ => none)) (fun g w' => (∃ u, g = G (mdSP (.agg #[xv, tv, sv, .int .i64 mo]) w.heap.size u) []) /\ ∃ d, w' = w1.at d) (G (fr.finish (.bool true)) []) w1)
  (G (Frame.enter Try.prog 3 #[.agg #[xv, tv, sv, .int .i64 mo]] .normal) []) w := by
 rw [enter_at _ Try.func3 Qbv]
 simp only [Try.ntmps3, ez, Nat.reduceAdd, Nat.reduceSub]
 refine Aa z3 ?_
 (refine Walk.oa ?_; try walk_nrm)
 generalize w.alloc (.cells #[xv, tv, sv, .int .i64 mo] 26) = w1 at *
 generalize w.heap.size = X at *
 refine Aa z3 ?_
 refine Walk.callE Aj (by rfl) (by decide) rfl Try.func13 (by kernel_rfl) (by rfl) ?_
 walk_nrm
 refine .stop fun d => ⟨_, rfl, ⟨d, rfl⟩, ?_⟩
 intro w2
 refine Walk.finish Aj ?_
 walk_nrm
 refine Aa z3 ?_
 refine .stop fun d => ⟨Ak ?_, d, rfl⟩
 simp only [mdSP]
 rfl
theorem Qbz (S : Value) (X : Nat) (u : Nat -> Value) : G (mdSP S X u) [] = G ((base 3).at ⟨tmSP S X u, []⟩ (.code (.region 3 reg3_3 true) :: [.code .ret])) [] := rfl
theorem Qcw (S : Value) (X : Nat) (u : Nat -> Value) (h : u 2 = .bool true) (w : World) : Walk Try.prog true (DR (fun _ => none)) (fun g w' => Closing 3 2 (.bool true) g /\ ∃ d, w' = w.at d) (G ((base 3).at ⟨tmSP S X u, []⟩ (.inRegion reg3_3 [] :: [.code .ret])) []) w := by
 simp only [tmSP, h]
 refine Aa z3 ?_
 exact .stop fun d => ⟨⟨_, rfl, rfl, rfl, rfl, rfl, rfl⟩, d, rfl⟩
theorem Yh (xsl : Value) (xs : List Int) (hxn : xs.length <= 17592186044416) (tv : Value) (mo : Int) (ta : Option Addr) (tb toff tc n : Nat) (hta : 0 < n -> ta = some ⟨tb, toff, none⟩) (hn : n <= 64) (oa : Nat -> Option Addr) (ln oc : Nat -> Nat) (ops : Nat -> List OpV) (sa : Option Addr) (sc : Nat) (sl : List Int) (hsl : sl.length <= 17592186044416) (c : Frame) (cs : List Frame) (w : World) (hx : LsR xsl xs w)
  (I : OpsIn tb toff n oa ln oc ops w)
  (hsc : ∀ (j : Nat) (z : Int), sl[j]? = some z -> ∃ s so, sa = some ⟨s, so, none⟩ /\ w.cell? ⟨s, so + j, none⟩ = some (.int .i64 z))
  (hp : ∀ w' : World, (∀ b, b < w.heap.size -> w'.heap[b]? = w.heap[b]?) -> As Try.prog true (fun _ => none) 140 #[tv] w' (.slice ta n tc) w') :
  Runs (fun g w' => ∃ cells, SPAny n (Bp (szZ xs)) (Lc (szZ xs)) (Bu (Bp (szZ xs)) (r0Z xs) ops n mo sl) w w' cells /\ g = G (c.finish (.agg cells)) cs) (G (Frame.enter Try.prog 15 #[xsl, tv, .slice sa sl.length sc, .int .i64 mo] .normal) (c :: cs)) w := by
 by_cases hr : Nu xs
 ·have hm : 0 < Ki xs := by
   obtain ⟨x, l, rfl, h1, h2⟩ := hr
   have := h2.1
   show 0 < (max x 0).toNat
   omega
  refine Runs.then (Qn xsl xs hxn tv mo ta tb toff tc n hta hn oa ln oc ops sa sc sl hsl c cs w hx hr I hsc hp) ?_
  rintro _ w' ⟨cells, H, rfl⟩
  refine .now ⟨cells, ⟨?_, H.old, H.size⟩, rfl⟩
  have h := H.tr
  rw [playR _ _ hm] at h
  rw [Iv hr, Ya hr]
  exact h
 ·refine Runs.then (Ys xsl xs tv mo ta tb toff tc n hta hn oa ln oc ops sa sc sl hsl c cs w hx hr I hsc hp) ?_
  rintro _ w' ⟨cells, H, rfl⟩
  refine .now ⟨cells, ⟨?_, H.old, H.size⟩, rfl⟩
  have h := H.tr
  rw [playN] at h
  rw [Nl hr, Qat hr]
  exact h
theorem Qcv (xs : List Int) : szZ xs <= 65536 := by
 by_cases h : Nu xs
 ·rw [Iv h]
  obtain ⟨x, l, rfl, h1, h2⟩ := h
  show (max x 0).toNat <= _
  omega
 ·rw [Nl h]
  omega
theorem Qbx (xa : Option Addr) (xs : List Int) (xc : Nat) (hxn : xs.length <= 17592186044416) (mo : Int) (ta : Option Addr) (n0 tc tb toff : Nat) (oa : Nat -> Option Addr) (ln oc : Nat -> Nat) (ops : Nat -> List OpV) (sa : Option Addr) (sc : Nat) (sl : List Int) (W : World) (hx : LsR (.slice xa xs.length xc) xs W) (hwr : ∀ k, k < min n0 64 -> ∀ o, o ∈ ops k -> -9223372036854775808 <= o.a)
  (I : OpsIn tb toff (min n0 64) oa ln oc ops W) (hta : 0 < n0 -> ta = some ⟨tb, toff, none⟩) (had : ta = none /\ tc = 0 ∨ ∃ p, ta = some p) (hcap : n0 <= tc)
  (hsl : sl.length <= 17592186044416) (hs : ∀ (j : Nat) (z : Int), sl[j]? = some z -> ∃ s so, sa = some ⟨s, so, none⟩ /\ W.cell? ⟨s, so + j, none⟩ = some (.int .i64 z)) :
  Runs (fun g w' => Closing 3 2 (.bool true) g /\ ∀ b, b < W.heap.size -> w'.heap[b]? = W.heap[b]?) (G (Frame.enter Try.prog 3 #[.agg #[.slice xa xs.length xc, .slice ta n0 tc, .slice sa sl.length sc, .int .i64 mo]] .normal) []) W := by
 refine Runs.walk (sp_in _ _ _ mo (by simp [Value.oneCell']) W) ?_
 rintro _ _ ⟨fr1, rfl, ⟨d1, rfl⟩, hB1⟩
 have hsz : (W.alloc (.cells #[.slice xa xs.length xc, .slice ta n0 tc, .slice sa sl.length sc, .int .i64 mo] 26)).heap.size = W.heap.size + 1 := by simp
 have O0 : ∀ b, b < W.heap.size -> (W.alloc (.cells #[.slice xa xs.length xc, .slice ta n0 tc, .slice sa sl.length sc, .int .i64 mo] 26)).heap[b]? = W.heap[b]? := fun b hb => Ad _ _ hb
 have dX := heap_alloc_new W (.cells #[.slice xa xs.length xc, .slice ta n0 tc, .slice sa sl.length sc, .int .i64 mo] 26)
 generalize W.alloc (.cells #[.slice xa xs.length xc, .slice ta n0 tc, .slice sa sl.length sc, .int .i64 mo] 26) = w0 at *
 refine Runs.then (Yw fr1 [] (w0.at d1)) ?_
 rintro _ w1 ⟨rfl, O1, Z1⟩
 have O1 : ∀ b, b < w0.heap.size -> w1.heap[b]? = w0.heap[b]? := O1
 have Z1 : w0.heap.size <= w1.heap.size := Z1
 refine Runs.walk (hB1 w1) ?_
 rintro _ _ ⟨⟨u, rfl⟩, d2, rfl⟩
 have O2 : ∀ b, b < W.heap.size -> (w1.at d2).heap[b]? = W.heap[b]? := fun b hb => (O1 b (by omega)).trans (O0 b hb)
 have Z2 : W.heap.size + 1 <= (w1.at d2).heap.size := by show _ <= w1.heap.size; omega
 have dX2 : (w1.at d2).heap[W.heap.size]? = some (.cells #[.slice xa xs.length xc, .slice ta n0 tc, .slice sa sl.length sc, .int .i64 mo] 26) := (O1 _ (by omega)).trans dX
 generalize w1.at d2 = w2 at *
 have hta' : 0 < min n0 64 -> ta = some ⟨tb, toff, none⟩ := fun h => hta (by omega)
 have up : ∀ w3, OldW w2 w3 -> ∀ b, b < W.heap.size -> w3.heap[b]? = W.heap[b]? := fun w3 h b hb => (h.2 b (by omega)).trans (O2 b hb)
 have hs3 : ∀ w3, OldW w2 w3 -> ∀ (j : Nat) (z : Int), sl[j]? = some z -> ∃ s so, sa = some ⟨s, so, none⟩ /\ w3.cell? ⟨s, so + j, none⟩ = some (.int .i64 z) := fun w3 h j z hz => by
  obtain ⟨s, so, e, hc⟩ := hs j z hz
  exact ⟨s, so, e, (World.cell?_of_block (a := ⟨s, so + j, none⟩) (up w3 h s (Aw hc))).trans hc⟩
 have hKK := Qcv xs
 have hK := fun w3 (h3 : OldW w2 w3) => Qcf (main := true) xa xs xc hxn tb toff n0 tc (min n0 64) rfl ta hta' oa ln oc ops sa sc sl mo w3 (hx.same (up w3 h3)) (I.old (up w3 h3)) hwr hsl (hs3 w3 h3)
 have hQ := fun d fr => Yh (.slice xa xs.length xc) xs hxn (.slice ta n0 tc) mo ta tb toff tc (min n0 64) hta' (by omega) oa ln oc ops sa sc sl hsl fr [] (w2.at d) (hx.same O2) (I.old O2) (hs3 (w2.at d) ⟨Nat.le_refl _, fun _ _ => rfl⟩) fun w' _ => Ij ta n0 tc w' hcap had
 have hF := Ze (Bp (szZ xs)) (r0Z xs) ops (min n0 64) mo sl
 have hQ' : ∀ d fr, Runs (fun g w' => ∃ cells, SPAny (min n0 64) (Bp (szZ xs)) (Lc (szZ xs)) (Bu (Bp (szZ xs)) (r0Z xs) ops (min n0 64) mo sl) (w2.at d) w' cells /\ g = G (fr.finish (.agg cells)) []) (G (Frame.enter Try.prog 15 #[.slice xa xs.length xc, .slice ta n0 tc, .slice sa sl.length sc, .int .i64 mo] .normal) [fr]) (w2.at d) := hQ
 have hm := Nn (szZ xs) (Bu (Bp (szZ xs)) (r0Z xs) ops (min n0 64) mo sl).1.s
 have hK' : ∀ w3, OldW w2 w3 -> CallW Try.prog true (fun _ => none) 16 #[.slice xa xs.length xc, .slice ta n0 tc, .slice sa sl.length sc, .int .i64 mo] w3 (RPl (min n0 64) (Bp (szZ xs)) (Lc (szZ xs)) w3 (Bu (Bp (szZ xs)) (r0Z xs) ops (min n0 64) mo sl)) := hK
 clear hK hQ
 generalize Bu (Bp (szZ xs)) (r0Z xs) ops (min n0 64) mo sl = F at *
 rw [Qbz]
 refine Qby _ _ _ _ mo W.heap.size (min n0 64) (fun i => (F.1.th i).ans) F.2 (Lc (szZ xs) F.1.s) (Fc (min n0 64) F.1) w2 dX2 (by omega) hF (Nat.le_trans (Nat.le_of_eq hm) (by omega)) (fun d fr => Runs.then (hQ' d fr) ?_) (fun w3 h3 c' cs' => (hK' w3 h3 c' cs').mono ?_) u [.code .ret] fun u' w' hu hO => ?_
 ·rintro _ w3 ⟨cells, H, rfl⟩
  exact .now ⟨cells, rfl, H.tr.tr, H.size, H.old⟩
 ·rintro g w' ⟨v, ⟨cells, rfl, h1, h2, h3⟩, hg⟩
  exact ⟨_, ⟨cells, rfl, h1, h3.1, .of h2⟩, hg⟩
 refine Runs.walk (Qcw _ _ u' hu w') ?_
 rintro g _ ⟨hC, d, rfl⟩
 exact .now ⟨hC, fun b hb => (hO.2 b (by omega)).trans (O2 b hb)⟩
end Go.Proofs.Ytcdcnmphjhfbpaa
