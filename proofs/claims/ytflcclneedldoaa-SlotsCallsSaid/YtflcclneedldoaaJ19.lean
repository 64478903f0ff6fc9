/- Part 19. -/
import Derived.Test.YtflcclneedldoaaJ13
import Derived.Test.YtflcclneedldoaaJ18
set_option linter.unusedSimpArgs false
set_option linter.unusedVariables false
set_option maxHeartbeats 8000000
set_option maxRecDepth 100000
namespace Go.Proofs.Ytflcclneedldoaa
open Go.Conc Go.RowKit Go.Relay Try
open Go.ConcN (upd upd_ne upd_same)
def Fb (M : Nat) (cb : CB) (m tb n : Nat) (T : Nat -> R11) (b : Nat) : Prop := b = M ∨ cI m cb b ∨ b = tb ∨ ∃ k, k < n /\ (T k).own b
structure Got (M : Nat) (cb : CB) (m tb n : Nat) (T T' : Nat -> R11) (w w' : World) : Prop where
 chg : Chg (Fb M cb m tb n T) w w'
 own : ∀ b, Fb M cb m tb n T' b -> Fb M cb m tb n T b ∨ w.heap.size <= b
theorem Got.trans {M m tb n : Nat} {cb : CB} {T T1 T2 : Nat -> R11} {w w1 w2 : World} (h1 : Got M cb m tb n T T1 w w1) (h2 : Got M cb m tb n T1 T2 w1 w2) : Got M cb m tb n T T2 w w2 :=
 ⟨h1.chg.trans h2.chg fun b hb h => (h1.own b h).resolve_right (by omega), fun b h => (h2.own b h).elim (h1.own b) fun h => .inr (Nat.le_trans h1.chg.size h)⟩
theorem Got.refl {M m tb n : Nat} {cb : CB} {T : Nat -> R11} {w : World} : Got M cb m tb n T T w w := ⟨Chg.refl, fun _ h => .inl h⟩
theorem Bu {M m tb n i : Nat} {cb : CB} {T : Nat -> R11} {t : R11} {s : Nat} (hi : i < n) (h : ∀ b, t.own b -> (T i).own b ∨ s <= b) : ∀ b, Fb M cb m tb n (upd T i t) b -> Fb M cb m tb n T b ∨ s <= b := fun b hb => by
 rcases hb with hb | hb | hb | ⟨k, hk, hb⟩
 ·exact .inl (.inl hb)
 ·exact .inl (.inr (.inl hb))
 ·exact .inl (.inr (.inr (.inl hb)))
 ·by_cases e : k = i
  ·subst e
   rw [upd_same] at hb
   exact (h b hb).imp (fun h => .inr (.inr (.inr ⟨k, hk, h⟩))) id
  ·rw [upd_ne _ _ e] at hb
   exact .inl (.inr (.inr (.inr ⟨k, hk, hb⟩)))
theorem An {α : Type} (f : Nat -> α) (i : Nat) (x y : α) : upd (upd f i x) i y = upd f i y := by
 funext k
 by_cases h : k = i
 ·subst h; rw [upd_same, upd_same]
 ·rw [upd_ne _ _ h, upd_ne _ _ h, upd_ne _ _ h]
structure AppR (a0 : Nat) (w1 : World) (a : Ans) (sl hd : Value) (z : List (Ans × Value)) (k gb gcap : Nat) (w3 : World) : Prop where
 own : w3.ownsRow a0 42 3 (.slice (some ⟨gb, 0, none⟩) (k + 1) gcap) (k + 1) (Dc z ++ [.bool a.ok, .int .i64 a.n, sl])
 grown : (Er w1 a sl).grownBy w3 hd.ownBlock
 hat : hd.ownBlock = some gb ∨ gb = (Er w1 a sl).heap.size
 hlt : gb < w3.heap.size
noncomputable def reg158_0 := rk f158.body 0
noncomputable def reg158_1 := rk f158.body 1
theorem size158_1 : reg158_1.size = 19 := by kernel_rfl
noncomputable def reg158_2 := rk f158.body 2
theorem size158_2 : reg158_2.size = 17 := by kernel_rfl
noncomputable def reg158_3 := rk f158.body 3
theorem z158 : reg158_0.size = 1 /\ reg158_1.size = 19 /\ reg158_2.size = 17 /\ reg158_3.size = 8 := by and_intros <;> kernel_rfl
theorem code158_is : f158.body = some (.seq (.region 0 reg158_0 false) (.seq (.region 1 reg158_1 true) (.seq (.region 2 reg158_2 true) (.region 3 reg158_3 false)))) := by kernel_rfl
section
variable {a0 M tb tc n m : Nat} {cb : CB} {ta : Option Addr} {S : Rg} {T : Nat -> R11}
theorem Oq {main : Bool} {i : Nat} (hi : i < n) (a : Ans) (sl : Value) (w : World) (hls : LsAt a0 (T i).ownA sl a.l w) (I : M11 a0 M cb tb tc n m ta S T w) (hn : n <= 64) (ha0 : a0 <= w.heap.size) (hl : (T i).ans.length <= 65536) (hk : (T i).at' <= 65536) :
  CallW prog main (fun _ => none) 158 #[.pointer (some ⟨M, 0, none⟩), .int .i64 i, Bo a sl] w (fun v w' => v = .tuple #[] /\ ∃ av oA, M11 a0 M cb tb tc n m ta S (upd T i { T i with av := av, ans := (T i).ans ++ [a], at' := (T i).at' + 1, pc := 0, ownA := oA }) w' /\ Got M cb m tb n T (upd T i { T i with av := av, ans := (T i).ans ++ [a], at' := (T i).at' + 1, pc := 0, ownA := oA }) w w') := by
 intro c cs
 obtain ⟨fsA, huA⟩ := Ci 42 (by kernel_rfl)
 obtain ⟨sla, slc, rfl, hln, hlo⟩ := id hls
 simp only [Bo]
 obtain ⟨hi0, hi1, hi3, hi4⟩ := hIx i n
 have hw1 := wI (((T i).at' : Int) + 1)
 obtain ⟨bb1, bb2, bb3, bb4⟩ := I.base
 obtain ⟨bb5, bb6, bb7⟩ := bb4 (by omega)
 obtain ⟨ll1, ll2, ll3⟩ := I.lt
 have ll3 := ll3 (by omega)
 rw [enter_at _ func158 code158_is]
 simp only [ntmps158, ez, Nat.reduceAdd, Nat.reduceSub]
 refine Aa z158 ?_
 (refine Wa ?_; try walk_nrm)
 have s0 : (w.alloc (.cells #[.bool a.ok, .int .i64 a.n, .slice sla a.l.length slc] 42)).heap.size = w.heap.size + 1 := by simp
 have o0 : ∀ x, x < w.heap.size -> (w.alloc (.cells #[.bool a.ok, .int .i64 a.n, .slice sla a.l.length slc] 42)).heap[x]? = w.heap[x]? := fun x hx => Ad _ _ hx
 have d0 := hAw w (.cells #[.bool a.ok, .int .i64 a.n, .slice sla a.l.length slc] 42)
 have I0 := I.same o0
 generalize hT : w.heap.size = Zs at *
 generalize hw0 : w.alloc (.cells #[.bool a.ok, .int .i64 a.n, .slice sla a.l.length slc] 42) = w0 at *
 replace s0 : Zs + 1 <= w0.heap.size /\ w0.heap.size <= Zs + 1 := by omega
 have R0 := I0.rows i hi
 obtain ⟨ava, avc, z, hz, hav0, hrow, hP, hL⟩ := R0.rA
 clear hav0 ava avc
 have hl0 := R0.lo
 have hlw : ∀ b, (T i).ownA b -> b < Zs := fun b hb => by have := ((I.rows i hi).lo b hb).2; omega
 have c1 := I0.cT (by omega)
 have c2 : w0.cell? ⟨tb, i * 9 + 1, none⟩ = some (T i).av := I0.tcell hi rfl
 have hsz1 : w0.heap.size + 1 <= (Er w0 a (.slice sla a.l.length slc)).heap.size /\ (Er w0 a (.slice sla a.l.length slc)).heap.size <= w0.heap.size + 1 := by simp [Er]
 have hO1 : ∀ x, x < w0.heap.size -> (Er w0 a (.slice sla a.l.length slc)).heap[x]? = w0.heap[x]? := fun x hx => Ad _ _ hx
 have hown' : (Er w0 a (.slice sla a.l.length slc)).ownsRow a0 42 3 (T i).av (T i).ans.length (Dc z) := As hrow fun g hg => hO1 g (hrow.lt g hg).2
 have hnews : ∀ (j : Nat) (u : Value), ([.bool a.ok, .int .i64 a.n, .slice sla a.l.length slc] : List Value)[j]? = some u -> (Er w0 a (.slice sla a.l.length slc)).cell? ((⟨w0.heap.size, 0, none⟩ : Addr).add j) = some u := fun j u hu => by
  rw [Bs, Nat.zero_add]
  refine (Ab (hAw _ _) j).trans ?_
  simpa using hu
 have hnM : ∀ g, (T i).av.ownBlock = some g -> g ≠ M /\ g ≠ tb := fun g hg => by
  obtain ⟨e1, e2, e3, _⟩ := I.far i hi g (.inl (hP g hg))
  exact ⟨e1, e3⟩
 have hnT : ∀ g, (T i).av.ownBlock = some g -> g ≠ Zs := fun g hg => by have := ((I.rows i hi).lo g (hP g hg)).2; omega
 have hfar : ∀ (x : Nat) (w2 : World), x < w0.heap.size -> (∀ g, (T i).av.ownBlock = some g -> g ≠ x) -> (Er w0 a (.slice sla a.l.length slc)).grownBy w2 (T i).av.ownBlock -> w2.heap[x]? = w0.heap[x]? := fun x w2 hx hne hg => (hg.block x (by omega) (fun e => hne x e.symm rfl)).trans (hO1 x hx)
 have zT : ∀ x : World, x.heap[Zs]? = w0.heap[Zs]? -> ∀ (j : Nat) (v : Value), ([.bool a.ok, .int .i64 a.n, .slice sla a.l.length slc] : List Value)[j]? = some v -> x.cell? ⟨Zs, 0 + j, none⟩ = some v := fun x hx j v hv => by
  rw [Nat.zero_add, Ab (hx.trans d0)]
  simpa using hv
 refine Aa z158 ?_
 refine Io (iA := 14) (iB := 15) (w1 := Er w0 a (.slice sla a.l.length slc)) (vA := .slice (some ⟨w0.heap.size, 0, none⟩) 1 1) (Z := fun x => x.cell? ⟨M, 3, none⟩ = some (.slice (some ⟨tb, 0, none⟩) n tc) /\ x.cell? ⟨tb, i * 9 + 1, none⟩ = some (T i).av /\ x.heap[Zs]? = w0.heap[Zs]?)
  (fun v w2 => ∃ g cap, v = .slice (some ⟨g, 0, none⟩) ((T i).ans.length + 1) cap /\ AppR a0 w0 a (.slice sla a.l.length slc) (T i).av z (T i).ans.length g cap w2) (by kernel_rfl) size158_1 (by kernel_rfl) (by kernel_rfl) (by kernel_rfl) (by kernel_rfl) (by decide) Ah Ah ⟨c1, c2, rfl⟩ ⟨Aj _ _ c1, Aj _ _ c2, hO1 Zs (by omega)⟩ ?_ ?_
 ·rintro v w2 ⟨g, cap, _, hA⟩
  exact ⟨(cBk (a := ⟨M, 3, none⟩) (hfar M w2 (by omega) (fun g hg => (hnM g hg).1) hA.grown)).trans c1, (cBk (a := ⟨tb, i * 9 + 1, none⟩) (hfar tb w2 (by omega) (fun g hg => (hnM g hg).2) hA.grown)).trans c2, hfar Zs w2 (by omega) hnT hA.grown⟩
 rw [show List.filter (Ck 14 15) (List.range 18) = [0, 1, 2, 3, 4, 5, 6, 7, 8, 9, 10, 11, 12, 13, 16, 17] from by decide]
 repeat (first | (refine Nc Ah (by rfl) (fun wz hz dd e he => ?_) ?_; (· (obtain ⟨z1, z2, z3⟩ := hz; simp [go_sem, *] at he; try (subst he; exact Da _ _))); apply Exists.intro; apply And.intro; (· (intro wz hz dd K hK; obtain ⟨z1, z2, z3⟩ := hz; go_simp; exact hK))) | (refine Be Ah (by rfl) ?_; walk_nrm))
 refine Cm.loadS 42 (.tmp 5) Ah (by rfl) rfl Zs 0 [.bool a.ok, .int .i64 a.n, .slice sla a.l.length slc] (.struct fsA) rfl (fun x hx => zT x hx.2.2) huA rfl (by kernel_rfl) ?_
 walk_nrm
 repeat (first | (refine Nc Ah (by rfl) (fun wz hz dd e he => ?_) ?_; (· (obtain ⟨z1, z2, z3⟩ := hz; simp [go_sem, *] at he; try (subst he; exact Da _ _))); apply Exists.intro; apply And.intro; (· (intro wz hz dd K hK; obtain ⟨z1, z2, z3⟩ := hz; go_simp; exact hK))) | (refine Be Ah (by rfl) ?_; walk_nrm))
 refine cDn ⟨?_, ?_, ?_⟩
 ·intro x hev rest hr'
  have e1 : x.tmps[19]?.getD undef = .agg #[.bool a.ok, .int .i64 a.n, .slice sla a.l.length slc] := by simpa [Act.eval] using hev (.tmp 19) (by simp [Op.operands])
  clear hev
  (refine Wa ?_; try walk_nrm)
  exact hr' _ _ ⟨rfl, _, rfl⟩
 ·intro x hev rest hr'
  have e1 : x.eval (.tmp 18) = (T i).av := by simpa [Act.eval] using hev (.tmp 18) (by simp [Op.operands, Call.operands])
  have e2 : x.eval (.tmp 20) = .slice (some ⟨w0.heap.size, 0, none⟩) 1 1 := by simpa [Act.eval] using hev (.tmp 20) (by simp [Op.operands, Call.operands])
  have hiA := Option.some_get (show (prog.info? 42).isSome = true by kernel_rfl)
  refine Walk.append (.tmp 18) (.tmp 20) 40 Ah (by rfl) (by decide) rfl a0 42 _ (.agg #[.bool false, .int .i64 0, .slice none 0 0]) 3 40 (by kernel_rfl) hiA.symm (by rfl) (by rfl) (by rfl) (by rfl) (by decide) (T i).av (T i).ans.length (Dc z) e1 hown' ⟨w0.heap.size, 0, none⟩ 1 1 [.bool a.ok, .int .i64 a.n, .slice sla a.l.length slc] e2 (by rfl) hnews (by simp [Value.oneCell']) (by decide) (by simp [maxLen]; omega) (by omega) (by omega) (fun g _ => Ov g) (fun g cap w3 hown hg hat hlt => ?_)
  exact hr' _ _ ⟨_, w3, ⟨g, cap, rfl, hown, hg, hat, hlt⟩, rfl, w3.drawn, rfl⟩
 rintro v w2 ⟨g, cap, rfl, hA⟩ rest hr'
 have hb2 : w2.heap[tb]? = w0.heap[tb]? := hfar tb w2 (by omega) (fun g hg => (hnM g hg).2) hA.grown
 have h12 : w2.cell? ⟨tb, i * 9 + 1, none⟩ = some (T i).av := (cBk (a := ⟨tb, i * 9 + 1, none⟩) hb2).trans c2
 have z12 : w2.frozen? ⟨tb, i * 9 + 1, none⟩ = false := by
  obtain ⟨_, arr, h1, _⟩ := I0.ts (by omega)
  exact Av (hb2.trans h1) _
 have hgs := hA.grown.size
 have hlen : ((T i).ans ++ [a]).length = (T i).ans.length + 1 := by simp
 obtain ⟨oA, Ah⟩ : ∃ oA : Nat -> Prop, ∀ b, oA b ↔ ((T i).ownA b ∨ b = g) := ⟨_, fun _ => Iff.rfl⟩
 have hgb : (T i).ownA g ∨ w0.heap.size <= g := by
  rcases hA.hat with h | h
  ·exact .inl (hP g h)
  ·exact .inr (by omega)
 have hgo : ∀ b, ({ T i with av := .slice (some ⟨g, 0, none⟩) ((T i).ans.length + 1) cap, ans := (T i).ans ++ [a], ownA := oA } : R11).own b -> (T i).own b ∨ w0.heap.size <= b := fun b hb => by
  rcases hb with hb | hb
  ·rcases (Ah b).1 hb with hb | rfl
   ·exact .inl (.inl hb)
   ·exact hgb.imp (fun h => .inl h) id
  ·exact .inl (.inr hb)
 have hlist : ∀ (sl : Value) (l : List Int), LsAt a0 (T i).ownA sl l w -> LsAt a0 oA sl l w2 := fun sl l h => (h.far (w' := w2) fun b cur fr hb hc => by
  have hbl := (hl0 b hb).2
  rw [<- o0 b (hlw b hb)] at hc
  refine (hfar b w2 hbl (fun g' hg' e => ?_) hA.grown).trans (o0 b (hlw b hb))
  subst e
  rcases hrow.2 with ⟨e, _⟩ | ⟨g2, cap2, cur2, e, _, hh, _⟩
  ·rw [e] at hg'; cases hg'
  ·rw [e] at hg'
   have hg' : g2 = g' := Option.some.inj hg'
   subst hg'
   rw [hc] at hh
   simp at hh).imp fun b hb => (Ah b).2 (.inl hb)
 have I3 : M11 a0 M cb tb tc n m ta S (upd T i { T i with av := .slice (some ⟨g, 0, none⟩) ((T i).ans.length + 1) cap, ans := (T i).ans ++ [a], ownA := oA }) (w2.setCell ⟨tb, i * 9 + 1, none⟩ (.slice (some ⟨g, 0, none⟩) ((T i).ans.length + 1) cap)) := by
  refine I0.put' hi rfl (by decide) w2 (fun b hb hn => hfar b w2 hb (fun g hg e => hn (.inl (hP _ (by rw [<- e]; exact hg)))) hA.grown) ⟨?_, ?_, fun hlv => ?_, fun hlv b hb hob => ?_, fun b hob => ?_⟩ hgo
  ·exact R0.rO.same fun b hb hw => hfar b w2 hw (fun g hg e => by have := (hrow.lt g hg).1; omega) hA.grown
  ·refine ⟨some ⟨g, 0, none⟩, cap, z ++ [(a, .slice sla a.l.length slc)], by simp [hz], by rw [hlen], ?_, fun b hb => (Ah b).2 (.inr ?_), fun p hp => ?_⟩
   ·show w2.ownsRow a0 _ 3 _ ((T i).ans ++ [a]).length _
    rw [hlen, Mh]
    exact hA.own
   ·simp only [Value.ownBlock, Option.some.injEq] at hb
    exact hb.symm
   ·rcases List.mem_append.1 hp with hp | hp
    ·have := hL p hp
     refine hlist p.2 p.1.l (this.far (w' := w) fun b cur fr hb hc => ?_)
     exact (o0 b (hlw b hb)).symm
    ·obtain rfl := List.mem_singleton.1 hp
     exact hlist _ _ hls
  ·exact As (R0.rS hlv) fun b hb => hfar b w2 ((R0.rS hlv).lt b hb).2 (fun g hg e => R0.ne hlv b hb (hP b (by rw [<- e]; exact hg))) hA.grown
  ·rcases (Ah b).1 hob with h | rfl
   ·exact R0.ne hlv b hb h
   ·rcases hgb with h | h
    ·exact R0.ne hlv b hb h
    ·have := ((R0.rS hlv).lt b hb).2; omega
  ·rcases (Ah b).1 hob with h | rfl
   ·exact ⟨(hl0 b h).1, by have := (hl0 b h).2; omega⟩
   ·have hg1 := hA.hlt
    rcases hgb with h | h
    ·exact ⟨(hl0 b h).1, hg1⟩
    ·exact ⟨by omega, hg1⟩
 have hC3 : Got M cb m tb n T (upd T i { T i with av := .slice (some ⟨g, 0, none⟩) ((T i).ans.length + 1) cap, ans := (T i).ans ++ [a], ownA := oA }) w (w2.setCell ⟨tb, i * 9 + 1, none⟩ (.slice (some ⟨g, 0, none⟩) ((T i).ans.length + 1) cap)) := by
  refine ⟨⟨by rw [Ai]; omega, fun x hx hn => ?_⟩, fun b hb => (Bu hi hgo b hb).imp id fun h => by omega⟩
  rw [Ac _ _ _ _ (fun e => hn (.inr (.inr (.inl e)))), hfar x w2 (by omega) (fun g hg e => hn (.inr (.inr (.inr ⟨i, hi, .inl (hP x (by rw [<- e]; exact hg))⟩)))) hA.grown, o0 x (by omega)]
 (have hfr := Ju tb (i * 9 + 1); refine Ws hfr h12 ?_; clear hfr; try walk_nrm)
 refine hr' _ _ ?_
 generalize w2.setCell ⟨tb, i * 9 + 1, none⟩ (.slice (some ⟨g, 0, none⟩) ((T i).ans.length + 1) cap) = w3 at *
 generalize hav : Value.slice (some ⟨g, 0, none⟩) ((T i).ans.length + 1) cap = av at *
 clear hA hgo hgb hlist Ah h12 z12 hb2 hfar hown' hnews hnM hnT zT hO1 c1 c2 R0 I0 d0 o0 hl0 hlw hL hP hrow hz
 have c1 := I3.cT (by omega)
 have c3 : w3.cell? ⟨tb, i * 9 + 3, none⟩ = some (.int .i64 (T i).at') := I3.tcell hi (by rw [upd_same]; rfl)
 have z3 := I3.tfrz hi (i * 9 + 3)
 have I4 := I3.put hi (j := 3) (v := .int .i64 (((T i).at' : Int) + 1)) (t := { T i with av := av, ans := (T i).ans ++ [a], at' := (T i).at' + 1, ownA := oA })
 rw [An] at I4
 try walk_nrm
 refine Aa z158 ?_
 (refine Bw (by kernel_rfl) size158_2 (by kernel_rfl) (by kernel_rfl) (by kernel_rfl) (by decide) ?_; simp only [List.range, List.range.loop]; repeat (first | (refine cQ ?_) | (refine Be Ah (by rfl) ?_; walk_nrm)))
 refine cDn ?_
 intro rest hr
 (have hfr := Ju tb (i * 9 + 3); refine Ws hfr c3 ?_; clear hfr; try walk_nrm)
 refine hr _ _ ?_
 have s4 := Ai w3 ⟨tb, i * 9 + 3, none⟩ (.int .i64 (((T i).at' : Int) + 1))
 have o4 : ∀ x, x ≠ tb -> (w3.setCell ⟨tb, i * 9 + 3, none⟩ (.int .i64 (((T i).at' : Int) + 1))).heap[x]? = w3.heap[x]? := fun x hx => Ac _ _ _ _ hx
 generalize w3.setCell ⟨tb, i * 9 + 3, none⟩ (.int .i64 (((T i).at' : Int) + 1)) = w4 at *
 clear c1 c3 z3
 have c1 := I4.cT (by omega)
 have c3 : w4.cell? ⟨tb, i * 9 + 4, none⟩ = some (.int .i64 (T i).pc) := I4.tcell hi (by rw [upd_same]; rfl)
 have z3 := I4.tfrz hi (i * 9 + 4)
 have I5 := I4.put hi (j := 4) (v := .int .i64 0) (t := { T i with av := av, ans := (T i).ans ++ [a], at' := (T i).at' + 1, pc := 0, ownA := oA })
 rw [An] at I5
 try walk_nrm
 refine Aa z158 ?_
 (have hfr := Ju tb (i * 9 + 4); refine Ws hfr c3 ?_; clear hfr; try walk_nrm)
 have s5 := Ai w4 ⟨tb, i * 9 + 4, none⟩ (.int .i64 0)
 have o5 : ∀ x, x ≠ tb -> (w4.setCell ⟨tb, i * 9 + 4, none⟩ (.int .i64 0)).heap[x]? = w4.heap[x]? := fun x hx => Ac _ _ _ _ hx
 generalize w4.setCell ⟨tb, i * 9 + 4, none⟩ (.int .i64 0) = w5 at *
 clear c1 c3 z3
 try walk_nrm
 refine Aa z158 ?_
 refine Au rfl rfl func158 rfl (.stop fun d => ⟨_, ⟨rfl, av, oA, I5.same fun _ _ => rfl, ⟨⟨?_, fun x hx hn => ?_⟩, fun b hb => ?_⟩⟩, rfl⟩)
 ·show w.heap.size <= w5.heap.size
  have := hC3.chg.size
  omega
 ·show w5.heap[x]? = w.heap[x]?
  exact (o5 x fun e => hn (.inr (.inr (.inl e)))).trans ((o4 x fun e => hn (.inr (.inr (.inl e)))).trans (hC3.chg.same x hx hn))
 ·refine hC3.own b ?_
  rcases hb with hb | hb | hb | ⟨k, hk, hb⟩
  ·exact .inl hb
  ·exact .inr (.inl hb)
  ·exact .inr (.inr (.inl hb))
  ·refine .inr (.inr (.inr ⟨k, hk, ?_⟩))
   by_cases e : k = i
   ·subst e
    rw [upd_same] at hb ⊢
    exact hb
   ·rw [upd_ne _ _ e] at hb ⊢
    exact hb
end
theorem R11.Rows.ovS {t : R11} {a0 : Nat} {w : World} (h : t.Rows a0 w) : ∃ oa oc, t.ov = .slice oa t.ops.length oc := by
 obtain ⟨oa, oc, e, _⟩ := h.rO
 exact ⟨oa, oc, e⟩
theorem R11.Rows.op {t : R11} {a0 : Nat} {w : World} (h : t.Rows a0 w) {k : Nat} {o : OpV} (ho : t.ops[k]? = some o) : ∃ g off oc, t.ov = .slice (some ⟨g, off, none⟩) t.ops.length oc /\ g < a0 /\ g < w.heap.size /\ ∀ (j : Nat) (v : Value), ([.int .i64 o.k, .int .i64 o.a, .int .i64 o.b, .int .i64 o.c] : List Value)[j]? = some v -> w.cell? ⟨g, off + k * 4 + j, none⟩ = some v := by
 obtain ⟨oa, oc, e, h⟩ := h.rO
 obtain ⟨b, off, rfl, h1, h2, _, h3⟩ := h k o ho
 exact ⟨b, off, oc, e, h1, h2, h3⟩
theorem R11.Rows.low64 {t : R11} {a0 : Nat} {w : World} (h : t.Rows a0 w) {k : Nat} {o : OpV} (ho : t.ops[k]? = some o) : -9223372036854775808 <= o.a := by
 obtain ⟨oa, oc, e, h⟩ := h.rO
 obtain ⟨b, off, rfl, h1, h2, h4, h3⟩ := h k o ho
 exact h4
def eR (m : Nat) (o : OpV) : Option Ans :=
 if m = 0 ∨ o.k < 1 ∨ 5 < o.k then some ⟨false, 0, []⟩
 else if o.k = 4 then (if good o.a /\ o.a <= o.b then none else some ⟨true, if o.a = -9223372036854775808 then o.a else IntKind.i64.wrap (o.a - 1), []⟩)
 else if good o.a then (if o.k = 5 /\ o.b < 1 then some ⟨true, 0, []⟩ else none)
 else if o.k = 3 then some ⟨false, 0, []⟩ else some ⟨false, 1, []⟩
def R11.told (t : R11) (a : Ans) (av : Value) (oA : Nat -> Prop) : R11 := { t with av := av, ans := t.ans ++ [a], at' := t.at' + 1, pc := 0, ownA := oA }
def R11.clr (t : R11) (q : Int) : R11 := { t with q := q, sv := .slice none 0 0, seen := [], live := True }
def R11.first (t : R11) (q : Int) : R11 := { t with pc := 1, q := q, sv := .slice none 0 0, seen := [], live := True }
noncomputable def reg20_0 := rk f20.body 0
noncomputable def reg20_1 := rk f20.body 1
theorem z20 : reg20_0.size = 1 /\ reg20_1.size = 7 := by and_intros <;> kernel_rfl
theorem code20_is : f20.body = some (.seq (.region 0 reg20_0 false) (.seq (.region 1 reg20_1 false) (.ret))) := by kernel_rfl
noncomputable def reg115_0 := rk f115.body 0
noncomputable def reg115_1 := rk f115.body 1
theorem z115 : reg115_0.size = 1 /\ reg115_1.size = 7 := by and_intros <;> kernel_rfl
theorem code115_is : f115.body = some (.seq (.region 0 reg115_0 false) (.seq (.region 1 reg115_1 false) (.ret))) := by kernel_rfl
noncomputable def reg114_0 := rk f114.body 0
noncomputable def reg114_1 := rk f114.body 1
theorem z114 : reg114_0.size = 1 /\ reg114_1.size = 7 := by and_intros <;> kernel_rfl
theorem code114_is : f114.body = some (.seq (.region 0 reg114_0 false) (.seq (.region 1 reg114_1 false) (.ret))) := by kernel_rfl
noncomputable def reg157_0 := rk f157.body 0
noncomputable def reg157_1 := rk f157.body 1
theorem size157_1 : reg157_1.size = 10 := by kernel_rfl
noncomputable def reg157_2 := rk f157.body 2
noncomputable def reg157_4 := rk f157.body 4
noncomputable def reg157_5 := rk f157.body 5
noncomputable def reg157_6 := rk f157.body 6
noncomputable def reg157_7 := rk f157.body 7
noncomputable def reg157_8 := rk f157.body 8
noncomputable def reg157_9 := rk f157.body 9
noncomputable def reg157_10 := rk f157.body 10
noncomputable def reg157_11 := rk f157.body 11
noncomputable def reg157_12 := rk f157.body 12
noncomputable def reg157_13 := rk f157.body 13
noncomputable def reg157_14 := rk f157.body 14
noncomputable def reg157_15 := rk f157.body 15
noncomputable def reg157_16 := rk f157.body 16
noncomputable def reg157_17 := rk f157.body 17
noncomputable def reg157_18 := rk f157.body 18
noncomputable def reg157_3 := rk f157.body 3
theorem z157 : reg157_0.size = 1 /\ reg157_1.size = 10 /\ reg157_2.size = 8 /\ reg157_3.size = 8 /\ reg157_4.size = 16 /\ reg157_5.size = 4 /\ reg157_6.size = 17 /\ reg157_7.size = 3 /\ reg157_8.size = 2 /\ reg157_9.size = 3 /\ reg157_10.size = 5 /\ reg157_11.size = 4 /\ reg157_12.size = 8 /\ reg157_13.size = 10 /\ reg157_14.size = 4 /\ reg157_15.size = 5 /\ reg157_16.size = 4 /\ reg157_17.size = 9 /\ reg157_18.size = 4 := by and_intros <;> kernel_rfl
theorem code157_is : f157.body = some (.seq (.region 0 reg157_0 false) (.seq (.region 1 reg157_1 true) (.seq (.region 2 reg157_2 false) (.block 0 (.seq (.region 4 reg157_4 false) (.cond (.tmp 30 ) (.region 5 reg157_5 false) (.seq (.region 6 reg157_6 false) (.cond (.tmp 50 ) (.seq (.region 7 reg157_7 false) (.seq (.seq (.region 8 reg157_8 false) (.cond (.tmp 70 ) (.region 9 reg157_9 false) (.skip))) (.region 10 reg157_10 false))) (.seq (.region 11 reg157_11 false) (.cond (.tmp 78 ) (.region 12 reg157_12 false) (.seq (.region 13 reg157_13 false) (.cond (.tmp 89 ) (.region 14 reg157_14 false) (.seq (.region 15 reg157_15 false) (.cond (.tmp 103 ) (.region 16 reg157_16 false) (.seq (.region 17 reg157_17 false) (.cond (.tmp 112 ) (.region 18 reg157_18 false) (.region 3 reg157_3 false))))))))))))))))) := by kernel_rfl
section
variable {main : Bool} {V : Nat -> Option Wait}
theorem good_1 (q : Int) (h : 0 <= q) (w : World) : Aw prog main V 20 #[.int .i64 q] w (.bool (decide (q < 4611686018427387904))) w := by
 have g1 : decide (0 <= q) = true := decide_eq_true h
 refine Aq func20 code20_is fun fr cs => ?_
 simp only [ntmps20, ez, Nat.reduceAdd, Nat.reduceSub]
 refine Aa z20 ?_
 exact Ar rfl rfl func20 rfl fun d => ⟨rfl, d, rfl⟩
theorem good_2 (q : Int) (h : ¬ 0 <= q) (w : World) : Aw prog main V 20 #[.int .i64 q] w (.bool false) w := by
 have g1 : decide (0 <= q) = false := decide_eq_false h
 refine Aq func20 code20_is fun fr cs => ?_
 simp only [ntmps20, ez, Nat.reduceAdd, Nat.reduceSub]
 refine Aa z20 ?_
 exact Ar rfl rfl func20 rfl fun d => ⟨rfl, d, rfl⟩
theorem Dg (q : Int) (h : good q) (w : World) : Aw prog main V 20 #[.int .i64 q] w (.bool true) w := by
 have hx := good_1 (main := main) (V := V) q h.1 w
 rwa [decide_eq_true h.2] at hx
theorem Fh (q : Int) (h : ¬ good q) (w : World) : Aw prog main V 20 #[.int .i64 q] w (.bool false) w := by
 by_cases h1 : 0 <= q
 ·have hx := good_1 (main := main) (V := V) q h1 w
  rwa [decide_eq_false (fun h2 => h ⟨h1, h2⟩)] at hx
 ·exact good_2 q h1 w
end
section
variable {a0 M tb tc n m : Nat} {cb : CB} {ta : Option Addr} {S : Rg} {T : Nat -> R11}
theorem ixg_tmod {q : Int} (hg : good q) (m : Nat) : q.tmod (m : Int) = (Bl m q : Nat) := by
 obtain ⟨q', rfl⟩ := Int.eq_ofNat_of_zero_le hg.1
 unfold Bl
 rw [<- Int.natCast_emod, Int.toNat_natCast]
 rfl
theorem Eb {q : Int} (hg : good q) (m : Nat) : Bx m q = 2 * q.tdiv (m : Int) := by
 obtain ⟨q', rfl⟩ := Int.eq_ofNat_of_zero_le hg.1
 rfl
theorem Dq {q : Int} (hg : good q) (m : Nat) : 0 <= q.tdiv (m : Int) /\ q.tdiv (m : Int) < 4611686018427387904 := by
 obtain ⟨q', rfl⟩ := Int.eq_ofNat_of_zero_le hg.1
 have := hg.2
 have h := Nat.div_le_self q' m
 refine ⟨Int.natCast_nonneg _, ?_⟩
 show ((q' / m : Nat) : Int) < _
 omega
theorem Ec {q : Int} (hg : good q) {m : Nat} (hm : 0 < m) : Bl m q < m := by
 obtain ⟨q', rfl⟩ := Int.eq_ofNat_of_zero_le hg.1
 unfold Bl
 rw [<- Int.natCast_emod, Int.toNat_natCast]
 exact Nat.mod_lt _ hm
theorem Ka {main : Bool} {V : Nat -> Option Wait} (q : Int) (hg : good q) (hm : 0 < m) (hm2 : m <= 65536) (w : World) (I : M11 a0 M cb tb tc n m ta S T w) : Aw prog main V 115 #[.pointer (some ⟨M, 0, none⟩), .int .i64 q] w (.int .i64 (Bl m q : Nat)) w := by
 have c0 := I.cZ
 have e := ixg_tmod hg m
 have hl := Ec hg hm
 generalize Bl m q = x at *
 have z1 : ((m : Int) == 0) = false := by simp; omega
 have z2 : ¬ ((m : Int) = 0) := by omega
 have z3 : ¬ (m = 0) := by omega
 have hw : IntKind.wrap .i64 (x : Int) = x := by rw [IntKind.wrap_i64]; omega
 clear I hg
 refine Aq func115 code115_is fun fr cs => ?_
 simp only [ntmps115, ez, Nat.reduceAdd, Nat.reduceSub]
 refine Aa z115 ?_
 exact Ar rfl rfl func115 rfl fun d => ⟨rfl, d, rfl⟩
theorem Qa {main : Bool} {V : Nat -> Option Wait} (q : Int) (hg : good q) (hm : 0 < m) (hm2 : m <= 65536) (w : World) (I : M11 a0 M cb tb tc n m ta S T w) : Aw prog main V 114 #[.pointer (some ⟨M, 0, none⟩), .int .i64 q] w (.int .i64 (q.tdiv m)) w := by
 have c0 := I.cZ
 obtain ⟨e1, e2⟩ := Dq hg m
 obtain ⟨x, hx⟩ : ∃ x, q.tdiv (m : Int) = x := ⟨_, rfl⟩
 rw [hx] at e1 e2 ⊢
 have z1 : ((m : Int) == 0) = false := by simp; omega
 have z2 : ¬ ((m : Int) = 0) := by omega
 have z3 : ¬ (m = 0) := by omega
 have hw : IntKind.wrap .i64 x = x := by rw [IntKind.wrap_i64]; omega
 clear I hg
 refine Aq func114 code114_is fun fr cs => ?_
 simp only [ntmps114, ez, Nat.reduceAdd, Nat.reduceSub]
 refine Aa z114 ?_
 exact Ar rfl rfl func114 rfl fun d => ⟨rfl, d, rfl⟩
def Told11 (a0 M : Nat) (cb : CB) (tb tc n m : Nat) (ta : Option Addr) (S : Rg) (T0 T : Nat -> R11) (i : Nat) (t : R11) (A : Ans) (w : World) (v : Value) (w' : World) : Prop := v = .tuple #[] /\ ∃ av oA, M11 a0 M cb tb tc n m ta S (upd T i (t.told A av oA)) w' /\ Got M cb m tb n T0 (upd T i (t.told A av oA)) w w'
theorem Told11.by {T0 T1 : Nat -> R11} {i : Nat} {t : R11} {A : Ans} {w w1 w' : World} {v : Value} (h : Told11 a0 M cb tb tc n m ta S T1 T i t A w1 v w') (g : Got M cb m tb n T0 T1 w w1) (d : Nat) : Told11 a0 M cb tb tc n m ta S T0 T i t A w v (w'.at d) := by
 obtain ⟨e, av, oA, I, g2⟩ := h
 exact ⟨e, av, oA, I.same fun _ _ => rfl, ⟨(g.trans g2).chg.at d, (g.trans g2).own⟩⟩
theorem Ch {main : Bool} {i : Nat} (hi : i < n) (t : R11) (A : Ans) (sl : Value) (w0 : World) (hls : LsAt a0 t.ownA sl A.l w0) (I : M11 a0 M cb tb tc n m ta S (upd T i t) w0) (hn : n <= 64) (ha0 : a0 <= w0.heap.size) (hl : t.ans.length <= 65536) (hat : t.at' <= 65536) : CallW prog main (fun _ => none) 158 #[.pointer (some ⟨M, 0, none⟩), .int .i64 i, Bo A sl] w0 (Told11 a0 M cb tb tc n m ta S (upd T i t) T i t A w0) := by
 have he := Oq (main := main) hi A sl w0 (by rw [upd_same]; exact hls) I hn ha0 (by rw [upd_same]; exact hl) (by rw [upd_same]; exact hat)
 simp only [upd_same, An] at he
 exact he
noncomputable def hdBg (M i Zs : Nat) (u : Nat -> Value) : Frame :=
 (base 157).at { tmps := #[.pointer (some ⟨M, 0, none⟩), .int .i64 i, u 2, u 3, u 4, .pointer (some ⟨Zs, 0, none⟩), u 6, u 7, u 8, u 9, u 10, u 11, u 12, u 13, u 14, u 15, u 16, u 17, u 18, u 19, u 20, u 21, u 22, u 23, u 24, u 25, u 26, u 27, u 28, u 29, u 30, u 31, u 32, u 33, u 34, u 35, u 36, u 37, u 38, u 39, u 40, u 41, u 42, u 43, u 44, u 45, u 46, u 47, u 48, u 49, u 50, u 51, u 52, u 53, u 54, u 55, u 56, u 57, u 58, u 59, u 60, u 61, u 62, u 63, u 64, u 65, u 66, u 67, u 68, u 69, u 70, u 71, u 72, u 73, u 74, u 75, u 76, u 77, u 78, u 79, u 80, u 81, u 82, u 83, u 84, u 85, u 86, u 87, u 88, u 89, u 90, u 91, u 92, u 93, u 94, u 95, u 96, u 97, u 98, u 99, u 100, u 101, u 102, u 103, u 104, u 105, u 106, u 107, u 108, u 109, u 110, u 111, u 112, u 113, u 114, u 115, u 116, u 117, u 118, u 119, u 120, u 121, u 122, u 123, u 124], defers := [] } [.code (.block 0 (.seq (.region 4 reg157_4 false) (.cond (.tmp 30 ) (.region 5 reg157_5 false) (.seq (.region 6 reg157_6 false) (.cond (.tmp 50 ) (.seq (.region 7 reg157_7 false) (.seq (.seq (.region 8 reg157_8 false) (.cond (.tmp 70 ) (.region 9 reg157_9 false) (.skip))) (.region 10 reg157_10 false))) (.seq (.region 11 reg157_11 false) (.cond (.tmp 78 ) (.region 12 reg157_12 false) (.seq (.region 13 reg157_13 false) (.cond (.tmp 89 ) (.region 14 reg157_14 false) (.seq (.region 15 reg157_15 false) (.cond (.tmp 103 ) (.region 16 reg157_16 false) (.seq (.region 17 reg157_17 false) (.cond (.tmp 112 ) (.region 18 reg157_18 false) (.region 3 reg157_3 false))))))))))))))]
theorem Hm {main : Bool} {i : Nat} (hi : i < n) (k oa ob oc : Int) (w : World) (I : M11 a0 M cb tb tc n m ta S T w) (hn : n <= 64) (ha0 : a0 <= w.heap.size) (cs : List Frame) :
  Walk prog main (DR (fun _ => none)) (fun g w' => (∃ u, g = G (hdBg M i w.heap.size u) cs) /\ M11 a0 M cb tb tc n m ta S (upd T i ((T i).clr oa)) w' /\ Got M cb m tb n T (upd T i ((T i).clr oa)) w w' /\ w'.heap[w.heap.size]? = some (.cells #[.int .i64 k, .int .i64 oa, .int .i64 ob, .int .i64 oc] 45)) (G (Frame.enter prog 157 #[.pointer (some ⟨M, 0, none⟩), .int .i64 i, .agg #[.int .i64 k, .int .i64 oa, .int .i64 ob, .int .i64 oc]] .normal) cs) w := by
 obtain ⟨hi0, hi1, hi3, hi4⟩ := hIx i n
 have ll3 := I.lt.2.2 (by omega)
 rw [enter_at _ func157 code157_is]
 simp only [ntmps157, ez, Nat.reduceAdd, Nat.reduceSub]
 refine Aa z157 ?_
 (refine Wa ?_; try walk_nrm)
 have s0 : (w.alloc (.cells #[.int .i64 k, .int .i64 oa, .int .i64 ob, .int .i64 oc] 45)).heap.size = w.heap.size + 1 := by simp
 have o0 : ∀ x, x < w.heap.size -> (w.alloc (.cells #[.int .i64 k, .int .i64 oa, .int .i64 ob, .int .i64 oc] 45)).heap[x]? = w.heap[x]? := fun x hx => Ad _ _ hx
 have d0 := hAw w (.cells #[.int .i64 k, .int .i64 oa, .int .i64 ob, .int .i64 oc] 45)
 have I0 := I.same o0
 generalize hT : w.heap.size = Zs at *
 generalize hw0 : (w.alloc (.cells #[.int .i64 k, .int .i64 oa, .int .i64 ob, .int .i64 oc] 45)) = w0 at *
 have b0 := (Ab d0 0).trans rfl
 have b1 := (Ab d0 1).trans rfl
 have b2 := (Ab d0 2).trans rfl
 have c1 := I0.cT (by omega)
 have c3 : w0.cell? ⟨tb, i * 9 + 5, none⟩ = some (.int .i64 (T i).q) := I0.tcell hi (rfl)
 have z3 := I0.tfrz hi (i * 9 + 5)
 have I1 := I0.put hi (j := 5) (v := .int .i64 oa) (t := { T i with q := oa })
 refine Aa z157 ?_
 (refine Bw (by kernel_rfl) size157_1 (by kernel_rfl) (by kernel_rfl) (by kernel_rfl) (by decide) ?_; simp only [List.range, List.range.loop]; repeat (first | (refine cQ ?_) | (refine Be Ah (by rfl) ?_; walk_nrm)))
 refine cDn ?_
 intro rest hr
 (have hfr := Ju tb (i * 9 + 5); refine Ws hfr c3 ?_; clear hfr; try walk_nrm)
 refine hr _ _ ?_
 have s1 := Ai w0 ⟨tb, i * 9 + 5, none⟩ (.int .i64 oa)
 have o1 : ∀ x, x ≠ tb -> (w0.setCell ⟨tb, i * 9 + 5, none⟩ (.int .i64 oa)).heap[x]? = w0.heap[x]? := fun x hx => Ac _ _ _ _ hx
 have d1 := (o1 Zs (by omega)).trans d0
 generalize w0.setCell ⟨tb, i * 9 + 5, none⟩ (.int .i64 oa) = w1 at *
 clear c1 c3 z3 b0 b1 b2
 have c1 := I1.cT (by omega)
 have c3 : w1.cell? ⟨tb, i * 9 + 8, none⟩ = some ((T i).sv) := I1.tcell hi (by rw [upd_same]; rfl)
 have z3 := I1.tfrz hi (i * 9 + 8)
 have R1 := I1.rows i hi
 have I2 := I1.put' hi (j := 8) (v := .slice none 0 0) (t := (T i).clr oa) (by rw [upd_same]; rfl) (by decide) w1 (fun _ _ _ => rfl) (by
  rw [upd_same] at R1
  exact ⟨R1.rO, R1.rA, fun _ => ⟨rfl, .inl ⟨rfl, rfl⟩⟩, fun _ b hb => (by cases hb), R1.lo⟩) (fun b hb => .inl (by
  rw [upd_same]
  rcases hb with hb | ⟨_, hb⟩
  ·exact .inl hb
  ·cases hb))
 rw [An] at I2
 try walk_nrm
 refine Aa z157 ?_
 (have hfr := Ju tb (i * 9 + 8); refine Ws hfr c3 ?_; clear hfr; try walk_nrm)
 have s2 := Ai w1 ⟨tb, i * 9 + 8, none⟩ (.slice none 0 0)
 have o2 : ∀ x, x ≠ tb -> (w1.setCell ⟨tb, i * 9 + 8, none⟩ (.slice none 0 0)).heap[x]? = w1.heap[x]? := fun x hx => Ac _ _ _ _ hx
 have d2 := (o2 Zs (by omega)).trans d1
 generalize w1.setCell ⟨tb, i * 9 + 8, none⟩ (.slice none 0 0) = w2 at *
 clear c1 c3 z3 R1
 refine Walk.c rfl ?_
 refine .stop fun d => ⟨Ak ?_, I2.same fun _ _ => rfl, ⟨⟨?_, fun x hx hn => ?_⟩, fun b hb => Bu hi (fun b hb => .inl (by
  rcases hb with hb | ⟨_, hb⟩
  ·exact .inl hb
  ·cases hb)) b hb⟩, d2⟩
 ·simp only [hdBg]
  rfl
 ·show w.heap.size <= w2.heap.size
  omega
 ·have hx' : x ≠ tb := fun e => hn (.inr (.inr (.inl e)))
  exact (o2 x hx').trans ((o1 x hx').trans (o0 x (by omega)))
end
section
variable {a0 M tb tc n m : Nat} {cb : CB} {ta : Option Addr} {S : Rg} {T : Nat -> R11}
theorem bg_z {main : Bool} {i : Nat} (hi : i < n) (k oa ob oc : Int) (hm0 : m < 1) (w : World) (I : M11 a0 M cb tb tc n m ta S T w) (hn : n <= 64) (hm : m <= 65536) (ha0 : a0 <= w.heap.size) (hl : (T i).ans.length <= 65536) (hat : (T i).at' <= 65536) :
  CallW prog main (fun _ => none) 157 #[.pointer (some ⟨M, 0, none⟩), .int .i64 i, .agg #[.int .i64 k, .int .i64 oa, .int .i64 ob, .int .i64 oc]] w (Told11 a0 M cb tb tc n m ta S T T i ((T i).clr oa) ⟨false, 0, []⟩ w) := by
 have m1 : ((m : Int) == 0) = true := by simp; omega
 intro kf cs
 obtain ⟨hi0, hi1, hi3, hi4⟩ := hIx i n
 refine (Hm hi k oa ob oc w I hn ha0 (kf :: cs)).then ?_
 rintro _ w2 ⟨⟨u, rfl⟩, I2, g2, d2⟩
 have hz2 := g2.chg.size
 have b0 := (Ab d2 0).trans rfl
 have b1 := (Ab d2 1).trans rfl
 have b2 := (Ab d2 2).trans rfl
 have c0 : w2.cell? ⟨M, 0, none⟩ = some (.int .i64 m) := I2.cZ
 generalize w.heap.size = Zs at *
 clear d2 I
 conv => arg 5; unfold hdBg
 refine Aa z157 ?_
 refine qW (Post := Told11 a0 M cb tb tc n m ta S (upd T i ((T i).clr oa)) T i ((T i).clr oa) ⟨false, 0, []⟩ w2) func158 ?_ ?_
 ·walk_nrm
  exact Ch hi _ ⟨false, 0, []⟩ _ w2 (LsAt.nil _ _ _) I2 hn (by omega) hl hat
 intro v w4 h
 obtain rfl := h.1
 walk_nrm
 refine Aa z157 ?_
 exact Au rfl rfl func157 rfl (.stop fun d => ⟨_, h.by g2 d, rfl⟩)
theorem bg_lo {main : Bool} {i : Nat} (hi : i < n) (k oa ob oc : Int) (hm0 : 0 < m) (hk : k < 1) (w : World) (I : M11 a0 M cb tb tc n m ta S T w) (hn : n <= 64) (hm : m <= 65536) (ha0 : a0 <= w.heap.size) (hl : (T i).ans.length <= 65536) (hat : (T i).at' <= 65536) :
  CallW prog main (fun _ => none) 157 #[.pointer (some ⟨M, 0, none⟩), .int .i64 i, .agg #[.int .i64 k, .int .i64 oa, .int .i64 ob, .int .i64 oc]] w (Told11 a0 M cb tb tc n m ta S T T i ((T i).clr oa) ⟨false, 0, []⟩ w) := by
 have m1 : ((m : Int) == 0) = false := by simp; omega
 have m2 : ¬ m = 0 := by omega
 have k1 : decide (k < 1) = true := by simp; omega
 intro kf cs
 obtain ⟨hi0, hi1, hi3, hi4⟩ := hIx i n
 refine (Hm hi k oa ob oc w I hn ha0 (kf :: cs)).then ?_
 rintro _ w2 ⟨⟨u, rfl⟩, I2, g2, d2⟩
 have hz2 := g2.chg.size
 have b0 := (Ab d2 0).trans rfl
 have b1 := (Ab d2 1).trans rfl
 have b2 := (Ab d2 2).trans rfl
 have c0 : w2.cell? ⟨M, 0, none⟩ = some (.int .i64 m) := I2.cZ
 generalize w.heap.size = Zs at *
 clear d2 I
 conv => arg 5; unfold hdBg
 refine Aa z157 ?_
 refine qW (Post := Told11 a0 M cb tb tc n m ta S (upd T i ((T i).clr oa)) T i ((T i).clr oa) ⟨false, 0, []⟩ w2) func158 ?_ ?_
 ·walk_nrm
  exact Ch hi _ ⟨false, 0, []⟩ _ w2 (LsAt.nil _ _ _) I2 hn (by omega) hl hat
 intro v w4 h
 obtain rfl := h.1
 walk_nrm
 refine Aa z157 ?_
 exact Au rfl rfl func157 rfl (.stop fun d => ⟨_, h.by g2 d, rfl⟩)
theorem bg_hi {main : Bool} {i : Nat} (hi : i < n) (k oa ob oc : Int) (hm0 : 0 < m) (hk : 5 < k) (w : World) (I : M11 a0 M cb tb tc n m ta S T w) (hn : n <= 64) (hm : m <= 65536) (ha0 : a0 <= w.heap.size) (hl : (T i).ans.length <= 65536) (hat : (T i).at' <= 65536) :
  CallW prog main (fun _ => none) 157 #[.pointer (some ⟨M, 0, none⟩), .int .i64 i, .agg #[.int .i64 k, .int .i64 oa, .int .i64 ob, .int .i64 oc]] w (Told11 a0 M cb tb tc n m ta S T T i ((T i).clr oa) ⟨false, 0, []⟩ w) := by
 have m1 : ((m : Int) == 0) = false := by simp; omega
 have m2 : ¬ m = 0 := by omega
 have k1 : decide (k < 1) = false := by simp; omega
 have k2 : decide (5 < k) = true := by simp; omega
 intro kf cs
 obtain ⟨hi0, hi1, hi3, hi4⟩ := hIx i n
 refine (Hm hi k oa ob oc w I hn ha0 (kf :: cs)).then ?_
 rintro _ w2 ⟨⟨u, rfl⟩, I2, g2, d2⟩
 have hz2 := g2.chg.size
 have b0 := (Ab d2 0).trans rfl
 have b1 := (Ab d2 1).trans rfl
 have b2 := (Ab d2 2).trans rfl
 have c0 : w2.cell? ⟨M, 0, none⟩ = some (.int .i64 m) := I2.cZ
 generalize w.heap.size = Zs at *
 clear d2 I
 conv => arg 5; unfold hdBg
 refine Aa z157 ?_
 refine qW (Post := Told11 a0 M cb tb tc n m ta S (upd T i ((T i).clr oa)) T i ((T i).clr oa) ⟨false, 0, []⟩ w2) func158 ?_ ?_
 ·walk_nrm
  exact Ch hi _ ⟨false, 0, []⟩ _ w2 (LsAt.nil _ _ _) I2 hn (by omega) hl hat
 intro v w4 h
 obtain rfl := h.1
 walk_nrm
 refine Aa z157 ?_
 exact Au rfl rfl func157 rfl (.stop fun d => ⟨_, h.by g2 d, rfl⟩)
theorem bg_4m {main : Bool} {i : Nat} (hi : i < n) (oa ob oc : Int) (hm0 : 0 < m) (ha : oa = -9223372036854775808) (w : World) (I : M11 a0 M cb tb tc n m ta S T w) (hn : n <= 64) (hm : m <= 65536) (ha0 : a0 <= w.heap.size) (hl : (T i).ans.length <= 65536) (hat : (T i).at' <= 65536) :
  CallW prog main (fun _ => none) 157 #[.pointer (some ⟨M, 0, none⟩), .int .i64 i, .agg #[.int .i64 4, .int .i64 oa, .int .i64 ob, .int .i64 oc]] w (Told11 a0 M cb tb tc n m ta S T T i ((T i).clr oa) ⟨true, oa, []⟩ w) := by
 have m1 : ((m : Int) == 0) = false := by simp; omega
 have m2 : ¬ m = 0 := by omega
 have k1 : decide (-9223372036854775808 < oa) = false := by simp; omega
 have hgd := Fh (main := main) (V := fun _ => none) oa (fun h => by have := h.1; omega)
 clear ha
 intro kf cs
 obtain ⟨hi0, hi1, hi3, hi4⟩ := hIx i n
 refine (Hm hi 4 oa ob oc w I hn ha0 (kf :: cs)).then ?_
 rintro _ w2 ⟨⟨u, rfl⟩, I2, g2, d2⟩
 have hz2 := g2.chg.size
 have b0 := (Ab d2 0).trans rfl
 have b1 := (Ab d2 1).trans rfl
 have b2 := (Ab d2 2).trans rfl
 have c0 : w2.cell? ⟨M, 0, none⟩ = some (.int .i64 m) := I2.cZ
 generalize w.heap.size = Zs at *
 clear d2 I
 conv => arg 5; unfold hdBg
 refine Aa z157 ?_
 refine qV (x := .bool false) (W := w2) func20 ?_ ?_
 ·walk_nrm
  exact hgd w2
 walk_nrm
 refine Aa z157 ?_
 refine qW (Post := Told11 a0 M cb tb tc n m ta S (upd T i ((T i).clr oa)) T i ((T i).clr oa) ⟨true, oa, []⟩ w2) func158 ?_ ?_
 ·walk_nrm
  exact Ch hi _ ⟨true, oa, []⟩ _ w2 (LsAt.nil _ _ _) I2 hn (by omega) hl hat
 intro v w4 h
 obtain rfl := h.1
 walk_nrm
 refine Aa z157 ?_
 exact Au rfl rfl func157 rfl (.stop fun d => ⟨_, h.by g2 d, rfl⟩)
theorem bg_4n {main : Bool} {i : Nat} (hi : i < n) (oa ob oc : Int) (hm0 : 0 < m) (ha : -9223372036854775808 < oa) (hgo : ¬ good oa) (w : World) (I : M11 a0 M cb tb tc n m ta S T w) (hn : n <= 64) (hm : m <= 65536) (ha0 : a0 <= w.heap.size) (hl : (T i).ans.length <= 65536) (hat : (T i).at' <= 65536) :
  CallW prog main (fun _ => none) 157 #[.pointer (some ⟨M, 0, none⟩), .int .i64 i, .agg #[.int .i64 4, .int .i64 oa, .int .i64 ob, .int .i64 oc]] w (Told11 a0 M cb tb tc n m ta S T T i ((T i).clr oa) ⟨true, IntKind.i64.wrap (oa - 1), []⟩ w) := by
 have m1 : ((m : Int) == 0) = false := by simp; omega
 have m2 : ¬ m = 0 := by omega
 have hgd := Fh (main := main) (V := fun _ => none) oa hgo
 have k1 : decide (-9223372036854775808 < oa) = true := by simp; omega
 intro kf cs
 obtain ⟨hi0, hi1, hi3, hi4⟩ := hIx i n
 refine (Hm hi 4 oa ob oc w I hn ha0 (kf :: cs)).then ?_
 rintro _ w2 ⟨⟨u, rfl⟩, I2, g2, d2⟩
 have hz2 := g2.chg.size
 have b0 := (Ab d2 0).trans rfl
 have b1 := (Ab d2 1).trans rfl
 have b2 := (Ab d2 2).trans rfl
 have c0 : w2.cell? ⟨M, 0, none⟩ = some (.int .i64 m) := I2.cZ
 generalize w.heap.size = Zs at *
 clear d2 I
 conv => arg 5; unfold hdBg
 refine Aa z157 ?_
 refine qV (x := .bool false) (W := w2) func20 ?_ ?_
 ·walk_nrm
  exact hgd w2
 walk_nrm
 refine Aa z157 ?_
 refine qW (Post := Told11 a0 M cb tb tc n m ta S (upd T i ((T i).clr oa)) T i ((T i).clr oa) ⟨true, IntKind.i64.wrap (oa - 1), []⟩ w2) func158 ?_ ?_
 ·walk_nrm
  exact Ch hi _ ⟨true, IntKind.i64.wrap (oa - 1), []⟩ _ w2 (LsAt.nil _ _ _) I2 hn (by omega) hl hat
 intro v w4 h
 obtain rfl := h.1
 walk_nrm
 refine Aa z157 ?_
 exact Au rfl rfl func157 rfl (.stop fun d => ⟨_, h.by g2 d, rfl⟩)
theorem bg_4b {main : Bool} {i : Nat} (hi : i < n) (oa ob oc : Int) (hm0 : 0 < m) (hgo : good oa) (hb : ob < oa) (w : World) (I : M11 a0 M cb tb tc n m ta S T w) (hn : n <= 64) (hm : m <= 65536) (ha0 : a0 <= w.heap.size) (hl : (T i).ans.length <= 65536) (hat : (T i).at' <= 65536) :
  CallW prog main (fun _ => none) 157 #[.pointer (some ⟨M, 0, none⟩), .int .i64 i, .agg #[.int .i64 4, .int .i64 oa, .int .i64 ob, .int .i64 oc]] w (Told11 a0 M cb tb tc n m ta S T T i ((T i).clr oa) ⟨true, IntKind.i64.wrap (oa - 1), []⟩ w) := by
 have m1 : ((m : Int) == 0) = false := by simp; omega
 have m2 : ¬ m = 0 := by omega
 have hgd := Dg (main := main) (V := fun _ => none) oa hgo
 have k1 : decide (-9223372036854775808 < oa) = true := by have := hgo.1; simp; omega
 have k2 : decide (ob < oa) = true := decide_eq_true hb
 intro kf cs
 obtain ⟨hi0, hi1, hi3, hi4⟩ := hIx i n
 refine (Hm hi 4 oa ob oc w I hn ha0 (kf :: cs)).then ?_
 rintro _ w2 ⟨⟨u, rfl⟩, I2, g2, d2⟩
 have hz2 := g2.chg.size
 have b0 := (Ab d2 0).trans rfl
 have b1 := (Ab d2 1).trans rfl
 have b2 := (Ab d2 2).trans rfl
 have c0 : w2.cell? ⟨M, 0, none⟩ = some (.int .i64 m) := I2.cZ
 generalize w.heap.size = Zs at *
 clear d2 I
 conv => arg 5; unfold hdBg
 refine Aa z157 ?_
 refine qV (x := .bool true) (W := w2) func20 ?_ ?_
 ·walk_nrm
  exact hgd w2
 walk_nrm
 refine Aa z157 ?_
 refine qW (Post := Told11 a0 M cb tb tc n m ta S (upd T i ((T i).clr oa)) T i ((T i).clr oa) ⟨true, IntKind.i64.wrap (oa - 1), []⟩ w2) func158 ?_ ?_
 ·walk_nrm
  exact Ch hi _ ⟨true, IntKind.i64.wrap (oa - 1), []⟩ _ w2 (LsAt.nil _ _ _) I2 hn (by omega) hl hat
 intro v w4 h
 obtain rfl := h.1
 walk_nrm
 refine Aa z157 ?_
 exact Au rfl rfl func157 rfl (.stop fun d => ⟨_, h.by g2 d, rfl⟩)
end
end Go.Proofs.Ytflcclneedldoaa
