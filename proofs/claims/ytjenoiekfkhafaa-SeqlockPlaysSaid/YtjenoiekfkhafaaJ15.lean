/- Part 15. -/
import Derived.Test.YtjenoiekfkhafaaJ11
import Derived.Test.YtjenoiekfkhafaaJ14
set_option linter.unusedSimpArgs false
set_option linter.unusedVariables false
set_option linter.unusedVariables false
set_option maxHeartbeats 8000000
set_option maxRecDepth 100000
namespace Go.Proofs.Ytjenoiekfkhafaa
open Go.Conc Go.RowKit Go.Relay
open Go.ConcN (upd upd_ne upd_same)
section
def m8S (M cg tb n : Nat) (T : Nat → R8) (b : Nat) : Prop := b = M ∨ b = cg ∨ b = tb ∨ ∃ k, k < n ∧ (T k).own b
structure Got (M cg tb n : Nat) (T T' : Nat → R8) (w w' : World) : Prop where
 chg : Chg (m8S M cg tb n T) w w'
 own : ∀ b, m8S M cg tb n T' b → m8S M cg tb n T b ∨ w.heap.size ≤ b
theorem Got.trans {M cg tb n : Nat} {T T1 T2 : Nat → R8} {w w1 w2 : World} (h1 : Got M cg tb n T T1 w w1) (h2 : Got M cg tb n T1 T2 w1 w2) : Got M cg tb n T T2 w w2 :=
 ⟨h1.chg.trans h2.chg fun b hb h => (h1.own b h).resolve_right (by omega), fun b h => (h2.own b h).elim (h1.own b) fun h => .inr (Nat.le_trans h1.chg.size h)⟩
theorem m8S_upd {M cg tb n i : Nat} {T : Nat → R8} {t : R8} {s : Nat} (hi : i < n) (h : ∀ b, t.own b → (T i).own b ∨ s ≤ b) : ∀ b, m8S M cg tb n (upd T i t) b → m8S M cg tb n T b ∨ s ≤ b := fun b hb => by
 rcases hb with hb | hb | hb | ⟨k, hk, hb⟩
 ·exact .inl (.inl hb)
 ·exact .inl (.inr (.inl hb))
 ·exact .inl (.inr (.inr (.inl hb)))
 ·by_cases e : k = i
  ·subst e
   rw [upd_same] at hb
   exact (h b hb).imp (fun h => .inr (.inr (.inr ⟨k, hk, h⟩))) id
  ·rw [upd_ne _ _ e] at hb
   exact .inl (.inr (.inr (.inr ⟨k, hk, hb⟩)))
theorem upd_twice {α : Type} (f : Nat → α) (i : Nat) (x y : α) : upd (upd f i x) i y = upd f i y := by
 funext k
 by_cases h : k = i
 ·subst h; rw [upd_same, upd_same]
 ·rw [upd_ne _ _ h, upd_ne _ _ h, upd_ne _ _ h]
structure AppR (a0 : Nat) (w1 : World) (a : Ans) (sl hd : Value) (z : List (Ans × Value)) (k gb gcap : Nat) (w3 : World) : Prop where
 own : w3.ownsRow a0 44 3 (.slice (some ⟨gb, 0, none⟩) (k + 1) gcap) (k + 1) (ansRow z ++ [.bool a.ok, .int .i64 a.n, sl])
 grown : (ansA w1 a sl).grownBy w3 hd.ownBlock
 hat : hd.ownBlock = some gb ∨ gb = (ansA w1 a sl).heap.size
 hlt : gb < w3.heap.size
noncomputable def reg73_0 := rg Try.f73.body [0]
noncomputable def reg73_1 := rg Try.f73.body [1, 0]
theorem size73_1 : reg73_1.size = 19 := by kernel_rfl
noncomputable def reg73_2 := rg Try.f73.body [1, 1, 0]
theorem size73_2 : reg73_2.size = 17 := by kernel_rfl
noncomputable def reg73_3 := rg Try.f73.body [1, 1, 1]
theorem z73 : List.range reg73_0.size = [0] ∧ List.range reg73_1.size = [0, 1, 2, 3, 4, 5, 6, 7, 8, 9, 10, 11, 12, 13, 14, 15, 16, 17, 18] ∧ List.range reg73_2.size = [0, 1, 2, 3, 4, 5, 6, 7, 8, 9, 10, 11, 12, 13, 14, 15, 16] ∧ List.range reg73_3.size = [0, 1, 2, 3, 4, 5, 6, 7] := by refine ⟨?_, ?_, ?_, ?_⟩ <;> kernel_rfl
theorem code73_is : Try.f73.body = some (.seq (.region 0 reg73_0 false) (.seq (.region 1 reg73_1 true) (.seq (.region 2 reg73_2 true) (.region 3 reg73_3 false)))) := by kernel_rfl
section
variable {a0 M cg cc tb tc n m : Nat} {ta : Option Addr} {S : Sq} {T : Nat → R8}
theorem end_w {main : Bool} {i : Nat} (hi : i < n) (a : Ans) (sl : Value) (w : World) (hls : LsAt a0 (T i).ownA sl a.l w) (I : M8 a0 M cg cc tb tc n m ta S T w) (hn : n ≤ 64) (ha0 : a0 ≤ w.heap.size) (hl : (T i).ans.length ≤ 65536) (hk : (T i).at' ≤ 65536) :
  CallW Try.prog main (fun _ => none) 73 #[.pointer (some ⟨M, 0, none⟩), .int .i64 i, ansV a sl] w (fun v w' => v = .tuple #[] ∧ ∃ av oA, M8 a0 M cg cc tb tc n m ta S (upd T i { T i with av := av, ans := (T i).ans ++ [a], at' := (T i).at' + 1, pc := 0, ownA := oA }) w' ∧ Got M cg tb n T (upd T i { T i with av := av, ans := (T i).ans ++ [a], at' := (T i).at' + 1, pc := 0, ownA := oA }) w w') := by
 intro c cs
 obtain ⟨fsA, huA⟩ := structT 44 (by kernel_rfl)
 obtain ⟨sla, slc, rfl, hln, hlo⟩ := id hls
 simp only [ansV]
 have hi0 : (0 : Int) ≤ i := by omega
 have hi1 : decide ((i : Int) < n) = true := by simp; omega
 have hi3 : decide (i < n) = true := by simp; omega
 have hi4 : (i : Int) < n := by omega
 have hw1 : IntKind.wrap .i64 (((T i).at' : Int) + 1) = ((T i).at' : Int) + 1 := by rw [IntKind.wrap_i64]; omega
 obtain ⟨bb1, bb2, bb3, bb4⟩ := I.base
 obtain ⟨bb5, bb6, bb7⟩ := bb4 (by omega)
 obtain ⟨ll1, ll2, ll3⟩ := I.lt
 have ll3 := ll3 (by omega)
 rw [enter_at _ Try.func73 code73_is]
 simp only [Try.ntmps73, ez, Nat.reduceAdd, Nat.reduceSub]
 refine Walk.gz z73 ?_
 (refine Walk.oa ?_; try walk_nrm)
 have s0 : (w.alloc (.cells #[.bool a.ok, .int .i64 a.n, .slice sla a.l.length slc] 44)).heap.size = w.heap.size + 1 := by simp
 have o0 : ∀ x, x < w.heap.size → (w.alloc (.cells #[.bool a.ok, .int .i64 a.n, .slice sla a.l.length slc] 44)).heap[x]? = w.heap[x]? := fun x hx => heap_new_lt _ _ hx
 have d0 := heap_alloc_new w (.cells #[.bool a.ok, .int .i64 a.n, .slice sla a.l.length slc] 44)
 have I0 := I.same o0
 generalize hT : w.heap.size = Zs at *
 generalize hw0 : w.alloc (.cells #[.bool a.ok, .int .i64 a.n, .slice sla a.l.length slc] 44) = w0 at *
 replace s0 : Zs + 1 ≤ w0.heap.size ∧ w0.heap.size ≤ Zs + 1 := by omega
 have R0 := I0.rows i hi
 obtain ⟨ava, avc, z, hz, hav0, hrow, hP, hL⟩ := R0.rA
 clear hav0 ava avc
 have hl0 := R0.lo
 have hlw : ∀ b, (T i).ownA b → b < Zs := fun b hb => by have := ((I.rows i hi).lo b hb).2; omega
 have c1 : w0.cell? ⟨M, 2, none⟩ = some (.slice (some ⟨tb, 0, none⟩) n tc) := I0.cT (by omega)
 have c2 : w0.cell? ⟨tb, i * 8 + 1, none⟩ = some (T i).av := I0.tcell hi rfl
 have hsz1 : w0.heap.size + 1 ≤ (ansA w0 a (.slice sla a.l.length slc)).heap.size ∧ (ansA w0 a (.slice sla a.l.length slc)).heap.size ≤ w0.heap.size + 1 := by simp [ansA]
 have hO1 : ∀ x, x < w0.heap.size → (ansA w0 a (.slice sla a.l.length slc)).heap[x]? = w0.heap[x]? := fun x hx => heap_new_lt _ _ hx
 have hown' : (ansA w0 a (.slice sla a.l.length slc)).ownsRow a0 44 3 (T i).av (T i).ans.length (ansRow z) := row_same hrow fun g hg => hO1 g (hrow.lt g hg).2
 have hnews : ∀ (j : Nat) (u : Value), ([.bool a.ok, .int .i64 a.n, .slice sla a.l.length slc] : List Value)[j]? = some u → (ansA w0 a (.slice sla a.l.length slc)).cell? ((⟨w0.heap.size, 0, none⟩ : Addr).add j) = some u := fun j u hu => by
  rw [add_none, Nat.zero_add]
  refine (cell_of (heap_alloc_new _ _) j).trans ?_
  simpa using hu
 have hnM : ∀ g, (T i).av.ownBlock = some g → g ≠ M ∧ g ≠ tb := fun g hg => by
  obtain ⟨e1, e2, e3, _⟩ := I.far i hi g (.inl (hP g hg))
  exact ⟨e1, e3⟩
 have hnT : ∀ g, (T i).av.ownBlock = some g → g ≠ Zs := fun g hg => by have := ((I.rows i hi).lo g (hP g hg)).2; omega
 have hfar : ∀ (x : Nat) (w2 : World), x < w0.heap.size → (∀ g, (T i).av.ownBlock = some g → g ≠ x) → (ansA w0 a (.slice sla a.l.length slc)).grownBy w2 (T i).av.ownBlock → w2.heap[x]? = w0.heap[x]? := fun x w2 hx hne hg => (hg.block x (by omega) (fun e => hne x e.symm rfl)).trans (hO1 x hx)
 have zT : ∀ x : World, x.heap[Zs]? = w0.heap[Zs]? → ∀ (j : Nat) (v : Value), ([.bool a.ok, .int .i64 a.n, .slice sla a.l.length slc] : List Value)[j]? = some v → x.cell? ⟨Zs, 0 + j, none⟩ = some v := fun x hx j v hv => by
  rw [Nat.zero_add, cell_of (hx.trans d0)]
  simpa using hv
 refine Walk.gz z73 ?_
 refine Walk.drawnT (iA := 14) (iB := 15) (w1 := ansA w0 a (.slice sla a.l.length slc)) (vA := .slice (some ⟨w0.heap.size, 0, none⟩) 1 1) (Z := fun x => x.cell? ⟨M, 2, none⟩ = some (.slice (some ⟨tb, 0, none⟩) n tc) ∧ x.cell? ⟨tb, i * 8 + 1, none⟩ = some (T i).av ∧ x.heap[Zs]? = w0.heap[Zs]?)
  (fun v w2 => ∃ g cap, v = .slice (some ⟨g, 0, none⟩) ((T i).ans.length + 1) cap ∧ AppR a0 w0 a (.slice sla a.l.length slc) (T i).av z (T i).ans.length g cap w2) (by kernel_rfl) size73_1 (by kernel_rfl) (by kernel_rfl) (by kernel_rfl) (by kernel_rfl) (by decide) hoA hoA ⟨c1, c2, rfl⟩ ⟨cell_alloc _ _ c1, cell_alloc _ _ c2, hO1 Zs (by omega)⟩ ?_ ?_
 ·rintro v w2 ⟨g, cap, _, hA⟩
  exact ⟨(World.cell?_of_block (a := ⟨M, 2, none⟩) (hfar M w2 (by omega) (fun g hg => (hnM g hg).1) hA.grown)).trans c1, (World.cell?_of_block (a := ⟨tb, i * 8 + 1, none⟩) (hfar tb w2 (by omega) (fun g hg => (hnM g hg).2) hA.grown)).trans c2, hfar Zs w2 (by omega) hnT hA.grown⟩
 rw [show List.filter (quietQ 14 15) (List.range 18) = [0, 1, 2, 3, 4, 5, 6, 7, 8, 9, 10, 11, 12, 13, 16, 17] from by decide]
 repeat (first | (refine Cm.opqZ hoA (by rfl) (fun wz hz dd e he => ?_) ?_; (· (obtain ⟨z1, z2, z3⟩ := hz; simp [go_sem, *] at he; try (subst he; exact evR_read _ _))); apply Exists.intro; apply And.intro; (· (intro wz hz dd K hK; obtain ⟨z1, z2, z3⟩ := hz; go_simp; exact hK))) | (refine Cm.unw hoA (by rfl) ?_; walk_nrm))
 refine Cm.loadS 44 (.tmp 5) hoA (by rfl) rfl Zs 0 [.bool a.ok, .int .i64 a.n, .slice sla a.l.length slc] (.struct fsA) rfl (fun x hx => zT x hx.2.2) huA rfl (by kernel_rfl) ?_
 walk_nrm
 repeat (first | (refine Cm.opqZ hoA (by rfl) (fun wz hz dd e he => ?_) ?_; (· (obtain ⟨z1, z2, z3⟩ := hz; simp [go_sem, *] at he; try (subst he; exact evR_read _ _))); apply Exists.intro; apply And.intro; (· (intro wz hz dd K hK; obtain ⟨z1, z2, z3⟩ := hz; go_simp; exact hK))) | (refine Cm.unw hoA (by rfl) ?_; walk_nrm))
 refine Cm.done ⟨?_, ?_, ?_⟩
 ·intro x hev rest hr'
  have e1 : x.tmps[19]?.getD undef = .agg #[.bool a.ok, .int .i64 a.n, .slice sla a.l.length slc] := by simpa [Act.eval] using hev (.tmp 19) (by simp [Op.operands])
  clear hev
  (refine Walk.oa ?_; try walk_nrm)
  exact hr' _ _ ⟨rfl, _, rfl⟩
 ·intro x hev rest hr'
  have e1 : x.eval (.tmp 18) = (T i).av := by simpa [Act.eval] using hev (.tmp 18) (by simp [Op.operands, Call.operands])
  have e2 : x.eval (.tmp 20) = .slice (some ⟨w0.heap.size, 0, none⟩) 1 1 := by simpa [Act.eval] using hev (.tmp 20) (by simp [Op.operands, Call.operands])
  have hiA := Option.some_get (show (Try.prog.info? 44).isSome = true by kernel_rfl)
  refine Walk.append (.tmp 18) (.tmp 20) 42 hoA (by rfl) (by decide) rfl a0 44 _ (.agg #[.bool false, .int .i64 0, .slice none 0 0]) 3 40 (by kernel_rfl) hiA.symm (by rfl) (by rfl) (by rfl) (by rfl) (by decide) (T i).av (T i).ans.length (ansRow z) e1 hown' ⟨w0.heap.size, 0, none⟩ 1 1 [.bool a.ok, .int .i64 a.n, .slice sla a.l.length slc] e2 (by rfl) hnews (by simp [Value.oneCell']) (by decide) (by simp [maxLen]; omega) (by omega) (by omega) (fun g _ => ap0 g) (fun g cap w3 hown hg hat hlt => ?_)
  exact hr' _ _ ⟨_, w3, ⟨g, cap, rfl, hown, hg, hat, hlt⟩, rfl, w3.drawn, rfl⟩
 rintro v w2 ⟨g, cap, rfl, hA⟩ rest hr'
 have hb2 : w2.heap[tb]? = w0.heap[tb]? := hfar tb w2 (by omega) (fun g hg => (hnM g hg).2) hA.grown
 have h12 : w2.cell? ⟨tb, i * 8 + 1, none⟩ = some (T i).av := (World.cell?_of_block (a := ⟨tb, i * 8 + 1, none⟩) hb2).trans c2
 have z12 : w2.frozen? ⟨tb, i * 8 + 1, none⟩ = false := by
  obtain ⟨_, arr, h1, _⟩ := I0.ts (by omega)
  exact frozen_of (hb2.trans h1) _
 have hgs := hA.grown.size
 have hlen : ((T i).ans ++ [a]).length = (T i).ans.length + 1 := by simp
 obtain ⟨oA, hoA⟩ : ∃ oA : Nat → Prop, ∀ b, oA b ↔ ((T i).ownA b ∨ b = g) := ⟨_, fun _ => Iff.rfl⟩
 have hgb : (T i).ownA g ∨ w0.heap.size ≤ g := by
  rcases hA.hat with h | h
  ·exact .inl (hP g h)
  ·exact .inr (by omega)
 have hgo : ∀ b, ({ T i with av := .slice (some ⟨g, 0, none⟩) ((T i).ans.length + 1) cap, ans := (T i).ans ++ [a], ownA := oA } : R8).own b → (T i).own b ∨ w0.heap.size ≤ b := fun b hb => by
  rcases hb with hb | hb
  ·rcases (hoA b).1 hb with hb | rfl
   ·exact .inl (.inl hb)
   ·exact hgb.imp (fun h => .inl h) id
  ·exact .inl (.inr hb)
 have hlist : ∀ (sl : Value) (l : List Int), LsAt a0 (T i).ownA sl l w → LsAt a0 oA sl l w2 := fun sl l h => (h.far (w' := w2) fun b cur fr hb hc => by
  have hbl := (hl0 b hb).2
  rw [← o0 b (hlw b hb)] at hc
  refine (hfar b w2 hbl (fun g' hg' e => ?_) hA.grown).trans (o0 b (hlw b hb))
  subst e
  rcases hrow.2 with ⟨e, _⟩ | ⟨g2, cap2, cur2, e, _, hh, _⟩
  ·rw [e] at hg'; cases hg'
  ·rw [e] at hg'
   have hg' : g2 = g' := Option.some.inj hg'
   subst hg'
   rw [hc] at hh
   simp at hh).imp fun b hb => (hoA b).2 (.inl hb)
 have I3 : M8 a0 M cg cc tb tc n m ta S (upd T i { T i with av := .slice (some ⟨g, 0, none⟩) ((T i).ans.length + 1) cap, ans := (T i).ans ++ [a], ownA := oA }) (w2.setCell ⟨tb, i * 8 + 1, none⟩ (.slice (some ⟨g, 0, none⟩) ((T i).ans.length + 1) cap)) := by
  refine I0.put' hi rfl (by decide) w2 (fun b hb hn => hfar b w2 hb (fun g hg e => hn (.inl (hP _ (by rw [← e]; exact hg)))) hA.grown) ⟨?_, ?_, fun hlv => ?_, fun hlv b hb hob => ?_, fun b hob => ?_⟩ hgo
  ·exact R0.rO.same fun b hb hw => hfar b w2 hw (fun g hg e => by have := (hrow.lt g hg).1; omega) hA.grown
  ·refine ⟨some ⟨g, 0, none⟩, cap, z ++ [(a, .slice sla a.l.length slc)], by simp [hz], by rw [hlen], ?_, fun b hb => (hoA b).2 (.inr ?_), fun p hp => ?_⟩
   ·show w2.ownsRow a0 _ 3 _ ((T i).ans ++ [a]).length _
    rw [hlen, ansRow_snoc]
    exact hA.own
   ·simp only [Value.ownBlock, Option.some.injEq] at hb
    exact hb.symm
   ·rcases List.mem_append.1 hp with hp | hp
    ·have := hL p hp
     refine hlist p.2 p.1.l (this.far (w' := w) fun b cur fr hb hc => ?_)
     exact (o0 b (hlw b hb)).symm
    ·obtain rfl := List.mem_singleton.1 hp
     exact hlist _ _ hls
  ·exact row_same (R0.rS hlv) fun b hb => hfar b w2 ((R0.rS hlv).lt b hb).2 (fun g hg e => R0.ne hlv b hb (hP b (by rw [← e]; exact hg))) hA.grown
  ·rcases (hoA b).1 hob with h | rfl
   ·exact R0.ne hlv b hb h
   ·rcases hgb with h | h
    ·exact R0.ne hlv b hb h
    ·have := ((R0.rS hlv).lt b hb).2; omega
  ·rcases (hoA b).1 hob with h | rfl
   ·exact ⟨(hl0 b h).1, by have := (hl0 b h).2; omega⟩
   ·have hg1 := hA.hlt
    rcases hgb with h | h
    ·exact ⟨(hl0 b h).1, hg1⟩
    ·exact ⟨by omega, hg1⟩
 have hC3 : Got M cg tb n T (upd T i { T i with av := .slice (some ⟨g, 0, none⟩) ((T i).ans.length + 1) cap, ans := (T i).ans ++ [a], ownA := oA }) w (w2.setCell ⟨tb, i * 8 + 1, none⟩ (.slice (some ⟨g, 0, none⟩) ((T i).ans.length + 1) cap)) := by
  refine ⟨⟨by rw [size_set]; omega, fun x hx hn => ?_⟩, fun b hb => (m8S_upd hi hgo b hb).imp id fun h => by omega⟩
  rw [heap_set_other _ _ _ _ (fun e => hn (.inr (.inr (.inl e)))), hfar x w2 (by omega) (fun g hg e => hn (.inr (.inr (.inr ⟨i, hi, .inl (hP x (by rw [← e]; exact hg))⟩)))) hA.grown, o0 x (by omega)]
 (have hfr := fr0 tb (i * 8 + 1); refine Walk.os hfr h12 ?_; clear hfr; try walk_nrm)
 refine hr' _ _ ?_
 generalize w2.setCell ⟨tb, i * 8 + 1, none⟩ (.slice (some ⟨g, 0, none⟩) ((T i).ans.length + 1) cap) = w3 at *
 generalize hav : Value.slice (some ⟨g, 0, none⟩) ((T i).ans.length + 1) cap = av at *
 clear hA hgo hgb hlist hoA h12 z12 hb2 hfar hown' hnews hnM hnT zT hO1 c1 c2 R0 I0 d0 o0 hl0 hlw hL hP hrow hz
 have c1 : w3.cell? ⟨M, 2, none⟩ = some (.slice (some ⟨tb, 0, none⟩) n tc) := I3.cT (by omega)
 have c3 : w3.cell? ⟨tb, i * 8 + 3, none⟩ = some (.int .i64 (T i).at') := I3.tcell hi (by rw [upd_same]; rfl)
 have z3 := I3.tfrz hi (i * 8 + 3)
 have I4 := I3.put hi (j := 3) (v := .int .i64 (((T i).at' : Int) + 1)) (t := { T i with av := av, ans := (T i).ans ++ [a], at' := (T i).at' + 1, ownA := oA }) (by rw [upd_same]; rfl) (by decide) (by rw [upd_same]; exact ⟨rfl, rfl, rfl, rfl, rfl, rfl, rfl, rfl⟩)
 rw [upd_twice] at I4
 try walk_nrm
 refine Walk.gz z73 ?_
 (refine Walk.drawnL (by kernel_rfl) size73_2 (by kernel_rfl) (by kernel_rfl) (by kernel_rfl) (by decide) ?_; simp only [List.range, List.range.loop]; repeat (first | (refine Cm.oq ?_) | (refine Cm.unw hoA (by rfl) ?_; walk_nrm)))
 refine Cm.done ?_
 intro rest hr
 (have hfr := fr0 tb (i * 8 + 3); refine Walk.os hfr c3 ?_; clear hfr; try walk_nrm)
 refine hr _ _ ?_
 have s4 := size_set w3 ⟨tb, i * 8 + 3, none⟩ (.int .i64 (((T i).at' : Int) + 1))
 have o4 : ∀ x, x ≠ tb → (w3.setCell ⟨tb, i * 8 + 3, none⟩ (.int .i64 (((T i).at' : Int) + 1))).heap[x]? = w3.heap[x]? := fun x hx => heap_set_other _ _ _ _ hx
 generalize w3.setCell ⟨tb, i * 8 + 3, none⟩ (.int .i64 (((T i).at' : Int) + 1)) = w4 at *
 clear c1 c3 z3
 have c1 : w4.cell? ⟨M, 2, none⟩ = some (.slice (some ⟨tb, 0, none⟩) n tc) := I4.cT (by omega)
 have c3 : w4.cell? ⟨tb, i * 8 + 4, none⟩ = some (.int .i64 (T i).pc) := I4.tcell hi (by rw [upd_same]; rfl)
 have z3 := I4.tfrz hi (i * 8 + 4)
 have I5 := I4.put hi (j := 4) (v := .int .i64 0) (t := { T i with av := av, ans := (T i).ans ++ [a], at' := (T i).at' + 1, pc := 0, ownA := oA }) (by rw [upd_same]; rfl) (by decide) (by rw [upd_same]; exact ⟨rfl, rfl, rfl, rfl, rfl, rfl, rfl, rfl⟩)
 rw [upd_twice] at I5
 try walk_nrm
 refine Walk.gz z73 ?_
 (have hfr := fr0 tb (i * 8 + 4); refine Walk.os hfr c3 ?_; clear hfr; try walk_nrm)
 have s5 := size_set w4 ⟨tb, i * 8 + 4, none⟩ (.int .i64 0)
 have o5 : ∀ x, x ≠ tb → (w4.setCell ⟨tb, i * 8 + 4, none⟩ (.int .i64 0)).heap[x]? = w4.heap[x]? := fun x hx => heap_set_other _ _ _ _ hx
 generalize w4.setCell ⟨tb, i * 8 + 4, none⟩ (.int .i64 0) = w5 at *
 clear c1 c3 z3
 try walk_nrm
 refine Walk.gz z73 ?_
 refine Walk.on0 rfl rfl Try.func73 rfl (.stop fun d => ⟨_, ⟨rfl, av, oA, I5.same fun _ _ => rfl, ⟨⟨?_, fun x hx hn => ?_⟩, fun b hb => ?_⟩⟩, rfl⟩)
 ·show w.heap.size ≤ w5.heap.size
  have := hC3.chg.size
  omega
 ·show w5.heap[x]? = w.heap[x]?
  exact (o5 x fun e => hn (.inr (.inr (.inl e)))).trans ((o4 x fun e => hn (.inr (.inr (.inl e)))).trans (hC3.chg.same x hx hn))
 ·refine hC3.own b ?_
  rcases hb with hb | hb | hb | ⟨k, hk, hb⟩
  ·exact .inl hb
  ·exact .inr (.inl hb)
  ·exact .inr (.inr (.inl hb))
  ·refine .inr (.inr (.inr ⟨k, hk, ?_⟩))
   by_cases e : k = i
   ·subst e
    rw [upd_same] at hb ⊢
    exact hb
   ·rw [upd_ne _ _ e] at hb ⊢
    exact hb
end
end
section
theorem R8.Rows.ovS {t : R8} {a0 : Nat} {w : World} (h : t.Rows a0 w) : ∃ oa oc, t.ov = .slice oa t.ops.length oc := by
 obtain ⟨oa, oc, e, _⟩ := h.rO
 exact ⟨oa, oc, e⟩
theorem R8.Rows.op {t : R8} {a0 : Nat} {w : World} (h : t.Rows a0 w) {k : Nat} {o : OpV} (ho : t.ops[k]? = some o) : ∃ g off oc, t.ov = .slice (some ⟨g, off, none⟩) t.ops.length oc ∧ g < a0 ∧ g < w.heap.size ∧ ∀ (j : Nat) (v : Value), ([.int .i64 o.k, .int .i64 o.a, .int .i64 o.b, .int .i64 o.c] : List Value)[j]? = some v → w.cell? ⟨g, off + k * 4 + j, none⟩ = some v := by
 obtain ⟨oa, oc, e, h⟩ := h.rO
 obtain ⟨b, off, rfl, h1, h2, h3⟩ := h k o ho
 exact ⟨b, off, oc, e, h1, h2, h3⟩
def kindOk (o : OpV) : Prop := 1 ≤ o.k ∧ o.k ≤ 5
noncomputable def reg70_0 := rg Try.f70.body [0]
noncomputable def reg70_1 := rg Try.f70.body [1, 0, 0]
noncomputable def reg70_2 := rg Try.f70.body [1, 0, 1, 0, 0]
noncomputable def reg70_3 := rg Try.f70.body [1, 1, 0]
noncomputable def reg70_4 := rg Try.f70.body [1, 1, 1, 0]
noncomputable def reg70_5 := rg Try.f70.body [1, 1, 1, 1, 0]
theorem size70_5 : reg70_5.size = 10 := by kernel_rfl
noncomputable def reg70_6 := rg Try.f70.body [1, 1, 1, 1, 1, 0, 0]
noncomputable def reg70_7 := rg Try.f70.body [1, 1, 1, 1, 1, 0, 1, 0]
noncomputable def reg70_8 := rg Try.f70.body [1, 1, 1, 1, 1, 1, 0]
noncomputable def reg70_9 := rg Try.f70.body [1, 1, 1, 1, 1, 1, 1, 0]
theorem z70 : List.range reg70_0.size = [0] ∧ List.range reg70_1.size = [0, 1, 2, 3, 4, 5, 6, 7] ∧ List.range reg70_2.size = [0, 1, 2, 3] ∧ List.range reg70_3.size = [0, 1, 2, 3, 4, 5, 6, 7] ∧ List.range reg70_4.size = [0, 1, 2, 3, 4, 5, 6, 7] ∧ List.range reg70_5.size = [0, 1, 2, 3, 4, 5, 6, 7, 8, 9] ∧ List.range reg70_6.size = [0, 1, 2] ∧ List.range reg70_7.size = [0, 1, 2, 3, 4, 5, 6, 7] ∧ List.range reg70_8.size = [0, 1, 2] ∧ List.range reg70_9.size = [0, 1, 2, 3, 4, 5, 6, 7] := by refine ⟨?_, ?_, ?_, ?_, ?_, ?_, ?_, ?_, ?_, ?_⟩ <;> kernel_rfl
theorem code70_is : Try.f70.body = some (.seq (.region 0 reg70_0 false) (.seq (.seq (.region 1 reg70_1 false) (.cond (.tmp 13 ) (.seq (.region 2 reg70_2 false) (.ret)) (.skip))) (.seq (.region 3 reg70_3 false) (.seq (.region 4 reg70_4 false) (.seq (.region 5 reg70_5 true) (.seq (.seq (.region 6 reg70_6 false) (.cond (.tmp 43 ) (.region 7 reg70_7 false) (.skip))) (.seq (.region 8 reg70_8 false) (.cond (.tmp 53 ) (.region 9 reg70_9 false) (.skip))))))))) := by kernel_rfl
noncomputable def reg89_0 := rg Try.f89.body [0]
theorem size89_0 : reg89_0.size = 17 := by kernel_rfl
noncomputable def reg89_1 := rg Try.f89.body [1, 0]
noncomputable def reg89_2 := rg Try.f89.body [1, 1, 0]
noncomputable def reg89_3 := rg Try.f89.body [1, 1, 1, 0]
noncomputable def reg89_4 := rg Try.f89.body [1, 1, 1, 1, 0]
theorem z89 : List.range reg89_0.size = [0, 1, 2, 3, 4, 5, 6, 7, 8, 9, 10, 11, 12, 13, 14, 15, 16] ∧ List.range reg89_1.size = [0, 1, 2, 3, 4, 5, 6, 7] ∧ List.range reg89_2.size = [0, 1, 2, 3, 4, 5, 6, 7] ∧ List.range reg89_3.size = [0, 1, 2, 3, 4, 5, 6, 7, 8] ∧ List.range reg89_4.size = [0, 1, 2, 3] := by refine ⟨?_, ?_, ?_, ?_, ?_⟩ <;> kernel_rfl
theorem code89_is : Try.f89.body = some (.seq (.region 0 reg89_0 true) (.seq (.region 1 reg89_1 false) (.seq (.region 2 reg89_2 false) (.seq (.region 3 reg89_3 false) (.cond (.tmp 42 ) (.region 4 reg89_4 false) (.skip)))))) := by kernel_rfl
section
variable {a0 M cg cc tb tc n m : Nat} {ta : Option Addr} {S : Sq} {T : Nat → R8}
def R8.told (t : R8) (a : Ans) (av : Value) (oA : Nat → Prop) : R8 := { t with av := av, ans := t.ans ++ [a], at' := t.at' + 1, pc := 0, ownA := oA }
def R8.first (t : R8) (tr : Int) : R8 := { t with pc := 1, sv := .slice none 0 0, seen := [], live := True, tr := tr }
theorem begin_no {main : Bool} {i : Nat} (hi : i < n) (o : OpV) (hk : ¬ kindOk o) (w : World) (I : M8 a0 M cg cc tb tc n m ta S T w) (hn : n ≤ 64) (ha0 : a0 ≤ w.heap.size) (hl : (T i).ans.length ≤ 65536) (hat : (T i).at' ≤ 65536) :
  CallW Try.prog main (fun _ => none) 70 #[.pointer (some ⟨M, 0, none⟩), .int .i64 i, .agg #[.int .i64 o.k, .int .i64 o.a, .int .i64 o.b, .int .i64 o.c]] w (fun v w' => v = .tuple #[] ∧ ∃ av oA, M8 a0 M cg cc tb tc n m ta S (upd T i ((T i).told aNo av oA)) w' ∧ Got M cg tb n T (upd T i ((T i).told aNo av oA)) w w') := by
 intro c cs
 obtain ⟨k, oa, ob, oc⟩ := o
 unfold kindOk at hk
 dsimp only at hk ⊢
 rw [enter_at _ Try.func70 code70_is]
 simp only [Try.ntmps70, ez, Nat.reduceAdd, Nat.reduceSub]
 refine Walk.gz z70 ?_
 (refine Walk.oa ?_; try walk_nrm)
 have s0 : (w.alloc (.cells #[.int .i64 k, .int .i64 oa, .int .i64 ob, .int .i64 oc] 47)).heap.size = w.heap.size + 1 := by simp
 have o0 : ∀ x, x < w.heap.size → (w.alloc (.cells #[.int .i64 k, .int .i64 oa, .int .i64 ob, .int .i64 oc] 47)).heap[x]? = w.heap[x]? := fun x hx => heap_new_lt _ _ hx
 have d0 := (cell_of (heap_alloc_new w (.cells #[.int .i64 k, .int .i64 oa, .int .i64 ob, .int .i64 oc] 47)) 0).trans rfl
 have I0 := I.same o0
 generalize hT : w.heap.size = Zs at *
 generalize hw0 : w.alloc (.cells #[.int .i64 k, .int .i64 oa, .int .i64 ob, .int .i64 oc] 47) = w0 at *
 have he := end_w (main := main) hi aNo (.slice none 0 0) w0 (LsAt.nil _ _ _) I0 hn (by omega) hl hat
 simp only [ansV, aNo] at he
 have haN : aNo = ⟨false, 0, []⟩ := rfl
 have hG : ∀ {T' : Nat → R8} {w' : World}, Got M cg tb n T T' w0 w' → Got M cg tb n T T' w w' := fun {T' w'} h => ⟨⟨by have := h.chg.size; omega, fun b hb hn => (h.chg.same b (by omega) hn).trans (o0 b (by omega))⟩, fun b hb => (h.own b hb).imp id fun h => by omega⟩
 by_cases h1 : k < 1
 ·have hb0 : decide (k < 1) = true := by simp; omega
  refine Walk.gz z70 ?_
  refine Walk.callW (Post := fun v w' => v = .tuple #[] ∧ ∃ av oA, M8 a0 M cg cc tb tc n m ta S (upd T i ((T i).told aNo av oA)) w' ∧ Got M cg tb n T (upd T i ((T i).told aNo av oA)) w0 w') ?_ hoA (by rfl) (by decide) rfl Try.func73 (by kernel_rfl) (by rfl) ?_
  ·walk_nrm
   exact he
  rintro v w1 ⟨rfl, av, oA, I1, g1⟩
  walk_nrm
  refine Walk.gz z70 ?_
  exact Walk.on0 rfl rfl Try.func70 rfl (.stop fun d => ⟨_, ⟨rfl, av, oA, I1.same fun _ _ => rfl, ⟨(hG g1).chg.at d, (hG g1).own⟩⟩, rfl⟩)
 ·have hb0 : decide (k < 1) = false := by simp; omega
  have hb5 : decide (5 < k) = true := by simp; omega
  refine Walk.gz z70 ?_
  refine Walk.callW (Post := fun v w' => v = .tuple #[] ∧ ∃ av oA, M8 a0 M cg cc tb tc n m ta S (upd T i ((T i).told aNo av oA)) w' ∧ Got M cg tb n T (upd T i ((T i).told aNo av oA)) w0 w') ?_ hoA (by rfl) (by decide) rfl Try.func73 (by kernel_rfl) (by rfl) ?_
  ·walk_nrm
   exact he
  rintro v w1 ⟨rfl, av, oA, I1, g1⟩
  walk_nrm
  refine Walk.gz z70 ?_
  exact Walk.on0 rfl rfl Try.func70 rfl (.stop fun d => ⟨_, ⟨rfl, av, oA, I1.same fun _ _ => rfl, ⟨(hG g1).chg.at d, (hG g1).own⟩⟩, rfl⟩)
theorem begin_yes {main : Bool} {i : Nat} (hi : i < n) (o : OpV) (hk : kindOk o) (w : World) (I : M8 a0 M cg cc tb tc n m ta S T w) (hn : n ≤ 64) (ha0 : a0 ≤ w.heap.size) :
  CallW Try.prog main (fun _ => none) 70 #[.pointer (some ⟨M, 0, none⟩), .int .i64 i, .agg #[.int .i64 o.k, .int .i64 o.a, .int .i64 o.b, .int .i64 o.c]] w (fun v w' => v = .tuple #[] ∧ M8 a0 M cg cc tb tc n m ta S (upd T i ((T i).first (sqTr o.a : Nat))) w' ∧ Got M cg tb n T (upd T i ((T i).first (sqTr o.a : Nat))) w w') := by
 intro c cs
 obtain ⟨k, oa, ob, oc⟩ := o
 unfold kindOk at hk
 dsimp only at hk ⊢
 have hb0 : decide (k < 1) = false := by simp; omega
 have hb5 : decide (5 < k) = false := by simp; omega
 have hi0 : (0 : Int) ≤ i := by omega
 have hi1 : decide ((i : Int) < n) = true := by simp; omega
 have hi3 : decide (i < n) = true := by simp; omega
 have hi4 : (i : Int) < n := by omega
 have ll3 := I.lt.2.2 (by omega)
 rw [enter_at _ Try.func70 code70_is]
 simp only [Try.ntmps70, ez, Nat.reduceAdd, Nat.reduceSub]
 refine Walk.gz z70 ?_
 (refine Walk.oa ?_; try walk_nrm)
 have s0 : (w.alloc (.cells #[.int .i64 k, .int .i64 oa, .int .i64 ob, .int .i64 oc] 47)).heap.size = w.heap.size + 1 := by simp
 have o0 : ∀ x, x < w.heap.size → (w.alloc (.cells #[.int .i64 k, .int .i64 oa, .int .i64 ob, .int .i64 oc] 47)).heap[x]? = w.heap[x]? := fun x hx => heap_new_lt _ _ hx
 have d0 := heap_alloc_new w (.cells #[.int .i64 k, .int .i64 oa, .int .i64 ob, .int .i64 oc] 47)
 have I0 := I.same o0
 generalize hT : w.heap.size = Zs at *
 generalize hw0 : w.alloc (.cells #[.int .i64 k, .int .i64 oa, .int .i64 ob, .int .i64 oc] 47) = w0 at *
 have e0 := (cell_of d0 0).trans rfl
 have c1 : w0.cell? ⟨M, 2, none⟩ = some (.slice (some ⟨tb, 0, none⟩) n tc) := I0.cT (by omega)
 have c3 : w0.cell? ⟨tb, i * 8 + 4, none⟩ = some (.int .i64 (T i).pc) := I0.tcell hi (rfl)
 have z3 := I0.tfrz hi (i * 8 + 4)
 have I1 := I0.put hi (j := 4) (v := .int .i64 1) (t := { T i with pc := 1 }) rfl (by decide) ⟨rfl, rfl, rfl, rfl, rfl, rfl, rfl, rfl⟩
 refine Walk.gz z70 ?_
 (have hfr := fr0 tb (i * 8 + 4); refine Walk.os hfr c3 ?_; clear hfr; try walk_nrm)
 have s1 := size_set w0 ⟨tb, i * 8 + 4, none⟩ (.int .i64 1)
 have o1 : ∀ x, x ≠ tb → (w0.setCell ⟨tb, i * 8 + 4, none⟩ (.int .i64 1)).heap[x]? = w0.heap[x]? := fun x hx => heap_set_other _ _ _ _ hx
 have d1 := (o1 Zs (by omega)).trans d0
 generalize w0.setCell ⟨tb, i * 8 + 4, none⟩ (.int .i64 1) = w1 at *
 clear c1 c3 z3
 clear e0
 have c1 : w1.cell? ⟨M, 2, none⟩ = some (.slice (some ⟨tb, 0, none⟩) n tc) := I1.cT (by omega)
 have c3 : w1.cell? ⟨tb, i * 8 + 7, none⟩ = some ((T i).sv) := I1.tcell hi (by rw [upd_same]; rfl)
 have z3 := I1.tfrz hi (i * 8 + 7)
 have R1 := I1.rows i hi
 have I2 := I1.put' hi (j := 7) (v := .slice none 0 0) (t := { T i with pc := 1, sv := .slice none 0 0, seen := [], live := True }) (by rw [upd_same]; rfl) (by decide) w1 (fun _ _ _ => rfl) (by
  rw [upd_same] at R1
  exact ⟨R1.rO, R1.rA, fun _ => ⟨rfl, .inl ⟨rfl, rfl⟩⟩, fun _ b hb => (by cases hb), R1.lo⟩) (fun b hb => .inl (by
  rw [upd_same]
  rcases hb with hb | ⟨_, hb⟩
  ·exact .inl hb
  ·cases hb))
 rw [upd_twice] at I2
 try walk_nrm
 refine Walk.gz z70 ?_
 (have hfr := fr0 tb (i * 8 + 7); refine Walk.os hfr c3 ?_; clear hfr; try walk_nrm)
 have s2 := size_set w1 ⟨tb, i * 8 + 7, none⟩ (.slice none 0 0)
 have o2 : ∀ x, x ≠ tb → (w1.setCell ⟨tb, i * 8 + 7, none⟩ (.slice none 0 0)).heap[x]? = w1.heap[x]? := fun x hx => heap_set_other _ _ _ _ hx
 have d2 := (o2 Zs (by omega)).trans d1
 generalize w1.setCell ⟨tb, i * 8 + 7, none⟩ (.slice none 0 0) = w2 at *
 clear c1 c3 z3
 have e2 := (cell_of d2 1).trans rfl
 have c1 : w2.cell? ⟨M, 2, none⟩ = some (.slice (some ⟨tb, 0, none⟩) n tc) := I2.cT (by omega)
 have c3 : w2.cell? ⟨tb, i * 8 + 5, none⟩ = some (.int .i64 (T i).tr) := I2.tcell hi (by rw [upd_same]; rfl)
 have z3 := I2.tfrz hi (i * 8 + 5)
 have I3 := I2.put hi (j := 5) (v := .int .i64 oa) (t := (T i).first oa) (by rw [upd_same]; rfl) (by decide) (by rw [upd_same]; exact ⟨rfl, rfl, rfl, rfl, rfl, rfl, rfl, rfl⟩)
 rw [upd_twice] at I3
 try walk_nrm
 refine Walk.gz z70 ?_
 (refine Walk.drawnL (by kernel_rfl) size70_5 (by kernel_rfl) (by kernel_rfl) (by kernel_rfl) (by decide) ?_; simp only [List.range, List.range.loop]; repeat (first | (refine Cm.oq ?_) | (refine Cm.unw hoA (by rfl) ?_; walk_nrm)))
 refine Cm.done ?_
 intro rest hr
 (have hfr := fr0 tb (i * 8 + 5); refine Walk.os hfr c3 ?_; clear hfr; try walk_nrm)
 refine hr _ _ ?_
 have s3 := size_set w2 ⟨tb, i * 8 + 5, none⟩ (.int .i64 oa)
 have o3 : ∀ x, x ≠ tb → (w2.setCell ⟨tb, i * 8 + 5, none⟩ (.int .i64 oa)).heap[x]? = w2.heap[x]? := fun x hx => heap_set_other _ _ _ _ hx
 have d3 := (o3 Zs (by omega)).trans d2
 generalize w2.setCell ⟨tb, i * 8 + 5, none⟩ (.int .i64 oa) = w3 at *
 clear c1 c3 z3
 clear e2
 have e3 := (cell_of d3 1).trans rfl
 by_cases h1 : oa < 1
 ·have g1 : decide (oa < 1) = true := by simp; omega
  have g2 : decide (1024 < oa) = false := by simp; omega
  have hq : ((sqTr oa : Nat) : Int) = 1 := by unfold sqTr; omega
  rw [hq]
  have c1 : w3.cell? ⟨M, 2, none⟩ = some (.slice (some ⟨tb, 0, none⟩) n tc) := I3.cT (by omega)
  have c3 : w3.cell? ⟨tb, i * 8 + 5, none⟩ = some (.int .i64 oa) := I3.tcell hi (by rw [upd_same]; rfl)
  have z3 := I3.tfrz hi (i * 8 + 5)
  have I4 := I3.put hi (j := 5) (v := .int .i64 1) (t := (T i).first 1) (by rw [upd_same]; rfl) (by decide) (by rw [upd_same]; exact ⟨rfl, rfl, rfl, rfl, rfl, rfl, rfl, rfl⟩)
  rw [upd_twice] at I4
  try walk_nrm
  refine Walk.gz z70 ?_
  (have hfr := fr0 tb (i * 8 + 5); refine Walk.os hfr c3 ?_; clear hfr; try walk_nrm)
  have s4 := size_set w3 ⟨tb, i * 8 + 5, none⟩ (.int .i64 1)
  have o4 : ∀ x, x ≠ tb → (w3.setCell ⟨tb, i * 8 + 5, none⟩ (.int .i64 1)).heap[x]? = w3.heap[x]? := fun x hx => heap_set_other _ _ _ _ hx
  have d4 := (o4 Zs (by omega)).trans d3
  generalize w3.setCell ⟨tb, i * 8 + 5, none⟩ (.int .i64 1) = w4 at *
  clear c1 c3 z3
  clear e3
  have e4 := (cell_of d4 1).trans rfl
  try walk_nrm
  refine Walk.gz z70 ?_
  refine Walk.on0 rfl rfl Try.func70 rfl (.stop fun d => ⟨_, ⟨rfl, I4.same fun _ _ => rfl, ⟨⟨?_, fun x hx hn => ?_⟩, fun b hb => m8S_upd hi (fun b hb => .inl ?_) b hb⟩⟩, rfl⟩)
  ·show w.heap.size ≤ w4.heap.size
   omega
  ·show w4.heap[x]? = w.heap[x]?
   have hx' : x ≠ tb := fun e => hn (.inr (.inr (.inl e)))
   exact (o4 x hx').trans ((o3 x hx').trans ((o2 x hx').trans ((o1 x hx').trans (o0 x (by omega)))))
  ·rcases hb with hb | ⟨_, hb⟩
   ·exact .inl hb
   ·cases hb
 by_cases h2 : 1024 < oa
 ·have g1 : decide (oa < 1) = false := by simp; omega
  have g2 : decide (1024 < oa) = true := by simp; omega
  have hq : ((sqTr oa : Nat) : Int) = 1024 := by unfold sqTr; omega
  rw [hq]
  have c1 : w3.cell? ⟨M, 2, none⟩ = some (.slice (some ⟨tb, 0, none⟩) n tc) := I3.cT (by omega)
  have c3 : w3.cell? ⟨tb, i * 8 + 5, none⟩ = some (.int .i64 oa) := I3.tcell hi (by rw [upd_same]; rfl)
  have z3 := I3.tfrz hi (i * 8 + 5)
  have I4 := I3.put hi (j := 5) (v := .int .i64 1024) (t := (T i).first 1024) (by rw [upd_same]; rfl) (by decide) (by rw [upd_same]; exact ⟨rfl, rfl, rfl, rfl, rfl, rfl, rfl, rfl⟩)
  rw [upd_twice] at I4
  try walk_nrm
  refine Walk.gz z70 ?_
  (have hfr := fr0 tb (i * 8 + 5); refine Walk.os hfr c3 ?_; clear hfr; try walk_nrm)
  have s4 := size_set w3 ⟨tb, i * 8 + 5, none⟩ (.int .i64 1024)
  have o4 : ∀ x, x ≠ tb → (w3.setCell ⟨tb, i * 8 + 5, none⟩ (.int .i64 1024)).heap[x]? = w3.heap[x]? := fun x hx => heap_set_other _ _ _ _ hx
  have d4 := (o4 Zs (by omega)).trans d3
  generalize w3.setCell ⟨tb, i * 8 + 5, none⟩ (.int .i64 1024) = w4 at *
  clear c1 c3 z3
  try walk_nrm
  refine Walk.gz z70 ?_
  refine Walk.on0 rfl rfl Try.func70 rfl (.stop fun d => ⟨_, ⟨rfl, I4.same fun _ _ => rfl, ⟨⟨?_, fun x hx hn => ?_⟩, fun b hb => m8S_upd hi (fun b hb => .inl ?_) b hb⟩⟩, rfl⟩)
  ·show w.heap.size ≤ w4.heap.size
   omega
  ·show w4.heap[x]? = w.heap[x]?
   have hx' : x ≠ tb := fun e => hn (.inr (.inr (.inl e)))
   exact (o4 x hx').trans ((o3 x hx').trans ((o2 x hx').trans ((o1 x hx').trans (o0 x (by omega)))))
  ·rcases hb with hb | ⟨_, hb⟩
   ·exact .inl hb
   ·cases hb
 have g1 : decide (oa < 1) = false := by simp; omega
 have g2 : decide (1024 < oa) = false := by simp; omega
 have hq : ((sqTr oa : Nat) : Int) = oa := by unfold sqTr; omega
 rw [hq]
 try walk_nrm
 refine Walk.gz z70 ?_
 refine Walk.on0 rfl rfl Try.func70 rfl (.stop fun d => ⟨_, ⟨rfl, I3.same fun _ _ => rfl, ⟨⟨?_, fun x hx hn => ?_⟩, fun b hb => m8S_upd hi (fun b hb => .inl ?_) b hb⟩⟩, rfl⟩)
 ·show w.heap.size ≤ w3.heap.size
  omega
 ·show w3.heap[x]? = w.heap[x]?
  have hx' : x ≠ tb := fun e => hn (.inr (.inr (.inl e)))
  exact (o3 x hx').trans ((o2 x hx').trans ((o1 x hx').trans (o0 x (by omega))))
 ·rcases hb with hb | ⟨_, hb⟩
  ·exact .inl hb
  ·cases hb
theorem failed_go {main : Bool} {i : Nat} (hi : i < n) (t : Nat) (ht : 0 < t) (ht2 : t ≤ 1024) (htr : (T i).tr = (t : Int) + 1) (w : World) (I0 : M8 a0 M cg cc tb tc n m ta S T w) (hn : n ≤ 64) (ha0 : a0 ≤ w.heap.size) :
  CallW Try.prog main (fun _ => none) 89 #[.pointer (some ⟨M, 0, none⟩), .int .i64 i] w (fun v w' => v = .tuple #[] ∧ M8 a0 M cg cc tb tc n m ta S (upd T i ((T i).first t)) w' ∧ Got M cg tb n T (upd T i ((T i).first t)) w w') := by
 intro c cs
 have hi0 : (0 : Int) ≤ i := by omega
 have hi1 : decide ((i : Int) < n) = true := by simp; omega
 have hi3 : decide (i < n) = true := by simp; omega
 have hi4 : (i : Int) < n := by omega
 have ll3 := I0.lt.2.2 (by omega)
 have hw : IntKind.wrap .i64 ((T i).tr - 1) = (t : Int) := by rw [IntKind.wrap_i64, htr]; omega
 have htz : ((t : Int) == 0) = false := by simp; omega
 have htz2 : ¬ t = 0 := by omega
 clear htr
 generalize hw0 : w = w0 at *
 rw [enter_at _ Try.func89 code89_is]
 simp only [Try.ntmps89, ez, Nat.reduceAdd, Nat.reduceSub]
 have c1 : w0.cell? ⟨M, 2, none⟩ = some (.slice (some ⟨tb, 0, none⟩) n tc) := I0.cT (by omega)
 have c3 : w0.cell? ⟨tb, i * 8 + 5, none⟩ = some (.int .i64 (T i).tr) := I0.tcell hi (rfl)
 have z3 := I0.tfrz hi (i * 8 + 5)
 have I1 := I0.put hi (j := 5) (v := .int .i64 t) (t := { T i with tr := (t : Int) }) rfl (by decide) ⟨rfl, rfl, rfl, rfl, rfl, rfl, rfl, rfl⟩
 refine Walk.gz z89 ?_
 (refine Walk.drawnL (by kernel_rfl) size89_0 (by kernel_rfl) (by kernel_rfl) (by kernel_rfl) (by decide) ?_; simp only [List.range, List.range.loop]; repeat (first | (refine Cm.oq ?_) | (refine Cm.unw hoA (by rfl) ?_; walk_nrm)))
 refine Cm.done ?_
 intro rest hr
 (have hfr := fr0 tb (i * 8 + 5); refine Walk.os hfr c3 ?_; clear hfr; try walk_nrm)
 refine hr _ _ ?_
 have s1 := size_set w0 ⟨tb, i * 8 + 5, none⟩ (.int .i64 t)
 have o1 : ∀ x, x ≠ tb → (w0.setCell ⟨tb, i * 8 + 5, none⟩ (.int .i64 t)).heap[x]? = w0.heap[x]? := fun x hx => heap_set_other _ _ _ _ hx
 generalize w0.setCell ⟨tb, i * 8 + 5, none⟩ (.int .i64 t) = w1 at *
 clear c1 c3 z3
 have c1 : w1.cell? ⟨M, 2, none⟩ = some (.slice (some ⟨tb, 0, none⟩) n tc) := I1.cT (by omega)
 have c3 : w1.cell? ⟨tb, i * 8 + 4, none⟩ = some (.int .i64 (T i).pc) := I1.tcell hi (by rw [upd_same]; rfl)
 have z3 := I1.tfrz hi (i * 8 + 4)
 have I2 := I1.put hi (j := 4) (v := .int .i64 1) (t := { T i with tr := (t : Int), pc := 1 }) (by rw [upd_same]; rfl) (by decide) (by rw [upd_same]; exact ⟨rfl, rfl, rfl, rfl, rfl, rfl, rfl, rfl⟩)
 rw [upd_twice] at I2
 try walk_nrm
 refine Walk.gz z89 ?_
 (have hfr := fr0 tb (i * 8 + 4); refine Walk.os hfr c3 ?_; clear hfr; try walk_nrm)
 have s2 := size_set w1 ⟨tb, i * 8 + 4, none⟩ (.int .i64 1)
 have o2 : ∀ x, x ≠ tb → (w1.setCell ⟨tb, i * 8 + 4, none⟩ (.int .i64 1)).heap[x]? = w1.heap[x]? := fun x hx => heap_set_other _ _ _ _ hx
 generalize w1.setCell ⟨tb, i * 8 + 4, none⟩ (.int .i64 1) = w2 at *
 clear c1 c3 z3
 have c1 : w2.cell? ⟨M, 2, none⟩ = some (.slice (some ⟨tb, 0, none⟩) n tc) := I2.cT (by omega)
 have c3 : w2.cell? ⟨tb, i * 8 + 7, none⟩ = some ((T i).sv) := I2.tcell hi (by rw [upd_same]; rfl)
 have z3 := I2.tfrz hi (i * 8 + 7)
 have R2 := I2.rows i hi
 have I3 := I2.put' hi (j := 7) (v := .slice none 0 0) (t := (T i).first t) (by rw [upd_same]; rfl) (by decide) w2 (fun _ _ _ => rfl) (by
  rw [upd_same] at R2
  exact ⟨R2.rO, R2.rA, fun _ => ⟨rfl, .inl ⟨rfl, rfl⟩⟩, fun _ b hb => (by cases hb), R2.lo⟩) (fun b hb => .inl (by
  rw [upd_same]
  rcases hb with hb | ⟨_, hb⟩
  ·exact .inl hb
  ·cases hb))
 rw [upd_twice] at I3
 try walk_nrm
 refine Walk.gz z89 ?_
 (have hfr := fr0 tb (i * 8 + 7); refine Walk.os hfr c3 ?_; clear hfr; try walk_nrm)
 have s3 := size_set w2 ⟨tb, i * 8 + 7, none⟩ (.slice none 0 0)
 have o3 : ∀ x, x ≠ tb → (w2.setCell ⟨tb, i * 8 + 7, none⟩ (.slice none 0 0)).heap[x]? = w2.heap[x]? := fun x hx => heap_set_other _ _ _ _ hx
 generalize w2.setCell ⟨tb, i * 8 + 7, none⟩ (.slice none 0 0) = w3 at *
 clear c1 c3 z3
 have c1 : w3.cell? ⟨M, 2, none⟩ = some (.slice (some ⟨tb, 0, none⟩) n tc) := I3.cT (by omega)
 have c3 : w3.cell? ⟨tb, i * 8 + 5, none⟩ = some (.int .i64 (t : Int)) := I3.tcell hi (by rw [upd_same]; rfl)
 try walk_nrm
 refine Walk.gz z89 ?_
 refine Walk.on0 rfl rfl Try.func89 rfl (.stop fun d => ⟨_, ⟨rfl, I3.same fun _ _ => rfl, ⟨⟨?_, fun x hx hn => ?_⟩, fun b hb => m8S_upd hi (fun b hb => .inl ?_) b hb⟩⟩, rfl⟩)
 ·show w0.heap.size ≤ w3.heap.size
  omega
 ·show w3.heap[x]? = w0.heap[x]?
  have hx' : x ≠ tb := fun e => hn (.inr (.inr (.inl e)))
  exact (o3 x hx').trans ((o2 x hx').trans ((o1 x hx').trans rfl))
 ·rcases hb with hb | ⟨_, hb⟩
  ·exact .inl hb
  ·cases hb
theorem failed_end {main : Bool} {i : Nat} (hi : i < n) (htr : (T i).tr = 1) (hl : (T i).ans.length ≤ 65536) (hat : (T i).at' ≤ 65536) (w : World) (I0 : M8 a0 M cg cc tb tc n m ta S T w) (hn : n ≤ 64) (ha0 : a0 ≤ w.heap.size) :
  CallW Try.prog main (fun _ => none) 89 #[.pointer (some ⟨M, 0, none⟩), .int .i64 i] w (fun v w' => v = .tuple #[] ∧ ∃ av oA, M8 a0 M cg cc tb tc n m ta S (upd T i (((T i).first 0).told aNo av oA)) w' ∧ Got M cg tb n T (upd T i (((T i).first 0).told aNo av oA)) w w') := by
 intro c cs
 have hi0 : (0 : Int) ≤ i := by omega
 have hi1 : decide ((i : Int) < n) = true := by simp; omega
 have hi3 : decide (i < n) = true := by simp; omega
 have hi4 : (i : Int) < n := by omega
 have ll3 := I0.lt.2.2 (by omega)
 have hw : IntKind.wrap .i64 ((T i).tr - 1) = 0 := by rw [IntKind.wrap_i64, htr]; omega
 clear htr
 generalize hw0 : w = w0 at *
 rw [enter_at _ Try.func89 code89_is]
 simp only [Try.ntmps89, ez, Nat.reduceAdd, Nat.reduceSub]
 have c1 : w0.cell? ⟨M, 2, none⟩ = some (.slice (some ⟨tb, 0, none⟩) n tc) := I0.cT (by omega)
 have c3 : w0.cell? ⟨tb, i * 8 + 5, none⟩ = some (.int .i64 (T i).tr) := I0.tcell hi (rfl)
 have z3 := I0.tfrz hi (i * 8 + 5)
 have I1 := I0.put hi (j := 5) (v := .int .i64 0) (t := { T i with tr := 0 }) rfl (by decide) ⟨rfl, rfl, rfl, rfl, rfl, rfl, rfl, rfl⟩
 refine Walk.gz z89 ?_
 (refine Walk.drawnL (by kernel_rfl) size89_0 (by kernel_rfl) (by kernel_rfl) (by kernel_rfl) (by decide) ?_; simp only [List.range, List.range.loop]; repeat (first | (refine Cm.oq ?_) | (refine Cm.unw hoA (by rfl) ?_; walk_nrm)))
 refine Cm.done ?_
 intro rest hr
 (have hfr := fr0 tb (i * 8 + 5); refine Walk.os hfr c3 ?_; clear hfr; try walk_nrm)
 refine hr _ _ ?_
 have s1 := size_set w0 ⟨tb, i * 8 + 5, none⟩ (.int .i64 0)
 have o1 : ∀ x, x ≠ tb → (w0.setCell ⟨tb, i * 8 + 5, none⟩ (.int .i64 0)).heap[x]? = w0.heap[x]? := fun x hx => heap_set_other _ _ _ _ hx
 generalize w0.setCell ⟨tb, i * 8 + 5, none⟩ (.int .i64 0) = w1 at *
 clear c1 c3 z3
 have c1 : w1.cell? ⟨M, 2, none⟩ = some (.slice (some ⟨tb, 0, none⟩) n tc) := I1.cT (by omega)
 have c3 : w1.cell? ⟨tb, i * 8 + 4, none⟩ = some (.int .i64 (T i).pc) := I1.tcell hi (by rw [upd_same]; rfl)
 have z3 := I1.tfrz hi (i * 8 + 4)
 have I2 := I1.put hi (j := 4) (v := .int .i64 1) (t := { T i with tr := 0, pc := 1 }) (by rw [upd_same]; rfl) (by decide) (by rw [upd_same]; exact ⟨rfl, rfl, rfl, rfl, rfl, rfl, rfl, rfl⟩)
 rw [upd_twice] at I2
 try walk_nrm
 refine Walk.gz z89 ?_
 (have hfr := fr0 tb (i * 8 + 4); refine Walk.os hfr c3 ?_; clear hfr; try walk_nrm)
 have s2 := size_set w1 ⟨tb, i * 8 + 4, none⟩ (.int .i64 1)
 have o2 : ∀ x, x ≠ tb → (w1.setCell ⟨tb, i * 8 + 4, none⟩ (.int .i64 1)).heap[x]? = w1.heap[x]? := fun x hx => heap_set_other _ _ _ _ hx
 generalize w1.setCell ⟨tb, i * 8 + 4, none⟩ (.int .i64 1) = w2 at *
 clear c1 c3 z3
 have c1 : w2.cell? ⟨M, 2, none⟩ = some (.slice (some ⟨tb, 0, none⟩) n tc) := I2.cT (by omega)
 have c3 : w2.cell? ⟨tb, i * 8 + 7, none⟩ = some ((T i).sv) := I2.tcell hi (by rw [upd_same]; rfl)
 have z3 := I2.tfrz hi (i * 8 + 7)
 have R2 := I2.rows i hi
 have I3 := I2.put' hi (j := 7) (v := .slice none 0 0) (t := (T i).first 0) (by rw [upd_same]; rfl) (by decide) w2 (fun _ _ _ => rfl) (by
  rw [upd_same] at R2
  exact ⟨R2.rO, R2.rA, fun _ => ⟨rfl, .inl ⟨rfl, rfl⟩⟩, fun _ b hb => (by cases hb), R2.lo⟩) (fun b hb => .inl (by
  rw [upd_same]
  rcases hb with hb | ⟨_, hb⟩
  ·exact .inl hb
  ·cases hb))
 rw [upd_twice] at I3
 try walk_nrm
 refine Walk.gz z89 ?_
 (have hfr := fr0 tb (i * 8 + 7); refine Walk.os hfr c3 ?_; clear hfr; try walk_nrm)
 have s3 := size_set w2 ⟨tb, i * 8 + 7, none⟩ (.slice none 0 0)
 have o3 : ∀ x, x ≠ tb → (w2.setCell ⟨tb, i * 8 + 7, none⟩ (.slice none 0 0)).heap[x]? = w2.heap[x]? := fun x hx => heap_set_other _ _ _ _ hx
 generalize w2.setCell ⟨tb, i * 8 + 7, none⟩ (.slice none 0 0) = w3 at *
 clear c1 c3 z3
 have c1 : w3.cell? ⟨M, 2, none⟩ = some (.slice (some ⟨tb, 0, none⟩) n tc) := I3.cT (by omega)
 have c3 : w3.cell? ⟨tb, i * 8 + 5, none⟩ = some (.int .i64 0) := I3.tcell hi (by rw [upd_same]; rfl)
 have hs3 : w0.heap.size ≤ w3.heap.size := by omega
 have g3 : Got M cg tb n T (upd T i ((T i).first 0)) w0 w3 := ⟨⟨hs3, fun x hx hn => by
  have hx' : x ≠ tb := fun e => hn (.inr (.inr (.inl e)))
  exact (o3 x hx').trans ((o2 x hx').trans (o1 x hx'))⟩, fun b hb => m8S_upd hi (fun b hb => .inl (by
  rcases hb with hb | ⟨_, hb⟩
  ·exact .inl hb
  ·cases hb)) b hb⟩
 have he := end_w (main := main) hi aNo (.slice none 0 0) w3 (LsAt.nil _ _ _) I3 hn (by omega) (by rw [upd_same]; exact hl) (by rw [upd_same]; exact hat)
 simp only [upd_same, upd_twice] at he
 simp only [ansV, aNo] at he
 have haN : aNo = ⟨false, 0, []⟩ := rfl
 try walk_nrm
 refine Walk.gz z89 ?_
 refine Walk.callW (Post := fun v w' => v = .tuple #[] ∧ ∃ av oA, M8 a0 M cg cc tb tc n m ta S (upd T i (((T i).first 0).told aNo av oA)) w' ∧ Got M cg tb n (upd T i ((T i).first 0)) (upd T i (((T i).first 0).told aNo av oA)) w3 w') ?_ hoA (by rfl) (by decide) rfl Try.func73 (by kernel_rfl) (by rfl) ?_
 ·walk_nrm
  exact he
 rintro v w4 ⟨rfl, av, oA, I4, g4⟩
 walk_nrm
 refine Walk.gz z89 ?_
 exact Walk.on0 rfl rfl Try.func89 rfl (.stop fun d => ⟨_, ⟨rfl, av, oA, I4.same fun _ _ => rfl, ⟨(g3.trans g4).chg.at d, (g3.trans g4).own⟩⟩, rfl⟩)
end
end
end Go.Proofs.Ytjenoiekfkhafaa
