/- Part 22. -/
import Derived.Test.YtcdcnmphjhfbpaaJ20
set_option linter.unusedSimpArgs false
set_option linter.unusedVariables false
set_option linter.unusedVariables false
set_option maxHeartbeats 8000000
set_option maxRecDepth 100000
namespace Go.Proofs.Ytcdcnmphjhfbpaa
open Go.Conc Go.RowKit Go.Relay
open Go.ConcN (upd upd_ne upd_same)
section
section
variable {a0 M tb tc n m : Nat} {cb : CB} {ta : Option Addr} {S : Rg} {T : Nat -> R11}
theorem gd_none {main : Bool} {i : Nat} (hi : i < n) (k oa ob oc : Int) (v : Int) (e : Int) (he0 : e ≠ 0) (hlv : (T i).live) (hs : (T i).seen = []) (hl : (T i).ans.length <= 65536) (hat : (T i).at' <= 65536) (w : World) (I : M11 a0 M cb tb tc n m ta S T w) (hn : n <= 64) (ha0 : a0 <= w.heap.size) :
  CallW Try.prog main (fun _ => none) 151 #[.pointer (some ⟨M, 0, none⟩), .int .i64 i, .agg #[.int .i64 k, .int .i64 oa, .int .i64 ob, .int .i64 oc], .int .i64 v, .int .i64 e] w (fun v w' => v = .tuple #[] /\ ∃ av oA, M11 a0 M cb tb tc n m ta S (upd T i ((T i).told ⟨false, e, []⟩ av oA)) w' /\ Got M cb m tb n T (upd T i ((T i).told ⟨false, e, []⟩ av oA)) w w') := by
 intro kf cs
 have hi0 : (0 : Int) <= i := by omega
 have hi1 : decide ((i : Int) < n) = true := by simp; omega
 have hi3 : decide (i < n) = true := by simp; omega
 have hi4 : (i : Int) < n := by omega
 have ll3 := I.lt.2.2 (by omega)
 rw [enter_at _ Try.func151 code151_is]
 simp only [Try.ntmps151, ez, Nat.reduceAdd, Nat.reduceSub]
 refine Aa z151 ?_
 (refine Walk.oa ?_; try walk_nrm)
 have s0 : (w.alloc (.cells #[.int .i64 k, .int .i64 oa, .int .i64 ob, .int .i64 oc] 49)).heap.size = w.heap.size + 1 := by simp
 have o0 : ∀ x, x < w.heap.size -> (w.alloc (.cells #[.int .i64 k, .int .i64 oa, .int .i64 ob, .int .i64 oc] 49)).heap[x]? = w.heap[x]? := fun x hx => Ad _ _ hx
 have d0 := heap_alloc_new w (.cells #[.int .i64 k, .int .i64 oa, .int .i64 ob, .int .i64 oc] 49)
 have I0 := I.same o0
 generalize hT : w.heap.size = Zs at *
 generalize hw0 : (w.alloc (.cells #[.int .i64 k, .int .i64 oa, .int .i64 ob, .int .i64 oc] 49)) = w0 at *
 have b2 := (Ac d0 2).trans rfl
 have g0 : Got M cb m tb n T T w w0 := ⟨⟨by omega, fun x hx hn => o0 x (by omega)⟩, fun _ h => .inl h⟩
 have hz0 : Zs + 1 <= w0.heap.size /\ w0.heap.size <= Zs + 1 := by omega
 clear s0 hw0 I
 have ke : (e != 0) = true := by simpa using he0
 have ke2 : (e == 0) = false := by simpa using he0
 have Rt := (I0.rows i hi).rS hlv
 have hsv : ∃ a c, (T i).sv = .slice a 0 c := by
  rcases Rt.2 with ⟨e, h0⟩ | ⟨g, cap, cur, e, _⟩
  ·exact ⟨none, 0, e⟩
  ·rw [hs] at e; exact ⟨_, _, e⟩
 obtain ⟨sa, sc, hsv⟩ := hsv
 have c1 : w0.cell? ⟨M, 3, none⟩ = some (.slice (some ⟨tb, 0, none⟩) n tc) := I0.cT (by omega)
 have c8 : w0.cell? ⟨tb, i * 9 + 8, none⟩ = some (T i).sv := I0.tcell hi rfl
 rw [hsv] at c8
 have he := Dk (main := main) hi ⟨false, e, []⟩ (.slice none 0 0) w0 (LsAt.nil _ _ _) I0 hn (by omega) hl hat
 simp only [Cu] at he
 clear hsv hs Rt
 refine Aa z151 ?_
 try walk_nrm
 refine Aa z151 ?_
 refine Ah (Post := fun vv w' => vv = .tuple #[] /\ ∃ av oA, M11 a0 M cb tb tc n m ta S (upd T i ((T i).told ⟨false, e, []⟩ av oA)) w' /\ Got M cb m tb n T (upd T i ((T i).told ⟨false, e, []⟩ av oA)) w0 w') ?_ Aj (by rfl) (by decide) rfl Try.func149 (by kernel_rfl) (by rfl) ?_
 ·walk_nrm
  exact he
 rintro vv w9 ⟨rfl, av, oA, I9, g9⟩
 walk_nrm
 refine Aa z151 ?_
 exact Ar rfl rfl Try.func151 rfl (.stop fun d => ⟨_, ⟨rfl, av, oA, I9.same fun _ _ => rfl, ⟨((g0).trans g9).chg.at d, ((g0).trans g9).own⟩⟩, rfl⟩)
theorem gd_some {main : Bool} {i : Nat} (hi : i < n) (k oa ob oc : Int) (v : Int) (e : Int) (he0 : e ≠ 0) (hlv : (T i).live) (hs : 0 < (T i).seen.length) (hsl : (T i).seen.length <= 1048576) (hl : (T i).ans.length <= 65536) (hat : (T i).at' <= 65536) (w : World) (I : M11 a0 M cb tb tc n m ta S T w) (hn : n <= 64) (ha0 : a0 <= w.heap.size) :
  CallW Try.prog main (fun _ => none) 151 #[.pointer (some ⟨M, 0, none⟩), .int .i64 i, .agg #[.int .i64 k, .int .i64 oa, .int .i64 ob, .int .i64 oc], .int .i64 v, .int .i64 e] w (fun v w' => v = .tuple #[] /\ ∃ av oA, M11 a0 M cb tb tc n m ta S (upd T i (((T i).take).told ⟨true, 0, (T i).seen⟩ av oA)) w' /\ Got M cb m tb n T (upd T i (((T i).take).told ⟨true, 0, (T i).seen⟩ av oA)) w w') := by
 intro kf cs
 have hi0 : (0 : Int) <= i := by omega
 have hi1 : decide ((i : Int) < n) = true := by simp; omega
 have hi3 : decide (i < n) = true := by simp; omega
 have hi4 : (i : Int) < n := by omega
 have ll3 := I.lt.2.2 (by omega)
 rw [enter_at _ Try.func151 code151_is]
 simp only [Try.ntmps151, ez, Nat.reduceAdd, Nat.reduceSub]
 refine Aa z151 ?_
 (refine Walk.oa ?_; try walk_nrm)
 have s0 : (w.alloc (.cells #[.int .i64 k, .int .i64 oa, .int .i64 ob, .int .i64 oc] 49)).heap.size = w.heap.size + 1 := by simp
 have o0 : ∀ x, x < w.heap.size -> (w.alloc (.cells #[.int .i64 k, .int .i64 oa, .int .i64 ob, .int .i64 oc] 49)).heap[x]? = w.heap[x]? := fun x hx => Ad _ _ hx
 have d0 := heap_alloc_new w (.cells #[.int .i64 k, .int .i64 oa, .int .i64 ob, .int .i64 oc] 49)
 have I0 := I.same o0
 generalize hT : w.heap.size = Zs at *
 generalize hw0 : (w.alloc (.cells #[.int .i64 k, .int .i64 oa, .int .i64 ob, .int .i64 oc] 49)) = w0 at *
 have b2 := (Ac d0 2).trans rfl
 have g0 : Got M cb m tb n T T w w0 := ⟨⟨by omega, fun x hx hn => o0 x (by omega)⟩, fun _ h => .inl h⟩
 have hz0 : Zs + 1 <= w0.heap.size /\ w0.heap.size <= Zs + 1 := by omega
 clear s0 hw0 I
 have ke : (e != 0) = true := by simpa using he0
 have ke2 : (e == 0) = false := by simpa using he0
 have Rt := (I0.rows i hi).taken hlv hsl
 have c1 : w0.cell? ⟨M, 3, none⟩ = some (.slice (some ⟨tb, 0, none⟩) n tc) := I0.cT (by omega)
 have c8 : w0.cell? ⟨tb, i * 9 + 8, none⟩ = some (T i).sv := I0.tcell hi rfl
 have he := Dk (main := main) hi ⟨true, 0, (T i).seen⟩ (T i).sv w0 (by rw [upd_same]; exact Rt) (I0.take hi hlv) hn (by omega) (by rw [upd_same]; exact hl) (by rw [upd_same]; exact hat)
 simp only [upd_same, Ag] at he
 simp only [Cu] at he
 have gt := Got.take (M := M) (cb := cb) (m := m) (tb := tb) (w := w0) hi hlv
 obtain ⟨sa, sc, hsv, _⟩ := Rt
 rw [hsv] at c8 he
 clear hsv
 have hne : (T i).seen ≠ [] := fun e => by rw [e] at hs; exact absurd hs (by decide)
 have kl : (((T i).seen.length : Int) == 0) = false := by simp [hne]
 have kl2 : ((T i).seen.length == 0) = false := by simp [hne]
 clear hne
 refine Aa z151 ?_
 try walk_nrm
 refine Aa z151 ?_
 refine Ah (Post := fun vv w' => vv = .tuple #[] /\ ∃ av oA, M11 a0 M cb tb tc n m ta S (upd T i (((T i).take).told ⟨true, 0, (T i).seen⟩ av oA)) w' /\ Got M cb m tb n (upd T i (T i).take) (upd T i (((T i).take).told ⟨true, 0, (T i).seen⟩ av oA)) w0 w') ?_ Aj (by rfl) (by decide) rfl Try.func149 (by kernel_rfl) (by rfl) ?_
 ·walk_nrm
  exact he
 rintro vv w9 ⟨rfl, av, oA, I9, g9⟩
 walk_nrm
 refine Aa z151 ?_
 exact Ar rfl rfl Try.func151 rfl (.stop fun d => ⟨_, ⟨rfl, av, oA, I9.same fun _ _ => rfl, ⟨((g0.trans gt).trans g9).chg.at d, ((g0.trans gt).trans g9).own⟩⟩, rfl⟩)
theorem gd_ob {main : Bool} {i : Nat} (hi : i < n) (k oa ob oc : Int) (v : Int) (hlv : (T i).live) (hsl : (T i).seen.length <= 65536) (hwv : (T i).seen.length < m) (hm2 : m <= 65536) (hb : ((T i).seen.length : Int) + 1 = ob) (hl : (T i).ans.length <= 65536) (hat : (T i).at' <= 65536) (w : World) (I : M11 a0 M cb tb tc n m ta S T w) (hn : n <= 64) (ha0 : a0 <= w.heap.size) :
  CallW Try.prog main (fun _ => none) 151 #[.pointer (some ⟨M, 0, none⟩), .int .i64 i, .agg #[.int .i64 k, .int .i64 oa, .int .i64 ob, .int .i64 oc], .int .i64 v, .int .i64 0] w (fun v' w' => v' = .tuple #[] /\ ∃ sv av oA, M11 a0 M cb tb tc n m ta S (upd T i (({ T i with sv := sv, seen := (T i).seen ++ [v] } : R11).take.told ⟨true, 0, (T i).seen ++ [v]⟩ av oA)) w' /\ Got M cb m tb n T (upd T i (({ T i with sv := sv, seen := (T i).seen ++ [v] } : R11).take.told ⟨true, 0, (T i).seen ++ [v]⟩ av oA)) w w') := by
 intro kf cs
 have hi0 : (0 : Int) <= i := by omega
 have hi1 : decide ((i : Int) < n) = true := by simp; omega
 have hi3 : decide (i < n) = true := by simp; omega
 have hi4 : (i : Int) < n := by omega
 have ll3 := I.lt.2.2 (by omega)
 rw [enter_at _ Try.func151 code151_is]
 simp only [Try.ntmps151, ez, Nat.reduceAdd, Nat.reduceSub]
 refine Aa z151 ?_
 (refine Walk.oa ?_; try walk_nrm)
 have s0 : (w.alloc (.cells #[.int .i64 k, .int .i64 oa, .int .i64 ob, .int .i64 oc] 49)).heap.size = w.heap.size + 1 := by simp
 have o0 : ∀ x, x < w.heap.size -> (w.alloc (.cells #[.int .i64 k, .int .i64 oa, .int .i64 ob, .int .i64 oc] 49)).heap[x]? = w.heap[x]? := fun x hx => Ad _ _ hx
 have d0 := heap_alloc_new w (.cells #[.int .i64 k, .int .i64 oa, .int .i64 ob, .int .i64 oc] 49)
 have I0 := I.same o0
 generalize hT : w.heap.size = Zs at *
 generalize hw0 : (w.alloc (.cells #[.int .i64 k, .int .i64 oa, .int .i64 ob, .int .i64 oc] 49)) = w0 at *
 have b2 := (Ac d0 2).trans rfl
 have g0 : Got M cb m tb n T T w w0 := ⟨⟨by omega, fun x hx hn => o0 x (by omega)⟩, fun _ h => .inl h⟩
 have hz0 : Zs + 1 <= w0.heap.size /\ w0.heap.size <= Zs + 1 := by omega
 have hwZ : ∀ g, (T i).sv.ownBlock = some g -> g < Zs := fun g hg => by have := (((I.rows i hi).rS hlv).lt g hg).2; omega
 clear s0 hw0 I
 have ke : ((0 : Int) != 0) = false := by decide
 obtain ⟨bb1, bb2, bb3, bb4⟩ := I0.base
 obtain ⟨bb5, bb6, bb7⟩ := bb4 (by omega)
 obtain ⟨ll1, ll2, ll3'⟩ := I0.lt
 have ll3' := ll3' (by omega)
 have R0 := I0.rows i hi
 have c1 : w0.cell? ⟨M, 3, none⟩ = some (.slice (some ⟨tb, 0, none⟩) n tc) := I0.cT (by omega)
 have c2 : w0.cell? ⟨tb, i * 9 + 8, none⟩ = some (T i).sv := I0.tcell hi rfl
 have hsz1 : w0.heap.size + 1 <= (w0.alloc (Dv v)).heap.size /\ (w0.alloc (Dv v)).heap.size <= w0.heap.size + 1 := by simp
 have hO1 : ∀ y, y < w0.heap.size -> (w0.alloc (Dv v)).heap[y]? = w0.heap[y]? := fun y hy => Ad _ _ hy
 have hown' : (w0.alloc (Dv v)).ownsRow a0 2 1 (T i).sv (T i).seen.length (Bb (T i).seen) := Ao (R0.rS hlv) fun g hg => hO1 g ((R0.rS hlv).lt g hg).2
 have hnews : ∀ (j : Nat) (u : Value), ([.int .i64 v] : List Value)[j]? = some u -> (w0.alloc (Dv v)).cell? ((⟨w0.heap.size, 0, none⟩ : Addr).add j) = some u := fun j u hu => by
  rw [Bm, Nat.zero_add]
  refine (Ac (heap_alloc_new _ _) j).trans ?_
  simpa using hu
 have hnM : ∀ g, (T i).sv.ownBlock = some g -> g ≠ M /\ ¬ cI m cb g /\ g ≠ tb := fun g hg => by
  obtain ⟨e1, e2, e3, _⟩ := I0.far i hi g (.inr ⟨hlv, hg⟩)
  exact ⟨e1, e2, e3⟩
 have hfar : ∀ (y : Nat) (w2 : World), y < w0.heap.size -> (∀ g, (T i).sv.ownBlock = some g -> g ≠ y) -> (w0.alloc (Dv v)).grownBy w2 (T i).sv.ownBlock -> w2.heap[y]? = w0.heap[y]? := fun y w2 hy hne hg => (hg.block y (by omega) (fun e => hne y e.symm rfl)).trans (hO1 y hy)
 have hnZ : ∀ g, (T i).sv.ownBlock = some g -> g ≠ Zs := fun g hg e => by have := ((((I0.rows i hi)).rS hlv).lt g hg).2; have h3 := (hwZ g hg); omega
 refine Aa z151 ?_
 refine Du (iA := 14) (iB := 15) (w1 := w0.alloc (Dv v)) (vA := .slice (some ⟨w0.heap.size, 0, none⟩) 1 1) (Z := fun y => y.cell? ⟨M, 3, none⟩ = some (.slice (some ⟨tb, 0, none⟩) n tc) /\ y.cell? ⟨tb, i * 9 + 8, none⟩ = some (T i).sv)
  (fun v' w2 => ∃ g cap, v' = .slice (some ⟨g, 0, none⟩) ((T i).seen.length + 1) cap /\ AppI a0 w0 v (T i).sv (T i).seen g cap w2) (by kernel_rfl) size151_4 (by kernel_rfl) (by kernel_rfl) (by kernel_rfl) (by kernel_rfl) (by decide) Aj Aj ⟨c1, c2⟩ ⟨Ai _ _ c1, Ai _ _ c2⟩ ?_ ?_
 ·rintro v' w2 ⟨g, cap, _, hA⟩
  exact ⟨(World.cell?_of_block (a := ⟨M, 3, none⟩) (hfar M w2 (by omega) (fun g hg => (hnM g hg).1) hA.grown)).trans c1, (World.cell?_of_block (a := ⟨tb, i * 9 + 8, none⟩) (hfar tb w2 (by omega) (fun g hg => (hnM g hg).2.2) hA.grown)).trans c2⟩
 rw [show List.filter (Bw 14 15) (List.range 18) = [0, 1, 2, 3, 4, 5, 6, 7, 8, 9, 10, 11, 12, 13, 16, 17] from by decide]
 repeat (first | (refine Gw Aj (by rfl) (fun wz hz dd e he => ?_) ?_; (· (obtain ⟨z1, z2⟩ := hz; simp [go_sem, *] at he; try (subst he; exact Cb _ _))); apply Exists.intro; apply And.intro; (· (intro wz hz dd K hK; obtain ⟨z1, z2⟩ := hz; go_simp; exact hK))) | (refine Al Aj (by rfl) ?_; walk_nrm))
 refine Cm.done ⟨?_, ?_, ?_⟩
 ·intro y hev rest hr'
  have e0 : y.eval (.tmp 45) = .int .i64 v := (hev (.tmp 45) (by simp [Op.operands])).trans rfl
  have e1 : y.tmps[45]?.getD undef = .int .i64 v := by
   rw [<- Array.getD_eq_getD_getElem?]
   exact e0
  clear e0 hev
  (refine Walk.oa ?_; try walk_nrm)
  exact hr' _ _ ⟨rfl, _, rfl⟩
 ·intro y hev rest hr'
  have e1 : y.eval (.tmp 44) = (T i).sv := (hev (.tmp 44) (by simp [Op.operands, Call.operands])).trans rfl
  have e2 : y.eval (.tmp 46) = .slice (some ⟨w0.heap.size, 0, none⟩) 1 1 := (hev (.tmp 46) (by simp [Op.operands, Call.operands])).trans rfl
  have hiA := Option.some_get (show (Try.prog.info? 2).isSome = true by kernel_rfl)
  refine Walk.append (.tmp 44) (.tmp 46) 22 Aj (by rfl) (by decide) rfl a0 2 _ (.int .i64 0) 1 8 (by kernel_rfl) hiA.symm (by rfl) (by rfl) (by rfl) (by rfl) (by decide) (T i).sv (T i).seen.length (Bb (T i).seen) e1 hown' ⟨w0.heap.size, 0, none⟩ 1 1 [.int .i64 v] e2 (by rfl) hnews (by simp [Value.oneCell']) (by decide) (by simp [maxLen]; omega) (by omega) (by omega) (fun g _ => Nx g) (fun g cap w3 hown hg hat hlt => ?_)
  exact hr' _ _ ⟨_, w3, ⟨g, cap, rfl, hown, hg, hat, hlt⟩, rfl, w3.drawn, rfl⟩
 rintro v' w2 ⟨g, cap, rfl, hA⟩ rest hr'
 have hb2 : w2.heap[tb]? = w0.heap[tb]? := hfar tb w2 (by omega) (fun g hg => (hnM g hg).2.2) hA.grown
 have hbZ : w2.heap[Zs]? = w0.heap[Zs]? := hfar Zs w2 (by omega) hnZ hA.grown
 have h12 : w2.cell? ⟨tb, i * 9 + 8, none⟩ = some (T i).sv := (World.cell?_of_block (a := ⟨tb, i * 9 + 8, none⟩) hb2).trans c2
 have z12 : w2.frozen? ⟨tb, i * 9 + 8, none⟩ = false := by
  obtain ⟨_, arr, h1, _⟩ := I0.ts (by omega)
  exact Aq (hb2.trans h1) _
 have hgs := hA.grown.size
 have hlen : ((T i).seen ++ [v]).length = (T i).seen.length + 1 := by simp
 have hgo : ∀ b, ({ T i with sv := .slice (some ⟨g, 0, none⟩) ((T i).seen.length + 1) cap, seen := (T i).seen ++ [v] } : R11).own b -> (T i).own b ∨ w0.heap.size <= b := fun b hb => by
  rcases hb with hb | ⟨_, hb⟩
  ·exact .inl (.inl hb)
  ·simp only [Value.ownBlock, Option.some.injEq] at hb
   subst hb
   rcases hA.hat with h | h
   ·exact .inl (.inr ⟨hlv, h⟩)
   ·exact .inr (by omega)
 have I3 : M11 a0 M cb tb tc n m ta S (upd T i { T i with sv := .slice (some ⟨g, 0, none⟩) ((T i).seen.length + 1) cap, seen := (T i).seen ++ [v] }) (w2.setCell ⟨tb, i * 9 + 8, none⟩ (.slice (some ⟨g, 0, none⟩) ((T i).seen.length + 1) cap)) := by
  refine I0.put' hi rfl (by decide) w2 (fun b hb hn => hfar b w2 hb (fun g hg e => hn (.inr ⟨hlv, by rw [<- e]; exact hg⟩)) hA.grown) ⟨?_, ?_, fun _ => ?_, fun _ b hb hob => ?_, fun b hob => ?_⟩ hgo
  ·exact R0.rO.same fun b hb hw => hfar b w2 hw (fun g hg e => by have := ((R0.rS hlv).lt g hg).1; omega) hA.grown
  ·exact R0.rA.same fun b hb => hfar b w2 (R0.lo b hb).2 (fun g hg e => R0.ne hlv g hg (by rw [e]; exact hb)) hA.grown
  ·show w2.ownsRow a0 _ 1 _ ((T i).seen ++ [v]).length (Bb ((T i).seen ++ [v]))
   rw [hlen, Fq]
   exact hA.own
  ·have hlt := (R0.lo b hob).2
   simp only [Value.ownBlock, Option.some.injEq] at hb
   subst hb
   rcases hA.hat with h | h
   ·exact R0.ne hlv _ h hob
   ·omega
  ·have := R0.lo b hob
   exact ⟨this.1, by omega⟩
 have g3 : Got M cb m tb n T (upd T i { T i with sv := .slice (some ⟨g, 0, none⟩) ((T i).seen.length + 1) cap, seen := (T i).seen ++ [v] }) w0 (w2.setCell ⟨tb, i * 9 + 8, none⟩ (.slice (some ⟨g, 0, none⟩) ((T i).seen.length + 1) cap)) := by
  refine ⟨⟨by rw [Af]; omega, fun y hy hn => ?_⟩, fun b hb => Au hi hgo b hb⟩
  rw [Ab _ _ _ _ (fun e => hn (.inr (.inr (.inl e)))), hfar y w2 (by omega) (fun g hg e => hn (.inr (.inr (.inr ⟨i, hi, .inr ⟨hlv, by rw [<- e]; exact hg⟩⟩)))) hA.grown]
 have hs3 := Af w2 ⟨tb, i * 9 + 8, none⟩ (.slice (some ⟨g, 0, none⟩) ((T i).seen.length + 1) cap)
 have d3 : (w2.setCell ⟨tb, i * 9 + 8, none⟩ (.slice (some ⟨g, 0, none⟩) ((T i).seen.length + 1) cap)).heap[Zs]? = some (.cells #[.int .i64 k, .int .i64 oa, .int .i64 ob, .int .i64 oc] 49) := (Ab _ _ _ _ (show Zs ≠ tb by omega)).trans (hbZ.trans d0)
 (have hfr := Dq tb (i * 9 + 8); refine Walk.os hfr h12 ?_; clear hfr; try walk_nrm)
 refine hr' _ _ ?_
 generalize w2.setCell ⟨tb, i * 9 + 8, none⟩ (.slice (some ⟨g, 0, none⟩) ((T i).seen.length + 1) cap) = w3 at *
 have hz3 : a0 <= w3.heap.size := by omega
 have hzz : w0.heap.size <= w3.heap.size := by omega
 have b2 := (Ac d3 2).trans rfl
 have c1 : w3.cell? ⟨M, 3, none⟩ = some (.slice (some ⟨tb, 0, none⟩) n tc) := I3.cT (by omega)
 have c8 : w3.cell? ⟨tb, i * 9 + 8, none⟩ = some (.slice (some ⟨g, 0, none⟩) ((T i).seen.length + 1) cap) := I3.tcell hi (by rw [upd_same]; rfl)
 have cz := I3.cZ
 clear hA hgo h12 z12 hb2 hbZ hfar hown' hnews hnM hO1 c2 R0 I0 hnZ hwZ hsz1 hgs hs3 d3 d0 o0
 have Rt := (I3.rows i hi).taken (by rw [upd_same]; exact hlv) (by rw [upd_same]; show ((T i).seen ++ [v]).length <= _; rw [hlen]; omega)
 have ht := I3.take hi (by rw [upd_same]; exact hlv)
 have gt := Got.take (M := M) (cb := cb) (m := m) (tb := tb) (w := w3) (T := upd T i { T i with sv := .slice (some ⟨g, 0, none⟩) ((T i).seen.length + 1) cap, seen := (T i).seen ++ [v] }) hi (by rw [upd_same]; exact hlv)
 rw [upd_same] at Rt ht gt
 rw [Ag] at ht gt
 have he := Dk (main := main) hi ⟨true, 0, (T i).seen ++ [v]⟩ (.slice (some ⟨g, 0, none⟩) ((T i).seen.length + 1) cap) w3 (by rw [upd_same]; exact Rt) ht hn (by omega) (by rw [upd_same]; exact hl) (by rw [upd_same]; exact hat)
 simp only [upd_same, Ag] at he
 simp only [Cu, hlen] at he
 have kb : (((T i).seen.length : Int) + 1 == ob) = true := by simpa using hb
 clear hb
 clear I3 Rt ht
 try walk_nrm
 try walk_nrm
 refine Aa z151 ?_
 refine Ah (Post := fun vv w' => vv = .tuple #[] /\ ∃ av oA, M11 a0 M cb tb tc n m ta S (upd T i ((({ T i with sv := .slice (some ⟨g, 0, none⟩) ((T i).seen.length + 1) cap, seen := (T i).seen ++ [v] } : R11).take).told ⟨true, 0, (T i).seen ++ [v]⟩ av oA)) w' /\ Got M cb m tb n (upd T i ({ T i with sv := .slice (some ⟨g, 0, none⟩) ((T i).seen.length + 1) cap, seen := (T i).seen ++ [v] } : R11).take) (upd T i ((({ T i with sv := .slice (some ⟨g, 0, none⟩) ((T i).seen.length + 1) cap, seen := (T i).seen ++ [v] } : R11).take).told ⟨true, 0, (T i).seen ++ [v]⟩ av oA)) w3 w') ?_ Aj (by rfl) (by decide) rfl Try.func149 (by kernel_rfl) (by rfl) ?_
 ·walk_nrm
  exact he
 rintro vv w9 ⟨rfl, av, oA, I9, g9⟩
 walk_nrm
 refine Aa z151 ?_
 exact Ar rfl rfl Try.func151 rfl (.stop fun d => ⟨_, ⟨rfl, _, av, oA, I9.same fun _ _ => rfl, ⟨(((g0.trans g3).trans gt).trans g9).chg.at d, (((g0.trans g3).trans gt).trans g9).own⟩⟩, rfl⟩)
theorem gd_m {main : Bool} {i : Nat} (hi : i < n) (k oa ob oc : Int) (v : Int) (hlv : (T i).live) (hsl : (T i).seen.length <= 65536) (hwv : (T i).seen.length < m) (hm2 : m <= 65536) (hb : ((T i).seen.length : Int) + 1 ≠ ob) (hme : m <= (T i).seen.length + 1) (hl : (T i).ans.length <= 65536) (hat : (T i).at' <= 65536) (w : World) (I : M11 a0 M cb tb tc n m ta S T w) (hn : n <= 64) (ha0 : a0 <= w.heap.size) :
  CallW Try.prog main (fun _ => none) 151 #[.pointer (some ⟨M, 0, none⟩), .int .i64 i, .agg #[.int .i64 k, .int .i64 oa, .int .i64 ob, .int .i64 oc], .int .i64 v, .int .i64 0] w (fun v' w' => v' = .tuple #[] /\ ∃ sv av oA, M11 a0 M cb tb tc n m ta S (upd T i (({ T i with sv := sv, seen := (T i).seen ++ [v] } : R11).take.told ⟨true, 0, (T i).seen ++ [v]⟩ av oA)) w' /\ Got M cb m tb n T (upd T i (({ T i with sv := sv, seen := (T i).seen ++ [v] } : R11).take.told ⟨true, 0, (T i).seen ++ [v]⟩ av oA)) w w') := by
 intro kf cs
 have hi0 : (0 : Int) <= i := by omega
 have hi1 : decide ((i : Int) < n) = true := by simp; omega
 have hi3 : decide (i < n) = true := by simp; omega
 have hi4 : (i : Int) < n := by omega
 have ll3 := I.lt.2.2 (by omega)
 rw [enter_at _ Try.func151 code151_is]
 simp only [Try.ntmps151, ez, Nat.reduceAdd, Nat.reduceSub]
 refine Aa z151 ?_
 (refine Walk.oa ?_; try walk_nrm)
 have s0 : (w.alloc (.cells #[.int .i64 k, .int .i64 oa, .int .i64 ob, .int .i64 oc] 49)).heap.size = w.heap.size + 1 := by simp
 have o0 : ∀ x, x < w.heap.size -> (w.alloc (.cells #[.int .i64 k, .int .i64 oa, .int .i64 ob, .int .i64 oc] 49)).heap[x]? = w.heap[x]? := fun x hx => Ad _ _ hx
 have d0 := heap_alloc_new w (.cells #[.int .i64 k, .int .i64 oa, .int .i64 ob, .int .i64 oc] 49)
 have I0 := I.same o0
 generalize hT : w.heap.size = Zs at *
 generalize hw0 : (w.alloc (.cells #[.int .i64 k, .int .i64 oa, .int .i64 ob, .int .i64 oc] 49)) = w0 at *
 have b2 := (Ac d0 2).trans rfl
 have g0 : Got M cb m tb n T T w w0 := ⟨⟨by omega, fun x hx hn => o0 x (by omega)⟩, fun _ h => .inl h⟩
 have hz0 : Zs + 1 <= w0.heap.size /\ w0.heap.size <= Zs + 1 := by omega
 have hwZ : ∀ g, (T i).sv.ownBlock = some g -> g < Zs := fun g hg => by have := (((I.rows i hi).rS hlv).lt g hg).2; omega
 clear s0 hw0 I
 have ke : ((0 : Int) != 0) = false := by decide
 obtain ⟨bb1, bb2, bb3, bb4⟩ := I0.base
 obtain ⟨bb5, bb6, bb7⟩ := bb4 (by omega)
 obtain ⟨ll1, ll2, ll3'⟩ := I0.lt
 have ll3' := ll3' (by omega)
 have R0 := I0.rows i hi
 have c1 : w0.cell? ⟨M, 3, none⟩ = some (.slice (some ⟨tb, 0, none⟩) n tc) := I0.cT (by omega)
 have c2 : w0.cell? ⟨tb, i * 9 + 8, none⟩ = some (T i).sv := I0.tcell hi rfl
 have hsz1 : w0.heap.size + 1 <= (w0.alloc (Dv v)).heap.size /\ (w0.alloc (Dv v)).heap.size <= w0.heap.size + 1 := by simp
 have hO1 : ∀ y, y < w0.heap.size -> (w0.alloc (Dv v)).heap[y]? = w0.heap[y]? := fun y hy => Ad _ _ hy
 have hown' : (w0.alloc (Dv v)).ownsRow a0 2 1 (T i).sv (T i).seen.length (Bb (T i).seen) := Ao (R0.rS hlv) fun g hg => hO1 g ((R0.rS hlv).lt g hg).2
 have hnews : ∀ (j : Nat) (u : Value), ([.int .i64 v] : List Value)[j]? = some u -> (w0.alloc (Dv v)).cell? ((⟨w0.heap.size, 0, none⟩ : Addr).add j) = some u := fun j u hu => by
  rw [Bm, Nat.zero_add]
  refine (Ac (heap_alloc_new _ _) j).trans ?_
  simpa using hu
 have hnM : ∀ g, (T i).sv.ownBlock = some g -> g ≠ M /\ ¬ cI m cb g /\ g ≠ tb := fun g hg => by
  obtain ⟨e1, e2, e3, _⟩ := I0.far i hi g (.inr ⟨hlv, hg⟩)
  exact ⟨e1, e2, e3⟩
 have hfar : ∀ (y : Nat) (w2 : World), y < w0.heap.size -> (∀ g, (T i).sv.ownBlock = some g -> g ≠ y) -> (w0.alloc (Dv v)).grownBy w2 (T i).sv.ownBlock -> w2.heap[y]? = w0.heap[y]? := fun y w2 hy hne hg => (hg.block y (by omega) (fun e => hne y e.symm rfl)).trans (hO1 y hy)
 have hnZ : ∀ g, (T i).sv.ownBlock = some g -> g ≠ Zs := fun g hg e => by have := ((((I0.rows i hi)).rS hlv).lt g hg).2; have h3 := (hwZ g hg); omega
 refine Aa z151 ?_
 refine Du (iA := 14) (iB := 15) (w1 := w0.alloc (Dv v)) (vA := .slice (some ⟨w0.heap.size, 0, none⟩) 1 1) (Z := fun y => y.cell? ⟨M, 3, none⟩ = some (.slice (some ⟨tb, 0, none⟩) n tc) /\ y.cell? ⟨tb, i * 9 + 8, none⟩ = some (T i).sv)
  (fun v' w2 => ∃ g cap, v' = .slice (some ⟨g, 0, none⟩) ((T i).seen.length + 1) cap /\ AppI a0 w0 v (T i).sv (T i).seen g cap w2) (by kernel_rfl) size151_4 (by kernel_rfl) (by kernel_rfl) (by kernel_rfl) (by kernel_rfl) (by decide) Aj Aj ⟨c1, c2⟩ ⟨Ai _ _ c1, Ai _ _ c2⟩ ?_ ?_
 ·rintro v' w2 ⟨g, cap, _, hA⟩
  exact ⟨(World.cell?_of_block (a := ⟨M, 3, none⟩) (hfar M w2 (by omega) (fun g hg => (hnM g hg).1) hA.grown)).trans c1, (World.cell?_of_block (a := ⟨tb, i * 9 + 8, none⟩) (hfar tb w2 (by omega) (fun g hg => (hnM g hg).2.2) hA.grown)).trans c2⟩
 rw [show List.filter (Bw 14 15) (List.range 18) = [0, 1, 2, 3, 4, 5, 6, 7, 8, 9, 10, 11, 12, 13, 16, 17] from by decide]
 repeat (first | (refine Gw Aj (by rfl) (fun wz hz dd e he => ?_) ?_; (· (obtain ⟨z1, z2⟩ := hz; simp [go_sem, *] at he; try (subst he; exact Cb _ _))); apply Exists.intro; apply And.intro; (· (intro wz hz dd K hK; obtain ⟨z1, z2⟩ := hz; go_simp; exact hK))) | (refine Al Aj (by rfl) ?_; walk_nrm))
 refine Cm.done ⟨?_, ?_, ?_⟩
 ·intro y hev rest hr'
  have e0 : y.eval (.tmp 45) = .int .i64 v := (hev (.tmp 45) (by simp [Op.operands])).trans rfl
  have e1 : y.tmps[45]?.getD undef = .int .i64 v := by
   rw [<- Array.getD_eq_getD_getElem?]
   exact e0
  clear e0 hev
  (refine Walk.oa ?_; try walk_nrm)
  exact hr' _ _ ⟨rfl, _, rfl⟩
 ·intro y hev rest hr'
  have e1 : y.eval (.tmp 44) = (T i).sv := (hev (.tmp 44) (by simp [Op.operands, Call.operands])).trans rfl
  have e2 : y.eval (.tmp 46) = .slice (some ⟨w0.heap.size, 0, none⟩) 1 1 := (hev (.tmp 46) (by simp [Op.operands, Call.operands])).trans rfl
  have hiA := Option.some_get (show (Try.prog.info? 2).isSome = true by kernel_rfl)
  refine Walk.append (.tmp 44) (.tmp 46) 22 Aj (by rfl) (by decide) rfl a0 2 _ (.int .i64 0) 1 8 (by kernel_rfl) hiA.symm (by rfl) (by rfl) (by rfl) (by rfl) (by decide) (T i).sv (T i).seen.length (Bb (T i).seen) e1 hown' ⟨w0.heap.size, 0, none⟩ 1 1 [.int .i64 v] e2 (by rfl) hnews (by simp [Value.oneCell']) (by decide) (by simp [maxLen]; omega) (by omega) (by omega) (fun g _ => Nx g) (fun g cap w3 hown hg hat hlt => ?_)
  exact hr' _ _ ⟨_, w3, ⟨g, cap, rfl, hown, hg, hat, hlt⟩, rfl, w3.drawn, rfl⟩
 rintro v' w2 ⟨g, cap, rfl, hA⟩ rest hr'
 have hb2 : w2.heap[tb]? = w0.heap[tb]? := hfar tb w2 (by omega) (fun g hg => (hnM g hg).2.2) hA.grown
 have hbZ : w2.heap[Zs]? = w0.heap[Zs]? := hfar Zs w2 (by omega) hnZ hA.grown
 have h12 : w2.cell? ⟨tb, i * 9 + 8, none⟩ = some (T i).sv := (World.cell?_of_block (a := ⟨tb, i * 9 + 8, none⟩) hb2).trans c2
 have z12 : w2.frozen? ⟨tb, i * 9 + 8, none⟩ = false := by
  obtain ⟨_, arr, h1, _⟩ := I0.ts (by omega)
  exact Aq (hb2.trans h1) _
 have hgs := hA.grown.size
 have hlen : ((T i).seen ++ [v]).length = (T i).seen.length + 1 := by simp
 have hgo : ∀ b, ({ T i with sv := .slice (some ⟨g, 0, none⟩) ((T i).seen.length + 1) cap, seen := (T i).seen ++ [v] } : R11).own b -> (T i).own b ∨ w0.heap.size <= b := fun b hb => by
  rcases hb with hb | ⟨_, hb⟩
  ·exact .inl (.inl hb)
  ·simp only [Value.ownBlock, Option.some.injEq] at hb
   subst hb
   rcases hA.hat with h | h
   ·exact .inl (.inr ⟨hlv, h⟩)
   ·exact .inr (by omega)
 have I3 : M11 a0 M cb tb tc n m ta S (upd T i { T i with sv := .slice (some ⟨g, 0, none⟩) ((T i).seen.length + 1) cap, seen := (T i).seen ++ [v] }) (w2.setCell ⟨tb, i * 9 + 8, none⟩ (.slice (some ⟨g, 0, none⟩) ((T i).seen.length + 1) cap)) := by
  refine I0.put' hi rfl (by decide) w2 (fun b hb hn => hfar b w2 hb (fun g hg e => hn (.inr ⟨hlv, by rw [<- e]; exact hg⟩)) hA.grown) ⟨?_, ?_, fun _ => ?_, fun _ b hb hob => ?_, fun b hob => ?_⟩ hgo
  ·exact R0.rO.same fun b hb hw => hfar b w2 hw (fun g hg e => by have := ((R0.rS hlv).lt g hg).1; omega) hA.grown
  ·exact R0.rA.same fun b hb => hfar b w2 (R0.lo b hb).2 (fun g hg e => R0.ne hlv g hg (by rw [e]; exact hb)) hA.grown
  ·show w2.ownsRow a0 _ 1 _ ((T i).seen ++ [v]).length (Bb ((T i).seen ++ [v]))
   rw [hlen, Fq]
   exact hA.own
  ·have hlt := (R0.lo b hob).2
   simp only [Value.ownBlock, Option.some.injEq] at hb
   subst hb
   rcases hA.hat with h | h
   ·exact R0.ne hlv _ h hob
   ·omega
  ·have := R0.lo b hob
   exact ⟨this.1, by omega⟩
 have g3 : Got M cb m tb n T (upd T i { T i with sv := .slice (some ⟨g, 0, none⟩) ((T i).seen.length + 1) cap, seen := (T i).seen ++ [v] }) w0 (w2.setCell ⟨tb, i * 9 + 8, none⟩ (.slice (some ⟨g, 0, none⟩) ((T i).seen.length + 1) cap)) := by
  refine ⟨⟨by rw [Af]; omega, fun y hy hn => ?_⟩, fun b hb => Au hi hgo b hb⟩
  rw [Ab _ _ _ _ (fun e => hn (.inr (.inr (.inl e)))), hfar y w2 (by omega) (fun g hg e => hn (.inr (.inr (.inr ⟨i, hi, .inr ⟨hlv, by rw [<- e]; exact hg⟩⟩)))) hA.grown]
 have hs3 := Af w2 ⟨tb, i * 9 + 8, none⟩ (.slice (some ⟨g, 0, none⟩) ((T i).seen.length + 1) cap)
 have d3 : (w2.setCell ⟨tb, i * 9 + 8, none⟩ (.slice (some ⟨g, 0, none⟩) ((T i).seen.length + 1) cap)).heap[Zs]? = some (.cells #[.int .i64 k, .int .i64 oa, .int .i64 ob, .int .i64 oc] 49) := (Ab _ _ _ _ (show Zs ≠ tb by omega)).trans (hbZ.trans d0)
 (have hfr := Dq tb (i * 9 + 8); refine Walk.os hfr h12 ?_; clear hfr; try walk_nrm)
 refine hr' _ _ ?_
 generalize w2.setCell ⟨tb, i * 9 + 8, none⟩ (.slice (some ⟨g, 0, none⟩) ((T i).seen.length + 1) cap) = w3 at *
 have hz3 : a0 <= w3.heap.size := by omega
 have hzz : w0.heap.size <= w3.heap.size := by omega
 have b2 := (Ac d3 2).trans rfl
 have c1 : w3.cell? ⟨M, 3, none⟩ = some (.slice (some ⟨tb, 0, none⟩) n tc) := I3.cT (by omega)
 have c8 : w3.cell? ⟨tb, i * 9 + 8, none⟩ = some (.slice (some ⟨g, 0, none⟩) ((T i).seen.length + 1) cap) := I3.tcell hi (by rw [upd_same]; rfl)
 have cz := I3.cZ
 clear hA hgo h12 z12 hb2 hbZ hfar hown' hnews hnM hO1 c2 R0 I0 hnZ hwZ hsz1 hgs hs3 d3 d0 o0
 have Rt := (I3.rows i hi).taken (by rw [upd_same]; exact hlv) (by rw [upd_same]; show ((T i).seen ++ [v]).length <= _; rw [hlen]; omega)
 have ht := I3.take hi (by rw [upd_same]; exact hlv)
 have gt := Got.take (M := M) (cb := cb) (m := m) (tb := tb) (w := w3) (T := upd T i { T i with sv := .slice (some ⟨g, 0, none⟩) ((T i).seen.length + 1) cap, seen := (T i).seen ++ [v] }) hi (by rw [upd_same]; exact hlv)
 rw [upd_same] at Rt ht gt
 rw [Ag] at ht gt
 have he := Dk (main := main) hi ⟨true, 0, (T i).seen ++ [v]⟩ (.slice (some ⟨g, 0, none⟩) ((T i).seen.length + 1) cap) w3 (by rw [upd_same]; exact Rt) ht hn (by omega) (by rw [upd_same]; exact hl) (by rw [upd_same]; exact hat)
 simp only [upd_same, Ag] at he
 simp only [Cu, hlen] at he
 have kb : (((T i).seen.length : Int) + 1 == ob) = false := by simpa using hb
 have km : (((T i).seen.length : Int) + 1 == (m : Int)) = true := by simp; omega
 have km2 : ((T i).seen.length + 1 == m) = true := by simp; omega
 clear hb
 clear I3 Rt ht
 try walk_nrm
 try walk_nrm
 refine Aa z151 ?_
 refine Ah (Post := fun vv w' => vv = .tuple #[] /\ ∃ av oA, M11 a0 M cb tb tc n m ta S (upd T i ((({ T i with sv := .slice (some ⟨g, 0, none⟩) ((T i).seen.length + 1) cap, seen := (T i).seen ++ [v] } : R11).take).told ⟨true, 0, (T i).seen ++ [v]⟩ av oA)) w' /\ Got M cb m tb n (upd T i ({ T i with sv := .slice (some ⟨g, 0, none⟩) ((T i).seen.length + 1) cap, seen := (T i).seen ++ [v] } : R11).take) (upd T i ((({ T i with sv := .slice (some ⟨g, 0, none⟩) ((T i).seen.length + 1) cap, seen := (T i).seen ++ [v] } : R11).take).told ⟨true, 0, (T i).seen ++ [v]⟩ av oA)) w3 w') ?_ Aj (by rfl) (by decide) rfl Try.func149 (by kernel_rfl) (by rfl) ?_
 ·walk_nrm
  exact he
 rintro vv w9 ⟨rfl, av, oA, I9, g9⟩
 walk_nrm
 refine Aa z151 ?_
 exact Ar rfl rfl Try.func151 rfl (.stop fun d => ⟨_, ⟨rfl, _, av, oA, I9.same fun _ _ => rfl, ⟨(((g0.trans g3).trans gt).trans g9).chg.at d, (((g0.trans g3).trans gt).trans g9).own⟩⟩, rfl⟩)
end
end
section
section
variable {a0 M tb tc n m : Nat} {cb : CB} {ta : Option Addr} {S : Rg} {T : Nat -> R11}
theorem gd_on {main : Bool} {i : Nat} (hi : i < n) (k oa ob oc : Int) (v : Int) (hlv : (T i).live) (hsl : (T i).seen.length <= 65536) (hwv : (T i).seen.length < m) (hm2 : m <= 65536) (hb : ((T i).seen.length : Int) + 1 ≠ ob) (hme : (T i).seen.length + 1 ≠ m) (hg : good (T i).q) (hg1 : good ((T i).q + 1)) (hl : (T i).ans.length <= 65536) (hat : (T i).at' <= 65536) (w : World) (I : M11 a0 M cb tb tc n m ta S T w) (hn : n <= 64) (ha0 : a0 <= w.heap.size) :
  CallW Try.prog main (fun _ => none) 151 #[.pointer (some ⟨M, 0, none⟩), .int .i64 i, .agg #[.int .i64 k, .int .i64 oa, .int .i64 ob, .int .i64 oc], .int .i64 v, .int .i64 0] w (fun v' w' => v' = .tuple #[] /\ ∃ sv, M11 a0 M cb tb tc n m ta S (upd T i { T i with q := (T i).q + 1, pc := 1, sv := sv, seen := (T i).seen ++ [v] }) w' /\ Got M cb m tb n T (upd T i { T i with q := (T i).q + 1, pc := 1, sv := sv, seen := (T i).seen ++ [v] }) w w') := by
 intro kf cs
 have hi0 : (0 : Int) <= i := by omega
 have hi1 : decide ((i : Int) < n) = true := by simp; omega
 have hi3 : decide (i < n) = true := by simp; omega
 have hi4 : (i : Int) < n := by omega
 have ll3 := I.lt.2.2 (by omega)
 rw [enter_at _ Try.func151 code151_is]
 simp only [Try.ntmps151, ez, Nat.reduceAdd, Nat.reduceSub]
 refine Aa z151 ?_
 (refine Walk.oa ?_; try walk_nrm)
 have s0 : (w.alloc (.cells #[.int .i64 k, .int .i64 oa, .int .i64 ob, .int .i64 oc] 49)).heap.size = w.heap.size + 1 := by simp
 have o0 : ∀ x, x < w.heap.size -> (w.alloc (.cells #[.int .i64 k, .int .i64 oa, .int .i64 ob, .int .i64 oc] 49)).heap[x]? = w.heap[x]? := fun x hx => Ad _ _ hx
 have d0 := heap_alloc_new w (.cells #[.int .i64 k, .int .i64 oa, .int .i64 ob, .int .i64 oc] 49)
 have I0 := I.same o0
 generalize hT : w.heap.size = Zs at *
 generalize hw0 : (w.alloc (.cells #[.int .i64 k, .int .i64 oa, .int .i64 ob, .int .i64 oc] 49)) = w0 at *
 have b2 := (Ac d0 2).trans rfl
 have g0 : Got M cb m tb n T T w w0 := ⟨⟨by omega, fun x hx hn => o0 x (by omega)⟩, fun _ h => .inl h⟩
 have hz0 : Zs + 1 <= w0.heap.size /\ w0.heap.size <= Zs + 1 := by omega
 have hwZ : ∀ g, (T i).sv.ownBlock = some g -> g < Zs := fun g hg => by have := (((I.rows i hi).rS hlv).lt g hg).2; omega
 clear s0 hw0 I
 have ke : ((0 : Int) != 0) = false := by decide
 obtain ⟨bb1, bb2, bb3, bb4⟩ := I0.base
 obtain ⟨bb5, bb6, bb7⟩ := bb4 (by omega)
 obtain ⟨ll1, ll2, ll3'⟩ := I0.lt
 have ll3' := ll3' (by omega)
 have R0 := I0.rows i hi
 have c1 : w0.cell? ⟨M, 3, none⟩ = some (.slice (some ⟨tb, 0, none⟩) n tc) := I0.cT (by omega)
 have c2 : w0.cell? ⟨tb, i * 9 + 8, none⟩ = some (T i).sv := I0.tcell hi rfl
 have hsz1 : w0.heap.size + 1 <= (w0.alloc (Dv v)).heap.size /\ (w0.alloc (Dv v)).heap.size <= w0.heap.size + 1 := by simp
 have hO1 : ∀ y, y < w0.heap.size -> (w0.alloc (Dv v)).heap[y]? = w0.heap[y]? := fun y hy => Ad _ _ hy
 have hown' : (w0.alloc (Dv v)).ownsRow a0 2 1 (T i).sv (T i).seen.length (Bb (T i).seen) := Ao (R0.rS hlv) fun g hg => hO1 g ((R0.rS hlv).lt g hg).2
 have hnews : ∀ (j : Nat) (u : Value), ([.int .i64 v] : List Value)[j]? = some u -> (w0.alloc (Dv v)).cell? ((⟨w0.heap.size, 0, none⟩ : Addr).add j) = some u := fun j u hu => by
  rw [Bm, Nat.zero_add]
  refine (Ac (heap_alloc_new _ _) j).trans ?_
  simpa using hu
 have hnM : ∀ g, (T i).sv.ownBlock = some g -> g ≠ M /\ ¬ cI m cb g /\ g ≠ tb := fun g hg => by
  obtain ⟨e1, e2, e3, _⟩ := I0.far i hi g (.inr ⟨hlv, hg⟩)
  exact ⟨e1, e2, e3⟩
 have hfar : ∀ (y : Nat) (w2 : World), y < w0.heap.size -> (∀ g, (T i).sv.ownBlock = some g -> g ≠ y) -> (w0.alloc (Dv v)).grownBy w2 (T i).sv.ownBlock -> w2.heap[y]? = w0.heap[y]? := fun y w2 hy hne hg => (hg.block y (by omega) (fun e => hne y e.symm rfl)).trans (hO1 y hy)
 have hnZ : ∀ g, (T i).sv.ownBlock = some g -> g ≠ Zs := fun g hg e => by have := ((((I0.rows i hi)).rS hlv).lt g hg).2; have h3 := (hwZ g hg); omega
 refine Aa z151 ?_
 refine Du (iA := 14) (iB := 15) (w1 := w0.alloc (Dv v)) (vA := .slice (some ⟨w0.heap.size, 0, none⟩) 1 1) (Z := fun y => y.cell? ⟨M, 3, none⟩ = some (.slice (some ⟨tb, 0, none⟩) n tc) /\ y.cell? ⟨tb, i * 9 + 8, none⟩ = some (T i).sv)
  (fun v' w2 => ∃ g cap, v' = .slice (some ⟨g, 0, none⟩) ((T i).seen.length + 1) cap /\ AppI a0 w0 v (T i).sv (T i).seen g cap w2) (by kernel_rfl) size151_4 (by kernel_rfl) (by kernel_rfl) (by kernel_rfl) (by kernel_rfl) (by decide) Aj Aj ⟨c1, c2⟩ ⟨Ai _ _ c1, Ai _ _ c2⟩ ?_ ?_
 ·rintro v' w2 ⟨g, cap, _, hA⟩
  exact ⟨(World.cell?_of_block (a := ⟨M, 3, none⟩) (hfar M w2 (by omega) (fun g hg => (hnM g hg).1) hA.grown)).trans c1, (World.cell?_of_block (a := ⟨tb, i * 9 + 8, none⟩) (hfar tb w2 (by omega) (fun g hg => (hnM g hg).2.2) hA.grown)).trans c2⟩
 rw [show List.filter (Bw 14 15) (List.range 18) = [0, 1, 2, 3, 4, 5, 6, 7, 8, 9, 10, 11, 12, 13, 16, 17] from by decide]
 repeat (first | (refine Gw Aj (by rfl) (fun wz hz dd e he => ?_) ?_; (· (obtain ⟨z1, z2⟩ := hz; simp [go_sem, *] at he; try (subst he; exact Cb _ _))); apply Exists.intro; apply And.intro; (· (intro wz hz dd K hK; obtain ⟨z1, z2⟩ := hz; go_simp; exact hK))) | (refine Al Aj (by rfl) ?_; walk_nrm))
 refine Cm.done ⟨?_, ?_, ?_⟩
 ·intro y hev rest hr'
  have e0 : y.eval (.tmp 45) = .int .i64 v := (hev (.tmp 45) (by simp [Op.operands])).trans rfl
  have e1 : y.tmps[45]?.getD undef = .int .i64 v := by
   rw [<- Array.getD_eq_getD_getElem?]
   exact e0
  clear e0 hev
  (refine Walk.oa ?_; try walk_nrm)
  exact hr' _ _ ⟨rfl, _, rfl⟩
 ·intro y hev rest hr'
  have e1 : y.eval (.tmp 44) = (T i).sv := (hev (.tmp 44) (by simp [Op.operands, Call.operands])).trans rfl
  have e2 : y.eval (.tmp 46) = .slice (some ⟨w0.heap.size, 0, none⟩) 1 1 := (hev (.tmp 46) (by simp [Op.operands, Call.operands])).trans rfl
  have hiA := Option.some_get (show (Try.prog.info? 2).isSome = true by kernel_rfl)
  refine Walk.append (.tmp 44) (.tmp 46) 22 Aj (by rfl) (by decide) rfl a0 2 _ (.int .i64 0) 1 8 (by kernel_rfl) hiA.symm (by rfl) (by rfl) (by rfl) (by rfl) (by decide) (T i).sv (T i).seen.length (Bb (T i).seen) e1 hown' ⟨w0.heap.size, 0, none⟩ 1 1 [.int .i64 v] e2 (by rfl) hnews (by simp [Value.oneCell']) (by decide) (by simp [maxLen]; omega) (by omega) (by omega) (fun g _ => Nx g) (fun g cap w3 hown hg hat hlt => ?_)
  exact hr' _ _ ⟨_, w3, ⟨g, cap, rfl, hown, hg, hat, hlt⟩, rfl, w3.drawn, rfl⟩
 rintro v' w2 ⟨g, cap, rfl, hA⟩ rest hr'
 have hb2 : w2.heap[tb]? = w0.heap[tb]? := hfar tb w2 (by omega) (fun g hg => (hnM g hg).2.2) hA.grown
 have hbZ : w2.heap[Zs]? = w0.heap[Zs]? := hfar Zs w2 (by omega) hnZ hA.grown
 have h12 : w2.cell? ⟨tb, i * 9 + 8, none⟩ = some (T i).sv := (World.cell?_of_block (a := ⟨tb, i * 9 + 8, none⟩) hb2).trans c2
 have z12 : w2.frozen? ⟨tb, i * 9 + 8, none⟩ = false := by
  obtain ⟨_, arr, h1, _⟩ := I0.ts (by omega)
  exact Aq (hb2.trans h1) _
 have hgs := hA.grown.size
 have hlen : ((T i).seen ++ [v]).length = (T i).seen.length + 1 := by simp
 have hgo : ∀ b, ({ T i with sv := .slice (some ⟨g, 0, none⟩) ((T i).seen.length + 1) cap, seen := (T i).seen ++ [v] } : R11).own b -> (T i).own b ∨ w0.heap.size <= b := fun b hb => by
  rcases hb with hb | ⟨_, hb⟩
  ·exact .inl (.inl hb)
  ·simp only [Value.ownBlock, Option.some.injEq] at hb
   subst hb
   rcases hA.hat with h | h
   ·exact .inl (.inr ⟨hlv, h⟩)
   ·exact .inr (by omega)
 have I3 : M11 a0 M cb tb tc n m ta S (upd T i { T i with sv := .slice (some ⟨g, 0, none⟩) ((T i).seen.length + 1) cap, seen := (T i).seen ++ [v] }) (w2.setCell ⟨tb, i * 9 + 8, none⟩ (.slice (some ⟨g, 0, none⟩) ((T i).seen.length + 1) cap)) := by
  refine I0.put' hi rfl (by decide) w2 (fun b hb hn => hfar b w2 hb (fun g hg e => hn (.inr ⟨hlv, by rw [<- e]; exact hg⟩)) hA.grown) ⟨?_, ?_, fun _ => ?_, fun _ b hb hob => ?_, fun b hob => ?_⟩ hgo
  ·exact R0.rO.same fun b hb hw => hfar b w2 hw (fun g hg e => by have := ((R0.rS hlv).lt g hg).1; omega) hA.grown
  ·exact R0.rA.same fun b hb => hfar b w2 (R0.lo b hb).2 (fun g hg e => R0.ne hlv g hg (by rw [e]; exact hb)) hA.grown
  ·show w2.ownsRow a0 _ 1 _ ((T i).seen ++ [v]).length (Bb ((T i).seen ++ [v]))
   rw [hlen, Fq]
   exact hA.own
  ·have hlt := (R0.lo b hob).2
   simp only [Value.ownBlock, Option.some.injEq] at hb
   subst hb
   rcases hA.hat with h | h
   ·exact R0.ne hlv _ h hob
   ·omega
  ·have := R0.lo b hob
   exact ⟨this.1, by omega⟩
 have g3 : Got M cb m tb n T (upd T i { T i with sv := .slice (some ⟨g, 0, none⟩) ((T i).seen.length + 1) cap, seen := (T i).seen ++ [v] }) w0 (w2.setCell ⟨tb, i * 9 + 8, none⟩ (.slice (some ⟨g, 0, none⟩) ((T i).seen.length + 1) cap)) := by
  refine ⟨⟨by rw [Af]; omega, fun y hy hn => ?_⟩, fun b hb => Au hi hgo b hb⟩
  rw [Ab _ _ _ _ (fun e => hn (.inr (.inr (.inl e)))), hfar y w2 (by omega) (fun g hg e => hn (.inr (.inr (.inr ⟨i, hi, .inr ⟨hlv, by rw [<- e]; exact hg⟩⟩)))) hA.grown]
 have hs3 := Af w2 ⟨tb, i * 9 + 8, none⟩ (.slice (some ⟨g, 0, none⟩) ((T i).seen.length + 1) cap)
 have d3 : (w2.setCell ⟨tb, i * 9 + 8, none⟩ (.slice (some ⟨g, 0, none⟩) ((T i).seen.length + 1) cap)).heap[Zs]? = some (.cells #[.int .i64 k, .int .i64 oa, .int .i64 ob, .int .i64 oc] 49) := (Ab _ _ _ _ (show Zs ≠ tb by omega)).trans (hbZ.trans d0)
 (have hfr := Dq tb (i * 9 + 8); refine Walk.os hfr h12 ?_; clear hfr; try walk_nrm)
 refine hr' _ _ ?_
 generalize w2.setCell ⟨tb, i * 9 + 8, none⟩ (.slice (some ⟨g, 0, none⟩) ((T i).seen.length + 1) cap) = w3 at *
 have hz3 : a0 <= w3.heap.size := by omega
 have hzz : w0.heap.size <= w3.heap.size := by omega
 have b2 := (Ac d3 2).trans rfl
 have c1 : w3.cell? ⟨M, 3, none⟩ = some (.slice (some ⟨tb, 0, none⟩) n tc) := I3.cT (by omega)
 have c8 : w3.cell? ⟨tb, i * 9 + 8, none⟩ = some (.slice (some ⟨g, 0, none⟩) ((T i).seen.length + 1) cap) := I3.tcell hi (by rw [upd_same]; rfl)
 have cz := I3.cZ
 clear hA hgo h12 z12 hb2 hbZ hfar hown' hnews hnM hO1 c2 R0 I0 hnZ hwZ hsz1 hgs hs3 d3 d0 o0
 have kb : (((T i).seen.length : Int) + 1 == ob) = false := by simpa using hb
 have km : (((T i).seen.length : Int) + 1 == (m : Int)) = false := by simp; omega
 have km2 : ((T i).seen.length + 1 == m) = false := by simpa using hme
 clear hb
 have hqw : IntKind.wrap .i64 ((T i).q + 1) = (T i).q + 1 := by rw [IntKind.wrap_i64]; have := hg.1; have := hg.2; omega
 have c5 : w3.cell? ⟨tb, i * 9 + 5, none⟩ = some (.int .i64 (T i).q) := I3.tcell hi (by rw [upd_same]; rfl)
 have z5 := I3.tfrz hi (i * 9 + 5)
 have I4 := I3.put hi (j := 5) (v := .int .i64 ((T i).q + 1)) (t := { T i with q := (T i).q + 1, sv := .slice (some ⟨g, 0, none⟩) ((T i).seen.length + 1) cap, seen := (T i).seen ++ [v] }) (by rw [upd_same]; rfl) (by decide) (by rw [upd_same]; exact ⟨rfl, rfl, rfl, rfl, rfl, rfl, rfl, rfl⟩)
 rw [Ag] at I4
 clear I3
 try walk_nrm
 refine Aa z151 ?_
 (refine Ay (by kernel_rfl) size151_8 (by kernel_rfl) (by kernel_rfl) (by kernel_rfl) (by decide) ?_; simp only [List.range, List.range.loop]; repeat (first | (refine Cm.oq ?_) | (refine Al Aj (by rfl) ?_; walk_nrm)))
 refine Cm.done ?_
 intro rest2 hr2
 (have hfr := Dq tb (i * 9 + 5); refine Walk.os hfr c5 ?_; clear hfr; try walk_nrm)
 refine hr2 _ _ ?_
 have s4 := Af w3 ⟨tb, i * 9 + 5, none⟩ (.int .i64 ((T i).q + 1))
 have o4 : ∀ y, y ≠ tb -> (w3.setCell ⟨tb, i * 9 + 5, none⟩ (.int .i64 ((T i).q + 1))).heap[y]? = w3.heap[y]? := fun y hy => Ab _ _ _ _ hy
 generalize w3.setCell ⟨tb, i * 9 + 5, none⟩ (.int .i64 ((T i).q + 1)) = w4 at *
 clear c1 c8 cz c5 z5 b2
 have c1 : w4.cell? ⟨M, 3, none⟩ = some (.slice (some ⟨tb, 0, none⟩) n tc) := I4.cT (by omega)
 have c4 : w4.cell? ⟨tb, i * 9 + 4, none⟩ = some (.int .i64 (T i).pc) := I4.tcell hi (by rw [upd_same]; rfl)
 have z4 := I4.tfrz hi (i * 9 + 4)
 have I5 := I4.put hi (j := 4) (v := .int .i64 1) (t := { T i with q := (T i).q + 1, pc := 1, sv := .slice (some ⟨g, 0, none⟩) ((T i).seen.length + 1) cap, seen := (T i).seen ++ [v] }) (by rw [upd_same]; rfl) (by decide) (by rw [upd_same]; exact ⟨rfl, rfl, rfl, rfl, rfl, rfl, rfl, rfl⟩)
 rw [Ag] at I5
 try walk_nrm
 refine Aa z151 ?_
 (have hfr := Dq tb (i * 9 + 4); refine Walk.os hfr c4 ?_; clear hfr; try walk_nrm)
 have s5 := Af w4 ⟨tb, i * 9 + 4, none⟩ (.int .i64 1)
 have o5 : ∀ y, y ≠ tb -> (w4.setCell ⟨tb, i * 9 + 4, none⟩ (.int .i64 1)).heap[y]? = w4.heap[y]? := fun y hy => Ab _ _ _ _ hy
 generalize w4.setCell ⟨tb, i * 9 + 4, none⟩ (.int .i64 1) = w5 at *
 clear c1 c4 z4 I4
 have g5 : Got M cb m tb n (upd T i { T i with sv := .slice (some ⟨g, 0, none⟩) ((T i).seen.length + 1) cap, seen := (T i).seen ++ [v] }) (upd T i { T i with q := (T i).q + 1, pc := 1, sv := .slice (some ⟨g, 0, none⟩) ((T i).seen.length + 1) cap, seen := (T i).seen ++ [v] }) w3 w5 := ⟨⟨by omega, fun y hy hn => by
  have hy' : y ≠ tb := fun e => hn (.inr (.inr (.inl e)))
  exact (o5 y hy').trans (o4 y hy')⟩, fun b hb => by
  have := Au (M := M) (cb := cb) (m := m) (tb := tb) (T := upd T i { T i with sv := .slice (some ⟨g, 0, none⟩) ((T i).seen.length + 1) cap, seen := (T i).seen ++ [v] }) (t := { T i with q := (T i).q + 1, pc := 1, sv := .slice (some ⟨g, 0, none⟩) ((T i).seen.length + 1) cap, seen := (T i).seen ++ [v] }) (s := w3.heap.size) hi (fun b hb => .inl (by rw [upd_same]; exact hb)) b
  rw [Ag] at this
  exact this hb⟩
 have c1 : w5.cell? ⟨M, 3, none⟩ = some (.slice (some ⟨tb, 0, none⟩) n tc) := I5.cT (by omega)
 have c5 : w5.cell? ⟨tb, i * 9 + 5, none⟩ = some (.int .i64 ((T i).q + 1)) := I5.tcell hi (by rw [upd_same]; rfl)
 have c8 : w5.cell? ⟨tb, i * 9 + 8, none⟩ = some (.slice (some ⟨g, 0, none⟩) ((T i).seen.length + 1) cap) := I5.tcell hi (by rw [upd_same]; rfl)
 try walk_nrm
 refine Aa z151 ?_
 refine Walk.callV (x := .bool true) (W := w5) ?_ Aj (by rfl) (by decide) rfl Try.func22 (by kernel_rfl) (by rfl) ?_
 ·walk_nrm
  exact Cz _ hg1 w5
 walk_nrm
 refine Aa z151 ?_
 exact Ar rfl rfl Try.func151 rfl (.stop fun d => ⟨_, ⟨rfl, _, I5.same fun _ _ => rfl, ⟨((g0.trans g3).trans g5).chg.at d, ((g0.trans g3).trans g5).own⟩⟩, rfl⟩)
theorem gd_last {main : Bool} {i : Nat} (hi : i < n) (k oa ob oc : Int) (v : Int) (hlv : (T i).live) (hsl : (T i).seen.length <= 65536) (hwv : (T i).seen.length < m) (hm2 : m <= 65536) (hb : ((T i).seen.length : Int) + 1 ≠ ob) (hme : (T i).seen.length + 1 ≠ m) (hg : good (T i).q) (hg1 : ¬ good ((T i).q + 1)) (hl : (T i).ans.length <= 65536) (hat : (T i).at' <= 65536) (w : World) (I : M11 a0 M cb tb tc n m ta S T w) (hn : n <= 64) (ha0 : a0 <= w.heap.size) :
  CallW Try.prog main (fun _ => none) 151 #[.pointer (some ⟨M, 0, none⟩), .int .i64 i, .agg #[.int .i64 k, .int .i64 oa, .int .i64 ob, .int .i64 oc], .int .i64 v, .int .i64 0] w (fun v' w' => v' = .tuple #[] /\ ∃ sv av oA, M11 a0 M cb tb tc n m ta S (upd T i (({ T i with q := (T i).q + 1, pc := 1, sv := sv, seen := (T i).seen ++ [v] } : R11).take.told ⟨true, 0, (T i).seen ++ [v]⟩ av oA)) w' /\ Got M cb m tb n T (upd T i (({ T i with q := (T i).q + 1, pc := 1, sv := sv, seen := (T i).seen ++ [v] } : R11).take.told ⟨true, 0, (T i).seen ++ [v]⟩ av oA)) w w') := by
 intro kf cs
 have hi0 : (0 : Int) <= i := by omega
 have hi1 : decide ((i : Int) < n) = true := by simp; omega
 have hi3 : decide (i < n) = true := by simp; omega
 have hi4 : (i : Int) < n := by omega
 have ll3 := I.lt.2.2 (by omega)
 rw [enter_at _ Try.func151 code151_is]
 simp only [Try.ntmps151, ez, Nat.reduceAdd, Nat.reduceSub]
 refine Aa z151 ?_
 (refine Walk.oa ?_; try walk_nrm)
 have s0 : (w.alloc (.cells #[.int .i64 k, .int .i64 oa, .int .i64 ob, .int .i64 oc] 49)).heap.size = w.heap.size + 1 := by simp
 have o0 : ∀ x, x < w.heap.size -> (w.alloc (.cells #[.int .i64 k, .int .i64 oa, .int .i64 ob, .int .i64 oc] 49)).heap[x]? = w.heap[x]? := fun x hx => Ad _ _ hx
 have d0 := heap_alloc_new w (.cells #[.int .i64 k, .int .i64 oa, .int .i64 ob, .int .i64 oc] 49)
 have I0 := I.same o0
 generalize hT : w.heap.size = Zs at *
 generalize hw0 : (w.alloc (.cells #[.int .i64 k, .int .i64 oa, .int .i64 ob, .int .i64 oc] 49)) = w0 at *
 have b2 := (Ac d0 2).trans rfl
 have g0 : Got M cb m tb n T T w w0 := ⟨⟨by omega, fun x hx hn => o0 x (by omega)⟩, fun _ h => .inl h⟩
 have hz0 : Zs + 1 <= w0.heap.size /\ w0.heap.size <= Zs + 1 := by omega
 have hwZ : ∀ g, (T i).sv.ownBlock = some g -> g < Zs := fun g hg => by have := (((I.rows i hi).rS hlv).lt g hg).2; omega
 clear s0 hw0 I
 have ke : ((0 : Int) != 0) = false := by decide
 obtain ⟨bb1, bb2, bb3, bb4⟩ := I0.base
 obtain ⟨bb5, bb6, bb7⟩ := bb4 (by omega)
 obtain ⟨ll1, ll2, ll3'⟩ := I0.lt
 have ll3' := ll3' (by omega)
 have R0 := I0.rows i hi
 have c1 : w0.cell? ⟨M, 3, none⟩ = some (.slice (some ⟨tb, 0, none⟩) n tc) := I0.cT (by omega)
 have c2 : w0.cell? ⟨tb, i * 9 + 8, none⟩ = some (T i).sv := I0.tcell hi rfl
 have hsz1 : w0.heap.size + 1 <= (w0.alloc (Dv v)).heap.size /\ (w0.alloc (Dv v)).heap.size <= w0.heap.size + 1 := by simp
 have hO1 : ∀ y, y < w0.heap.size -> (w0.alloc (Dv v)).heap[y]? = w0.heap[y]? := fun y hy => Ad _ _ hy
 have hown' : (w0.alloc (Dv v)).ownsRow a0 2 1 (T i).sv (T i).seen.length (Bb (T i).seen) := Ao (R0.rS hlv) fun g hg => hO1 g ((R0.rS hlv).lt g hg).2
 have hnews : ∀ (j : Nat) (u : Value), ([.int .i64 v] : List Value)[j]? = some u -> (w0.alloc (Dv v)).cell? ((⟨w0.heap.size, 0, none⟩ : Addr).add j) = some u := fun j u hu => by
  rw [Bm, Nat.zero_add]
  refine (Ac (heap_alloc_new _ _) j).trans ?_
  simpa using hu
 have hnM : ∀ g, (T i).sv.ownBlock = some g -> g ≠ M /\ ¬ cI m cb g /\ g ≠ tb := fun g hg => by
  obtain ⟨e1, e2, e3, _⟩ := I0.far i hi g (.inr ⟨hlv, hg⟩)
  exact ⟨e1, e2, e3⟩
 have hfar : ∀ (y : Nat) (w2 : World), y < w0.heap.size -> (∀ g, (T i).sv.ownBlock = some g -> g ≠ y) -> (w0.alloc (Dv v)).grownBy w2 (T i).sv.ownBlock -> w2.heap[y]? = w0.heap[y]? := fun y w2 hy hne hg => (hg.block y (by omega) (fun e => hne y e.symm rfl)).trans (hO1 y hy)
 have hnZ : ∀ g, (T i).sv.ownBlock = some g -> g ≠ Zs := fun g hg e => by have := ((((I0.rows i hi)).rS hlv).lt g hg).2; have h3 := (hwZ g hg); omega
 refine Aa z151 ?_
 refine Du (iA := 14) (iB := 15) (w1 := w0.alloc (Dv v)) (vA := .slice (some ⟨w0.heap.size, 0, none⟩) 1 1) (Z := fun y => y.cell? ⟨M, 3, none⟩ = some (.slice (some ⟨tb, 0, none⟩) n tc) /\ y.cell? ⟨tb, i * 9 + 8, none⟩ = some (T i).sv)
  (fun v' w2 => ∃ g cap, v' = .slice (some ⟨g, 0, none⟩) ((T i).seen.length + 1) cap /\ AppI a0 w0 v (T i).sv (T i).seen g cap w2) (by kernel_rfl) size151_4 (by kernel_rfl) (by kernel_rfl) (by kernel_rfl) (by kernel_rfl) (by decide) Aj Aj ⟨c1, c2⟩ ⟨Ai _ _ c1, Ai _ _ c2⟩ ?_ ?_
 ·rintro v' w2 ⟨g, cap, _, hA⟩
  exact ⟨(World.cell?_of_block (a := ⟨M, 3, none⟩) (hfar M w2 (by omega) (fun g hg => (hnM g hg).1) hA.grown)).trans c1, (World.cell?_of_block (a := ⟨tb, i * 9 + 8, none⟩) (hfar tb w2 (by omega) (fun g hg => (hnM g hg).2.2) hA.grown)).trans c2⟩
 rw [show List.filter (Bw 14 15) (List.range 18) = [0, 1, 2, 3, 4, 5, 6, 7, 8, 9, 10, 11, 12, 13, 16, 17] from by decide]
 repeat (first | (refine Gw Aj (by rfl) (fun wz hz dd e he => ?_) ?_; (· (obtain ⟨z1, z2⟩ := hz; simp [go_sem, *] at he; try (subst he; exact Cb _ _))); apply Exists.intro; apply And.intro; (· (intro wz hz dd K hK; obtain ⟨z1, z2⟩ := hz; go_simp; exact hK))) | (refine Al Aj (by rfl) ?_; walk_nrm))
 refine Cm.done ⟨?_, ?_, ?_⟩
 ·intro y hev rest hr'
  have e0 : y.eval (.tmp 45) = .int .i64 v := (hev (.tmp 45) (by simp [Op.operands])).trans rfl
  have e1 : y.tmps[45]?.getD undef = .int .i64 v := by
   rw [<- Array.getD_eq_getD_getElem?]
   exact e0
  clear e0 hev
  (refine Walk.oa ?_; try walk_nrm)
  exact hr' _ _ ⟨rfl, _, rfl⟩
 ·intro y hev rest hr'
  have e1 : y.eval (.tmp 44) = (T i).sv := (hev (.tmp 44) (by simp [Op.operands, Call.operands])).trans rfl
  have e2 : y.eval (.tmp 46) = .slice (some ⟨w0.heap.size, 0, none⟩) 1 1 := (hev (.tmp 46) (by simp [Op.operands, Call.operands])).trans rfl
  have hiA := Option.some_get (show (Try.prog.info? 2).isSome = true by kernel_rfl)
  refine Walk.append (.tmp 44) (.tmp 46) 22 Aj (by rfl) (by decide) rfl a0 2 _ (.int .i64 0) 1 8 (by kernel_rfl) hiA.symm (by rfl) (by rfl) (by rfl) (by rfl) (by decide) (T i).sv (T i).seen.length (Bb (T i).seen) e1 hown' ⟨w0.heap.size, 0, none⟩ 1 1 [.int .i64 v] e2 (by rfl) hnews (by simp [Value.oneCell']) (by decide) (by simp [maxLen]; omega) (by omega) (by omega) (fun g _ => Nx g) (fun g cap w3 hown hg hat hlt => ?_)
  exact hr' _ _ ⟨_, w3, ⟨g, cap, rfl, hown, hg, hat, hlt⟩, rfl, w3.drawn, rfl⟩
 rintro v' w2 ⟨g, cap, rfl, hA⟩ rest hr'
 have hb2 : w2.heap[tb]? = w0.heap[tb]? := hfar tb w2 (by omega) (fun g hg => (hnM g hg).2.2) hA.grown
 have hbZ : w2.heap[Zs]? = w0.heap[Zs]? := hfar Zs w2 (by omega) hnZ hA.grown
 have h12 : w2.cell? ⟨tb, i * 9 + 8, none⟩ = some (T i).sv := (World.cell?_of_block (a := ⟨tb, i * 9 + 8, none⟩) hb2).trans c2
 have z12 : w2.frozen? ⟨tb, i * 9 + 8, none⟩ = false := by
  obtain ⟨_, arr, h1, _⟩ := I0.ts (by omega)
  exact Aq (hb2.trans h1) _
 have hgs := hA.grown.size
 have hlen : ((T i).seen ++ [v]).length = (T i).seen.length + 1 := by simp
 have hgo : ∀ b, ({ T i with sv := .slice (some ⟨g, 0, none⟩) ((T i).seen.length + 1) cap, seen := (T i).seen ++ [v] } : R11).own b -> (T i).own b ∨ w0.heap.size <= b := fun b hb => by
  rcases hb with hb | ⟨_, hb⟩
  ·exact .inl (.inl hb)
  ·simp only [Value.ownBlock, Option.some.injEq] at hb
   subst hb
   rcases hA.hat with h | h
   ·exact .inl (.inr ⟨hlv, h⟩)
   ·exact .inr (by omega)
 have I3 : M11 a0 M cb tb tc n m ta S (upd T i { T i with sv := .slice (some ⟨g, 0, none⟩) ((T i).seen.length + 1) cap, seen := (T i).seen ++ [v] }) (w2.setCell ⟨tb, i * 9 + 8, none⟩ (.slice (some ⟨g, 0, none⟩) ((T i).seen.length + 1) cap)) := by
  refine I0.put' hi rfl (by decide) w2 (fun b hb hn => hfar b w2 hb (fun g hg e => hn (.inr ⟨hlv, by rw [<- e]; exact hg⟩)) hA.grown) ⟨?_, ?_, fun _ => ?_, fun _ b hb hob => ?_, fun b hob => ?_⟩ hgo
  ·exact R0.rO.same fun b hb hw => hfar b w2 hw (fun g hg e => by have := ((R0.rS hlv).lt g hg).1; omega) hA.grown
  ·exact R0.rA.same fun b hb => hfar b w2 (R0.lo b hb).2 (fun g hg e => R0.ne hlv g hg (by rw [e]; exact hb)) hA.grown
  ·show w2.ownsRow a0 _ 1 _ ((T i).seen ++ [v]).length (Bb ((T i).seen ++ [v]))
   rw [hlen, Fq]
   exact hA.own
  ·have hlt := (R0.lo b hob).2
   simp only [Value.ownBlock, Option.some.injEq] at hb
   subst hb
   rcases hA.hat with h | h
   ·exact R0.ne hlv _ h hob
   ·omega
  ·have := R0.lo b hob
   exact ⟨this.1, by omega⟩
 have g3 : Got M cb m tb n T (upd T i { T i with sv := .slice (some ⟨g, 0, none⟩) ((T i).seen.length + 1) cap, seen := (T i).seen ++ [v] }) w0 (w2.setCell ⟨tb, i * 9 + 8, none⟩ (.slice (some ⟨g, 0, none⟩) ((T i).seen.length + 1) cap)) := by
  refine ⟨⟨by rw [Af]; omega, fun y hy hn => ?_⟩, fun b hb => Au hi hgo b hb⟩
  rw [Ab _ _ _ _ (fun e => hn (.inr (.inr (.inl e)))), hfar y w2 (by omega) (fun g hg e => hn (.inr (.inr (.inr ⟨i, hi, .inr ⟨hlv, by rw [<- e]; exact hg⟩⟩)))) hA.grown]
 have hs3 := Af w2 ⟨tb, i * 9 + 8, none⟩ (.slice (some ⟨g, 0, none⟩) ((T i).seen.length + 1) cap)
 have d3 : (w2.setCell ⟨tb, i * 9 + 8, none⟩ (.slice (some ⟨g, 0, none⟩) ((T i).seen.length + 1) cap)).heap[Zs]? = some (.cells #[.int .i64 k, .int .i64 oa, .int .i64 ob, .int .i64 oc] 49) := (Ab _ _ _ _ (show Zs ≠ tb by omega)).trans (hbZ.trans d0)
 (have hfr := Dq tb (i * 9 + 8); refine Walk.os hfr h12 ?_; clear hfr; try walk_nrm)
 refine hr' _ _ ?_
 generalize w2.setCell ⟨tb, i * 9 + 8, none⟩ (.slice (some ⟨g, 0, none⟩) ((T i).seen.length + 1) cap) = w3 at *
 have hz3 : a0 <= w3.heap.size := by omega
 have hzz : w0.heap.size <= w3.heap.size := by omega
 have b2 := (Ac d3 2).trans rfl
 have c1 : w3.cell? ⟨M, 3, none⟩ = some (.slice (some ⟨tb, 0, none⟩) n tc) := I3.cT (by omega)
 have c8 : w3.cell? ⟨tb, i * 9 + 8, none⟩ = some (.slice (some ⟨g, 0, none⟩) ((T i).seen.length + 1) cap) := I3.tcell hi (by rw [upd_same]; rfl)
 have cz := I3.cZ
 clear hA hgo h12 z12 hb2 hbZ hfar hown' hnews hnM hO1 c2 R0 I0 hnZ hwZ hsz1 hgs hs3 d3 d0 o0
 have kb : (((T i).seen.length : Int) + 1 == ob) = false := by simpa using hb
 have km : (((T i).seen.length : Int) + 1 == (m : Int)) = false := by simp; omega
 have km2 : ((T i).seen.length + 1 == m) = false := by simpa using hme
 clear hb
 have hqw : IntKind.wrap .i64 ((T i).q + 1) = (T i).q + 1 := by rw [IntKind.wrap_i64]; have := hg.1; have := hg.2; omega
 have c5 : w3.cell? ⟨tb, i * 9 + 5, none⟩ = some (.int .i64 (T i).q) := I3.tcell hi (by rw [upd_same]; rfl)
 have z5 := I3.tfrz hi (i * 9 + 5)
 have I4 := I3.put hi (j := 5) (v := .int .i64 ((T i).q + 1)) (t := { T i with q := (T i).q + 1, sv := .slice (some ⟨g, 0, none⟩) ((T i).seen.length + 1) cap, seen := (T i).seen ++ [v] }) (by rw [upd_same]; rfl) (by decide) (by rw [upd_same]; exact ⟨rfl, rfl, rfl, rfl, rfl, rfl, rfl, rfl⟩)
 rw [Ag] at I4
 clear I3
 try walk_nrm
 refine Aa z151 ?_
 (refine Ay (by kernel_rfl) size151_8 (by kernel_rfl) (by kernel_rfl) (by kernel_rfl) (by decide) ?_; simp only [List.range, List.range.loop]; repeat (first | (refine Cm.oq ?_) | (refine Al Aj (by rfl) ?_; walk_nrm)))
 refine Cm.done ?_
 intro rest2 hr2
 (have hfr := Dq tb (i * 9 + 5); refine Walk.os hfr c5 ?_; clear hfr; try walk_nrm)
 refine hr2 _ _ ?_
 have s4 := Af w3 ⟨tb, i * 9 + 5, none⟩ (.int .i64 ((T i).q + 1))
 have o4 : ∀ y, y ≠ tb -> (w3.setCell ⟨tb, i * 9 + 5, none⟩ (.int .i64 ((T i).q + 1))).heap[y]? = w3.heap[y]? := fun y hy => Ab _ _ _ _ hy
 generalize w3.setCell ⟨tb, i * 9 + 5, none⟩ (.int .i64 ((T i).q + 1)) = w4 at *
 clear c1 c8 cz c5 z5 b2
 have c1 : w4.cell? ⟨M, 3, none⟩ = some (.slice (some ⟨tb, 0, none⟩) n tc) := I4.cT (by omega)
 have c4 : w4.cell? ⟨tb, i * 9 + 4, none⟩ = some (.int .i64 (T i).pc) := I4.tcell hi (by rw [upd_same]; rfl)
 have z4 := I4.tfrz hi (i * 9 + 4)
 have I5 := I4.put hi (j := 4) (v := .int .i64 1) (t := { T i with q := (T i).q + 1, pc := 1, sv := .slice (some ⟨g, 0, none⟩) ((T i).seen.length + 1) cap, seen := (T i).seen ++ [v] }) (by rw [upd_same]; rfl) (by decide) (by rw [upd_same]; exact ⟨rfl, rfl, rfl, rfl, rfl, rfl, rfl, rfl⟩)
 rw [Ag] at I5
 try walk_nrm
 refine Aa z151 ?_
 (have hfr := Dq tb (i * 9 + 4); refine Walk.os hfr c4 ?_; clear hfr; try walk_nrm)
 have s5 := Af w4 ⟨tb, i * 9 + 4, none⟩ (.int .i64 1)
 have o5 : ∀ y, y ≠ tb -> (w4.setCell ⟨tb, i * 9 + 4, none⟩ (.int .i64 1)).heap[y]? = w4.heap[y]? := fun y hy => Ab _ _ _ _ hy
 generalize w4.setCell ⟨tb, i * 9 + 4, none⟩ (.int .i64 1) = w5 at *
 clear c1 c4 z4 I4
 have g5 : Got M cb m tb n (upd T i { T i with sv := .slice (some ⟨g, 0, none⟩) ((T i).seen.length + 1) cap, seen := (T i).seen ++ [v] }) (upd T i { T i with q := (T i).q + 1, pc := 1, sv := .slice (some ⟨g, 0, none⟩) ((T i).seen.length + 1) cap, seen := (T i).seen ++ [v] }) w3 w5 := ⟨⟨by omega, fun y hy hn => by
  have hy' : y ≠ tb := fun e => hn (.inr (.inr (.inl e)))
  exact (o5 y hy').trans (o4 y hy')⟩, fun b hb => by
  have := Au (M := M) (cb := cb) (m := m) (tb := tb) (T := upd T i { T i with sv := .slice (some ⟨g, 0, none⟩) ((T i).seen.length + 1) cap, seen := (T i).seen ++ [v] }) (t := { T i with q := (T i).q + 1, pc := 1, sv := .slice (some ⟨g, 0, none⟩) ((T i).seen.length + 1) cap, seen := (T i).seen ++ [v] }) (s := w3.heap.size) hi (fun b hb => .inl (by rw [upd_same]; exact hb)) b
  rw [Ag] at this
  exact this hb⟩
 have c1 : w5.cell? ⟨M, 3, none⟩ = some (.slice (some ⟨tb, 0, none⟩) n tc) := I5.cT (by omega)
 have c5 : w5.cell? ⟨tb, i * 9 + 5, none⟩ = some (.int .i64 ((T i).q + 1)) := I5.tcell hi (by rw [upd_same]; rfl)
 have c8 : w5.cell? ⟨tb, i * 9 + 8, none⟩ = some (.slice (some ⟨g, 0, none⟩) ((T i).seen.length + 1) cap) := I5.tcell hi (by rw [upd_same]; rfl)
 try walk_nrm
 refine Aa z151 ?_
 have Rt := (I5.rows i hi).taken (by rw [upd_same]; exact hlv) (by rw [upd_same]; show ((T i).seen ++ [v]).length <= _; rw [hlen]; omega)
 have ht := I5.take hi (by rw [upd_same]; exact hlv)
 have gt := Got.take (M := M) (cb := cb) (m := m) (tb := tb) (w := w5) (T := upd T i { T i with q := (T i).q + 1, pc := 1, sv := .slice (some ⟨g, 0, none⟩) ((T i).seen.length + 1) cap, seen := (T i).seen ++ [v] }) hi (by rw [upd_same]; exact hlv)
 rw [upd_same] at Rt ht gt
 rw [Ag] at ht gt
 have he := Dk (main := main) hi ⟨true, 0, (T i).seen ++ [v]⟩ (.slice (some ⟨g, 0, none⟩) ((T i).seen.length + 1) cap) w5 (by rw [upd_same]; exact Rt) ht hn (by omega) (by rw [upd_same]; exact hl) (by rw [upd_same]; exact hat)
 simp only [upd_same, Ag] at he
 simp only [Cu, hlen] at he
 refine Walk.callV (x := .bool false) (W := w5) ?_ Aj (by rfl) (by decide) rfl Try.func22 (by kernel_rfl) (by rfl) ?_
 ·walk_nrm
  exact Ey _ hg1 w5
 walk_nrm
 try walk_nrm
 refine Aa z151 ?_
 refine Ah (Post := fun vv w' => vv = .tuple #[] /\ ∃ av oA, M11 a0 M cb tb tc n m ta S (upd T i ((({ T i with q := (T i).q + 1, pc := 1, sv := .slice (some ⟨g, 0, none⟩) ((T i).seen.length + 1) cap, seen := (T i).seen ++ [v] } : R11).take).told ⟨true, 0, (T i).seen ++ [v]⟩ av oA)) w' /\ Got M cb m tb n (upd T i ({ T i with q := (T i).q + 1, pc := 1, sv := .slice (some ⟨g, 0, none⟩) ((T i).seen.length + 1) cap, seen := (T i).seen ++ [v] } : R11).take) (upd T i ((({ T i with q := (T i).q + 1, pc := 1, sv := .slice (some ⟨g, 0, none⟩) ((T i).seen.length + 1) cap, seen := (T i).seen ++ [v] } : R11).take).told ⟨true, 0, (T i).seen ++ [v]⟩ av oA)) w5 w') ?_ Aj (by rfl) (by decide) rfl Try.func149 (by kernel_rfl) (by rfl) ?_
 ·walk_nrm
  exact he
 rintro vv w9 ⟨rfl, av, oA, I9, g9⟩
 walk_nrm
 refine Aa z151 ?_
 exact Ar rfl rfl Try.func151 rfl (.stop fun d => ⟨_, ⟨rfl, _, av, oA, I9.same fun _ _ => rfl, ⟨((((g0.trans g3).trans g5).trans gt).trans g9).chg.at d, ((((g0.trans g3).trans g5).trans gt).trans g9).own⟩⟩, rfl⟩)
end
end
end Go.Proofs.Ytcdcnmphjhfbpaa
