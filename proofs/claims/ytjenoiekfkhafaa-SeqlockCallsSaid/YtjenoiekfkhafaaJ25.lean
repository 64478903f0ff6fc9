/- Part 25. -/
import Derived.Test.YtjenoiekfkhafaaJ24
set_option linter.unusedSimpArgs false
set_option linter.unusedVariables false
set_option linter.unusedVariables false
set_option maxHeartbeats 8000000
set_option maxRecDepth 100000
namespace Go.Proofs.Ytjenoiekfkhafaa
open Go.Conc Go.RowKit Go.Relay
open Go.ConcN (upd upd_ne upd_same)
section
section
variable {a0 M cg cc tb tc n m : Nat} {ta : Option Addr} {Sx : Sq} {T : Nat -> R8} {main : Bool}
theorem stp8_1 {i p S : Nat} (oa ob oc : Int) (w : World) (P : World -> Prop) (hP : ∀ w d, P w -> P (w.at d)) (hop : w.heap[S]? = some (.cells #[.int .i64 1, .int .i64 oa, .int .i64 ob, .int .i64 oc] 47))
  (hc : CallW Try.prog main (fun _ => none) 71 #[.pointer (some ⟨M, 0, none⟩), .int .i64 i, .agg #[.int .i64 1, .int .i64 oa, .int .i64 ob, .int .i64 oc], .int .i64 p] w (fun v w' => v = .tuple #[] /\ P w')) (u : Nat -> Value) (fr : Frame) (cs : List Frame) :
  Walk Try.prog main (DR (fun _ => none)) (fun g w' => g = G (fr.finish (.tuple #[])) cs /\ P w') (G (hdSt8 M i S p m 1 u) (fr :: cs)) w := by
 obtain ⟨fsO, huO⟩ := Cf 47 (by kernel_rfl)
 conv => arg 5; unfold hdSt8
 refine Aa z53 ?_
 repeat (first | (refine Walk.oq ?_; try walk_nrm) | (refine Ax ?_; walk_nrm))
 refine Walk.loadS 47 (.tmp 4) Ao (by rfl) (by decide) rfl S 0 [.int .i64 1, .int .i64 oa, .int .i64 ob, .int .i64 oc] (.struct fsO) rfl (fun j v hj => ?_) huO rfl (by kernel_rfl) ?_
 ·rw [Nat.zero_add, Ad hop]
  simpa using hj
 clear hop huO
 walk_nrm
 repeat (first | (refine Walk.oq ?_; try walk_nrm) | (refine Ax ?_; walk_nrm))
 refine Ah (Post := fun v w' => v = .tuple #[] /\ P w') ?_ Ao (by rfl) (by decide) rfl Try.func71 (by kernel_rfl) (by rfl) ?_
 ·walk_nrm
  exact hc
 rintro v w3 ⟨rfl, hP3⟩
 walk_nrm
 refine Aa z53 ?_
 exact Av rfl rfl Try.func53 rfl (.stop fun d => ⟨rfl, hP _ d hP3⟩)
theorem stp8_2 {i p S : Nat} (oa ob oc : Int) (w : World) (P : World -> Prop) (hP : ∀ w d, P w -> P (w.at d)) (hop : w.heap[S]? = some (.cells #[.int .i64 2, .int .i64 oa, .int .i64 ob, .int .i64 oc] 47))
  (hc : CallW Try.prog main (fun _ => none) 71 #[.pointer (some ⟨M, 0, none⟩), .int .i64 i, .agg #[.int .i64 2, .int .i64 oa, .int .i64 ob, .int .i64 oc], .int .i64 p] w (fun v w' => v = .tuple #[] /\ P w')) (u : Nat -> Value) (fr : Frame) (cs : List Frame) :
  Walk Try.prog main (DR (fun _ => none)) (fun g w' => g = G (fr.finish (.tuple #[])) cs /\ P w') (G (hdSt8 M i S p m 2 u) (fr :: cs)) w := by
 obtain ⟨fsO, huO⟩ := Cf 47 (by kernel_rfl)
 conv => arg 5; unfold hdSt8
 refine Aa z53 ?_
 repeat (first | (refine Walk.oq ?_; try walk_nrm) | (refine Ax ?_; walk_nrm))
 refine Walk.loadS 47 (.tmp 4) Ao (by rfl) (by decide) rfl S 0 [.int .i64 2, .int .i64 oa, .int .i64 ob, .int .i64 oc] (.struct fsO) rfl (fun j v hj => ?_) huO rfl (by kernel_rfl) ?_
 ·rw [Nat.zero_add, Ad hop]
  simpa using hj
 clear hop huO
 walk_nrm
 repeat (first | (refine Walk.oq ?_; try walk_nrm) | (refine Ax ?_; walk_nrm))
 refine Ah (Post := fun v w' => v = .tuple #[] /\ P w') ?_ Ao (by rfl) (by decide) rfl Try.func71 (by kernel_rfl) (by rfl) ?_
 ·walk_nrm
  exact hc
 rintro v w3 ⟨rfl, hP3⟩
 walk_nrm
 refine Aa z53 ?_
 exact Av rfl rfl Try.func53 rfl (.stop fun d => ⟨rfl, hP _ d hP3⟩)
theorem stp8_3 {i p S : Nat} (w : World) (P : World -> Prop) (hP : ∀ w d, P w -> P (w.at d))
  (hc : CallW Try.prog main (fun _ => none) 72 #[.pointer (some ⟨M, 0, none⟩), .int .i64 i, .int .i64 p] w (fun v w' => v = .tuple #[] /\ P w')) (u : Nat -> Value) (fr : Frame) (cs : List Frame) :
  Walk Try.prog main (DR (fun _ => none)) (fun g w' => g = G (fr.finish (.tuple #[])) cs /\ P w') (G (hdSt8 M i S p m 3 u) (fr :: cs)) w := by
 conv => arg 5; unfold hdSt8
 refine Aa z53 ?_
 repeat (first | (refine Walk.oq ?_; try walk_nrm) | (refine Ax ?_; walk_nrm))
 refine Ah (Post := fun v w' => v = .tuple #[] /\ P w') ?_ Ao (by rfl) (by decide) rfl Try.func72 (by kernel_rfl) (by rfl) ?_
 ·walk_nrm
  exact hc
 rintro v w3 ⟨rfl, hP3⟩
 walk_nrm
 refine Aa z53 ?_
 exact Av rfl rfl Try.func53 rfl (.stop fun d => ⟨rfl, hP _ d hP3⟩)
theorem stp8_5 {i p S : Nat} (hi : i < n) (oa ob oc : Int) (w : World) (I : M8 a0 M cg cc tb tc n m ta Sx T w) (hn : n <= 64) (ha0 : a0 <= w.heap.size) (hl : (T i).ans.length <= 65536) (hat : (T i).at' <= 65536) (hop : w.heap[S]? = some (.cells #[.int .i64 5, .int .i64 oa, .int .i64 ob, .int .i64 oc] 47)) (u : Nat -> Value) (fr : Frame) (cs : List Frame) :
  Walk Try.prog main (DR (fun _ => none)) (fun g w' => g = G (fr.finish (.tuple #[])) cs /\ ∃ av oA, M8 a0 M cg cc tb tc n m ta Sx (upd T i ((T i).told ⟨decide (oa < Sx.v), Sx.v, []⟩ av oA)) w' /\ Got M cg tb n T (upd T i ((T i).told ⟨decide (oa < Sx.v), Sx.v, []⟩ av oA)) w w') (G (hdSt8 M i S p m 5 u) (fr :: cs)) w := by
 have he := Om (main := main) hi ⟨decide (oa < Sx.v), Sx.v, []⟩ (.slice none 0 0) w (LsAt.nil _ _ _) I hn ha0 hl hat
 simp only [Bw] at he
 have c0 : w.cell? ⟨M, 0, none⟩ = some (.int .i64 Sx.v) := I.cV
 have c1 : w.cell? ⟨S, 1, none⟩ = some (.int .i64 oa) := (Ad hop 1).trans rfl
 generalize Sx.v = vv at *
 clear hop I
 conv => arg 5; unfold hdSt8
 refine Aa z53 ?_
 (refine Ci (by kernel_rfl) size53_15 (by kernel_rfl) (by kernel_rfl) (by kernel_rfl) (by decide) ?_; simp only [List.range, List.range.loop]; repeat (first | (refine Cm.oq ?_) | (refine Bm Ao (by rfl) ?_; walk_nrm)))
 refine Cm.done ?_
 intro rest hr
 refine Ah (Post := fun v w' => v = .tuple #[] /\ ∃ av oA, M8 a0 M cg cc tb tc n m ta Sx (upd T i ((T i).told ⟨decide (oa < vv), vv, []⟩ av oA)) w' /\ Got M cg tb n T (upd T i ((T i).told ⟨decide (oa < vv), vv, []⟩ av oA)) w w') ?_ Ao (by rfl) (by decide) rfl Try.func73 (by kernel_rfl) (by rfl) ?_
 ·walk_nrm
  exact he
 rintro v w3 ⟨rfl, av, oA, I3, g3⟩
 refine hr _ _ ?_
 walk_nrm
 refine Aa z53 ?_
 exact Av rfl rfl Try.func53 rfl (.stop fun d => ⟨rfl, av, oA, I3.same fun _ _ => rfl, ⟨g3.chg.at d, g3.own⟩⟩)
end
end
section
noncomputable def hdSt8b (M i S p m : Nat) (u : Nat -> Value) : Frame :=
 (base 53).at { tmps := #[.pointer (some ⟨M, 0, none⟩), .int .i64 i, u 2, u 3, .pointer (some ⟨S, 0, none⟩), .int .i64 p, .int .i64 m, u 7, u 8, u 9, u 10, u 11, u 12, u 13, u 14, u 15, u 16, u 17, u 18, u 19, u 20, u 21, u 22, u 23, u 24, u 25, u 26, u 27, u 28, u 29, u 30, u 31, u 32, u 33, u 34, u 35, u 36, u 37, u 38, u 39, u 40, u 41, u 42, u 43, u 44, u 45, u 46, u 47, u 48, u 49, u 50, u 51, u 52, u 53, u 54, u 55, u 56, u 57, u 58, u 59, u 60, u 61, u 62, u 63, u 64, u 65, u 66, u 67, u 68, u 69, u 70, u 71, u 72, u 73, u 74, u 75, u 76, u 77, u 78, u 79, u 80, u 81, u 82, u 83, u 84, u 85, u 86, u 87, u 88, u 89, u 90, u 91, u 92, u 93, u 94, u 95, u 96, u 97, u 98, u 99, u 100, u 101, u 102, u 103, u 104, u 105, u 106, u 107, u 108, u 109, u 110, u 111, u 112, u 113, u 114, u 115, u 116, u 117, u 118, u 119, u 120, u 121], defers := [] } [.code (.region 12 reg53_12 false), .code (.cond (.tmp 92 ) (.region 13 reg53_13 false) (.skip)), .inBlock 0]
section
variable {a0 M cg cc tb tc n m : Nat} {ta : Option Addr} {Sx : Sq} {T : Nat -> R8} {main : Bool}
theorem stp8_4a {i S : Nat} (hi : i < n) (p j : Nat) (hj : j < m) (hp2 : p <= j + 1) (hp3 : j + 1 <= p) (hm : m <= 64) (hlv : (T i).live) (hl : (T i).seen.length <= 65536) (w0 : World) (I0 : M8 a0 M cg cc tb tc n m ta Sx T w0) (hn : n <= 64) (ha0 : a0 <= w0.heap.size) (u : Nat -> Value) (cs : List Frame) :
  Walk Try.prog main (DR (fun _ => none)) (fun g w' => (∃ u, g = G (hdSt8b M i S p m u) cs) /\ ∃ sv, M8 a0 M cg cc tb tc n m ta Sx (upd T i { T i with sv := sv, seen := (T i).seen ++ [Sx.w j] }) w' /\ Got M cg tb n T (upd T i { T i with sv := sv, seen := (T i).seen ++ [Sx.w j] }) w0 w') (G (hdSt8 M i S p m 4 u) cs) w0 := by
 have q8 : IntKind.i64.wrap ((p : Int) - 1) = (j : Int) := by rw [IntKind.wrap_i64]; omega
 have j0 : (0 : Int) <= j := by omega
 have j1 : decide ((j : Int) < m) = true := by simp; omega
 have j3 : decide (j < m) = true := by simp; omega
 have j4 : (j : Int) < m := by omega
 clear hp2 hp3
 have hi0 : (0 : Int) <= i := by omega
 have hi1 : decide ((i : Int) < n) = true := by simp; omega
 have hi3 : decide (i < n) = true := by simp; omega
 have hi4 : (i : Int) < n := by omega
 obtain ⟨bb1, bb2, bb3, bb4⟩ := I0.base
 obtain ⟨bb5, bb6, bb7⟩ := bb4 (by omega)
 obtain ⟨ll1, ll2, ll3⟩ := I0.lt
 have ll3 := ll3 (by omega)
 have R0 := I0.rows i hi
 have c1 : w0.cell? ⟨M, 2, none⟩ = some (.slice (some ⟨tb, 0, none⟩) n tc) := I0.cT (by omega)
 have c2 : w0.cell? ⟨tb, i * 8 + 7, none⟩ = some (T i).sv := I0.tcell hi rfl
 have c3 : w0.cell? ⟨M, 1, none⟩ = some (.slice (some ⟨cg, 0, none⟩) m cc) := I0.cC
 have c4 := I0.ccell hj
 obtain ⟨carr, hc1, hc2⟩ := I0.cs
 generalize hx : Sx.w j = x at *
 have hsz1 : w0.heap.size + 1 <= (w0.alloc (Ja x)).heap.size /\ (w0.alloc (Ja x)).heap.size <= w0.heap.size + 1 := by simp
 have hO1 : ∀ y, y < w0.heap.size -> (w0.alloc (Ja x)).heap[y]? = w0.heap[y]? := fun y hy => Ab _ _ hy
 have hown' : (w0.alloc (Ja x)).ownsRow a0 2 1 (T i).sv (T i).seen.length (Bp (T i).seen) := Aw (R0.rS hlv) fun g hg => hO1 g ((R0.rS hlv).lt g hg).2
 have hnews : ∀ (j : Nat) (u : Value), ([.int .i64 x] : List Value)[j]? = some u -> (w0.alloc (Ja x)).cell? ((⟨w0.heap.size, 0, none⟩ : Addr).add j) = some u := fun j u hu => by
  rw [Bj, Nat.zero_add]
  refine (Ad (heap_alloc_new _ _) j).trans ?_
  simpa using hu
 have hnM : ∀ g, (T i).sv.ownBlock = some g -> g ≠ M /\ g ≠ cg /\ g ≠ tb := fun g hg => by
  obtain ⟨e1, e2, e3, _⟩ := I0.far i hi g (.inr ⟨hlv, hg⟩)
  exact ⟨e1, e2, e3⟩
 have hfar : ∀ (y : Nat) (w2 : World), y < w0.heap.size -> (∀ g, (T i).sv.ownBlock = some g -> g ≠ y) -> (w0.alloc (Ja x)).grownBy w2 (T i).sv.ownBlock -> w2.heap[y]? = w0.heap[y]? := fun y w2 hy hne hg => (hg.block y (by omega) (fun e => hne y e.symm rfl)).trans (hO1 y hy)
 conv => arg 5; unfold hdSt8
 refine Aa z53 ?_
 refine Fe (iA := 21) (iB := 22) (w1 := w0.alloc (Ja x)) (vA := .slice (some ⟨w0.heap.size, 0, none⟩) 1 1) (Z := fun y => y.cell? ⟨M, 2, none⟩ = some (.slice (some ⟨tb, 0, none⟩) n tc) /\ y.cell? ⟨tb, i * 8 + 7, none⟩ = some (T i).sv /\ y.cell? ⟨M, 1, none⟩ = some (.slice (some ⟨cg, 0, none⟩) m cc) /\ y.cell? ⟨cg, j, none⟩ = some (.int .i64 x))
  (fun v w2 => ∃ g cap, v = .slice (some ⟨g, 0, none⟩) ((T i).seen.length + 1) cap /\ AppI a0 w0 x (T i).sv (T i).seen g cap w2) (by kernel_rfl) size53_11 (by kernel_rfl) (by kernel_rfl) (by kernel_rfl) (by kernel_rfl) (by decide) Ao Ao ⟨c1, c2, c3, c4⟩ ⟨Ag _ _ c1, Ag _ _ c2, Ag _ _ c3, Ag _ _ c4⟩ ?_ ?_
 ·rintro v w2 ⟨g, cap, _, hA⟩
  exact ⟨(World.cell?_of_block (a := ⟨M, 2, none⟩) (hfar M w2 (by omega) (fun g hg => (hnM g hg).1) hA.grown)).trans c1, (World.cell?_of_block (a := ⟨tb, i * 8 + 7, none⟩) (hfar tb w2 (by omega) (fun g hg => (hnM g hg).2.2) hA.grown)).trans c2, (World.cell?_of_block (a := ⟨M, 1, none⟩) (hfar M w2 (by omega) (fun g hg => (hnM g hg).1) hA.grown)).trans c3, (World.cell?_of_block (a := ⟨cg, j, none⟩) (hfar cg w2 (by omega) (fun g hg => (hnM g hg).2.1) hA.grown)).trans c4⟩
 rw [show List.filter (Cg 21 22) (List.range 25) = [0, 1, 2, 3, 4, 5, 6, 7, 8, 9, 10, 11, 12, 13, 14, 15, 16, 17, 18, 19, 20, 23, 24] from by decide]
 repeat (first | (refine Ix Ao (by rfl) (fun wz hz dd e he => ?_) ?_; (· (obtain ⟨z1, z2, z3, z4⟩ := hz; simp [go_sem, *] at he; try (subst he; exact Cc _ _))); apply Exists.intro; apply And.intro; (· (intro wz hz dd K hK; obtain ⟨z1, z2, z3, z4⟩ := hz; go_simp; exact hK))) | (refine Bm Ao (by rfl) ?_; walk_nrm))
 refine Cm.done ⟨?_, ?_, ?_⟩
 ·intro y hev rest hr'
  have e0 : y.eval (.tmp 85) = .int .i64 x := (hev (.tmp 85) (by simp [Op.operands])).trans rfl
  have e1 : y.tmps[85]?.getD undef = .int .i64 x := by
   rw [<- Array.getD_eq_getD_getElem?]
   exact e0
  clear e0 hev
  (refine Walk.oa ?_; try walk_nrm)
  exact hr' _ _ ⟨rfl, _, rfl⟩
 ·intro y hev rest hr'
  have e1 : y.eval (.tmp 77) = (T i).sv := (hev (.tmp 77) (by simp [Op.operands, Call.operands])).trans rfl
  have e2 : y.eval (.tmp 86) = .slice (some ⟨w0.heap.size, 0, none⟩) 1 1 := (hev (.tmp 86) (by simp [Op.operands, Call.operands])).trans rfl
  have hiA := Option.some_get (show (Try.prog.info? 2).isSome = true by kernel_rfl)
  refine Walk.append (.tmp 77) (.tmp 86) 22 Ao (by rfl) (by decide) rfl a0 2 _ (.int .i64 0) 1 8 (by kernel_rfl) hiA.symm (by rfl) (by rfl) (by rfl) (by rfl) (by decide) (T i).sv (T i).seen.length (Bp (T i).seen) e1 hown' ⟨w0.heap.size, 0, none⟩ 1 1 [.int .i64 x] e2 (by rfl) hnews (by simp [Value.oneCell']) (by decide) (by simp [maxLen]; omega) (by omega) (by omega) (fun g _ => Oi g) (fun g cap w3 hown hg hat hlt => ?_)
  exact hr' _ _ ⟨_, w3, ⟨g, cap, rfl, hown, hg, hat, hlt⟩, rfl, w3.drawn, rfl⟩
 rintro v w2 ⟨g, cap, rfl, hA⟩ rest hr'
 have hb2 : w2.heap[tb]? = w0.heap[tb]? := hfar tb w2 (by omega) (fun g hg => (hnM g hg).2.2) hA.grown
 have h12 : w2.cell? ⟨tb, i * 8 + 7, none⟩ = some (T i).sv := (World.cell?_of_block (a := ⟨tb, i * 8 + 7, none⟩) hb2).trans c2
 have z12 : w2.frozen? ⟨tb, i * 8 + 7, none⟩ = false := by
  obtain ⟨_, arr, h1, _⟩ := I0.ts (by omega)
  exact An (hb2.trans h1) _
 have hgs := hA.grown.size
 have hlen : ((T i).seen ++ [x]).length = (T i).seen.length + 1 := by simp
 have hgo : ∀ b, ({ T i with sv := .slice (some ⟨g, 0, none⟩) ((T i).seen.length + 1) cap, seen := (T i).seen ++ [x] } : R8).own b -> (T i).own b ∨ w0.heap.size <= b := fun b hb => by
  rcases hb with hb | ⟨_, hb⟩
  ·exact .inl (.inl hb)
  ·simp only [Value.ownBlock, Option.some.injEq] at hb
   subst hb
   rcases hA.hat with h | h
   ·exact .inl (.inr ⟨hlv, h⟩)
   ·exact .inr (by omega)
 have I3 : M8 a0 M cg cc tb tc n m ta Sx (upd T i { T i with sv := .slice (some ⟨g, 0, none⟩) ((T i).seen.length + 1) cap, seen := (T i).seen ++ [x] }) (w2.setCell ⟨tb, i * 8 + 7, none⟩ (.slice (some ⟨g, 0, none⟩) ((T i).seen.length + 1) cap)) := by
  refine I0.put' hi rfl (by decide) w2 (fun b hb hn => hfar b w2 hb (fun g hg e => hn (.inr ⟨hlv, by rw [<- e]; exact hg⟩)) hA.grown) ⟨?_, ?_, fun _ => ?_, fun _ b hb hob => ?_, fun b hob => ?_⟩ hgo
  ·exact R0.rO.same fun b hb hw => hfar b w2 hw (fun g hg e => by have := ((R0.rS hlv).lt g hg).1; omega) hA.grown
  ·exact R0.rA.same fun b hb => hfar b w2 (R0.lo b hb).2 (fun g hg e => R0.ne hlv g hg (by rw [e]; exact hb)) hA.grown
  ·show w2.ownsRow a0 _ 1 _ ((T i).seen ++ [x]).length (Bp ((T i).seen ++ [x]))
   rw [hlen, Ia]
   exact hA.own
  ·have hlt := (R0.lo b hob).2
   simp only [Value.ownBlock, Option.some.injEq] at hb
   subst hb
   rcases hA.hat with h | h
   ·exact R0.ne hlv _ h hob
   ·omega
  ·have := R0.lo b hob
   exact ⟨this.1, by omega⟩
 have hC3 : Got M cg tb n T (upd T i { T i with sv := .slice (some ⟨g, 0, none⟩) ((T i).seen.length + 1) cap, seen := (T i).seen ++ [x] }) w0 (w2.setCell ⟨tb, i * 8 + 7, none⟩ (.slice (some ⟨g, 0, none⟩) ((T i).seen.length + 1) cap)) := by
  refine ⟨⟨by rw [Ai]; omega, fun y hy hn => ?_⟩, fun b hb => De hi hgo b hb⟩
  rw [Ac _ _ _ _ (fun e => hn (.inr (.inr (.inl e)))), hfar y w2 (by omega) (fun g hg e => hn (.inr (.inr (.inr ⟨i, hi, .inr ⟨hlv, by rw [<- e]; exact hg⟩⟩)))) hA.grown]
 (have hfr := Jr tb (i * 8 + 7); refine Walk.os hfr h12 ?_; clear hfr; try walk_nrm)
 refine hr' _ _ ?_
 generalize w2.setCell ⟨tb, i * 8 + 7, none⟩ (.slice (some ⟨g, 0, none⟩) ((T i).seen.length + 1) cap) = w3 at *
 generalize hav : Value.slice (some ⟨g, 0, none⟩) ((T i).seen.length + 1) cap = sv at *
 clear hA hgo h12 z12 hb2 hfar hown' hnews hnM hO1 c1 c2 c3 c4 R0 I0 hc1 hc2
 try walk_nrm
 repeat (refine Walk.c rfl ?_)
 refine .stop fun d => ⟨Am ?_, sv, I3.same fun _ _ => rfl, ⟨hC3.chg.at d, hC3.own⟩⟩
 simp only [hdSt8b]
 rfl
theorem stp8_4b {i S p : Nat} (hp : p ≠ m) (w : World) (u : Nat -> Value) (fr : Frame) (cs : List Frame) :
  Walk Try.prog main (DR (fun _ => none)) (fun g w' => g = G (fr.finish (.tuple #[])) cs /\ ∃ d, w' = w.at d) (G (hdSt8b M i S p m u) (fr :: cs)) w := by
 have q1 : ((p : Int) == (m : Int)) = false := by simp; omega
 have q2 : ¬ p = m := by omega
 conv => arg 5; unfold hdSt8b
 refine Aa z53 ?_
 exact Av rfl rfl Try.func53 rfl (.stop fun d => ⟨rfl, d, rfl⟩)
theorem stp8_4c {i S : Nat} (hi : i < n) (w0 : World) (I0 : M8 a0 M cg cc tb tc n m ta Sx T w0) (hlv : (T i).live) (hsl : (T i).seen.length <= 1048576) (hl : (T i).ans.length <= 65536) (hat : (T i).at' <= 65536) (hn : n <= 64) (ha0 : a0 <= w0.heap.size) (u : Nat -> Value) (fr : Frame) (cs : List Frame) :
  Walk Try.prog main (DR (fun _ => none)) (fun g w' => g = G (fr.finish (.tuple #[])) cs /\ ∃ av oA, M8 a0 M cg cc tb tc n m ta Sx (upd T i ((T i).take.told ⟨true, 0, (T i).seen⟩ av oA)) w' /\ Got M cg tb n T (upd T i ((T i).take.told ⟨true, 0, (T i).seen⟩ av oA)) w0 w') (G (hdSt8b M i S m m u) (fr :: cs)) w0 := by
 have hi0 : (0 : Int) <= i := by omega
 have hi1 : decide ((i : Int) < n) = true := by simp; omega
 have hi3 : decide (i < n) = true := by simp; omega
 have hi4 : (i : Int) < n := by omega
 have ll1 := I0.lt.1
 have ll3 := I0.lt.2.2 (by omega)
 have lb := I0.base
 have c1 : w0.cell? ⟨M, 2, none⟩ = some (.slice (some ⟨tb, 0, none⟩) n tc) := I0.cT (by omega)
 have c4 : w0.cell? ⟨tb, i * 8 + 7, none⟩ = some (T i).sv := I0.tcell hi rfl
 have Rt := (I0.rows i hi).taken hlv hsl
 have he := Om (main := main) hi ⟨true, 0, (T i).seen⟩ (T i).sv w0 (by rw [upd_same]; exact Rt) (I0.take hi hlv) hn (by omega) (by rw [upd_same]; exact hl) (by rw [upd_same]; exact hat)
 simp only [upd_same, Bc] at he
 simp only [Bw] at he
 have gt := Got.take (M := M) (cg := cg) (tb := tb) (w := w0) hi hlv
 obtain ⟨sa, sc, hsv, _⟩ := Rt
 rw [hsv] at c4 he
 clear hsv
 conv => arg 5; unfold hdSt8b
 refine Aa z53 ?_
 repeat (first | (refine Walk.oq ?_; try walk_nrm) | (refine Ax ?_; walk_nrm))
 refine Ah (Post := fun v w' => v = .tuple #[] /\ ∃ av oA, M8 a0 M cg cc tb tc n m ta Sx (upd T i ((T i).take.told ⟨true, 0, (T i).seen⟩ av oA)) w' /\ Got M cg tb n (upd T i (T i).take) (upd T i ((T i).take.told ⟨true, 0, (T i).seen⟩ av oA)) w0 w') ?_ Ao (by rfl) (by decide) rfl Try.func73 (by kernel_rfl) (by rfl) ?_
 ·walk_nrm
  exact he
 rintro v w2 ⟨rfl, av, oA, I2, g2⟩
 walk_nrm
 refine Aa z53 ?_
 exact Av rfl rfl Try.func53 rfl (.stop fun d => ⟨rfl, av, oA, I2.same fun _ _ => rfl, ⟨(gt.trans g2).chg.at d, (gt.trans g2).own⟩⟩)
end
end
section
def St8 (m : Nat) (o : OpV) (t : R8) : QD -> Prop
 | .w1 a tr xs => o.k = (if a then 2 else 1) /\ xs = Ar o /\ t.pc = 1 /\ t.tr = (tr : Int) /\ 1 <= tr /\ tr <= 1024
 | .w2 a tr xs v => o.k = (if a then 2 else 1) /\ xs = Ar o /\ t.pc = 2 /\ t.tr = (tr : Int) /\ 1 <= tr /\ tr <= 1024 /\ t.vn = v
 | .w3 a xs v i => o.k = (if a then 2 else 1) /\ xs = Ar o /\ i < m /\ t.pc = ((i + 3 : Nat) : Int) /\ t.vn = v
 | .w4 v => (o.k = 1 ∨ o.k = 2) /\ t.pc = ((m + 3 : Nat) : Int) /\ t.vn = v
 | .r1 tr => o.k = 3 /\ t.pc = 1 /\ t.tr = (tr : Int) /\ 1 <= tr /\ tr <= 1024 /\ t.live /\ t.seen = []
 | .r2 tr v i l => o.k = 3 /\ i < m /\ t.pc = ((i + 2 : Nat) : Int) /\ t.tr = (tr : Int) /\ 1 <= tr /\ tr <= 1024 /\ t.vn = v /\ t.live /\ t.seen = l /\ l.length = i
 | .r3 tr v l => o.k = 3 /\ t.pc = ((m + 2 : Nat) : Int) /\ t.tr = (tr : Int) /\ 1 <= tr /\ tr <= 1024 /\ t.vn = v /\ t.live /\ t.seen = l /\ l.length = m
 | .q i l => o.k = 4 /\ i < m /\ t.pc = ((i + 1 : Nat) : Int) /\ t.live /\ t.seen = l /\ l.length = i
 | .n1 a => o.k = 5 /\ a = o.a /\ t.pc = 1
structure Af8 (m : Nat) (o : OpV) (r : Ans ⊕ QD) (t t' : R8) : Prop where
 ov : t'.ov = t.ov
 ops : t'.ops = t.ops
 who : t'.who = t.who
 how : (∃ a, r = .inl a /\ t'.ans = t.ans ++ [a] /\ t'.at' = t.at' + 1 /\ t'.pc = 0) ∨ (∃ d, r = .inr d /\ t'.ans = t.ans /\ t'.at' = t.at' /\ St8 m o t' d)
theorem Af8.failW {m : Nat} {o : OpV} {t t1 t' : R8} {tr : Nat} {a : Bool} (hk : o.k = (if a then 2 else 1)) (h2 : tr <= 1024) (e1 : t1.ov = t.ov /\ t1.ops = t.ops /\ t1.who = t.who /\ t1.ans = t.ans /\ t1.at' = t.at') (h : Ij t1 tr t') : Af8 m o (Dk tr (.w1 a · (Ar o))) t t' := by
 obtain ⟨f1, f2, f3, f4, f5⟩ := e1
 rcases h with ⟨h, rfl⟩ | ⟨h, av, oA, rfl⟩
 ·exact ⟨f1, f2, f3, .inr ⟨_, if_neg (by omega), f4, f5, hk, rfl, rfl, rfl, by omega, by omega⟩⟩
 ·exact ⟨f1, f2, f3, .inl ⟨_, if_pos (by omega), by show t1.ans ++ [Fw] = _; rw [f4], by show t1.at' + 1 = _; rw [f5], rfl⟩⟩
theorem Af8.failR {m : Nat} {o : OpV} {t t1 t' : R8} {tr : Nat} (hk : o.k = 3) (h2 : tr <= 1024) (e1 : t1.ov = t.ov /\ t1.ops = t.ops /\ t1.who = t.who /\ t1.ans = t.ans /\ t1.at' = t.at') (h : Ij t1 tr t') : Af8 m o (Dk tr .r1) t t' := by
 obtain ⟨f1, f2, f3, f4, f5⟩ := e1
 rcases h with ⟨h, rfl⟩ | ⟨h, av, oA, rfl⟩
 ·exact ⟨f1, f2, f3, .inr ⟨_, if_neg (by omega), f4, f5, hk, rfl, rfl, by omega, by omega, trivial, rfl⟩⟩
 ·exact ⟨f1, f2, f3, .inl ⟨_, if_pos (by omega), by show t1.ans ++ [Fw] = _; rw [f4], by show t1.at' + 1 = _; rw [f5], rfl⟩⟩
section
variable {a0 M cg cc tb tc n m : Nat} {ta : Option Addr} {T : Nat -> R8} {main : Bool}
def CallQ (main : Bool) (a0 M cg cc tb tc n m : Nat) (ta : Option Addr) (T : Nat -> R8) (Q : Sq -> R8 -> Prop) (i F : Nat) (args : Array Value) (w : World) : Prop :=
 CallW Try.prog main (fun _ => none) F args w (fun v w' => v = .tuple #[] /\ ∃ S' t', Q S' t' /\ M8 a0 M cg cc tb tc n m ta S' (upd T i t') w' /\ Got M cg tb n T (upd T i t') w w')
def Step8 (main : Bool) (a0 M cg cc tb tc n m : Nat) (ta : Option Addr) (T : Nat -> R8) (i : Nat) (s : Sq) (d : QD) (o : OpV) (w : World) : Prop :=
 CallW Try.prog main (fun _ => none) 53 #[.pointer (some ⟨M, 0, none⟩), .int .i64 i] w (fun v w' => v = .tuple #[] /\ ∃ t', M8 a0 M cg cc tb tc n m ta (Bo (m - 1) s d).1 (upd T i t') w' /\ Got M cg tb n T (upd T i t') w w' /\ Af8 m o (Bo (m - 1) s d).2 (T i) t')
structure QAf (m : Nat) (o : OpV) (s : Sq) (d : QD) (t : R8) (S' : Sq) (t' : R8) : Prop where
 st : S' = (Bo (m - 1) s d).1
 af : Af8 m o (Bo (m - 1) s d).2 t t'
theorem Step8.of {i : Nat} {s : Sq} {d : QD} {o : OpV} {w : World} (h : CallQ main a0 M cg cc tb tc n m ta T (QAf m o s d (T i)) i 53 #[.pointer (some ⟨M, 0, none⟩), .int .i64 i] w) : Step8 main a0 M cg cc tb tc n m ta T i s d o w := by
 intro c cs
 refine (h c cs).mono ?_
 rintro g w' ⟨v, ⟨rfl, S', t', ⟨rfl, hA⟩, I, G⟩, hg⟩
 exact ⟨_, ⟨rfl, t', I, G, hA⟩, hg⟩
theorem CallQ.same {Q : Sq -> R8 -> Prop} {i F : Nat} {args : Array Value} {w : World} {S' : Sq} (hQ : Q S' (T i)) (h : CallW Try.prog main (fun _ => none) F args w (fun v w' => v = .tuple #[] /\ M8 a0 M cg cc tb tc n m ta S' T w' /\ Got M cg tb n T T w w')) : CallQ main a0 M cg cc tb tc n m ta T Q i F args w := by
 intro c cs
 refine (h c cs).mono ?_
 rintro g w' ⟨v, ⟨rfl, I, G⟩, hg⟩
 have e : upd T i (T i) = T := by
  funext k
  by_cases h : k = i
  ·subst h; rw [upd_same]
  ·rw [upd_ne _ _ h]
 exact ⟨_, ⟨rfl, S', T i, hQ, by rw [e]; exact I, by rw [e]; exact G⟩, hg⟩
theorem CallQ.one {Q : Sq -> R8 -> Prop} {i F : Nat} {args : Array Value} {w : World} {S' : Sq} {t' : R8} (hQ : Q S' t') (h : CallW Try.prog main (fun _ => none) F args w (fun v w' => v = .tuple #[] /\ M8 a0 M cg cc tb tc n m ta S' (upd T i t') w' /\ Got M cg tb n T (upd T i t') w w')) : CallQ main a0 M cg cc tb tc n m ta T Q i F args w := by
 intro c cs
 refine (h c cs).mono ?_
 rintro g w' ⟨v, ⟨rfl, I, G⟩, hg⟩
 exact ⟨_, ⟨rfl, S', t', hQ, I, G⟩, hg⟩
theorem CallQ.some {Q : Sq -> R8 -> Prop} {i F : Nat} {args : Array Value} {w : World} {S' : Sq} {P : R8 -> Prop} (hQ : ∀ t', P t' -> Q S' t') (h : CallW Try.prog main (fun _ => none) F args w (fun v w' => v = .tuple #[] /\ ∃ t', P t' /\ M8 a0 M cg cc tb tc n m ta S' (upd T i t') w' /\ Got M cg tb n T (upd T i t') w w')) : CallQ main a0 M cg cc tb tc n m ta T Q i F args w := by
 intro c cs
 refine (h c cs).mono ?_
 rintro g w' ⟨v, ⟨rfl, t', hP, I, G⟩, hg⟩
 exact ⟨_, ⟨rfl, S', t', hQ t' hP, I, G⟩, hg⟩
theorem CallQ.told {Q : Sq -> R8 -> Prop} {i F : Nat} {args : Array Value} {w : World} {S' : Sq} {t1 : R8} {a : Ans} (hQ : ∀ av oA, Q S' (t1.told a av oA)) (h : CallW Try.prog main (fun _ => none) F args w (fun v w' => v = .tuple #[] /\ ∃ av oA, M8 a0 M cg cc tb tc n m ta S' (upd T i (t1.told a av oA)) w' /\ Got M cg tb n T (upd T i (t1.told a av oA)) w w')) : CallQ main a0 M cg cc tb tc n m ta T Q i F args w := by
 intro c cs
 refine (h c cs).mono ?_
 rintro g w' ⟨v, ⟨rfl, av, oA, I, G⟩, hg⟩
 exact ⟨_, ⟨rfl, S', _, hQ av oA, I, G⟩, hg⟩
end
end
section
section
variable {a0 M cg cc tb tc n m : Nat} {ta : Option Addr} {s : Sq} {T : Nat -> R8} {main : Bool}
theorem CallQ.at {Q : Sq -> R8 -> Prop} {i : Nat} (w0 w : World) (d : Nat) (h : ∃ S' t', Q S' t' /\ M8 a0 M cg cc tb tc n m ta S' (upd T i t') w /\ Got M cg tb n T (upd T i t') w0 w) : ∃ S' t', Q S' t' /\ M8 a0 M cg cc tb tc n m ta S' (upd T i t') (w.at d) /\ Got M cg tb n T (upd T i t') w0 (w.at d) := by
 obtain ⟨S', t', hQ, I, G⟩ := h
 exact ⟨S', t', hQ, I.same fun _ _ => rfl, G.chg.at d, G.own⟩
theorem CallQ.up {Q : Sq -> R8 -> Prop} {i p : Nat} {F : Nat} {args : Array Value} {w w1 : World} (G : Got M cg tb n T (upd T i { T i with pc := (p : Int) + 1 }) w w1) (h : CallQ main a0 M cg cc tb tc n m ta (upd T i { T i with pc := (p : Int) + 1 }) Q i F args w1) :
  CallW Try.prog main (fun _ => none) F args w1 (fun v w' => v = .tuple #[] /\ ∃ S' t', Q S' t' /\ M8 a0 M cg cc tb tc n m ta S' (upd T i t') w' /\ Got M cg tb n T (upd T i t') w w') := by
 intro c cs
 refine (h c cs).mono ?_
 rintro g w' ⟨v, ⟨rfl, S', t', hQ, I, G2⟩, hg⟩
 rw [Bc] at I G2
 exact ⟨_, ⟨rfl, S', t', hQ, I, G.trans G2⟩, hg⟩
theorem Jw {p i : Nat} (hi : i < n) (o : OpV) (hk : o.k = 1 ∨ o.k = 2) (w : World) (I : M8 a0 M cg cc tb tc n m ta s T w) (hm : m <= 64) (hpc : (T i).pc = (p : Int)) (hp : p <= 1000) (ho : (T i).ops[(T i).at']? = some o) (hol : (T i).ops.length <= 65536) (Q : Sq -> R8 -> Prop)
  (hc : ∀ w1, w.heap.size <= w1.heap.size -> M8 a0 M cg cc tb tc n m ta s (upd T i { T i with pc := (p : Int) + 1 }) w1 -> CallQ main a0 M cg cc tb tc n m ta (upd T i { T i with pc := (p : Int) + 1 }) Q i 71 #[.pointer (some ⟨M, 0, none⟩), .int .i64 i, .agg #[.int .i64 o.k, .int .i64 o.a, .int .i64 o.b, .int .i64 o.c], .int .i64 p] w1) :
  CallQ main a0 M cg cc tb tc n m ta T Q i 53 #[.pointer (some ⟨M, 0, none⟩), .int .i64 i] w := by
 intro c cs
 refine (Hr hi o w I hm hpc hp ho hol (c :: cs)).then ?_
 rintro _ w1 ⟨⟨u, rfl⟩, X⟩
 have h := (hc w1 X.got.chg.size X.I).up X.got
 have hop := X.op
 rcases hk with k1 | k1
 ·rw [k1] at h hop ⊢
  refine (stp8_1 o.a o.b o.c w1 (fun w2 => ∃ S' t', Q S' t' /\ M8 a0 M cg cc tb tc n m ta S' (upd T i t') w2 /\ Got M cg tb n T (upd T i t') w w2) (fun w2 d h => CallQ.at w w2 d h) hop h u c cs).mono ?_
  rintro g w2 ⟨rfl, h⟩
  exact ⟨_, ⟨rfl, h⟩, rfl⟩
 ·rw [k1] at h hop ⊢
  refine (stp8_2 o.a o.b o.c w1 (fun w2 => ∃ S' t', Q S' t' /\ M8 a0 M cg cc tb tc n m ta S' (upd T i t') w2 /\ Got M cg tb n T (upd T i t') w w2) (fun w2 d h => CallQ.at w w2 d h) hop h u c cs).mono ?_
  rintro g w2 ⟨rfl, h⟩
  exact ⟨_, ⟨rfl, h⟩, rfl⟩
theorem Mq {p i : Nat} (hi : i < n) (o : OpV) (hk : o.k = 3) (w : World) (I : M8 a0 M cg cc tb tc n m ta s T w) (hm : m <= 64) (hpc : (T i).pc = (p : Int)) (hp : p <= 1000) (ho : (T i).ops[(T i).at']? = some o) (hol : (T i).ops.length <= 65536) (Q : Sq -> R8 -> Prop)
  (hc : ∀ w1, w.heap.size <= w1.heap.size -> M8 a0 M cg cc tb tc n m ta s (upd T i { T i with pc := (p : Int) + 1 }) w1 -> CallQ main a0 M cg cc tb tc n m ta (upd T i { T i with pc := (p : Int) + 1 }) Q i 72 #[.pointer (some ⟨M, 0, none⟩), .int .i64 i, .int .i64 p] w1) :
  CallQ main a0 M cg cc tb tc n m ta T Q i 53 #[.pointer (some ⟨M, 0, none⟩), .int .i64 i] w := by
 intro c cs
 refine (Hr hi o w I hm hpc hp ho hol (c :: cs)).then ?_
 rintro _ w1 ⟨⟨u, rfl⟩, X⟩
 have h := (hc w1 X.got.chg.size X.I).up X.got
 rw [hk]
 refine (stp8_3 w1 (fun w2 => ∃ S' t', Q S' t' /\ M8 a0 M cg cc tb tc n m ta S' (upd T i t') w2 /\ Got M cg tb n T (upd T i t') w w2) (fun w2 d h => CallQ.at w w2 d h) h u c cs).mono ?_
 rintro g w2 ⟨rfl, h⟩
 exact ⟨_, ⟨rfl, h⟩, rfl⟩
theorem step8_5 {p i : Nat} (hi : i < n) (o : OpV) (hk : o.k = 5) (w : World) (I : M8 a0 M cg cc tb tc n m ta s T w) (hm : m <= 64) (hpc : (T i).pc = (p : Int)) (hp : p <= 1000) (ho : (T i).ops[(T i).at']? = some o) (hol : (T i).ops.length <= 65536) (hal : (T i).ans.length <= (T i).at') (hn : n <= 64) (ha0 : a0 <= w.heap.size) :
  CallW Try.prog main (fun _ => none) 53 #[.pointer (some ⟨M, 0, none⟩), .int .i64 i] w (fun v w' => v = .tuple #[] /\ ∃ av oA, M8 a0 M cg cc tb tc n m ta s (upd T i (({ T i with pc := (p : Int) + 1 } : R8).told ⟨decide (o.a < s.v), s.v, []⟩ av oA)) w' /\ Got M cg tb n T (upd T i (({ T i with pc := (p : Int) + 1 } : R8).told ⟨decide (o.a < s.v), s.v, []⟩ av oA)) w w') := by
 intro c cs
 have hlt := (List.getElem?_eq_some_iff.1 ho).1
 refine (Hr hi o w I hm hpc hp ho hol (c :: cs)).then ?_
 rintro _ w1 ⟨⟨u, rfl⟩, X⟩
 have hop := X.op
 have hs := X.got.chg.size
 rw [hk] at hop ⊢
 refine (stp8_5 hi o.a o.b o.c w1 X.I hn (by omega) (by rw [upd_same]; show (T i).ans.length <= _; omega) (by rw [upd_same]; show (T i).at' <= _; omega) hop u c cs).mono ?_
 rintro g w2 ⟨rfl, av, oA, I2, g2⟩
 rw [upd_same, Bc] at I2 g2
 exact ⟨_, ⟨rfl, av, oA, I2, X.got.trans g2⟩, rfl⟩
theorem step8_4 {j i : Nat} (hi : i < n) (o : OpV) (hk : o.k = 4) (hj : j < m) (hjm : j + 1 ≠ m) (w : World) (I : M8 a0 M cg cc tb tc n m ta s T w) (hm : m <= 64) (hpc : (T i).pc = ((j + 1 : Nat) : Int)) (ho : (T i).ops[(T i).at']? = some o) (hol : (T i).ops.length <= 65536) (hlv : (T i).live) (hsn : (T i).seen.length <= 65536) (hn : n <= 64) (ha0 : a0 <= w.heap.size) :
  CallW Try.prog main (fun _ => none) 53 #[.pointer (some ⟨M, 0, none⟩), .int .i64 i] w (fun v w' => v = .tuple #[] /\ ∃ t', (∃ sv, t' = { T i with pc := ((j + 1 : Nat) : Int) + 1, sv := sv, seen := (T i).seen ++ [s.w j] }) /\ M8 a0 M cg cc tb tc n m ta s (upd T i t') w' /\ Got M cg tb n T (upd T i t') w w') := by
 intro c cs
 refine (Hr hi o w I hm hpc (by omega) ho hol (c :: cs)).then ?_
 rintro _ w1 ⟨⟨u, rfl⟩, X⟩
 have hs := X.got.chg.size
 rw [hk]
 refine (stp8_4a hi (j + 1) j hj (by omega) (by omega) hm (by rw [upd_same]; exact hlv) (by rw [upd_same]; exact hsn) w1 X.I hn (by omega) u (c :: cs)).then ?_
 rintro _ w2 ⟨⟨u2, rfl⟩, sv, I2, g2⟩
 rw [upd_same, Bc] at I2 g2
 refine (stp8_4b hjm w2 u2 c cs).mono ?_
 rintro g w3 ⟨rfl, d, rfl⟩
 exact ⟨_, ⟨rfl, _, ⟨sv, rfl⟩, I2.same fun _ _ => rfl, (X.got.trans g2).chg.at d, (X.got.trans g2).own⟩, rfl⟩
theorem step8_4z {j i : Nat} (hi : i < n) (o : OpV) (hk : o.k = 4) (hj : j < m) (hjm : j + 1 = m) (w : World) (I : M8 a0 M cg cc tb tc n m ta s T w) (hm : m <= 64) (hpc : (T i).pc = ((j + 1 : Nat) : Int)) (ho : (T i).ops[(T i).at']? = some o) (hol : (T i).ops.length <= 65536) (hlv : (T i).live) (hsn : (T i).seen.length <= 65535) (hal : (T i).ans.length <= (T i).at') (hn : n <= 64) (ha0 : a0 <= w.heap.size) :
  CallW Try.prog main (fun _ => none) 53 #[.pointer (some ⟨M, 0, none⟩), .int .i64 i] w (fun v w' => v = .tuple #[] /\ ∃ t', (∃ t1 av oA, t' = R8.told t1 ⟨true, 0, (T i).seen ++ [s.w j]⟩ av oA /\ t1.ov = (T i).ov /\ t1.ops = (T i).ops /\ t1.who = (T i).who /\ t1.ans = (T i).ans /\ t1.at' = (T i).at') /\ M8 a0 M cg cc tb tc n m ta s (upd T i t') w' /\ Got M cg tb n T (upd T i t') w w') := by
 intro c cs
 have hlt := (List.getElem?_eq_some_iff.1 ho).1
 refine (Hr hi o w I hm hpc (by omega) ho hol (c :: cs)).then ?_
 rintro _ w1 ⟨⟨u, rfl⟩, X⟩
 have hs := X.got.chg.size
 rw [hk]
 refine (stp8_4a hi (j + 1) j hj (by omega) (by omega) hm (by rw [upd_same]; exact hlv) (by rw [upd_same]; show (T i).seen.length <= _; omega) w1 X.I hn (by omega) u (c :: cs)).then ?_
 rintro _ w2 ⟨⟨u2, rfl⟩, sv, I2, g2⟩
 rw [upd_same, Bc] at I2 g2
 have hs2 := g2.chg.size
 have g12 := X.got.trans g2
 rw [hjm] at I2 g12 ⊢
 refine (stp8_4c hi w2 I2 (by rw [upd_same]; exact hlv) (by rw [upd_same]; show ((T i).seen ++ [s.w j]).length <= _; simp; omega) (by rw [upd_same]; show (T i).ans.length <= _; omega) (by rw [upd_same]; show (T i).at' <= _; omega) hn (by omega) u2 c cs).mono ?_
 rintro g w3 ⟨rfl, av, oA, I3, g3⟩
 rw [Bc, upd_same] at I3 g3
 exact ⟨_, ⟨rfl, _, ⟨({ T i with pc := (m : Int) + 1, sv := sv, seen := (T i).seen ++ [s.w j] } : R8).take, av, oA, rfl, rfl, rfl, rfl, rfl, rfl⟩, I3, g12.trans g3⟩, rfl⟩
theorem CallW.svs {F i : Nat} {args : Array Value} {w : World} {f : Value -> R8} (h : CallW Try.prog main (fun _ => none) F args w (fun v w' => v = .tuple #[] /\ ∃ sv, M8 a0 M cg cc tb tc n m ta s (upd T i (f sv)) w' /\ Got M cg tb n T (upd T i (f sv)) w w')) : CallW Try.prog main (fun _ => none) F args w (fun v w' => v = .tuple #[] /\ ∃ t', (∃ sv, t' = f sv) /\ M8 a0 M cg cc tb tc n m ta s (upd T i t') w' /\ Got M cg tb n T (upd T i t') w w') := by
 intro c cs
 refine (h c cs).mono ?_
 rintro g w' ⟨v, ⟨rfl, sv, I, G⟩, hg⟩
 exact ⟨_, ⟨rfl, _, ⟨sv, rfl⟩, I, G⟩, hg⟩
end
end
section
section
variable {a0 M cg cc tb tc n m : Nat} {ta : Option Addr} {T : Nat -> R8} {main : Bool}
theorem Nr {o : OpV} {a : Bool} (h : o.k = (if a then 2 else 1)) : o.k = 1 ∨ o.k = 2 := by cases a <;> simp_all
theorem step8_w1 {i : Nat} (hi : i < n) (s : Sq) (o : OpV) (a : Bool) (tr : Nat) (xs : Nat -> Int) (w : World) (I : M8 a0 M cg cc tb tc n m ta s T w) (hm0 : 0 < m) (hm : m <= 64) (hn : n <= 64) (ha0 : a0 <= w.heap.size) (ho : (T i).ops[(T i).at']? = some o) (hol : (T i).ops.length <= 65536) (hal : (T i).ans.length <= (T i).at') (hd : St8 m o (T i) (.w1 a tr xs)) : Step8 main a0 M cg cc tb tc n m ta T i s (.w1 a tr xs) o w := by
 have hlt := (List.getElem?_eq_some_iff.1 ho).1
 obtain ⟨hk, rfl, hpc, htr, h1, h2⟩ := hd
 refine Step8.of (Jw (main := main) (p := 1) hi o (Nr hk) w I hm (by rw [hpc]; rfl) (by omega) ho hol _ (fun w1 hs I1 => ?_))
 by_cases hv : Ba s.v
 ·have h := write_1o (main := main) (T := upd T i { T i with pc := ((1 : Nat) : Int) + 1 }) hi o hv tr h1 h2 (by rw [upd_same]; exact htr) (by rw [upd_same]; show (T i).ans.length <= _; omega) (by rw [upd_same]; show (T i).at' <= _; omega) w1 I1 hn (by omega)
  refine CallQ.some (fun t' hF => ⟨rfl, ?_⟩) h
  rw [upd_same] at hF
  have e : (Bo (m - 1) s (.w1 a tr (Ar o))).2 = Dk tr (.w1 a · (Ar o)) := if_pos hv
  rw [e]
  exact Af8.failW hk h2 (by exact ⟨rfl, rfl, rfl, rfl, rfl⟩) hF
 ·have h := write_1e (main := main) (T := upd T i { T i with pc := ((1 : Nat) : Int) + 1 }) hi o hv w1 I1 hn (by omega)
  refine CallQ.one ⟨rfl, ?_⟩ h
  have e : (Bo (m - 1) s (.w1 a tr (Ar o))).2 = .inr (.w2 a tr (Ar o) s.v) := if_neg hv
  rw [e, upd_same]
  exact ⟨rfl, rfl, rfl, .inr ⟨_, rfl, rfl, rfl, hk, rfl, rfl, htr, h1, h2, rfl⟩⟩
theorem step8_w2 {i : Nat} (hi : i < n) (s : Sq) (o : OpV) (a : Bool) (tr : Nat) (xs : Nat -> Int) (v : Int) (w : World) (I : M8 a0 M cg cc tb tc n m ta s T w) (hm0 : 0 < m) (hm : m <= 64) (hn : n <= 64) (ha0 : a0 <= w.heap.size) (ho : (T i).ops[(T i).at']? = some o) (hol : (T i).ops.length <= 65536) (hal : (T i).ans.length <= (T i).at') (hd : St8 m o (T i) (.w2 a tr xs v)) : Step8 main a0 M cg cc tb tc n m ta T i s (.w2 a tr xs v) o w := by
 have hlt := (List.getElem?_eq_some_iff.1 ho).1
 obtain ⟨hk, rfl, hpc, htr, h1, h2, hvn⟩ := hd
 refine Step8.of (Jw (main := main) (p := 2) hi o (Nr hk) w I hm (by rw [hpc]; rfl) (by omega) ho hol _ (fun w1 hs I1 => ?_))
 by_cases hv : s.v = v
 ·have h := write_2e (main := main) (T := upd T i { T i with pc := ((2 : Nat) : Int) + 1 }) hi o (by rw [upd_same]; show (T i).vn = s.v; rw [hvn, hv]) w1 I1 hn (by omega)
  rw [hv] at h
  have e : Bo (m - 1) s (.w2 a tr (Ar o) v) = (Cv s (IntKind.i64.wrap (v + 1)), .inr (.w3 a (Ar o) v 0)) := if_pos hv
  refine CallQ.same ⟨by rw [e], ?_⟩ h
  rw [e, upd_same]
  exact ⟨rfl, rfl, rfl, .inr ⟨_, rfl, rfl, rfl, hk, rfl, hm0, rfl, hvn⟩⟩
 ·have h := write_2n (main := main) (T := upd T i { T i with pc := ((2 : Nat) : Int) + 1 }) hi o (by rw [upd_same]; show s.v ≠ (T i).vn; rw [hvn]; exact hv) tr h1 h2 (by rw [upd_same]; exact htr) (by rw [upd_same]; show (T i).ans.length <= _; omega) (by rw [upd_same]; show (T i).at' <= _; omega) w1 I1 hn (by omega)
  have e : Bo (m - 1) s (.w2 a tr (Ar o) v) = (s, Dk tr (.w1 a · (Ar o))) := if_neg hv
  refine CallQ.some (fun t' hF => ⟨by rw [e], ?_⟩) h
  rw [upd_same] at hF
  rw [e]
  exact Af8.failW hk h2 (by exact ⟨rfl, rfl, rfl, rfl, rfl⟩) hF
theorem step8_w3 {i : Nat} (hi : i < n) (s : Sq) (o : OpV) (a : Bool) (xs : Nat -> Int) (v : Int) (j : Nat) (w : World) (I : M8 a0 M cg cc tb tc n m ta s T w) (hm0 : 0 < m) (hm : m <= 64) (hn : n <= 64) (ha0 : a0 <= w.heap.size) (ho : (T i).ops[(T i).at']? = some o) (hol : (T i).ops.length <= 65536) (hal : (T i).ans.length <= (T i).at') (hd : St8 m o (T i) (.w3 a xs v j)) : Step8 main a0 M cg cc tb tc n m ta T i s (.w3 a xs v j) o w := by
 have hlt := (List.getElem?_eq_some_iff.1 ho).1
 obtain ⟨hk, rfl, hj0, hpc, hvn⟩ := hd
 refine Step8.of (Jw (main := main) (p := j + 3) hi o (Nr hk) w I hm hpc (by omega) ho hol _ (fun w1 hs I1 => ?_))
 cases a with
 | false =>
  have h := write_3w (main := main) (T := upd T i { T i with pc := ((j + 3 : Nat) : Int) + 1 }) hi o (by rw [hk]; decide) (j + 3) j (by omega) hj0 (by omega) (by omega) hm w1 I1 hn (by omega)
  refine CallQ.same ⟨rfl, ?_⟩ h
  rw [upd_same]
  refine ⟨rfl, rfl, rfl, .inr ?_⟩
  by_cases hj : j = m - 1
  ·exact ⟨.w4 v, congrArg Sum.inr (if_pos hj), rfl, rfl, Nr hk, by show ((j + 3 : Nat) : Int) + 1 = ((m + 3 : Nat) : Int); omega, hvn⟩
  ·exact ⟨.w3 false (Ar o) v (j + 1), congrArg Sum.inr (if_neg hj), rfl, rfl, hk, rfl, by omega, by show ((j + 3 : Nat) : Int) + 1 = ((j + 1 + 3 : Nat) : Int); omega, hvn⟩
 | true =>
  have h := write_3a (main := main) (T := upd T i { T i with pc := ((j + 3 : Nat) : Int) + 1 }) hi o hk (j + 3) j (by omega) hj0 (by omega) (by omega) hm w1 I1 hn (by omega)
  rw [Int.add_comm (Ar o j)] at h
  refine CallQ.same ⟨rfl, ?_⟩ h
  rw [upd_same]
  refine ⟨rfl, rfl, rfl, .inr ?_⟩
  by_cases hj : j = m - 1
  ·exact ⟨.w4 v, congrArg Sum.inr (if_pos hj), rfl, rfl, Nr hk, by show ((j + 3 : Nat) : Int) + 1 = ((m + 3 : Nat) : Int); omega, hvn⟩
  ·exact ⟨.w3 true (Ar o) v (j + 1), congrArg Sum.inr (if_neg hj), rfl, rfl, hk, rfl, by omega, by show ((j + 3 : Nat) : Int) + 1 = ((j + 1 + 3 : Nat) : Int); omega, hvn⟩
theorem step8_w4 {i : Nat} (hi : i < n) (s : Sq) (o : OpV) (v : Int) (w : World) (I : M8 a0 M cg cc tb tc n m ta s T w) (hm0 : 0 < m) (hm : m <= 64) (hn : n <= 64) (ha0 : a0 <= w.heap.size) (ho : (T i).ops[(T i).at']? = some o) (hol : (T i).ops.length <= 65536) (hal : (T i).ans.length <= (T i).at') (hd : St8 m o (T i) (.w4 v)) : Step8 main a0 M cg cc tb tc n m ta T i s (.w4 v) o w := by
 have hlt := (List.getElem?_eq_some_iff.1 ho).1
 obtain ⟨hk, hpc, hvn⟩ := hd
 refine Step8.of (Jw (main := main) (p := m + 3) hi o hk w I hm hpc (by omega) ho hol _ (fun w1 hs I1 => ?_))
 have h := write_4 (main := main) (T := upd T i { T i with pc := ((m + 3 : Nat) : Int) + 1 }) hi o (m + 3) (by omega) (by omega) (by rw [upd_same]; show (T i).ans.length <= _; omega) (by rw [upd_same]; show (T i).at' <= _; omega) w1 I1 hn (by omega)
 rw [upd_same] at h
 rw [show ({ T i with pc := ((m + 3 : Nat) : Int) + 1 } : R8).vn = v from hvn] at h
 exact CallQ.told (fun av oA => ⟨rfl, rfl, rfl, rfl, .inl ⟨_, rfl, rfl, rfl, rfl⟩⟩) h
theorem step8_r1 {i : Nat} (hi : i < n) (s : Sq) (o : OpV) (tr : Nat) (w : World) (I : M8 a0 M cg cc tb tc n m ta s T w) (hm0 : 0 < m) (hm : m <= 64) (hn : n <= 64) (ha0 : a0 <= w.heap.size) (ho : (T i).ops[(T i).at']? = some o) (hol : (T i).ops.length <= 65536) (hal : (T i).ans.length <= (T i).at') (hd : St8 m o (T i) (.r1 tr)) : Step8 main a0 M cg cc tb tc n m ta T i s (.r1 tr) o w := by
 have hlt := (List.getElem?_eq_some_iff.1 ho).1
 obtain ⟨hk, hpc, htr, h1, h2, hlv, hsn⟩ := hd
 refine Step8.of (Mq (main := main) (p := 1) hi o hk w I hm (by rw [hpc]; rfl) (by omega) ho hol _ (fun w1 hs I1 => ?_))
 by_cases hv : Ba s.v
 ·have h := read_1o (main := main) (T := upd T i { T i with pc := ((1 : Nat) : Int) + 1 }) hi hv tr h1 h2 (by rw [upd_same]; exact htr) (by rw [upd_same]; show (T i).ans.length <= _; omega) (by rw [upd_same]; show (T i).at' <= _; omega) w1 I1 hn (by omega)
  refine CallQ.some (fun t' hF => ⟨rfl, ?_⟩) h
  rw [upd_same] at hF
  have e : (Bo (m - 1) s (.r1 tr)).2 = Dk tr .r1 := if_pos hv
  rw [e]
  exact Af8.failR hk h2 (by exact ⟨rfl, rfl, rfl, rfl, rfl⟩) hF
 ·have h := read_1e (main := main) (T := upd T i { T i with pc := ((1 : Nat) : Int) + 1 }) hi hv w1 I1 hn (by omega)
  refine CallQ.one ⟨rfl, ?_⟩ h
  have e : (Bo (m - 1) s (.r1 tr)).2 = .inr (.r2 tr s.v 0 []) := if_neg hv
  rw [e, upd_same]
  exact ⟨rfl, rfl, rfl, .inr ⟨_, rfl, rfl, rfl, hk, hm0, rfl, htr, h1, h2, rfl, hlv, hsn, rfl⟩⟩
theorem step8_r2 {i : Nat} (hi : i < n) (s : Sq) (o : OpV) (tr : Nat) (v : Int) (j : Nat) (l : List Int) (w : World) (I : M8 a0 M cg cc tb tc n m ta s T w) (hm0 : 0 < m) (hm : m <= 64) (hn : n <= 64) (ha0 : a0 <= w.heap.size) (ho : (T i).ops[(T i).at']? = some o) (hol : (T i).ops.length <= 65536) (hal : (T i).ans.length <= (T i).at') (hd : St8 m o (T i) (.r2 tr v j l)) : Step8 main a0 M cg cc tb tc n m ta T i s (.r2 tr v j l) o w := by
 have hlt := (List.getElem?_eq_some_iff.1 ho).1
 obtain ⟨hk, hj0, hpc, htr, h1, h2, hvn, hlv, hsn, hll⟩ := hd
 refine Step8.of (Mq (main := main) (p := j + 2) hi o hk w I hm hpc (by omega) ho hol _ (fun w1 hs I1 => ?_))
 have h := read_2 (main := main) (T := upd T i { T i with pc := ((j + 2 : Nat) : Int) + 1 }) hi (j + 2) j (by omega) hj0 (by omega) (by omega) hm (by rw [upd_same]; exact hlv) (by rw [upd_same]; show (T i).seen.length <= _; rw [hsn]; omega) w1 I1 hn (by omega)
 refine CallQ.some (fun t' hF => ⟨rfl, ?_⟩) (CallW.svs h)
 obtain ⟨sv, rfl⟩ := hF
 rw [upd_same]
 refine ⟨rfl, rfl, rfl, .inr ?_⟩
 by_cases hj : j = m - 1
 ·exact ⟨.r3 tr v (l ++ [s.w j]), congrArg Sum.inr (if_pos hj), rfl, rfl, hk, by show ((j + 2 : Nat) : Int) + 1 = ((m + 2 : Nat) : Int); omega, htr, h1, h2, hvn, hlv, by show (T i).seen ++ [s.w j] = _; rw [hsn], by simp [hll]; omega⟩
 ·exact ⟨.r2 tr v (j + 1) (l ++ [s.w j]), congrArg Sum.inr (if_neg hj), rfl, rfl, hk, by omega, by show ((j + 2 : Nat) : Int) + 1 = ((j + 1 + 2 : Nat) : Int); omega, htr, h1, h2, hvn, hlv, by show (T i).seen ++ [s.w j] = _; rw [hsn], by simp [hll]⟩
theorem step8_r3 {i : Nat} (hi : i < n) (s : Sq) (o : OpV) (tr : Nat) (v : Int) (l : List Int) (w : World) (I : M8 a0 M cg cc tb tc n m ta s T w) (hm0 : 0 < m) (hm : m <= 64) (hn : n <= 64) (ha0 : a0 <= w.heap.size) (ho : (T i).ops[(T i).at']? = some o) (hol : (T i).ops.length <= 65536) (hal : (T i).ans.length <= (T i).at') (hd : St8 m o (T i) (.r3 tr v l)) : Step8 main a0 M cg cc tb tc n m ta T i s (.r3 tr v l) o w := by
 have hlt := (List.getElem?_eq_some_iff.1 ho).1
 obtain ⟨hk, hpc, htr, h1, h2, hvn, hlv, hsn, hll⟩ := hd
 refine Step8.of (Mq (main := main) (p := m + 2) hi o hk w I hm hpc (by omega) ho hol _ (fun w1 hs I1 => ?_))
 by_cases hv : s.v = v
 ·have h := read_3e (main := main) (T := upd T i { T i with pc := ((m + 2 : Nat) : Int) + 1 }) hi (m + 2) (by omega) (by omega) hm (by rw [upd_same]; show (T i).vn = s.v; rw [hvn, hv]) (by rw [upd_same]; exact hlv) (by rw [upd_same]; show (T i).seen.length <= _; rw [hsn]; omega) (by rw [upd_same]; show (T i).ans.length <= _; omega) (by rw [upd_same]; show (T i).at' <= _; omega) w1 I1 hn (by omega)
  rw [upd_same] at h
  rw [show ({ T i with pc := ((m + 2 : Nat) : Int) + 1 } : R8).seen = l from hsn] at h
  have e : Bo (m - 1) s (.r3 tr v l) = (s, .inl ⟨true, 0, l⟩) := congrArg (Prod.mk s) (if_pos hv)
  refine CallQ.told (fun av oA => ⟨by rw [e], ?_⟩) h
  rw [e]
  exact ⟨rfl, rfl, rfl, .inl ⟨_, rfl, rfl, rfl, rfl⟩⟩
 ·have h := read_3n (main := main) (T := upd T i { T i with pc := ((m + 2 : Nat) : Int) + 1 }) hi (m + 2) (by omega) (by omega) hm (by rw [upd_same]; show s.v ≠ (T i).vn; rw [hvn]; exact hv) tr h1 h2 (by rw [upd_same]; exact htr) (by rw [upd_same]; show (T i).ans.length <= _; omega) (by rw [upd_same]; show (T i).at' <= _; omega) w1 I1 hn (by omega)
  have e : Bo (m - 1) s (.r3 tr v l) = (s, Dk tr .r1) := congrArg (Prod.mk s) (if_neg hv)
  refine CallQ.some (fun t' hF => ⟨by rw [e], ?_⟩) h
  rw [upd_same] at hF
  rw [e]
  exact Af8.failR hk h2 (by exact ⟨rfl, rfl, rfl, rfl, rfl⟩) hF
theorem step8_q {i : Nat} (hi : i < n) (s : Sq) (o : OpV) (j : Nat) (l : List Int) (w : World) (I : M8 a0 M cg cc tb tc n m ta s T w) (hm0 : 0 < m) (hm : m <= 64) (hn : n <= 64) (ha0 : a0 <= w.heap.size) (ho : (T i).ops[(T i).at']? = some o) (hol : (T i).ops.length <= 65536) (hal : (T i).ans.length <= (T i).at') (hd : St8 m o (T i) (.q j l)) : Step8 main a0 M cg cc tb tc n m ta T i s (.q j l) o w := by
 have hlt := (List.getElem?_eq_some_iff.1 ho).1
 obtain ⟨hk, hj0, hpc, hlv, hsn, hll⟩ := hd
 refine Step8.of ?_
 by_cases hj : j = m - 1
 ·have e : Bo (m - 1) s (.q j l) = (s, .inl ⟨true, 0, l ++ [s.w j]⟩) := congrArg (Prod.mk s) (if_pos hj)
  have h := step8_4z (main := main) hi o hk hj0 (by omega) w I hm hpc ho hol hlv (by rw [hsn]; omega) hal hn ha0
  rw [hsn] at h
  refine CallQ.some (P := fun t' => ∃ t1 av oA, t' = R8.told t1 ⟨true, 0, l ++ [s.w j]⟩ av oA /\ t1.ov = (T i).ov /\ t1.ops = (T i).ops /\ t1.who = (T i).who /\ t1.ans = (T i).ans /\ t1.at' = (T i).at') (fun t' hF => ⟨by rw [e], ?_⟩) h
  obtain ⟨t1, av, oA, rfl, f1, f2, f3, f4, f5⟩ := hF
  rw [e]
  exact ⟨f1, f2, f3, .inl ⟨_, rfl, by show t1.ans ++ _ = _; rw [f4], by show t1.at' + 1 = _; rw [f5], rfl⟩⟩
 ·have e : Bo (m - 1) s (.q j l) = (s, .inr (.q (j + 1) (l ++ [s.w j]))) := congrArg (Prod.mk s) (if_neg hj)
  have h := step8_4 (main := main) hi o hk hj0 (by omega) w I hm hpc ho hol hlv (by rw [hsn]; omega) hn ha0
  refine CallQ.some (P := fun t' => ∃ sv, t' = { T i with pc := ((j + 1 : Nat) : Int) + 1, sv := sv, seen := (T i).seen ++ [s.w j] }) (fun t' hF => ⟨by rw [e], ?_⟩) h
  obtain ⟨sv, rfl⟩ := hF
  rw [e]
  exact ⟨rfl, rfl, rfl, .inr ⟨_, rfl, rfl, rfl, hk, by omega, by show ((j + 1 : Nat) : Int) + 1 = ((j + 1 + 1 : Nat) : Int); omega, hlv, by show (T i).seen ++ [s.w j] = _; rw [hsn], by simp [hll]⟩⟩
theorem step8_n1 {i : Nat} (hi : i < n) (s : Sq) (o : OpV) (a : Int) (w : World) (I : M8 a0 M cg cc tb tc n m ta s T w) (hm0 : 0 < m) (hm : m <= 64) (hn : n <= 64) (ha0 : a0 <= w.heap.size) (ho : (T i).ops[(T i).at']? = some o) (hol : (T i).ops.length <= 65536) (hal : (T i).ans.length <= (T i).at') (hd : St8 m o (T i) (.n1 a)) : Step8 main a0 M cg cc tb tc n m ta T i s (.n1 a) o w := by
 have hlt := (List.getElem?_eq_some_iff.1 ho).1
 obtain ⟨hk, rfl, hpc⟩ := hd
 refine Step8.of ?_
 have h := step8_5 (main := main) hi o hk w I hm (p := 1) (by rw [hpc]; rfl) (by omega) ho hol hal hn ha0
 exact CallQ.told (fun av oA => ⟨rfl, rfl, rfl, rfl, .inl ⟨_, rfl, rfl, rfl, rfl⟩⟩) h
theorem step8_w {i : Nat} (hi : i < n) (s : Sq) (o : OpV) (d : QD) (w : World) (I : M8 a0 M cg cc tb tc n m ta s T w) (hm0 : 0 < m) (hm : m <= 64) (hn : n <= 64) (ha0 : a0 <= w.heap.size) (ho : (T i).ops[(T i).at']? = some o) (hol : (T i).ops.length <= 65536) (hal : (T i).ans.length <= (T i).at') (hd : St8 m o (T i) d) : Step8 main a0 M cg cc tb tc n m ta T i s d o w := by
 cases d with
 | w1 a tr xs => exact step8_w1 hi s o a tr xs w I hm0 hm hn ha0 ho hol hal hd
 | w2 a tr xs v => exact step8_w2 hi s o a tr xs v w I hm0 hm hn ha0 ho hol hal hd
 | w3 a xs v j => exact step8_w3 hi s o a xs v j w I hm0 hm hn ha0 ho hol hal hd
 | w4 v => exact step8_w4 hi s o v w I hm0 hm hn ha0 ho hol hal hd
 | r1 tr => exact step8_r1 hi s o tr w I hm0 hm hn ha0 ho hol hal hd
 | r2 tr v j l => exact step8_r2 hi s o tr v j l w I hm0 hm hn ha0 ho hol hal hd
 | r3 tr v l => exact step8_r3 hi s o tr v l w I hm0 hm hn ha0 ho hol hal hd
 | q j l => exact step8_q hi s o j l w I hm0 hm hn ha0 ho hol hal hd
 | n1 a => exact step8_n1 hi s o a w I hm0 hm hn ha0 ho hol hal hd
end
end
end Go.Proofs.Ytjenoiekfkhafaa
