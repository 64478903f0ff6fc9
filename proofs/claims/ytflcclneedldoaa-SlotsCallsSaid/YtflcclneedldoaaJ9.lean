/- Part 9. -/
import Derived.Test.YtflcclneedldoaaJ3
import Derived.Test.YtflcclneedldoaaJ4
import Derived.Test.YtflcclneedldoaaJ6
import Derived.Test.YtflcclneedldoaaJ7
import Derived.Test.YtflcclneedldoaaJ8
set_option linter.unusedSimpArgs false
set_option linter.unusedVariables false
set_option maxHeartbeats 8000000
set_option maxRecDepth 100000
namespace Go.Proofs.Ytflcclneedldoaa
open Go.Conc Go.RowKit Go.Relay
open Go.ConcN (upd upd_ne upd_same)
theorem cell_inv {w : World} {b i : Nat} {v : Value} (h : w.cell? ⟨b, i, none⟩ = some v) : ∃ arr ty fr, w.heap[b]? = some (.cells arr ty fr) /\ arr[i]? = some v := by
 unfold World.cell? at h
 revert h
 cases e : w.heap[b]? with
 | none => simp
 | some o =>
  cases o with
  | cells arr ty fr => exact fun h => ⟨arr, ty, fr, rfl, by simpa using h⟩
  | _ => simp
section
variable (B sb : Nat) (sts : List (Nat × Nat × Nat))
def Dw (i : Nat) : Nat × Nat × Nat := sts.getD i (0, 0, 0)
theorem Jz {sts : List (Nat × Nat × Nat)} {i : Nat} (hi : i < sts.length) : Dw sts i = sts[i] := by
 unfold Dw
 rw [List.getD_eq_getElem?_getD, List.getElem?_eq_getElem hi, Option.getD_some]
open Classical in
noncomputable def own0 : Nat -> Option Role := fun b =>
 if b = B then some .tB else if b = sb then some .ss else
 if h : ∃ i, i < sts.length /\ b = (Dw sts i).1 + 2 then some (.p h.choose) else
 if h : ∃ i, i < sts.length /\ b = (Dw sts i).2.1 then some (.t h.choose) else
 if h : ∃ i, i < sts.length /\ b = (Dw sts i).2.2 then some (.r h.choose) else none
structure Far : Prop where
 lo : ∀ i, i < sts.length -> B < (Dw sts i).1
 tr : ∀ i, i < sts.length -> ((Dw sts i).2.1 = (Dw sts i).1 /\ (Dw sts i).2.2 = (Dw sts i).1 + 1) ∨ ((Dw sts i).2.1 = (Dw sts i).1 + 1 /\ (Dw sts i).2.2 = (Dw sts i).1)
 ap : ∀ i j, i < j -> j < sts.length -> (Dw sts i).1 + 3 <= (Dw sts j).1
 sB : B < sb
 sl : ∀ i, i < sts.length -> sb < (Dw sts i).1 ∨ (Dw sts i).1 + 3 <= sb
variable {B sb sts}
theorem Far.inj (H : Far B sb sts) {i j : Nat} (hi : i < sts.length) (hj : j < sts.length) {a b : Nat} (ha : a < 3) (hb : b < 3) (h : (Dw sts i).1 + a = (Dw sts j).1 + b) : i = j := by
 rcases Nat.lt_trichotomy i j with h' | h' | h'
 ·have := H.ap i j h' hj; omega
 ·exact h'
 ·have := H.ap j i h' hi; omega
theorem Far.inj' (H : Far B sb sts) {i j : Nat} (hi : i < sts.length) (hj : j < sts.length) {x y : Nat} (hx : (Dw sts i).1 <= x /\ x < (Dw sts i).1 + 3) (hy : (Dw sts j).1 <= y /\ y < (Dw sts j).1 + 3) (h : x = y) : i = j :=
 H.inj hi hj (a := x - (Dw sts i).1) (b := y - (Dw sts j).1) (by omega) (by omega) (by omega)
theorem Far.t (H : Far B sb sts) {i : Nat} (hi : i < sts.length) : (Dw sts i).1 <= (Dw sts i).2.1 /\ (Dw sts i).2.1 < (Dw sts i).1 + 2 /\ (Dw sts i).1 <= (Dw sts i).2.2 /\ (Dw sts i).2.2 < (Dw sts i).1 + 2 /\ (Dw sts i).2.1 ≠ (Dw sts i).2.2 := by
 rcases H.tr i hi with h | h <;> omega
theorem own0_B : own0 B sb sts B = some .tB := by unfold own0; rw [if_pos rfl]
theorem own0_s (H : Far B sb sts) : own0 B sb sts sb = some .ss := by
 have := H.sB
 unfold own0
 rw [if_neg (by omega), if_pos rfl]
theorem own0_p (H : Far B sb sts) {i : Nat} (hi : i < sts.length) : own0 B sb sts ((Dw sts i).1 + 2) = some (.p i) := by
 have h1 := H.lo i hi
 have h2 := H.sl i hi
 unfold own0
 have h : ∃ j, j < sts.length /\ (Dw sts i).1 + 2 = (Dw sts j).1 + 2 := ⟨i, hi, rfl⟩
 rw [if_neg (by omega), if_neg (by omega), dif_pos h]
 rw [<- H.inj hi h.choose_spec.1 (by omega) (by omega) h.choose_spec.2]
theorem own0_t (H : Far B sb sts) {i : Nat} (hi : i < sts.length) : own0 B sb sts (Dw sts i).2.1 = some (.t i) := by
 have h1 := H.lo i hi
 have h2 := H.sl i hi
 have ht := H.t hi
 unfold own0
 have h : ∃ j, j < sts.length /\ (Dw sts i).2.1 = (Dw sts j).2.1 := ⟨i, hi, rfl⟩
 rw [if_neg (by omega), if_neg (by omega), dif_neg ?_, dif_pos h]
 ·have htj := H.t h.choose_spec.1
  rw [<- H.inj' hi h.choose_spec.1 ⟨ht.1, by omega⟩ ⟨htj.1, by omega⟩ h.choose_spec.2]
 ·rintro ⟨j, hj, e⟩
  have := H.inj' hi hj (x := (Dw sts i).2.1) (y := (Dw sts j).1 + 2) ⟨ht.1, by omega⟩ ⟨by omega, by omega⟩ e
  subst this
  omega
theorem own0_r (H : Far B sb sts) {i : Nat} (hi : i < sts.length) : own0 B sb sts (Dw sts i).2.2 = some (.r i) := by
 have h1 := H.lo i hi
 have h2 := H.sl i hi
 have ht := H.t hi
 unfold own0
 have h : ∃ j, j < sts.length /\ (Dw sts i).2.2 = (Dw sts j).2.2 := ⟨i, hi, rfl⟩
 rw [if_neg (by omega), if_neg (by omega), dif_neg ?_, dif_neg ?_, dif_pos h]
 ·have htj := H.t h.choose_spec.1
  rw [<- H.inj' hi h.choose_spec.1 ⟨ht.2.2.1, by omega⟩ ⟨htj.2.2.1, by omega⟩ h.choose_spec.2]
 ·rintro ⟨j, hj, e⟩
  have htj := H.t hj
  have := H.inj' hi hj (x := (Dw sts i).2.2) (y := (Dw sts j).2.1) ⟨ht.2.2.1, by omega⟩ ⟨htj.1, by omega⟩ e
  subst this
  omega
 ·rintro ⟨j, hj, e⟩
  have := H.inj' hi hj (x := (Dw sts i).2.2) (y := (Dw sts j).1 + 2) ⟨ht.2.2.1, by omega⟩ ⟨by omega, by omega⟩ e
  subst this
  omega
theorem Lf {b : Nat} {x : Role} (h : own0 B sb sts b = some x) : (x = .tB /\ b = B) ∨ (x = .ss /\ b = sb) ∨ ∃ i, i < sts.length /\ ((x = .p i /\ b = (Dw sts i).1 + 2) ∨ (x = .t i /\ b = (Dw sts i).2.1) ∨ (x = .r i /\ b = (Dw sts i).2.2)) := by
 unfold own0 at h
 by_cases h1 : b = B
 ·rw [if_pos h1] at h; cases h; exact .inl ⟨rfl, h1⟩
 rw [if_neg h1] at h
 by_cases h2 : b = sb
 ·rw [if_pos h2] at h; cases h; exact .inr (.inl ⟨rfl, h2⟩)
 rw [if_neg h2] at h
 by_cases h3 : ∃ i, i < sts.length /\ b = (Dw sts i).1 + 2
 ·rw [dif_pos h3] at h; cases h; exact .inr (.inr ⟨_, h3.choose_spec.1, .inl ⟨rfl, h3.choose_spec.2⟩⟩)
 rw [dif_neg h3] at h
 by_cases h4 : ∃ i, i < sts.length /\ b = (Dw sts i).2.1
 ·rw [dif_pos h4] at h; cases h; exact .inr (.inr ⟨_, h4.choose_spec.1, .inr (.inl ⟨rfl, h4.choose_spec.2⟩)⟩)
 rw [dif_neg h4] at h
 by_cases h5 : ∃ i, i < sts.length /\ b = (Dw sts i).2.2
 ·rw [dif_pos h5] at h; cases h; exact .inr (.inr ⟨_, h5.choose_spec.1, .inr (.inr ⟨rfl, h5.choose_spec.2⟩)⟩)
 rw [dif_neg h5] at h; cases h
end
theorem going_all (n : Nat) : going n (fun _ => false) = n := by
 unfold going
 rw [List.countP_eq_length.2 (by simp), List.length_range]
structure Given where
 g0 : Nat
 n : Nat
 tb : Nat
 tcap : Nat
 most : Int
 F : Nat -> Value
 sa : Option Addr
 sc : Nat
 sl : List Int
def Hi (Q : Given) (B sb scap : Nat) (sts : List (Nat × Nat × Nat)) : Stile where
 g0 := Q.g0
 n := Q.n
 B := B
 sb := sb
 scap := scap
 tb := Q.tb
 tcap := Q.tcap
 most := min (max Q.most 0) 1048576
 p := fun i => (Dw sts i).1 + 2
 t := fun i => (Dw sts i).2.1
 r := fun i => (Dw sts i).2.2
 F := Q.F
 sa := Q.sa
 sc := Q.sc
 sl := Q.sl
noncomputable def dyn0 (n B sb : Nat) (sts : List (Nat × Nat × Nat)) : Dyn where
 k := 0
 e := fun _ => false
 f := fun _ => false
 b := fun _ => false
 N := fun _ => 0
 cs := fun _ => []
 own := own0 B sb sts
 ord := []
 oa := none
 oc := 0
 gg := n
section
variable {Q : Given} {w w0 : World} {sb scap : Nat} {sts : List (Nat × Nat × Nat)}
theorem far_of (hb : Built w0 w.heap.size (w.heap.size + 1) (.slice (some ⟨sb, 0, none⟩) Q.n scap) sts) : Far w.heap.size sb sts := by
 have hmem : ∀ i, i < sts.length -> Dw sts i ∈ sts := fun i hi => by
  rw [Jz hi]
  exact List.getElem_mem hi
 obtain ⟨h1, h2, h3⟩ := hb.list sb rfl
 refine ⟨fun i hi => ?_, fun i hi => (hb.all _ (hmem i hi)).tr, fun i j hij hj => ?_, by omega, fun i hi => h3 _ (hmem i hi)⟩
 ·have := (hb.all _ (hmem i hi)).lo; omega
 ·have hi : i < sts.length := by omega
  rw [Jz hi, Jz hj]
  exact List.pairwise_iff_getElem.1 hb.apart i j hi hj hij
theorem sys0 {V : Nat -> Option Wait} (hn : Q.n <= 64) (hg0 : 1 <= Q.g0) (hN : NT V w.heap.size (some ⟨sb, 0, none⟩) Q.n scap (w.heap.size + 1) (sts.map sp) w0) (hb : Built w0 w.heap.size (w.heap.size + 1) (.slice (some ⟨sb, 0, none⟩) Q.n scap) sts) (hl : sts.length = Q.n)
  (hR : Rest53 w.heap.size (w.heap.size + 1) (turnW w Q.n Q.most) w0) :
  Sys (Hi Q w.heap.size sb scap sts) w.heap.size (dyn0 Q.n w.heap.size sb sts) w0 /\ Keeps (fun _ => none) (own0 w.heap.size sb sts) w w0 := by
 have hF := far_of hb
 have hmem : ∀ i, i < sts.length -> Dw sts i ∈ sts := fun i hi => by
  rw [Jz hi]
  exact List.getElem_mem hi
 have hts : (turnW w Q.n Q.most).heap.size = w.heap.size + 1 := by simp [turnW]
 have hlist := hb.list sb rfl
 have hB : w.heap.size < w0.heap.size := by omega
 have hge : ∀ b x, own0 w.heap.size sb sts b = some x -> w.heap.size <= b /\ b < w0.heap.size := fun b x h => by
  rcases Lf h with ⟨_, e⟩ | ⟨_, e⟩ | ⟨i, hi, z⟩
  ·omega
  ·omega
  ·have h1 := hF.lo i hi
   have h2 := (hb.all _ (hmem i hi)).hi
   have h3 := hF.t hi
   rcases z with ⟨_, e⟩ | ⟨_, e⟩ | ⟨_, e⟩ <;> omega
 refine ⟨⟨fun b x hx => ?_, hge, fun b x hx => ?_, own0_B, own0_s hF, fun i hi => own0_p hF (hl ▸ hi), fun i hi => own0_t hF (hl ▸ hi), fun i hi => own0_r hF (hl ▸ hi), fun i hi => absurd hi (Nat.not_lt_zero _), fun b e => by simp [dyn0, Value.ownBlock] at e, World.ownsRow_nil .., hn, Nat.zero_le _, hg0⟩, by omega, fun b hb' _ => ?_⟩
 ·rcases Lf hx with ⟨rfl, rfl⟩ | ⟨rfl, rfl⟩ | ⟨i, hi, z⟩
  ·obtain ⟨arr, ty, fr, h, h0⟩ := cell_inv hN.h0
   have hc : ∀ i, i ≠ 0 -> arr[i]? = (turnW w Q.n Q.most).cell? ⟨w.heap.size, i, none⟩ := fun i hi => (Ab h i).symm.trans (hR.cell i hi).1
   have ht : ∀ i, (turnW w Q.n Q.most).cell? ⟨w.heap.size, i, none⟩ = (#[.slice none 0 0, .int .i64 Q.n, .int .i64 (min (max Q.most 0) 1048576), .slice none 0 0] : Array Value)[i]? := fun i => Ab (hAw w _) i
   refine ⟨arr, ty, fr, h, h0, (hc 1 (by omega)).trans (ht 1), (hc 2 (by omega)).trans (ht 2), (hc 3 (by omega)).trans (ht 3), fun i hi => ?_⟩
   have hz := (hR.cell i (by omega)).2
   have hz0 : (turnW w Q.n Q.most).frozen? ⟨w.heap.size, i, none⟩ = false := Av (hAw w _) i
   rw [hz0] at hz
   simpa only [World.frozen?, h] using hz
  ·rcases hN.own with ⟨_, ⟨e, _⟩ | ⟨g, cap, cur, e, _, h, _, _, _, ht⟩⟩
   ·cases e
   ·cases e
    refine ⟨_, _, _, h, fun i hi => ?_⟩
    have hi : i < Q.n := hi
    have h1 : (cur.toList.take (Q.n * 1))[i]? = cur[i]? := by rw [List.getElem?_take, if_pos (by omega)]; simp
    rw [<- h1, ht, List.getElem?_map, List.getElem?_eq_getElem (by omega)]
    simp only [Option.map_some, sp, Hi]
    rw [Jz (by omega)]
  ·have hs := hb.all _ (hmem i hi)
   rcases z with ⟨rfl, rfl⟩ | ⟨rfl, rfl⟩ | ⟨rfl, rfl⟩
   ·exact hs.cells
   ·intro _
    rcases hs.tr with ⟨h1, _⟩ | ⟨h1, _⟩
    ·exact ⟨0, h1 ▸ hs.c0⟩
    ·exact ⟨0, h1 ▸ hs.c1⟩
   ·intro _
    rcases hs.tr with ⟨_, h1⟩ | ⟨_, h1⟩
    ·exact ⟨0, h1 ▸ hs.c1⟩
    ·exact ⟨0, h1 ▸ hs.c0⟩
 ·rcases Lf hx with ⟨rfl, rfl⟩ | ⟨rfl, rfl⟩ | ⟨i, hi, z⟩
  ·rfl
  ·rfl
  ·rcases z with ⟨rfl, rfl⟩ | ⟨rfl, rfl⟩ | ⟨rfl, rfl⟩ <;> exact ⟨(by show i < Q.n; omega), rfl⟩
 ·refine ⟨?_, ?_⟩
  ·cases h : own0 w.heap.size sb sts b with
   | none => rfl
   | some x => have := (hge b x h).1; omega
  ·rw [hR.low b (by omega) (by omega)]
   exact Ad w _ hb'
end
def Runs (Post : Goroutine -> World -> Prop) (g : Goroutine) (w : World) : Prop := ∀ nG m T, 1 <= nG -> At Try.prog (fun _ => none) 0 nG g w m T ->
 Relay.Comes Try.prog (fun m' T' => ∃ nG' g' w', 1 <= nG' /\ Post g' w' /\ At Try.prog (fun _ => none) 0 nG' g' w' m' T') m T
theorem Runs.now {Post : Goroutine -> World -> Prop} {g : Goroutine} {w : World} (h : Post g w) : Runs Post g w := fun nG _ _ h1 A => .now ⟨nG, g, w, h1, h, A⟩
theorem Runs.walk {Stop Post : Goroutine -> World -> Prop} {g : Goroutine} {w : World} (h : Walk Try.prog true (DR (fun _ => none)) Stop g w) (k : ∀ g w, Stop g w -> Runs Post g w) : Runs Post g w := fun nG _ _ h1 A =>
 (At.walk (h := 0) h A).bind fun m' T' ⟨a', w', hs, A'⟩ => k a' w' hs nG m' T' h1 A'
theorem Runs.then {Post Post' : Goroutine -> World -> Prop} {g : Goroutine} {w : World} (h : Runs Post g w) (k : ∀ g w, Post g w -> Runs Post' g w) : Runs Post' g w := fun nG m T h1 A =>
 (h nG m T h1 A).bind fun m' T' ⟨nG', g', w', h1', hp, A'⟩ => k g' w' hp nG' m' T' h1' A'
def Given.at (Q : Given) (g : Nat) : Given := { Q with g0 := g }
structure Ran {X : Type} (C : ∀ S : Stile, Crew S X) (x0 : X) (Q : Given) (w : World) (v : Value) (w' : World) : Prop where
 all : ∃ (g0 sb scap : Nat) (sts : List (Nat × Nat × Nat)) (x : X) (ord : List Nat) (oa : Option Addr) (oc q k : Nat) (own : Nat -> Option Role) (cs : Nat -> List Frame),
  (x, ord) = Ja (C (Hi (Q.at g0) w.heap.size sb scap sts)) (Jc (C (Hi (Q.at g0) w.heap.size sb scap sts)) Q.n 0 x0, []) Q.sl /\
  Dn (C (Hi (Q.at g0) w.heap.size sb scap sts)) (x, ord) = true /\
  v = .tuple #[.slice oa ord.length oc, .bool (decide (0 < Ij (C (Hi (Q.at g0) w.heap.size sb scap sts)) x)), .slice (some ⟨q, 0, none⟩) Q.n Q.n] /\
  (C (Hi (Q.at g0) w.heap.size sb scap sts)).inv k own x cs w' /\
  w'.ownsRow w.heap.size 3 1 (.slice oa ord.length oc) ord.length (ord.map fun i => .int .i64 (i : Nat)) /\ (∀ b, (Value.slice oa ord.length oc).ownBlock = some b -> own b = some .ord /\ b ≠ q) /\
  own q = some .ord /\ w.heap.size <= q /\ w.heap.size <= w'.heap.size /\
  ∃ arr, w'.heap[q]? = some (.cells arr 4 (0, 0)) /\ ∀ i, i < Q.n -> arr[i]? = some (.bool ((C (Hi (Q.at g0) w.heap.size sb scap sts)).out x i == some true))
theorem over_run {X : Type} (C : ∀ S : Stile, Crew S X) (x0 : X) (Q : Given) (og : Value) (w : World) (hn1 : 1 <= Q.n) (hn : Q.n <= 64) (hm : Q.sl.length <= 17592186044416) (hcnt : ∀ S, (C S).cnt x0 = 0)
  (hog : Aw Try.prog true (fun _ => none) 167 #[og] w (.slice (some ⟨Q.tb, 0, none⟩) Q.n Q.tcap) w)
  (hinit : ∀ g0 sb scap sts, ∃ cs, (C (Hi (Q.at g0) w.heap.size sb scap sts)).inv 0 (fun _ => none) x0 cs w) (c : Frame) (cs0 : List Frame) :
  Runs (fun g w' => ∃ v, Ran C x0 Q w v w' /\ g = G (c.finish v) cs0) (G (Frame.enter Try.prog 127 #[og, .slice Q.sa Q.sl.length Q.sc, .int .i64 Q.most] .normal) (c :: cs0)) w := by
 intro nG m T hG A
 refine (At.walk (h := 0) (over_in Q.n Q.tcap Q.sl.length Q.sc (some ⟨Q.tb, 0, none⟩) Q.sa og Q.most (c :: cs0) w hog (nt_all Q.n Q.tcap (some ⟨Q.tb, 0, none⟩) Q.most hn w (fun b _ => ⟨fun _ _ _ _ h => by (cases h), fun _ _ h => by (cases h)⟩) _ (c :: cs0))) A).bind ?_
 rintro m1 T1 ⟨_, _, ⟨oa, oc, sts, w0, d0, rfl, rfl, hN, hb, hl, hR⟩, A1⟩
 obtain ⟨sb, rfl⟩ : ∃ sb, oa = some ⟨sb, 0, none⟩ := by
  rcases hN.own.2 with ⟨_, e⟩ | ⟨g, cap, cur, e, _⟩
  ·omega
  ·cases e; exact ⟨g, rfl⟩
 obtain ⟨hS, hK⟩ := sys0 (Q := Q.at nG) hn hG hN hb hl hR
 obtain ⟨csI, hI⟩ := hinit nG sb oc sts
 generalize hSt : Hi (Q.at nG) w.heap.size sb oc sts = S at *
 have eB : S.B = w.heap.size := by rw [<- hSt]; rfl
 have en : S.n = Q.n := by rw [<- hSt]; rfl
 have eg : S.g0 = nG := by rw [<- hSt]; rfl
 have esb : S.sb = sb := by rw [<- hSt]; rfl
 have esc : S.scap = oc := by rw [<- hSt]; rfl
 have etb : S.tb = Q.tb := by rw [<- hSt]; rfl
 have etc : S.tcap = Q.tcap := by rw [<- hSt]; rfl
 have esa : S.sa = Q.sa := by rw [<- hSt]; rfl
 have essc : S.sc = Q.sc := by rw [<- hSt]; rfl
 have esl : S.sl = Q.sl := by rw [<- hSt]; rfl
 have emo : S.most <= 1048576 := by rw [<- hSt]; simp only [Hi]; omega
 have hD0 : Drv (C S) w.heap.size { dyn0 Q.n w.heap.size sb sts with cs := csI } x0 (w0.at d0) := by
  refine ⟨(hS.cs csI).at d0, (C S).keep hI (hK.at d0), fun _ => rfl, fun i hi => absurd hi (Nat.not_lt_zero _), fun _ _ => ⟨rfl, rfl⟩, ?_, emo, hcnt S⟩
  rw [en]
  exact (going_all Q.n).symm
 have hV0 : (fun _ => none : Nat -> Option Wait) = VV S { dyn0 Q.n w.heap.size sb sts with cs := csI } none none := by
  funext g
  unfold VV
  by_cases h0 : g = 0
  ·rw [if_pos h0]
  ·rw [if_neg h0, if_neg]
   rintro ⟨h1, h2, _⟩
   have h2 : g < S.g0 + 0 := h2
   omega
 have hk0 : ({ dyn0 Q.n w.heap.size sb sts with cs := csI } : Dyn).k = 0 := rfl
 have hr0 : ({ dyn0 Q.n w.heap.size sb sts with cs := csI } : Dyn).ord = [] := rfl
 generalize ({ dyn0 Q.n w.heap.size sb sts with cs := csI } : Dyn) = D0 at hD0 hV0 hk0 hr0
 have hV0A : (fun x : Nat => if x = 0 then none else none : Nat -> Option Wait) = fun _ => none := by funext x; simp
 rw [hV0] at A1
 have t0 := hD0.sys.tB.1
 rw [<- eB] at A1
 rw [en] at t0
 refine (At.walk (h := 0) (Stop := fun g w' => g = G (Kj S.B S.sb S.n S.scap S.tb S.tcap 0 (fun _ => undef)) (fr23a S.B Q.n Q.tcap Q.sl.length Q.sc (some ⟨Q.tb, 0, none⟩) Q.sa og Q.most :: c :: cs0) /\ ∃ d, w' = (w0.at d0).at d) (Nw S.B Q.n Q.tcap Q.sl.length Q.sc (some ⟨Q.tb, 0, none⟩) Q.sa og Q.most (c :: cs0) _ (by
  have := begin_in (main := (0 == 0)) (V := VV S D0 none none) S.B S.sb Q.n S.scap Q.tb Q.tcap (fr23a S.B Q.n Q.tcap Q.sl.length Q.sc (some ⟨Q.tb, 0, none⟩) Q.sa og Q.most :: c :: cs0) (w0.at d0) t0
  rw [en, etb, etc]
  exact this)) A1).bind ?_
 rintro m2 T2 ⟨_, _, ⟨rfl, d2, rfl⟩, A2⟩
 have hD2 : Drv (C S) w.heap.size D0 x0 ((w0.at d0).at d2) := ⟨hD0.sys.at d2, (C S).keep hD0.inv ((Keeps.refl _ _).at d2), hD0.fe, hD0.out, hD0.fresh, hD0.gg, hD0.most, hD0.cnt⟩
 rw [<- eg] at A2
 have A2' : At Try.prog (VV S D0 none none) 0 (S.g0 + D0.k) (G (Kj S.B S.sb S.n S.scap S.tb S.tcap D0.k (fun _ => undef)) (fr23a S.B Q.n Q.tcap Q.sl.length Q.sc (some ⟨Q.tb, 0, none⟩) Q.sa og Q.most :: c :: cs0)) ((w0.at d0).at d2) m2 T2 := by
  rw [hk0]; exact A2
 refine (begin_all S.n (by omega) hr0 hD2 A2').bind ?_
 rintro m3 T3 ⟨D3, w3, u3, A3, hD3, ho3, hk3⟩
 rw [hk0] at hD3
 refine (At.walk (h := 0) (begin_out S.B S.sb S.n S.scap S.tb S.tcap u3 (fr23a S.B Q.n Q.tcap Q.sl.length Q.sc (some ⟨Q.tb, 0, none⟩) Q.sa og Q.most) (c :: cs0) w3) A3).bind ?_
 rintro m4 T4 ⟨_, _, ⟨rfl, d4, rfl⟩, A4⟩
 refine (At.walk (h := 0) (Stop := fun g w' => (∃ u, g = G (Ln S.B S.sa S.sl.length S.sc 0 u) (fr23b S.B Q.n Q.tcap Q.sl.length Q.sc (some ⟨Q.tb, 0, none⟩) Q.sa og Q.most :: c :: cs0)) /\ ∃ d, w' = (w3.at d4).at d) (Ma S.B Q.n Q.tcap Q.sl.length Q.sc (some ⟨Q.tb, 0, none⟩) Q.sa og Q.most (c :: cs0) _ (by
  rw [esa, esl, essc]
  exact follow_in S.B Q.sa Q.sl.length Q.sc _ _)) A4).bind ?_
 rintro m5 T5 ⟨_, _, ⟨⟨u5, rfl⟩, d5, rfl⟩, A5⟩
 have hD5 : Drv (C S) w.heap.size D3 (Jc (C S) S.n 0 x0) ((w3.at d4).at d5) := ⟨(hD3.sys.at d4).at d5, (C S).keep hD3.inv (((Keeps.refl _ _).at d4).at d5), hD3.fe, hD3.out, hD3.fresh, hD3.gg, hD3.most, hD3.cnt⟩
 refine (Oh S.sl 0 rfl (Nat.zero_le _) (esl ▸ hm) hD5 hk3 A5).bind ?_
 rintro m6 T6 ⟨D6, w6, x6, A6, hD6, hx6, hk6, hov6⟩
 have t6 := hD6.sys.tB
 refine (At.walk (h := 0) (Stop := fun g w' => g = G (Hp S.B S.sb S.n S.scap w6.heap.size 0 (fun _ => undef)) (fr23c S.B Q.n Q.tcap Q.sl.length Q.sc (some ⟨Q.tb, 0, none⟩) Q.sa og Q.most D6.gg :: c :: cs0) /\ ∃ d, w' = (w6.alloc (.cells (madeCells #[.bool false] S.n) 4)).at d)
  (over_end S.B Q.n Q.tcap Q.sl.length Q.sc (some ⟨Q.tb, 0, none⟩) Q.sa og Q.most D6.gg (c :: cs0) w6 t6.2.1 (end_in S.B S.sb S.n S.scap _ w6 hD6.sys.n64 t6.1)) A6).bind ?_
 rintro m7 T7 ⟨_, _, ⟨rfl, d7, rfl⟩, A7⟩
 have hq : D6.own w6.heap.size = none := by
  cases h : D6.own w6.heap.size with
  | none => rfl
  | some x => have := (hD6.sys.lt _ _ h).2; omega
 have hF7 : Fini (C S) w.heap.size D6 x6 ((w6.alloc (.cells (madeCells #[.bool false] S.n) 4)).at d7) w6.heap.size 0 := by
  refine ⟨(hD6.sys.alloc _).at d7, (C S).keep hD6.inv ⟨by simp [World.at], fun b hb ho => ⟨by rw [upd_ne _ _ (by omega)]; exact ho, Ad w6 _ hb⟩⟩, hq, ⟨_, hAw w6 _, fun i hi => ?_⟩, fun i _ hi => ⟨hD6.fe i, (hD6.out i (by omega)).1⟩, fun i hi => absurd hi (Nat.not_lt_zero _), fun i hi => (hD6.out i (by omega)).2, hk6⟩
  have : (madeCells #[.bool false] S.n)[i]? = (madeCells #[.bool false] S.n).toList[i]? := by simp
  rw [this, toList_madeCells_one, List.getElem?_replicate, if_pos hi]
  simp
 refine (end_all S.n 0 (by omega) hF7 A7).bind ?_
 rintro m8 T8 ⟨D8, w8, u8, A8, hF8, ho8, ha8, hc8⟩
 refine (At.walk (h := 0) (end_out S.B S.sb S.n S.scap w6.heap.size u8 _ (c :: cs0) w8) A8).bind ?_
 rintro m9 T9 ⟨_, _, ⟨rfl, d9, rfl⟩, A9⟩
 rw [en] at A9
 refine (At.walk (h := 0) (over_out S.B w6.heap.size Q.n Q.tcap Q.sl.length Q.sc (some ⟨Q.tb, 0, none⟩) Q.sa og Q.most D6.gg D8.oa D8.ord.length D8.oc c cs0 (w8.at d9) hF8.sys.tB.2.2.2.1) A9).mono ?_
 rintro m10 T10 ⟨_, _, ⟨rfl, d10, rfl⟩, A10⟩
 have hVe : VV S D8 none none = fun _ => none := by
  funext g
  unfold VV
  by_cases h0 : g = 0
  ·rw [if_pos h0]
  ·rw [if_neg h0, if_neg]
   rintro ⟨h1, h2, h3, _⟩
   rw [hF8.lo _ (by have := hF8.k; omega)] at h3
   cases h3
 rw [hVe] at A10
 have hs8 := hF8.sys
 refine ⟨_, _, _, (by omega), ⟨_, ⟨nG, sb, oc, sts, x6, D6.ord, D8.oa, D8.oc, w6.heap.size, D8.k, upd D8.own w6.heap.size (some .ord), D8.cs, ?_⟩, rfl⟩, A10⟩
 rw [hSt]
 rw [en] at hx6
 rw [esl, ho3, hr0] at hx6
 have hgg : D6.gg = Ij (C S) x6 := hD6.going hk6
 have hbr : decide ((0 : Int) < (D6.gg : Int)) = decide (0 < Ij (C S) x6) := decide_eq_decide.2 (by omega)
 obtain ⟨arr, hq8, hqa⟩ := hF8.qh
 refine ⟨hx6, hov6, by rw [hbr, ho8], (C S).keep hF8.inv (((Keeps.refl _ _).at d9).at d10), ?_, fun b hb => ?_, upd_same _ _ _, ?_, ?_, arr, hq8, fun i hi => ?_⟩
 ·rw [<- ho8]; exact ((hs8.at d9).at d10).row
 ·have hb := hs8.oo b (by rw [ho8]; exact hb)
  have hne : b ≠ w6.heap.size := fun e => by rw [e, hF8.qo] at hb; cases hb
  exact ⟨by rw [upd_ne _ _ hne]; exact hb, hne⟩
 ·have := hD6.sys.lt _ _ hD6.sys.oB; omega
 ·have := hs8.lt _ _ hs8.oB
  have h2 : w.heap.size <= w8.heap.size := by omega
  exact h2
 ·have := hqa i (by omega)
  rw [this]
  have : decide (i < S.n) = true := decide_eq_true (by omega)
  rw [this, Bool.true_and]
section
variable {main : Bool} {V : Nat -> Option Wait}
noncomputable def row161B : Bool := match Try.prog.info? 286 with
 | some ti => (match ti.methods.find? (·.name == "Step") with
  | some m => m.path.isEmpty && (m.func == some (245, true))
  | none => false)
 | none => false
theorem row161 : ∃ ti m, Try.prog.info? 286 = some ti /\ ti.methods.find? (·.name == "Step") = some m /\ m.path = #[] /\ m.func = some (245, true) := by
 have h : row161B = true := by kernel_rfl
 unfold row161B at h
 revert h
 cases h1 : Try.prog.info? 286 with
 | none => simp
 | some ti =>
  simp only []
  cases h2 : ti.methods.find? (·.name == "Step") with
  | none => simp
  | some m =>
   simp only [Bool.and_eq_true, Array.isEmpty_iff, beq_iff_eq]
   exact fun h => ⟨ti, m, rfl, h2, h.1, h.2⟩
theorem method_step (p : Nat) (w : World) (es : Array Event) : (method (Try.prog.types.size + Made.depth) 286 (.pointer (some ⟨p, 0, none⟩)) "Step").run Try.prog w = .ok (245, .pointer (some ⟨p, 0, none⟩)) w /\ (method (Try.prog.types.size + Made.depth) 286 (.pointer (some ⟨p, 0, none⟩)) "Step").events Try.prog w es = es := by
 obtain ⟨ti, m, h1, h2, h3, h4⟩ := row161
 obtain ⟨k, hk⟩ : ∃ k, Try.prog.types.size + Made.depth = k + 1 := ⟨Try.prog.types.size + (Made.depth - 1), by (have : 1 <= Made.depth := by decide); omega⟩
 rw [hk]
 unfold method
 refine ⟨?_, ?_⟩
 ·simp [typeInfo, h1, h2, h3, h4, follow, receiverAt, run_underlying Pp, Place.get]
 ·simp [typeInfo, h1, h2, h3, h4, follow, receiverAt, run_underlying Pp, Place.get]
section
variable {Stop : Goroutine -> World -> Prop} {w : World} {b : Frame} {a : Act} {k : List Item} {cs : List Frame} {ops : Array Oper} {i : Nat} {rest : List Nat} {o : Oper}
theorem stepG_invokeStep {x : Operand} {ats : Array TypeId} (p : Nat) (ho : ops[i]? = some o) (hw : Region.wanted o (yielded ops a.tmps) = true) (hk : b.kind ≠ .early) (hop : o.op = .call { callee := .invoke x "Step", args := #[], argTypes := ats }) (hx : a.eval x = .iface 286 (.pointer (some ⟨p, 0, none⟩))) :
  stepG Try.prog main (G (b.at a (.inRegion ops (i :: rest) :: k)) cs) w = .go (G (Frame.enter Try.prog 245 #[.pointer (some ⟨p, 0, none⟩)] .normal) (b.at a (.inRegion ops (i :: rest) :: k) :: cs)) w := by
 have h1 : ¬ Try.f245.name = "runtime.NumGoroutine" := by decide
 have h2 : ¬ Try.f245.body = none := by simp [Try.f245]
 have hm := method_step p w #[]
 rw [show Try.prog.types.size = 325 from by kernel_rfl] at hm
 have hr : (execOp a.eval o).run Try.prog w = .ok (.enter 245 #[.pointer (some ⟨p, 0, none⟩)]) w := by
  unfold execOp
  simp [hop, resolve, invoke, callMethod, callFunc, hm.1, Try.func245, h1, h2, hx]
 have he : (execOp a.eval o).events Try.prog w #[] = #[] := by
  unfold execOp
  simp [hop, resolve, invoke, callMethod, callFunc, hm.1, hm.2, Try.func245, h1, h2, hx]
 rw [stepG_enter ho hw hk hr]
 have : listed Try.prog b.fn a o w = #[] := by unfold listed; rw [he]; exact seen_none Try.prog _
 rw [this]
theorem Walk.invokeStep {x : Operand} {ats : Array TypeId} (p : Nat) (ho : ops[i]? = some o) (hw : Region.wanted o (yielded ops a.tmps) = true) (hk : b.kind ≠ .early) (hop : o.op = .call { callee := .invoke x "Step", args := #[], argTypes := ats }) (hx : a.eval x = .iface 286 (.pointer (some ⟨p, 0, none⟩)))
  (h : Walk Try.prog main (DR V) Stop (G (Frame.enter Try.prog 245 #[.pointer (some ⟨p, 0, none⟩)] .normal) (b.at a (.inRegion ops (i :: rest) :: k) :: cs)) w) : Walk Try.prog main (DR V) Stop (G (b.at a (.inRegion ops (i :: rest) :: k)) cs) w :=
 Walk.ctl rfl (fun _ => stepG_invokeStep p ho hw hk hop hx) h
end
end
end Go.Proofs.Ytflcclneedldoaa
namespace Go.Relay
section
open Go.Conc Go.RowKit
open Go.ConcN (upd upd_ne upd_same)
def lowW (ops : Array Oper) : Bool := (List.range ops.size).all fun i => (ops[i]?).any fun o => o.after.all fun e => !Region.binds .any e || decide (e.on < i)
theorem all_upW {ops : Array Oper} (hlow : lowW ops = true) {L : Array Bool} (hL : L.size = ops.size) (hr : Region.ready .any ops L = []) : ∀ i, i < ops.size -> Dz L i = true := by
 intro i
 induction i using Nat.strongRecOn with
 | _ i ih =>
  intro hi
  refine Classical.byContradiction fun hne => ?_
  have hf : Dz L i = false := by simpa using hne
  have key : ∀ e ∈ ops[i].after, Region.binds .any e = true -> e.on < i := fun e he hb => by
   have := List.all_eq_true.1 hlow i (List.mem_range.2 hi)
   rw [Array.getElem?_eq_getElem hi] at this
   simp only [Option.any_some] at this
   have := (Array.all_eq_true_iff_forall_mem.1 this) e he
   simpa [hb] using this
  have hm : i ∈ Region.ready .any ops L := mem_ready.2 ⟨by rw [Jv (by omega)]; exact hf, ops[i], Array.getElem?_eq_getElem hi, fun e he hb => ih e.on (key e he hb) (Nat.lt_trans (key e he hb) hi)⟩
  rw [hr] at hm; cases hm
section
variable {ops : Array Oper} {E : Type} {Good : List Nat -> Act -> E -> Prop}
theorem anyE {Inv : (Nat -> Bool) -> Act -> E -> Prop} (hlow : lowW ops = true)
  (hop : ∀ f i o a e, Inv f a e -> Closed ops f -> f i = false -> ops[i]? = some o -> (∀ x ∈ o.after, Region.binds .any x = true -> f x.on = true) -> ∀ rest, (∀ a' e', Inv (upd f i true) a' e' -> Good rest a' e') -> Good (i :: rest) a e)
  (hend : ∀ f a e, Inv f a e -> (∀ i, i < ops.size -> f i = true) -> Good [] a e) :
  ∀ (fuel t : Nat) (L : Array Bool) (a : Act) (e : E), L.size = ops.size -> Inv (Dz L) a e -> Closed ops (Dz L) -> He ops.size (Dz L) <= fuel -> Good (Region.linearise.go .any ops fuel t L []) a e := by
 intro fuel
 induction fuel with
 | zero =>
  intro t L a e hL hI _ hf
  have hall : ∀ i, i < ops.size -> Dz L i = true := fun i hi => by
   refine Classical.byContradiction fun hne => ?_
   have := Jp hi (f := Dz L) (by simpa using hne)
   omega
  exact hend _ a e hI hall
 | succ fuel ih =>
  intro t L a e hL hI hC hf
  simp only [Region.linearise.go]
  change Good (match (Region.ready .any ops L)[t % (Region.ready .any ops L).length]? with
   | some i => Region.linearise.go .any ops fuel (t / (Region.ready .any ops L).length) (L.setIfInBounds i true) [i]
   | none => [].reverse) a e
  cases hi : (Region.ready .any ops L)[t % (Region.ready .any ops L).length]? with
  | none =>
   have hnil : Region.ready .any ops L = [] := by
    cases hr : Region.ready .any ops L with
    | nil => rfl
    | cons x xs =>
     rw [hr] at hi
     have hlt : t % (x :: xs).length < (x :: xs).length := Nat.mod_lt _ (by simp)
     simp at hi
     simp at hlt
     omega
   exact hend _ a e hI (all_upW hlow hL hnil)
  | some i =>
   simp only []
   rw [linearise_go_acc, List.reverse_singleton, List.singleton_append]
   obtain ⟨h0, o, ho, hd⟩ := mem_ready.1 (List.mem_of_getElem? hi)
   have hil : i < ops.size := (aEs ho).1
   rw [Jv (by omega)] at h0
   refine hop (Dz L) i o a e hI hC h0 ho hd _ fun a' e' hI' => ?_
   refine ih _ _ a' e' (by simp [hL]) (by rw [Gj (by omega)]; exact hI') ?_ ?_
   ·rw [Gj (by omega)]
    intro j o' ho' hj x hx hb
    have hup : ∀ x, Dz L x = true -> upd (Dz L) i true x = true := fun x hx => by
     by_cases ex : x = i
     ·subst ex; exact upd_same _ _ _
     ·rw [upd_ne _ _ ex]; exact hx
    by_cases ej : j = i
    ·subst ej
     rw [ho] at ho'; cases ho'
     exact hup _ (hd x hx hb)
    ·rw [upd_ne _ _ ej] at hj
     exact hup _ (hC j o' ho' hj x hx hb)
   ·rw [Gj (by omega), Od hil h0]
    omega
end
theorem Ip {P : Program} {main : Bool} {b : Frame} {k : List Item} {ops : Array Oper} {id : Nat} {a : Act} {E : Type} {V : E -> Nat -> Option Wait} {Stop : E -> Goroutine -> World -> Prop} {cs : E -> List Frame} {w : E -> World}
  {Inv : (Nat -> Bool) -> Act -> E -> Prop} (e0 : E) (hm : P.follows .mixedOrders = true) (hlow : lowW ops = true) (h0 : Inv (fun _ => false) a e0)
  (hop : ∀ f i o a e, Inv f a e -> Closed ops f -> f i = false -> ops[i]? = some o -> (∀ x ∈ o.after, Region.binds .any x = true -> f x.on = true) -> ∀ rest, (∀ a' e', Inv (upd f i true) a' e' -> Walk P main (DR (V e')) (Stop e') (G (b.at a' (.inRegion ops rest :: k)) (cs e')) (w e')) -> Walk P main (DR (V e)) (Stop e) (G (b.at a (.inRegion ops (i :: rest) :: k)) (cs e)) (w e))
  (hend : ∀ f a e, Inv f a e -> (∀ i, i < ops.size -> f i = true) -> Walk P main (DR (V e)) (Stop e) (G (b.at a (.inRegion ops [] :: k)) (cs e)) (w e)) :
  Walk P main (DR (V e0)) (Stop e0) (G (b.at a (.code (.region id ops true) :: k)) (cs e0)) (w e0) := by
 have hu : Dz (Array.replicate ops.size false) = fun _ => false := by
  funext j
  unfold Dz
  rw [Array.getD_eq_getD_getElem?, Array.getElem?_replicate]
  split <;> rfl
 refine Walk.step rfl (fun d => G (b.at a (.inRegion ops (Region.linearise .any ops ((w e0).tape d (.order b.fn id))) :: k)) (cs e0)) (fun d => (w e0).at (d + 1)) (fun _ => #[]) (fun d => ?_) (fun d => Qh _) (fun d => Walk.back ?_ (d + 1))
 ·rw [stepG_region_draw]
  simp only [Region.schedule, hm, Bool.true_or, if_true]
  rfl
 ·refine anyE (Good := fun rest a e => Walk P main (DR (V e)) (Stop e) (G (b.at a (.inRegion ops rest :: k)) (cs e)) (w e)) hlow hop hend ops.size _ _ a e0 (by simp) (by rw [hu]; exact h0) (by rw [hu]; intro _ _ _ h; cases h) ?_
  unfold He
  exact Nat.le_trans List.countP_le_length (by simp)
section
variable {P : Program} {main : Bool} {V : Nat -> Option Wait} {Stop : Goroutine -> World -> Prop} {b : Frame} {k : List Item} {cs : List Frame} {ops : Array Oper} {w : World} {a : Act}
theorem Ku {id m : Nat} (hm : P.follows .mixedOrders = true) (hsz : ops.size = m) (hlow : lowW ops = true) (hc : Fx ops m = true) (hk : b.kind ≠ .early)
  (h : Cm P main V ops (· = w) (fun a => Walk P main (DR V) Stop (G (b.at a (.inRegion ops [] :: k)) cs) w) (List.range m) a) : Walk P main (DR V) Stop (G (b.at a (.code (.region id ops true) :: k)) cs) w := by
 rw [List.range_eq_range'] at h
 have h0 : Cm P main V ops (· = w) (fun a => Walk P main (DR V) Stop (G (b.at a (.inRegion ops [] :: k)) cs) w) (List.range' 0 m) (Ax ops (fun _ => undef) (fun j => decide (j < 0)) a) := by
  have : Ax ops (fun _ => undef) (fun j => decide (j < 0)) a = a := Co _ a fun j _ => decide_eq_false (Nat.not_lt_zero j)
  rw [this]; exact h
 obtain ⟨vals, _, hcond, hend⟩ := Kq (Z := (· = w)) (w := w) rfl (Nat.le_of_eq hsz.symm) m 0 (fun _ => undef) a (by omega) h0
 refine Ip (E := World) (V := fun _ => V) (Stop := fun _ => Stop) (cs := fun _ => cs) (w := fun w => w) (Inv := fun f x w' => x = Ax ops vals f a /\ ∃ d, w' = w.at d) w hm hlow ⟨(Gn vals a).symm, w.drawn, rfl⟩ ?_ ?_
 ·rintro f i o _ _ ⟨rfl, d, rfl⟩ _ hf ho hd rest hr
  have hi : i < m := by have := (aEs ho).1; omega
  refine Walk.back ?_ d
  refine Fy (Z := (· = w)) rfl hc hk hi ho hd (hcond i o (Nat.zero_le _) hi ho) ?_
  rw [<- Df hc hi vals hf ho a]
  exact hr _ (w.at w.drawn) ⟨rfl, w.drawn, rfl⟩
 ·rintro f _ _ ⟨rfl, d, rfl⟩ hall
  refine Walk.back ?_ d
  have : Ax ops vals f a = Ax ops vals (fun j => decide (j < m)) a := Bm (fun j hj => ⟨(hall j hj).trans (decide_eq_true (hsz ▸ hj)).symm, fun _ => rfl⟩) a
  rw [this]
  exact hend
end
end
end Go.Relay
namespace Go.Proofs.Ytflcclneedldoaa
open Go.Conc Go.RowKit Go.Relay
open Go.ConcN (upd upd_ne upd_same)
structure OpV where
 k : Int
 a : Int
 b : Int
 c : Int
structure Ans where
 ok : Bool
 n : Int
 l : List Int
deriving DecidableEq
def Eh (o : OpV) : Value := .agg #[.int .i64 o.k, .int .i64 o.a, .int .i64 o.b, .int .i64 o.c]
def Bo (a : Ans) (sl : Value) : Value := .agg #[.bool a.ok, .int .i64 a.n, sl]
def Dc (z : List (Ans × Value)) : List Value := z.flatMap fun a => [.bool a.1.ok, .int .i64 a.1.n, a.2]
theorem Mh (z : List (Ans × Value)) (a : Ans × Value) : Dc (z ++ [a]) = Dc z ++ [.bool a.1.ok, .int .i64 a.1.n, a.2] := by simp [Dc]
def LsAt (base : Nat) (P : Nat -> Prop) (sl : Value) (l : List Int) (w : World) : Prop := ∃ a c, sl = .slice a l.length c /\ l.length <= 1048576 /\ (∀ {p : Prop}, p -> w.ownsRow base 2 1 sl l.length (l.map fun z => .int .i64 z) /\ ∀ b, sl.ownBlock = some b -> P b)
theorem LsAt.same {base : Nat} {P : Nat -> Prop} {sl : Value} {l : List Int} {w w' : World} (h : LsAt base P sl l w) (hb : ∀ b, P b -> w'.heap[b]? = w.heap[b]?) : LsAt base P sl l w' := by
 obtain ⟨a, c, e, hn, hr⟩ := h
 exact ⟨a, c, e, hn, fun hl => ⟨As (hr hl).1 fun b e => hb b ((hr hl).2 b e), (hr hl).2⟩⟩
theorem LsAt.imp {base : Nat} {P P' : Nat -> Prop} {sl : Value} {l : List Int} {w : World} (h : LsAt base P sl l w) (hP : ∀ b, P b -> P' b) : LsAt base P' sl l w := by
 obtain ⟨a, c, e, hn, hr⟩ := h
 exact ⟨a, c, e, hn, fun hl => ⟨(hr hl).1, fun b e => hP b ((hr hl).2 b e)⟩⟩
theorem LsAt.low {base base' : Nat} {P : Nat -> Prop} {sl : Value} {l : List Int} {w : World} (h : LsAt base P sl l w) (hb : base' <= base) : LsAt base' P sl l w := by
 obtain ⟨a, c, e, hn, hr⟩ := h
 exact ⟨a, c, e, hn, fun hl => ⟨⟨(hr hl).1.1, (hr hl).1.2.imp id fun ⟨g, cap, cur, h1, h2, h3⟩ => ⟨g, cap, cur, h1, Nat.le_trans hb h2, h3⟩⟩, (hr hl).2⟩⟩
def LsR (sl : Value) (l : List Int) (w : World) : Prop := ∃ a c, sl = .slice a l.length c /\ l.length <= c /\ (a = none -> c = 0) /\ ∀ (j : Nat) (z : Int), l[j]? = some z -> ∃ b off, a = some ⟨b, off, none⟩ /\ w.cell? ⟨b, off + j, none⟩ = some (.int .i64 z)
theorem LsR.same {sl : Value} {l : List Int} {w w' : World} (h : LsR sl l w) (hb : ∀ b, b < w.heap.size -> w'.heap[b]? = w.heap[b]?) : LsR sl l w' := by
 obtain ⟨a, c, h1, h2, h3, h4⟩ := h
 refine ⟨a, c, h1, h2, h3, fun j z hj => ?_⟩
 obtain ⟨b, off, e, hc⟩ := h4 j z hj
 have hlt : b < w.heap.size := by
  unfold World.cell? at hc
  split at hc
  ·rename_i h'; exact (aEs h').1
  ·cases hc
 exact ⟨b, off, e, (cBk (a := ⟨b, off + j, none⟩) (hb b hlt)).trans hc⟩
theorem LsR.nil (w : World) : LsR (.slice none 0 0) [] w := ⟨none, 0, rfl, Nat.le_refl _, fun _ => rfl, fun j z hj => (by simp at hj)⟩
theorem LsAt.nil (base : Nat) (P : Nat -> Prop) (w : World) : LsAt base P (.slice none 0 0) [] w := ⟨none, 0, rfl, Nat.zero_le _, fun _ => ⟨⟨rfl, .inl ⟨rfl, rfl⟩⟩, fun b h => by simp [Value.ownBlock] at h⟩⟩
def RowA (base : Nat) (P : Nat -> Prop) (hd : Value) (ans : List Ans) (w : World) : Prop := ∃ (ta : Option Addr) (tc : Nat) (z : List (Ans × Value)), z.map Prod.fst = ans /\ hd = .slice ta ans.length tc /\ w.ownsRow base 42 3 hd ans.length (Dc z) /\ (∀ b, hd.ownBlock = some b -> P b) /\ ∀ p ∈ z, LsAt base P p.2 p.1.l w
theorem RowA.same {base : Nat} {P : Nat -> Prop} {hd : Value} {ans : List Ans} {w w' : World} (h : RowA base P hd ans w) (hb : ∀ b, P b -> w'.heap[b]? = w.heap[b]?) : RowA base P hd ans w' := by
 obtain ⟨ta, tc, z, h1, h2, h3, h4, h5⟩ := h
 exact ⟨ta, tc, z, h1, h2, As h3 fun b e => hb b (h4 b e), h4, fun p hp => (h5 p hp).same hb⟩
theorem RowA.imp {base : Nat} {P P' : Nat -> Prop} {hd : Value} {ans : List Ans} {w : World} (h : RowA base P hd ans w) (hP : ∀ b, P b -> P' b) : RowA base P' hd ans w := by
 obtain ⟨ta, tc, z, h1, h2, h3, h4, h5⟩ := h
 exact ⟨ta, tc, z, h1, h2, h3, fun b e => hP b (h4 b e), fun p hp => (h5 p hp).imp hP⟩
theorem RowA.hdo {base : Nat} {P : Nat -> Prop} {hd : Value} {ans : List Ans} {w : World} (h : RowA base P hd ans w) : ∀ b, hd.ownBlock = some b -> P b := by
 obtain ⟨ta, tc, z, h1, h2, h3, h4, h5⟩ := h
 exact h4
theorem RowA.low {base base' : Nat} {P : Nat -> Prop} {hd : Value} {ans : List Ans} {w : World} (h : RowA base P hd ans w) (hb : base' <= base) : RowA base' P hd ans w := by
 obtain ⟨ta, tc, z, h1, h2, h3, h4, h5⟩ := h
 exact ⟨ta, tc, z, h1, h2, ⟨h3.1, h3.2.imp id fun ⟨g, cap, cur, e1, e2, e3⟩ => ⟨g, cap, cur, e1, Nat.le_trans hb e2, e3⟩⟩, h4, fun p hp => (h5 p hp).low hb⟩
theorem RowA.nil (base : Nat) (P : Nat -> Prop) (w : World) : RowA base P (.slice none 0 0) [] w :=
 ⟨none, 0, [], rfl, rfl, ⟨rfl, .inl ⟨rfl, rfl⟩⟩, fun b h => (by simp [Value.ownBlock] at h), fun p hp => (by cases hp)⟩
structure La where
 Sg : Type
 D : Type
 Gh : Type
 le : Gh -> Gh -> Prop
 refl : ∀ y, le y y
 trans : ∀ {x y z : Gh}, le x y -> le y z -> le x z
 enter : Sg -> Int -> OpV -> Sg × (Ans ⊕ D)
 act : Sg -> D -> Sg × (Ans ⊕ D)
 sh : Gh -> Nat -> Prop
 mono : ∀ {y y' : Gh} {b : Nat}, le y y' -> sh y b -> sh y' b
 I : Gh -> Sg -> World -> Prop
 stable : ∀ {y : Gh} {s : Sg} {w w' : World}, I y s w -> (∀ b, sh y b -> w'.heap[b]? = w.heap[b]?) -> I y s w'
 lt : ∀ {y : Gh} {s : Sg} {w : World} {b : Nat}, I y s w -> sh y b -> b < w.heap.size
structure Tst (L : La) where
 left : List OpV
 d : Option L.D
 ans : List Ans
def Bq (L : La) (th : Int) : L.Sg -> List OpV -> List Ans -> L.Sg × Tst L
 | s, [], az => (s, ⟨[], none, az⟩)
 | s, o :: l, az => match L.enter s th o with
  | (s', .inl a) => Bq L th s' l (az ++ [a])
  | (s', .inr d) => (s', ⟨l, some d, az⟩)
def Ei (L : La) (th : Int) (r : L.Sg × (Ans ⊕ L.D)) (left : List OpV) (az : List Ans) : L.Sg × Tst L := match r with
 | (s', .inl a) => Bq L th s' left (az ++ [a])
 | (s', .inr d) => (s', ⟨left, some d, az⟩)
theorem Gx (L : La) (th : Int) (s : L.Sg) (o : OpV) (l : List OpV) (az : List Ans) : Bq L th s (o :: l) az = Ei L th (L.enter s th o) l az := rfl
structure OX (L : La) where
 s : L.Sg
 th : Nat -> Tst L
 out : Nat -> Option Bool
 cnt : Nat
def Ge {L : La} (x : OX L) (i : Nat) (r : L.Sg × Tst L) (c : Nat) : OX L := ⟨r.1, upd x.th i r.2, upd x.out i (match r.2.d with | none => some false | some _ => none), c⟩
def Kr {L : La} (ops : Nat -> List OpV) (x : OX L) (i : Nat) : OX L := Ge x i (Bq L (i : Nat) x.s (ops i) []) x.cnt
def Cz {L : La} (x : OX L) (i : Nat) : OX L := match (x.th i).d with
 | none => { x with cnt := x.cnt + 1 }
 | some d => Ge x i (Ei L (i : Nat) (L.act x.s d) (x.th i).left (x.th i).ans) (x.cnt + 1)
structure OG where
 n : Nat
 w0 : World
 A : Nat
 ops : Nat -> List OpV
 sh : Nat -> Prop
def AnT (g : OG) (i : Nat) (w w' : World) (hd : Value) : Prop := ∃ arr arr' : Array Value, w.heap[g.A]? = some (.cells arr 40) /\ w'.heap[g.A]? = some (.cells arr' 40) /\ arr'.size = arr.size /\ arr'[i]? = some hd /\ ∀ j, j ≠ i -> arr'[j]? = arr[j]?
structure Tn (L : La) where
 V : Nat -> Option Wait
 f : Frame
 fs : List Frame
 w : World
 y : L.Gh
 M : Nat -> Prop
 goal : L.Sg × Tst L
def Cu {L : La} (τ : Tn L) (y : L.Gh) (w : World) (b : Nat) : Prop := (τ.M b ∨ (τ.w.heap.size <= b /\ b < w.heap.size)) /\ ¬ L.sh y b
def StopT (L : La) (g : OG) (S : Stile) (i : Nat) (C : Tst L -> List Frame -> L.Gh -> Value -> (Nat -> Prop) -> World -> Prop) (τ : Tn L) (g' : Goroutine) (w' : World) : Prop :=
 ∃ y', L.le τ.y y' /\ τ.w.heap.size <= w'.heap.size /\ (∀ b, b < τ.w.heap.size -> ¬ τ.M b -> ¬ L.sh τ.y b -> b ≠ g.A -> w'.heap[b]? = τ.w.heap[b]?) /\ L.I y' τ.goal.1 w' /\ (∀ b, L.sh y' b -> L.sh τ.y b ∨ τ.M b ∨ τ.w.heap.size <= b) /\
 ∃ hd, AnT g i τ.w w' hd /\ RowA g.w0.heap.size (Cu τ y' w') hd τ.goal.2.ans w' /\
  ((τ.goal.2.d = none /\ g' = G (τ.f.finish (.tuple #[])) τ.fs) ∨
   ∃ l, τ.goal.2.d.isSome = true /\ l ≠ [] /\ (∀ f ∈ l, Cf f) /\ C τ.goal.2 l y' hd (Cu τ y' w') w' /\ g' = G (Frame.enter Try.prog 245 #[.pointer (some ⟨S.p i, 0, none⟩)] .normal) (l ++ τ.f :: τ.fs))
theorem StopT.mono {L : La} {g : OG} {S : Stile} {i : Nat} {C C' : Tst L -> List Frame -> L.Gh -> Value -> (Nat -> Prop) -> World -> Prop} {τ : Tn L} {g' : Goroutine} {w' : World} (h : StopT L g S i C τ g' w') (hC : ∀ t l y hd M w, C t l y hd M w -> C' t l y hd M w) : StopT L g S i C' τ g' w' := by
 obtain ⟨y', h0, h1, h2, h3, hp, hd, h4, h5, h7⟩ := h
 refine ⟨y', h0, h1, h2, h3, hp, hd, h4, h5, ?_⟩
 rcases h7 with h | ⟨l, a1, a2, a3, a4, a5⟩
 ·exact .inl h
 ·exact .inr ⟨l, a1, a2, a3, hC _ _ _ _ _ _ a4, a5⟩
structure Rely (L : La) (g : OG) (i : Nat) (V : Nat -> Option Wait) (y : L.Gh) (w : World) (hd : Value) (M : Nat -> Prop) : Prop where
 size : g.w0.heap.size <= w.heap.size
 old : ∀ b, b < g.w0.heap.size -> ¬ g.sh b -> b ≠ g.A -> w.heap[b]? = g.w0.heap[b]?
 an : ∃ arr : Array Value, w.heap[g.A]? = some (.cells arr 40) /\ arr[i]? = some hd
 lo : ∀ b, M b -> g.w0.heap.size <= b /\ b < w.heap.size /\ ¬ L.sh y b
 apart : ∀ b, (b < g.w0.heap.size ∨ M b ∨ w.heap.size <= b ∨ L.sh y b) -> Az V b
 shlo : ∀ b, L.sh y b -> b ≠ g.A /\ b < w.heap.size /\ (b < g.w0.heap.size -> g.sh b)
 alo : g.A < g.w0.heap.size
 hdo : ∀ b, hd.ownBlock = some b -> M b
def Cont (L : La) (g : OG) (S : Stile) (i : Nat) : Nat -> Tst L -> List Frame -> L.Gh -> Value -> (Nat -> Prop) -> World -> Prop
 | 0 => fun _ _ _ _ _ _ => True
 | N + 1 => fun t cs y hd M w => ∀ (V : Nat -> Option Wait) (f : Frame) (fs : List Frame) (y' : L.Gh) (w' : World) (s : L.Sg) (c : Frame) (l : List Frame) (d : L.D), L.le y y' -> w.heap.size <= w'.heap.size -> (∀ b, M b -> w'.heap[b]? = w.heap[b]?) -> Rely L g i V y' w' hd M -> L.I y' s w' -> t.d = some d -> cs = c :: l ->
  Walk Try.prog false (DR V) (StopT L g S i (Cont L g S i N) ⟨V, f, fs, w', y', M, Ei L (i : Nat) (L.act s d) t.left t.ans⟩) (G (c.finish (.tuple #[])) (l ++ f :: fs)) w'
section
variable {L : La} {g : OG} {S : Stile} {i : Nat}
theorem Cont.keep {N : Nat} {t : Tst L} {cs : List Frame} {y y1 : L.Gh} {hd : Value} {M : Nat -> Prop} {w w1 : World} (h : Cont L g S i N t cs y hd M w) (hy : L.le y y1) (hs : w.heap.size <= w1.heap.size) (hb : ∀ b, M b -> w1.heap[b]? = w.heap[b]?) : Cont L g S i N t cs y1 hd M w1 := by
 cases N with
 | zero => trivial
 | succ N => exact fun V f fs y' w' s c l d h0 h1 h2 h3 h4 h5 h6 => h V f fs y' w' s c l d (L.trans hy h0) (Nat.le_trans hs h1) (fun b hM => (h2 b hM).trans (hb b hM)) h3 h4 h5 h6
theorem Cont.less : ∀ {N : Nat} {t : Tst L} {cs : List Frame} {y : L.Gh} {hd : Value} {M : Nat -> Prop} {w : World}, Cont L g S i (N + 1) t cs y hd M w -> Cont L g S i N t cs y hd M w
 | 0, _, _, _, _, _, _, _ => trivial
 | _ + 1, _, _, _, _, _, _, h => fun V f fs y' w' s c l d h0 h1 h2 h3 h4 h5 h6 => (h V f fs y' w' s c l d h0 h1 h2 h3 h4 h5 h6).mono fun _ _ hS => hS.mono fun _ _ _ _ _ _ => Cont.less
theorem Cont.le {N N' : Nat} (hN : N' <= N) {t : Tst L} {cs : List Frame} {y : L.Gh} {hd : Value} {M : Nat -> Prop} {w : World} (h : Cont L g S i N t cs y hd M w) : Cont L g S i N' t cs y hd M w := by
 induction N with
 | zero => rwa [Nat.le_zero.1 hN]
 | succ N ih =>
  by_cases e : N' = N + 1
  ·rw [e]; exact h
  ·exact ih (by omega) h.less
end
structure Lb (L : La) where
 main : Bool
 E : Type
 V : E -> Nat -> Option Wait
 Stop : E -> Goroutine -> World -> Prop
 bot : E -> List Frame
 w : E -> World
 s : E -> L.Sg
 gh : E -> L.Gh
 tgt : E -> L.Sg × (Ans ⊕ L.D)
 fuel : E -> Nat
 mine : E -> Nat -> Prop
def LW {L : La} (K : Lb L) (e : K.E) (g : Goroutine) : Prop := Walk Try.prog K.main (DR (K.V e)) (K.Stop e) g (K.w e)
structure Mg {L : La} (K : Lb L) (e e' : K.E) (y' : L.Gh) (s' : L.Sg) (w' : World) : Prop where
 V : K.V e' = K.V e
 Stop : K.Stop e' = K.Stop e
 bot : K.bot e' = K.bot e
 w : K.w e' = w'
 s : K.s e' = s'
 gh : K.gh e' = y'
 tgt : K.tgt e' = K.tgt e
 fuel : K.fuel e' = K.fuel e
 mine : ∀ b, K.mine e' b ↔ (K.mine e b ∨ ((K.w e).heap.size <= b /\ b < w'.heap.size)) /\ ¬ L.sh y' b
structure Mv {L : La} (K : Lb L) (e e' : K.E) (s' : L.Sg) (w' : World) : Prop where
 V : K.V e' = K.V e
 Stop : K.Stop e' = K.Stop e
 bot : K.bot e' = K.bot e
 w : K.w e' = w'
 s : K.s e' = s'
 gh : K.gh e' = K.gh e
 tgt : K.tgt e' = K.tgt e
 fuel : K.fuel e' = K.fuel e
 mine : ∀ b, K.mine e' b ↔ K.mine e b ∨ ((K.w e).heap.size <= b /\ b < w'.heap.size)
structure Aft {L : La} (K : Lb L) (e : K.E) (d : L.D) (e' : K.E) : Prop where
 tgt : K.tgt e' = L.act (K.s e') d
 fuel : K.fuel e' < K.fuel e
 le : L.le (K.gh e) (K.gh e')
 size : (K.w e).heap.size <= (K.w e').heap.size
 mine : ∀ b, K.mine e b -> K.mine e' b /\ (K.w e').heap[b]? = (K.w e).heap[b]?
structure Lg (L : La) (sv : Value) extends Lb L where
 inv : ∀ e, L.I (gh e) (s e) (w e)
 shA : ∀ e b, L.sh (gh e) b -> Az (V e) b
 mineA : ∀ e b, mine e b -> Az (V e) b /\ ¬ L.sh (gh e) b /\ b < (w e).heap.size
 newA : ∀ e b, (w e).heap.size <= b -> Az (V e) b
 one : sv.cells = #[sv]
 mg : ∀ (e : E) (y' : L.Gh) (s' : L.Sg) (w' : World), L.le (gh e) y' -> (w e).heap.size <= w'.heap.size -> (∀ b, b < (w e).heap.size -> ¬ mine e b -> ¬ L.sh (gh e) b -> w'.heap[b]? = (w e).heap[b]?) -> L.I y' s' w' -> (∀ b, L.sh y' b -> L.sh (gh e) b ∨ mine e b ∨ (w e).heap.size <= b) -> ∃ e', Mg toLb e e' y' s' w'
 step : ∀ (e : E) (d : L.D), tgt e = (s e, .inr d) -> ∀ (fr : Frame) (l : List Frame), Cf fr -> (∀ f ∈ l, Cf f) -> (∀ e', Aft toLb e d e' -> LW toLb e' (G (fr.finish (.tuple #[])) (l ++ bot e'))) ->
  LW toLb e (G (Frame.enter Try.prog 112 #[sv] .normal) (fr :: (l ++ bot e)))
theorem Mg.mv {L : La} {sv : Value} {K : Lg L sv} {e e' : K.E} {s' : L.Sg} {w' : World} (m : Mg K.toLb e e' (K.gh e) s' w') : Mv K.toLb e e' s' w' :=
 ⟨m.V, m.Stop, m.bot, m.w, m.s, m.gh, m.tgt, m.fuel, fun b => (m.mine b).trans ⟨fun h => h.1, fun h => ⟨h, fun hs => by
  rcases h with h | h
  ·exact (K.mineA e b h).2.1 hs
  ·have := L.lt (K.inv e) hs; omega⟩⟩⟩
theorem Lg.mv {L : La} {sv : Value} (K : Lg L sv) (e : K.E) (s' : L.Sg) (w' : World) (h1 : (K.w e).heap.size <= w'.heap.size) (h2 : ∀ b, b < (K.w e).heap.size -> ¬ K.mine e b -> ¬ L.sh (K.gh e) b -> w'.heap[b]? = (K.w e).heap[b]?) (h3 : L.I (K.gh e) s' w') : ∃ e', Mv K.toLb e e' s' w' := by
 obtain ⟨e', m⟩ := K.mg e (K.gh e) s' w' (L.refl _) h1 h2 h3 fun b h => .inl h
 exact ⟨e', m.mv⟩
def SCall {L : La} (K : Lb L) (f : FuncId) (args : Array Value) (e : K.E) (Q : Value -> K.E -> Prop) : Prop :=
 ∀ (fr : Frame) (l : List Frame), Cf fr -> (∀ f ∈ l, Cf f) -> (∀ v e', Q v e' -> LW K e' (G (fr.finish v) (l ++ K.bot e'))) -> LW K e (G (Frame.enter Try.prog f args .normal) (fr :: (l ++ K.bot e)))
section
variable {L : La} {K : Lb L} {e : K.E} {g : Goroutine}
theorem SCall.mono {f : FuncId} {args : Array Value} {Q Q' : Value -> K.E -> Prop} (h : SCall K f args e Q) (hQ : ∀ v e', Q v e' -> Q' v e') : SCall K f args e Q' := fun fr l hp hl hk => h fr l hp hl fun v e' hq => hk v e' (hQ v e' hq)
theorem LW.mv {e' : K.E} {s' : L.Sg} {w' : World} (h : Mv K e e' s' w') (hw : LW K e' g) : Walk Try.prog K.main (DR (K.V e)) (K.Stop e) g w' := by
 unfold LW at hw
 rw [h.V, h.Stop, h.w] at hw
 exact hw
theorem LW.mg {e' : K.E} {y' : L.Gh} {s' : L.Sg} {w' : World} (h : Mg K e e' y' s' w') (hw : LW K e' g) : Walk Try.prog K.main (DR (K.V e)) (K.Stop e) g w' := by
 unfold LW at hw
 rw [h.V, h.Stop, h.w] at hw
 exact hw
theorem SCall.mv {e' : K.E} {s' : L.Sg} {w' : World} {f : FuncId} {args : Array Value} {Q : Value -> K.E -> Prop} (h : Mv K e e' s' w') (hc : SCall K f args e' Q) {fr : Frame} {l : List Frame} (hp : Cf fr) (hl : ∀ f ∈ l, Cf f) (hk : ∀ v e', Q v e' -> LW K e' (G (fr.finish v) (l ++ K.bot e'))) :
  Walk Try.prog K.main (DR (K.V e)) (K.Stop e) (G (Frame.enter Try.prog f args .normal) (fr :: (l ++ K.bot e))) w' := by
 have := hc fr l hp hl hk
 rw [h.bot] at this
 exact LW.mv h this
theorem Mv.trans {e1 e2 : K.E} {s1 s2 : L.Sg} {w1 w2 : World} (h : Mv K e e1 s1 w1) (h' : Mv K e1 e2 s2 w2) (hs : (K.w e).heap.size <= w1.heap.size) (hs' : w1.heap.size <= w2.heap.size) : Mv K e e2 s2 w2 := by
 refine ⟨h'.V.trans h.V, h'.Stop.trans h.Stop, h'.bot.trans h.bot, h'.w, h'.s, h'.gh.trans h.gh, h'.tgt.trans h.tgt, h'.fuel.trans h.fuel, fun b => ?_⟩
 rw [h'.mine, h.mine, h.w]
 constructor
 ·rintro ((h | h) | h)
  ·exact .inl h
  ·exact .inr ⟨h.1, by omega⟩
  ·exact .inr ⟨by omega, h.2⟩
 ·rintro (h | h)
  ·exact .inl (.inl h)
  ·by_cases hb : b < w1.heap.size
   ·exact .inl (.inr ⟨h.1, hb⟩)
   ·exact .inr ⟨by omega, h.2⟩
variable {b : Frame} {a : Act} {k : List Item} {cs l : List Frame} {ops : Array Oper} {i : Nat} {rest : List Nat} {o : Oper}
theorem Bi {f : FuncId} {fn : Func} {args : Array Operand} {ats : Array TypeId} {Q : Value -> K.E -> Prop} (hc : SCall K f (args.map a.eval) e Q) (ho : ops[i]? = some o) (hw : Region.wanted o (yielded ops a.tmps) = true) (hk : b.kind ≠ .early) (hop : o.op = .call { callee := .value (.func f), args, argTypes := ats })
  (hf : Try.prog.funcs[f]? = some fn) (hname : (fn.name == "runtime.NumGoroutine") = false) (hb : fn.body.isNone = false) (hp : Cf (b.at a (.inRegion ops (i :: rest) :: k))) (hl : ∀ f ∈ l, Cf f)
  (h : ∀ v e', Q v e' -> LW K e' (G (b.at (a.put o.dst v) (.inRegion ops rest :: k)) (l ++ K.bot e'))) :
  LW K e (G (b.at a (.inRegion ops (i :: rest) :: k)) (l ++ K.bot e)) := by
 refine Walk.ctl (g' := G (Frame.enter Try.prog f (args.map a.eval) .normal) (b.at a (.inRegion ops (i :: rest) :: k) :: (l ++ K.bot e))) rfl (fun w => ?_) (hc _ l hp hl ?_)
 ·rw [stepG_enter ho hw hk (run_call_body hop hf hname hb)]
  have : listed Try.prog b.fn a o w = #[] := by unfold listed; rw [events_call_body hop hf hname hb]; exact seen_none Try.prog _
  rw [this]
 ·intro v e' hq
  rw [Frame.finish_at, ho]
  exact h v e' hq
end
section
variable {P : Program} {main : Bool} {V : Nat -> Option Wait} {Stop : Goroutine -> World -> Prop} {b : Frame} {a : Act} {cs : List Frame} {w : World} {fn : Func} {todo : List Item} {c : Frame} {t s : Tmp}
theorem Bk (hn : b.kind = .normal) (hd : a.defers = []) (hf : P.funcs[b.fn]? = some fn) (hr : fn.results = #[.tmp t]) (h : Walk P main (DR V) Stop (G (c.finish (a.tmps.getD t undef)) cs) w) : Walk P main (DR V) Stop (G { b.at a todo with mode := .returning } (c :: cs)) w :=
 Walk.ctl rfl (fun w => stepG_leave hn hd hf (results_tmp hr _ P w) (events_results_tmp hr _ _)) h
theorem Au (hn : b.kind = .normal) (hd : a.defers = []) (hf : P.funcs[b.fn]? = some fn) (hr : fn.results = #[]) (h : Walk P main (DR V) Stop (G (c.finish (.tuple #[])) cs) w) : Walk P main (DR V) Stop (G { b.at a todo with mode := .returning } (c :: cs)) w :=
 Walk.ctl rfl (fun w => stepG_leave hn hd hf (results_none hr _ P w) (events_results_none hr _ _)) h
theorem Cb (hn : b.kind = .normal) (hd : a.defers = []) (hf : P.funcs[b.fn]? = some fn) (hr : fn.results = #[.tmp t, .tmp s]) (h : Walk P main (DR V) Stop (G (c.finish (.tuple #[a.tmps.getD t undef, a.tmps.getD s undef])) cs) w) : Walk P main (DR V) Stop (G { b.at a todo with mode := .returning } (c :: cs)) w :=
 Walk.ctl rfl (fun w => stepG_leave (v := .tuple #[a.tmps.getD t undef, a.tmps.getD s undef]) hn hd hf (by simp [results, hr]) (by simp [results, hr])) h
end
end Go.Proofs.Ytflcclneedldoaa
