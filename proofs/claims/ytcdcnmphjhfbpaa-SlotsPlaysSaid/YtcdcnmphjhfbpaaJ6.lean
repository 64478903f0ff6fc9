/- Part 6. -/
import Derived.Test.YtcdcnmphjhfbpaaJ3
import Derived.Test.YtcdcnmphjhfbpaaJ4
import Derived.Test.YtcdcnmphjhfbpaaJ5
set_option linter.unusedSimpArgs false
set_option linter.unusedVariables false
set_option maxHeartbeats 8000000
set_option maxRecDepth 100000
namespace Go.Proofs.Ytcdcnmphjhfbpaa
noncomputable section
open Go.Conc Go.RowKit Go.Relay
open Go.ConcN (upd upd_ne upd_same)
section
open Classical in
def Gg (S : Stile) (j : Nat) (home : Goroutine -> Prop) : Wait where
 ch := S.r j
 z := .agg #[]
 ok := true
 home := home
 f := fun a => if a = ⟨S.B, 0, none⟩ then some (.slice (some ⟨S.sb, 0, none⟩) S.n S.scap) else if a = ⟨S.sb, j, none⟩ then some (.pointer (some ⟨S.p j, 0, none⟩)) else
  if a = ⟨S.p j, 1, none⟩ then some (.chan (some (S.r j))) else if a = ⟨S.p j, 2, none⟩ then some (.bool false) else none
structure Drv {S : Stile} {X : Type} (C : Crew S X) (n0 : Nat) (D : Dyn) (x : X) (w : World) : Prop where
 sys : Sys S n0 D w
 inv : C.inv D.k D.own x D.cs w
 fe : ∀ i, D.f i = D.e i
 out : ∀ i, i < D.k -> D.e i = (C.out x i).isSome /\ D.b i = (C.out x i == some true)
 fresh : ∀ i, D.k <= i -> D.e i = false /\ D.b i = false
 gg : D.gg = going S.n D.f
 most : S.most <= 1048576
 cnt : C.cnt x = D.ord.length
def Hb (D : Dyn) (j : Nat) (ok : Bool) : Dyn := { D with f := upd D.f j (!ok), gg := if ok then D.gg else D.gg - 1 }
section
variable {S : Stile} {X : Type} {C : Crew S X} {n0 : Nat} {D D' : Dyn} {w w' : World} {i j nG : Nat} {m : Machine} {T : Trace} {l : List Frame} {x : X} {home : Goroutine -> Prop}
theorem Nr (S : Stile) (j : Nat) (home : Goroutine -> Prop) : MW S j (Gg S j home) := by
 refine ⟨rfl, rfl, rfl, fun a h => ?_⟩
 simp only [Gg] at h
 by_cases h1 : a = ⟨S.B, 0, none⟩
 ·exact .inl h1
 by_cases h2 : a = ⟨S.sb, j, none⟩
 ·exact .inr (.inl ⟨j, h2⟩)
 by_cases h3 : a = ⟨S.p j, 1, none⟩
 ·exact .inr (.inr (.inl h3))
 by_cases h4 : a = ⟨S.p j, 2, none⟩
 ·exact .inr (.inr (.inr h4))
 rw [if_neg h1, if_neg h2, if_neg h3, if_neg h4] at h
 exact absurd rfl h
theorem mwOf_K (H : Sys S n0 D w) (hj : j < S.n) (hf : D.f j = false) : (Gg S j home).K w := by
 intro a y h
 simp only [Gg] at h
 by_cases h1 : a = ⟨S.B, 0, none⟩
 ·rw [if_pos h1] at h; cases h; subst h1; exact H.tB.1
 rw [if_neg h1] at h
 by_cases h2 : a = ⟨S.sb, j, none⟩
 ·rw [if_pos h2] at h; cases h; subst h2; exact H.ss hj
 rw [if_neg h2] at h
 by_cases h3 : a = ⟨S.p j, 1, none⟩
 ·rw [if_pos h3] at h; cases h; subst h3; exact H.p1 hj
 rw [if_neg h3] at h
 by_cases h4 : a = ⟨S.p j, 2, none⟩
 ·rw [if_pos h4] at h; cases h; subst h4; exact hf ▸ H.p2 hj
 rw [if_neg h4] at h; cases h
theorem Jx (H : Sys S n0 D w) (hj : j < S.n) : (Gg S j home).f ⟨S.B, 0, none⟩ = some (.slice (some ⟨S.sb, 0, none⟩) S.n S.scap) /\ (Gg S j home).f ⟨S.sb, j, none⟩ = some (.pointer (some ⟨S.p j, 0, none⟩)) /\
  (Gg S j home).f ⟨S.p j, 1, none⟩ = some (.chan (some (S.r j))) /\ (Gg S j home).f ⟨S.p j, 2, none⟩ = some (.bool false) := by
 have hBs : S.sb ≠ S.B := H.two H.oS H.oB (by simp)
 have hBp : S.p j ≠ S.B := H.two (H.op j hj) H.oB (by simp)
 have hsp : S.p j ≠ S.sb := H.two (H.op j hj) H.oS (by simp)
 refine ⟨by simp [Gg], by simp [Gg, hBs], by simp [Gg, hBp, hsp], by simp [Gg, hBp, hsp]⟩
theorem Jw (H : Sys S n0 D w) (hj : j < S.n) (he : D.e j = false) (hf : D.f j = false) {but : Nat -> Prop} {o : Option Nat} {g : Goroutine} (hW : ∀ main, Yonder Try.prog main (Gg S j home) g) : Then Try.prog (VV S D none o) 0 but g w (some (Gg S j home)) :=
 ⟨mwOf_K H hj hf, H.good _ _ (H.or j hj) he, fun i u _ hu => by
  rcases Jo hu with ⟨_, h⟩ | ⟨i', hi', _, _, _, rfl⟩
  ·cases h
  ·exact H.two (H.ot i' (Nat.lt_of_lt_of_le hi' H.kn)) (H.or j hj) (by simp), (hW _).waits⟩
theorem drv_noted {D1 : Dyn} (hfe : ∀ i, D1.f i = D1.e i) (hout : ∀ i, i < D1.k -> i ≠ j -> D1.e i = (C.out x i).isSome /\ D1.b i = (C.out x i == some true)) (hfr : ∀ i, D1.k <= i -> D1.e i = false /\ D1.b i = false) (hgg : D1.gg = going S.n D1.f) (hmost : S.most <= 1048576) (hcnt : C.cnt x = D1.ord.length)
  (hj : j < D1.k) (he : D1.e j = false) (l : List Frame) {w5 w6 : World} (H5 : Sys S n0 (Bf D1 j l (C.out x j)) w5) (I5 : C.inv D1.k D1.own x (upd D1.cs j l) w5) (h6 : ∃ d, w6 = (Fy w5 S.B (S.p j) D1.gg (C.out x j).isNone).at d) :
  Drv C n0 (Hb (Bf D1 j l (C.out x j)) j (C.out x j).isNone) x w6 := by
 obtain ⟨d, rfl⟩ := h6
 have hjn : j < S.n := Nat.lt_of_lt_of_le hj H5.kn
 have hf : D1.f j = false := (hfe j).trans he
 have hg1 : 1 <= D1.gg := by rw [hgg]; exact Ia hjn hf
 have hn := H5.note hjn hg1 (C.out x j).isNone
 have hns : ∀ o : Option Bool, (!o.isNone) = o.isSome := fun o => by cases o <;> rfl
 refine ⟨hn.1.at d, C.keep I5 (hn.2.at d), fun i => ?_, fun i hi => ?_, fun i hi => ?_, ?_, hmost, hcnt⟩
 ·simp only [Hb, Bf, hns]
  by_cases e : i = j
  ·subst e; rw [upd_same, upd_same]
  ·rw [upd_ne _ _ e, upd_ne _ _ e]; exact hfe i
 ·simp only [Hb, Bf]
  by_cases e : i = j
  ·subst e; rw [upd_same, upd_same]; exact ⟨rfl, rfl⟩
  ·rw [upd_ne _ _ e, upd_ne _ _ e]; exact hout i hi e
 ·have e : i ≠ j := fun e => by
   subst e
   simp only [Hb, Bf] at hi
   omega
  simp only [Hb, Bf]
  rw [upd_ne _ _ e, upd_ne _ _ e]
  exact hfr i hi
 ·simp only [Hb, Bf, hgg]
  cases ho : C.out x j with
  | none => simp only [Option.isNone_none, if_true, Bool.not_true]; rw [Ni _ hf]
  | some b => simp only [Option.isNone_some, Bool.false_eq_true, if_false, Bool.not_false]; rw [going_ended hjn hf]
theorem step_turn {c : Frame} {cs0 : List Frame} (hD : Drv C n0 D x w) (hi : i < D.k) (he : D.e i = false) (hov : (decide ((D.gg : Int) = 0) || decide (S.most <= D.ord.length)) = false)
  (A : At Try.prog (VV S D none none) 0 (S.g0 + D.k) (G (Frame.enter Try.prog 172 #[.pointer (some ⟨S.B, 0, none⟩), .int .i64 i] .normal) (c :: cs0)) w m T) :
  Relay.Comes Try.prog (fun m' T' => ∃ D' w', At Try.prog (VV S D' none none) 0 (S.g0 + D'.k) (G (c.finish (.tuple #[])) cs0) w' m' T' /\ Drv C n0 D' (C.next x i) w' /\ D'.ord = D.ord ++ [i] /\ D'.k = D.k) m T := by
 have hs := hD.sys
 have hin : i < S.n := Nat.lt_of_lt_of_le hi hs.kn
 have hf : D.f i = false := (hD.fe i).trans he
 obtain ⟨t0, t1, t2, t3, z1, z3⟩ := hs.tB
 have hlen : D.ord.length <= 1048576 := by
  have := hD.most
  simp only [Bool.or_eq_false_iff, decide_eq_false_iff_not] at hov
  omega
 have hn0 : n0 <= w.heap.size := Nat.le_of_lt (Nat.lt_of_le_of_lt (hs.lt _ _ hs.oB).1 (hs.lt _ _ hs.oB).2)
 have hsB : S.sb ≠ S.B := hs.two hs.oS hs.oB (by simp)
 have hpB : S.p i ≠ S.B := hs.two (hs.op i hin) hs.oB (by simp)
 refine (At.walk (h := 0) (Stop := fun g w' => ∃ N gr cap, g = Hp S.B S.sb S.n S.scap i (S.p i) (S.t i) N (.slice D.oa D.ord.length D.oc) (.slice (some ⟨gr, 0, none⟩) (D.ord.length + 1) cap) (c :: cs0) /\
   Sys S n0 { D with ord := D.ord ++ [i], oa := some ⟨gr, 0, none⟩, oc := cap, own := upd D.own gr (some .ord) } w' /\ Keeps D.own (upd D.own gr (some .ord)) w w')
  (step_go S.B S.sb S.n S.scap i (S.p i) (S.t i) n0 D.gg S.most D.oa D.ord.length D.oc _ (c :: cs0) w hin t0 t1 t2 t3 z3 (Ez hs hs.oB (.inl (by simp))) (hs.ss hin) (hf ▸ hs.p2 hin) (hs.p0 hin) hov hs.row hn0 hlen
   (fun g hg => ⟨apart_ord hs (hs.oo g hg), hs.two (hs.oo g hg) hs.oB (by simp), hs.two (hs.oo g hg) hs.oS (by simp), hs.two (hs.oo g hg) (hs.op i hin) (by simp)⟩) hsB hpB
   (fun g cap w' k1 e3 k2 k3 k4 k5 k6 k7 => .stop fun d => ⟨w.heap.size, g, cap, rfl, (hs.order k1 k2 k3 k4 k6 k7).1.at d, (hs.order k1 k2 k3 k4 k6 k7).2.at d⟩)) A).bind ?_
 rintro m1 T1 ⟨_, w1, ⟨N, gr, cap, rfl, H1, K1⟩, A1⟩
 generalize hD1 : ({ D with ord := D.ord ++ [i], oa := some ⟨gr, 0, none⟩, oc := cap, own := upd D.own gr (some .ord) } : Dyn) = D1 at H1
 have h1k : D1.k = D.k := by rw [<- hD1]
 have h1e : D1.e = D.e := by rw [<- hD1]
 have h1b : D1.b = D.b := by rw [<- hD1]
 have h1f : D1.f = D.f := by rw [<- hD1]
 have h1g : D1.gg = D.gg := by rw [<- hD1]
 have h1c : D1.cs = D.cs := by rw [<- hD1]
 have h1N : D1.N = D.N := by rw [<- hD1]
 have h1o : D1.own = upd D.own gr (some .ord) := by rw [<- hD1]
 have h1r : D1.ord = D.ord ++ [i] := by rw [<- hD1]
 have hi1 : i < D1.k := h1k ▸ hi
 have he1 : D1.e i = false := h1e ▸ he
 have hf1 : D1.f i = false := h1f ▸ hf
 rw [<- Nf (D' := D1) (D := D) h1k (fun i _ _ => by rw [h1e, h1c, h1N]; exact ⟨rfl, rfl, rfl⟩)] at A1
 generalize hmw : Gg S i (fun g => g = rec107 (S.p i) (S.r i) (Mk S.B (S.p i) :: fr81 S.B S.sb S.n S.scap i (S.p i) (S.t i) N (.slice D.oa D.ord.length D.oc) (.slice (some ⟨gr, 0, none⟩) (D.ord.length + 1) cap) :: c :: cs0)) = mw
 have hm : MW S i mw := hmw ▸ Nr _ _ _
 obtain ⟨z', es, hes, hsd⟩ := send81 (main := (0 == 0)) (V := VV S D1 none none) S.B S.sb S.n S.scap i (S.p i) (S.t i) N (.slice D.oa D.ord.length D.oc) (.slice (some ⟨gr, 0, none⟩) (D.ord.length + 1) cap) (c :: cs0) w1
 have hg0 := hs.hg0
 refine (A1.give (v := wT S D1 i) (x := .agg #[]) (j := S.g0 + i) (new := some mw) (by omega) (by omega) (VV_at hg0 hi1 he1 (by simp)) rfl hsd hes ?_).bind ?_
 ·rw [<- hmw]
  refine Jw H1 hin he1 hf1 fun main => way81 _ _ _ _ _ _ _ _ _ _ _ _ _ hin rfl rfl rfl (Jx H1 hin).1 (Jx H1 hin).2.1 (Jx H1 hin).2.2.1 rfl
 rintro m2 T2 ⟨_, d2, k, rfl, hc, A2⟩
 rw [after_main.resolve_right (by omega)] at A2
 simp only [wT] at A2 hc
 have H2 := (H1.at d2).chan (k' := k + 1) hc ⟨i, .inl (H1.ot i hin)⟩
 have I2 := C.keep hD.inv (K1.trans ((Keeps.at (Keeps.refl _ w1) d2).trans (Keeps.chan (h1o ▸ H1.ot i hin) false (k + 1))))
 rw [<- h1o] at I2
 generalize (w1.at d2).setChan (S.t i) 0 #[] false (k + 1) (k + 1) false = w2 at A2 H2 I2
 obtain ⟨⟨c', l', hcs⟩, _⟩ := C.shape I2 hi (by have := (hD.out i hi).1; rw [he] at this; exact Option.not_isSome_iff_eq_none.1 (by rw [<- this]; simp))
 have hout : C.out x i = none := by have := (hD.out i hi).1; rw [he] at this; exact Option.not_isSome_iff_eq_none.1 (by rw [<- this]; simp)
 rw [h1c, hcs, List.cons_append] at A2
 have I3 := C.keep I2 (Keeps.alloc _ w2 (.cells #[] 90))
 have hmain := thr_main hs i
 refine (At.walk (Stop := Fin C.inv C.out S D.k D1.own (C.next x i) D.cs i (fr60 (D1.N i) (S.F i) (.iface 259 (.pointer (some ⟨S.p i, 0, none⟩)))) [fr78 (S.p i) (S.r i) (S.F i), bornfr] (w2.alloc (.cells #[] 90))) (by
  rw [hmain]
  refine (serve139 (S.p i) (S.r i) (S.t i) c' (l' ++ bot S (D1.N i) i) w2).then ?_
  rintro _ _ ⟨rfl, d, rfl⟩
  refine Walk.back ?_ d
  exact C.go _ _ I3 hi hout hcs (by rw [hD.cnt]; have := hD.most; simp only [Bool.or_eq_false_iff, decide_eq_false_iff_not] at hov; omega) (fun b hb => VV_apart H2 hin (fun v hv => by cases hv; exact hm) hb) (fun b r hb => ((H2.alloc (.cells #[] 90)).lt b r hb).2)) A2).bind ?_
 rintro m3 T3 ⟨g4, w4, hF, A3⟩
 have H4 : Sys S n0 D1 w4 := (H2.alloc (.cells #[] 90)).same hF.1 hF.2.1
 rw [<- h1k, <- h1c] at hF
 refine (fin_back H4 hi1 he1 (by rw [h1b]; have := (hD.out i hi).2; rw [hout] at this; exact this) (by omega) hm hF A3).bind ?_
 rintro m5 T5 ⟨g₂, w5, l, hh, A5, H5, I5⟩
 rw [<- hmw] at hh
 simp only [Gg] at hh
 subst hh
 have hg1 : 1 <= D.gg := by rw [hD.gg]; exact Ia hin hf
 have hg64 : D.gg <= 64 := by rw [hD.gg]; exact Nat.le_trans (going_le _ _) hs.n64
 have tB5 := H5.tB
 simp only [Bf, h1g] at tB5
 refine (At.walk (h := 0) (serve81 S.B S.sb S.n S.scap i (S.p i) (S.t i) (S.r i) N _ _ c cs0 (C.out (C.next x i) i).isNone (D1.f i) D.gg w5 (by omega) (by omega) (Ne.symm hpB) (H5.p2 hin) (H5.pz hin 2) (Ez H5 (H5.op i hin) (.inr (by omega)))
  tB5.2.1 tB5.2.2.2.2.1 (Ez H5 H5.oB (.inl (by simp)))) A5).mono ?_
 rintro m6 T6 ⟨_, w6, ⟨rfl, d6, rfl⟩, A6⟩
 refine ⟨Hb (Bf D1 i l (C.out (C.next x i) i)) i (C.out (C.next x i) i).isNone, _, ?_, drv_noted (by rw [h1f, h1e]; exact hD.fe) (fun j hj hne => by rw [h1e, h1b, C.nextOut x i j hne]; exact hD.out j (h1k ▸ hj)) (fun j hj => by rw [h1e, h1b]; exact hD.fresh j (h1k ▸ hj)) (by rw [h1g, h1f]; exact hD.gg) hD.most (by rw [C.cntNext, hD.cnt, h1r]; simp) hi1 he1 l H5 I5 ⟨d6, by rw [h1g]⟩, h1r, h1k⟩
 have hV : VV S (Hb (Bf D1 i l (C.out (C.next x i) i)) i (C.out (C.next x i) i).isNone) none none = VV S (Bf D1 i l (C.out (C.next x i) i)) none none := Nf rfl (fun _ _ _ => ⟨rfl, rfl, rfl⟩)
 have : S.g0 + (Hb (Bf D1 i l (C.out (C.next x i) i)) i (C.out (C.next x i) i).isNone).k = S.g0 + D.k := congrArg (S.g0 + ·) h1k
 rw [this, hV]
 exact A6
end
end
section
variable {main : Bool} {V : Nat -> Option Wait}
def Dh : Code := match Try.f145.body with | some (.seq _ (.block _ (.loop c))) => c | _ => .skip
def Gu : Code := match Dh with | .seq _ (.seq _ (.seq (.block _ (.seq _ c)) _)) => c | _ => .skip
def Md : Array Oper := match Gu with | .seq (.region _ ops _) _ => ops | _ => #[]
def Ho : Code := match Gu with | .seq _ c => c | _ => .skip
def ops54w : Array Oper := match Ho with | .region _ ops _ => ops | _ => #[]
def Ly : Code := match Dh with | .seq _ (.seq _ (.seq _ c)) => c | _ => .skip
def Je (B sb n scap tb tcap j : Nat) (u : Nat -> Value) : Frame :=
 (base 145).at { tmps := #[.pointer (some ⟨B, 0, none⟩), .slice (some ⟨tb, 0, none⟩) n tcap, undef, undef, u 4, u 5, .pointer (some ⟨B, 0, none⟩), .pointer (some ⟨B, 0, none⟩), .pointer (some ⟨B, 0, none⟩), .slice (some ⟨sb, 0, none⟩) n scap, .int .i64 n, .int .i64 j, u 12, u 13, u 14, u 15, u 16, u 17, u 18, u 19, u 20, u 21, u 22, u 23, u 24], defers := [] } [.code Dh, .inLoop Dh, .inBlock 0]
def Np (B sb n scap tb tcap j p : Nat) (F : Value) (u : Nat -> Value) (cs : List Frame) : Goroutine :=
 G ((base 145).at { tmps := #[.pointer (some ⟨B, 0, none⟩), .slice (some ⟨tb, 0, none⟩) n tcap, undef, undef, .int .i64 j, .pointer (some ⟨p, 0, none⟩), .pointer (some ⟨B, 0, none⟩), .pointer (some ⟨B, 0, none⟩), .pointer (some ⟨B, 0, none⟩), .slice (some ⟨sb, 0, none⟩) n scap, .int .i64 n, .int .i64 j, .bool true, .int .i64 j, .pointer (some ⟨sb, j, none⟩), .pointer (some ⟨p, 0, none⟩), .pointer (some ⟨p, 0, none⟩), .slice (some ⟨tb, 0, none⟩) n tcap, .int .i64 j, .pointer (some ⟨tb, j, none⟩), F, u 21, u 22, u 23, u 24], defers := [] } [.inRegion Md [5], .code Ho, .inBlock 1, .code Ly, .inLoop Dh, .inBlock 0]) cs
def Lx (B sb n scap tb tcap j p : Nat) (F : Value) (u : Nat -> Value) (cs : List Frame) : Goroutine :=
 G ((base 145).at { tmps := #[.pointer (some ⟨B, 0, none⟩), .slice (some ⟨tb, 0, none⟩) n tcap, undef, undef, .int .i64 j, .pointer (some ⟨p, 0, none⟩), .pointer (some ⟨B, 0, none⟩), .pointer (some ⟨B, 0, none⟩), .pointer (some ⟨B, 0, none⟩), .slice (some ⟨sb, 0, none⟩) n scap, .int .i64 n, .int .i64 j, .bool true, .int .i64 j, .pointer (some ⟨sb, j, none⟩), .pointer (some ⟨p, 0, none⟩), .pointer (some ⟨p, 0, none⟩), .slice (some ⟨tb, 0, none⟩) n tcap, .int .i64 j, .pointer (some ⟨tb, j, none⟩), F, u 21, u 22, u 23, u 24], defers := [] } [.inRegion Md [], .code Ho, .inBlock 1, .code Ly, .inLoop Dh, .inBlock 0]) cs
def fr54 (B sb n scap tb tcap j p : Nat) (F : Value) (u : Nat -> Value) : Frame :=
 (base 145).at { tmps := #[.pointer (some ⟨B, 0, none⟩), .slice (some ⟨tb, 0, none⟩) n tcap, undef, undef, .int .i64 j, .pointer (some ⟨p, 0, none⟩), .pointer (some ⟨B, 0, none⟩), .pointer (some ⟨B, 0, none⟩), .pointer (some ⟨B, 0, none⟩), .slice (some ⟨sb, 0, none⟩) n scap, .int .i64 n, .int .i64 j, .bool true, .int .i64 j, .pointer (some ⟨sb, j, none⟩), .pointer (some ⟨p, 0, none⟩), .pointer (some ⟨p, 0, none⟩), .slice (some ⟨tb, 0, none⟩) n tcap, .int .i64 j, .pointer (some ⟨tb, j, none⟩), F, .pointer (some ⟨B, 0, none⟩), .pointer (some ⟨p, 0, none⟩), u 23, u 24], defers := [] } [.inRegion ops54w [2], .inBlock 1, .code Ly, .inLoop Dh, .inBlock 0]
theorem begin_in (B sb n scap tb tcap : Nat) (cs : List Frame) (w : World) (h0 : w.cell? ⟨B, 0, none⟩ = some (.slice (some ⟨sb, 0, none⟩) n scap)) :
  Walk Try.prog main (DR V) (fun g w' => g = G (Je B sb n scap tb tcap 0 (fun _ => undef)) cs /\ ∃ d, w' = w.at d) (G (Frame.enter Try.prog 145 #[.pointer (some ⟨B, 0, none⟩), .slice (some ⟨tb, 0, none⟩) n tcap] .normal) cs) w := by
 rw [enter_at _ Try.func145 rfl]
 simp only [Try.f145, ez, Nat.reduceAdd, Nat.reduceSub]
 refine Ae ?_
 refine Walk.ctl rfl (fun w => stepG_loop) ?_
 refine .stop fun d => ⟨?_, d, rfl⟩
 simp only [Je, Dh, Try.f145]
 rfl
theorem begin_go (B sb n scap tb tcap j p : Nat) (F : Value) (u : Nat -> Value) (cs : List Frame) (w : World) (hj : j < n) (hp : w.cell? ⟨sb, j, none⟩ = some (.pointer (some ⟨p, 0, none⟩))) (hF : w.cell? ⟨tb, j, none⟩ = some F) :
  Walk Try.prog main (DR V) (fun g w' => g = Np B sb n scap tb tcap j p F u cs /\ ∃ d, w' = w.at d) (G (Je B sb n scap tb tcap j u) cs) w := by
 unfold Je
 simp only [Dh, Try.f145]
 have hi0 : (0 : Int) <= j := by omega
 have hi1 : decide ((j : Int) < n) = true := by simp; omega
 have hi2 : decide (n <= j) = false := by simp; omega
 have hi3 : decide (j < n) = true := by simp; omega
 refine Ae ?_
 refine .stop fun d => ⟨?_, d, rfl⟩
 simp only [Np, Md, Ho, Gu, Ly, Dh, Try.f145]
theorem spawn54 (B sb n scap tb tcap j p : Nat) (F : Value) (u : Nat -> Value) (cs : List Frame) (w : World) :
  stepG Try.prog main (Np B sb n scap tb tcap j p F u cs) w = .spawn (Lx B sb n scap tb tcap j p F u cs) (born Try.prog { target := .fn (.func 169) #[], args := #[.pointer (some ⟨p, 0, none⟩), F] }) w #[] := by
 unfold Np Lx
 simp only [Md, Ho, Gu, Dh, Try.f145]
 rw [stepG_spawn (d := { target := .fn (.func 169) #[], args := #[.pointer (some ⟨p, 0, none⟩), F] }) (w' := w) (f := .func 169) (c := #[]) rfl (by rfl) (by decide) (by simp [go_sem, execOp, Act.eval, Deferred.ofValue]) rfl, listed_none (by simp [go_sem, execOp, Act.eval])]
 rfl
theorem begin_way (B sb n scap tb tcap j p r : Nat) (F : Value) (u : Nat -> Value) (cs : List Frame) (v : Wait) (hch : v.ch = r) (hz : v.z = .agg #[]) (hok : v.ok = true) (hf : v.f ⟨p, 1, none⟩ = some (.chan (some r))) (hh : v.home (rec107 p r (Mk B p :: fr54 B sb n scap tb tcap j p F u :: cs))) :
  Yonder Try.prog main v (Lx B sb n scap tb tcap j p F u cs) := by
 unfold Lx
 simp only [Md, Ho, Gu, Dh, Try.f145]
 iterate 5 (try (first | refine Yonder.c rfl ?_ | refine Yonder.cR ?_ | refine De ?_ | refine Yonder.cT ?_ | (refine Yonder.oq ?_; try walk_nrm)))
 refine Yonder.callE rfl (by rfl) (by decide) rfl Try.func170 (by kernel_rfl) (by rfl) ?_
 walk_nrm
 refine way79 B p r _ v hch hz hok hf ?_
 simp only [fr54, ops54w, Ho, Gu, Dh, Try.f145] at hh
 exact hh
theorem begin_back (B sb n scap tb tcap j p r : Nat) (F : Value) (u : Nat -> Value) (cs : List Frame) (ok e0 : Bool) (going : Int) (w : World) (hj : j < 64) (hg1 : 1 <= going) (hg2 : going <= 64) (hBp : B ≠ p) (h2 : w.cell? ⟨p, 2, none⟩ = some (.bool e0)) (hz2 : w.frozen? ⟨p, 2, none⟩ = false) (hfr : Di V ⟨p, 2, none⟩)
  (h1 : w.cell? ⟨B, 1, none⟩ = some (.int .i64 going)) (hz1 : w.frozen? ⟨B, 1, none⟩ = false) (hfr1 : Di V ⟨B, 1, none⟩) :
  Walk Try.prog main (DR V) (fun g w' => (∃ u', g = G (Je B sb n scap tb tcap (j + 1) u') cs) /\ ∃ d, w' = (Fy w B p going ok).at d) (Go.Conc.served (rec107 p r (Mk B p :: fr54 B sb n scap tb tcap j p F u :: cs)) (recvd true (.agg #[]) ok)) w := by
 refine (serve79 B p r (fr54 B sb n scap tb tcap j p F u) cs ok e0 going w hg1 hg2 hBp h2 hz2 hfr h1 hz1 hfr1).then ?_
 rintro g w' ⟨rfl, d, rfl⟩
 refine Walk.back ?_ d
 have hw1 : IntKind.wrap .i64 ((j : Int) + 1) = (j : Int) + 1 := by rw [IntKind.wrap_i64]; omega
 unfold fr54
 rw [Frame.finish_at]
 simp only [ops54w, Ho, Gu, Dh, Ly, Try.f145]
 walk_nrm
 refine Ae ?_
 refine Walk.ctl rfl (fun w => stepG_inLoop) ?_
 refine .stop fun d' => ⟨⟨fun k => ([undef, undef, undef, undef, .int .i64 j, .pointer (some ⟨p, 0, none⟩), undef, undef, undef, undef, undef, undef, .bool true, .int .i64 j, .pointer (some ⟨sb, j, none⟩), .pointer (some ⟨p, 0, none⟩), .pointer (some ⟨p, 0, none⟩), .slice (some ⟨tb, 0, none⟩) n tcap, .int .i64 j, .pointer (some ⟨tb, j, none⟩), F, .pointer (some ⟨B, 0, none⟩), .pointer (some ⟨p, 0, none⟩), .tuple #[], .int .i64 ((j : Int) + 1)] : List Value).getD k undef, ?_⟩, d', rfl⟩
 have hc : ((j + 1 : Nat) : Int) = (j : Int) + 1 := by simp
 simp only [Je, Dh, Try.f145, hc]
 rfl
theorem begin_out (B sb n scap tb tcap : Nat) (u : Nat -> Value) (c : Frame) (cs : List Frame) (w : World) :
  Walk Try.prog main (DR V) (fun g w' => g = G (c.finish (.tuple #[])) cs /\ ∃ d, w' = w.at d) (G (Je B sb n scap tb tcap n u) (c :: cs)) w := by
 unfold Je
 simp only [Dh, Try.f145]
 have hi1 : decide ((n : Int) < n) = false := by simp
 have hi3 : decide (n < n) = false := by simp
 refine Ae ?_
 exact Walk.ctl rfl (fun w => stepG_leave rfl rfl Try.func145 (results_none rfl _ _ w) (events_results_none rfl _ _)) (.stop fun d => ⟨rfl, d, rfl⟩)
end
section
variable {main : Bool} {V : Nat -> Option Wait}
theorem ride_none (S : Value) (c : Frame) (cs : List Frame) (w : World) :
  Walk Try.prog main (DR V) (fun g w' => (∃ d, w' = (w.alloc (.cells #[.bool false] 4)).at d) /\
   (Di V ⟨w.heap.size, 0, none⟩ -> Walk Try.prog main (DR V) (fun g₂ w₂ => g₂ = G (c.finish (.tuple #[.bool true, .bool false])) cs /\ ∃ d, w₂ = ((w.alloc (.cells #[.bool false] 4)).setCell ⟨w.heap.size, 0, none⟩ (.bool false)).at d) g w'))
   (G (Frame.enter Try.prog 155 #[.nilFunc, S] .normal) (c :: cs)) w := by
 obtain ⟨ms, h20⟩ := und20
 have hn1 := fun w => Dd (P := Try.prog) (w := w) 20 h20
 have hn2 := fun w es => Dn (P := Try.prog) (w := w) 20 es h20
 have hn3 := fun w => run_neq_nilFunc (P := Try.prog) (w := w) 194 (by kernel_rfl : Try.prog.underlying 194 = some (.func #[137] #[] false))
 have hn4 := fun w es => ev_neq_nilFunc (P := Try.prog) (w := w) 194 es (by kernel_rfl : Try.prog.underlying 194 = some (.func #[137] #[] false))
 rw [enter_at _ Try.func155 rfl]
 simp only [Try.f155, ez, Nat.reduceAdd, Nat.reduceSub]
 refine Ae ?_
 (refine Walk.oa ?_; try walk_nrm)
 have hN : (w.alloc (.cells #[.bool false] 4)).cell? ⟨w.heap.size, 0, none⟩ = some (.bool false) := (Ac (heap_alloc_new w _) 0).trans rfl
 have hz : (w.alloc (.cells #[.bool false] 4)).frozen? ⟨w.heap.size, 0, none⟩ = false := Aq (heap_alloc_new w _) 0
 generalize w.heap.size = N at *
 generalize w.alloc (.cells #[.bool false] 4) = w1 at *
 refine .stop fun d => ⟨⟨d, rfl⟩, fun hfr => Walk.back ?_ d⟩
 refine Ae ?_
 refine Walk.ctl rfl (fun w' => Fu (d := Gk N) rfl (by rfl) (by decide) (by simp [go_sem, execOp, Deferred.ofValue, Gk]) (by simp [go_sem, execOp, Deferred.ofValue])) ?_
 walk_nrm
 refine Ae ?_
 (refine Walk.os hfr hN ?_; try walk_nrm)
 refine Ae ?_
 have hN' := World.cell?_setCell_same w1 ⟨N, 0, none⟩ (.bool false) hN
 refine Walk.ctl rfl (fun w => Cx (d := Gk N) (ds := []) (by simp [Frame.at]) rfl rfl Try.func178 (by kernel_rfl) (by rfl)) ?_
 simp only [Gk, List.append_toArray, List.nil_append]
 rw [enter_atD _ Try.func178 rfl]
 simp only [Try.f178, ez, Nat.reduceAdd, Nat.reduceSub]
 refine Ae ?_
 refine Walk.ctl rfl (fun w => Fk rfl (by rfl) rfl rfl rfl) ?_
 walk_nrm
 refine Ae ?_
 refine Walk.ctl rfl (fun w => Eo rfl rfl Try.func178 (results_none rfl _ _ w) (events_results_none rfl _ _) rfl) ?_
 exact Le rfl rfl rfl rfl rfl rfl hN'
end
section
section
variable {S : Stile} {X : Type} {C : Crew S X} {n0 : Nat} {D D' : Dyn} {w w' : World} {i j nG : Nat} {m : Machine} {T : Trace} {l : List Frame} {x : X} {home : Goroutine -> Prop}
theorem begin_one {u : Nat -> Value} {cs0 : List Frame} (hD : Drv C n0 D x w) (hk : D.k < S.n) (hz : ∀ i, S.g0 + D.k <= i -> VV S D none none i = none) (h00 : D.ord = [])
  (A : At Try.prog (VV S D none none) 0 (S.g0 + D.k) (G (Je S.B S.sb S.n S.scap S.tb S.tcap D.k u) cs0) w m T) :
  Relay.Comes Try.prog (fun m' T' => ∃ D' w' u', At Try.prog (VV S D' none none) 0 (S.g0 + D'.k) (G (Je S.B S.sb S.n S.scap S.tb S.tcap D'.k u') cs0) w' m' T' /\ Drv C n0 D' (C.born x D.k) w' /\ D'.ord = D.ord /\ D'.k = D.k + 1) m T := by
 have hs := hD.sys
 have hg0 := hs.hg0
 obtain ⟨he, hb⟩ := hD.fresh D.k (Nat.le_refl _)
 have hf : D.f D.k = false := (hD.fe _).trans he
 have hpB : S.p D.k ≠ S.B := hs.two (hs.op D.k hk) hs.oB (by simp)
 refine (At.walk (h := 0) (begin_go S.B S.sb S.n S.scap S.tb S.tcap D.k (S.p D.k) (S.F D.k) u cs0 w hk (hs.ss hk) (C.thr hD.inv (Nat.le_refl _) hk)) A).bind ?_
 rintro m1 T1 ⟨_, _, ⟨rfl, d1, rfl⟩, A1⟩
 generalize hmw : Gg S D.k (fun g => g = rec107 (S.p D.k) (S.r D.k) (Mk S.B (S.p D.k) :: fr54 S.B S.sb S.n S.scap S.tb S.tcap D.k (S.p D.k) (S.F D.k) u :: cs0)) = mw
 have hm : MW S D.k mw := hmw ▸ Nr _ _ _
 refine (A1.hire (es := #[]) (a' := Lx S.B S.sb S.n S.scap S.tb S.tcap D.k (S.p D.k) (S.F D.k) u cs0) rfl (fun d => spawn54 ..) (by simp) hz (new := some mw) ?_).bind ?_
 ·rw [<- hmw]
  exact Jw (hs.at d1) hk he hf fun main => begin_way _ _ _ _ _ _ _ _ _ _ _ _ _ rfl rfl rfl (Jx hs hk).2.2.1 rfl
 rintro m2 T2 ⟨d2, A2⟩
 have H2 := (hs.at d1).at d2
 have I2 := C.keep hD.inv (((Keeps.refl D.own w).at d1).at d2)
 have K0 : Keeps D.own (upd D.own ((w.at d1).at d2).heap.size (some (.nn D.k))) ((w.at d1).at d2) (((w.at d1).at d2).alloc (.cells #[.bool false] 4)) :=
  ⟨by simp, fun b hb ho => ⟨by rw [upd_ne _ _ (by omega)]; exact ho, Ad _ _ hb⟩⟩
 generalize (w.at d1).at d2 = w2 at A2 H2 I2 K0
 have H3 := H2.hire hk
 have I3 := C.keep I2 K0
 generalize hD1 : ({ D with k := D.k + 1, N := upd D.N D.k w2.heap.size, own := upd D.own w2.heap.size (some (.nn D.k)) } : Dyn) = D1 at H3
 have h1k : D1.k = D.k + 1 := by rw [<- hD1]
 have h1e : D1.e = D.e := by rw [<- hD1]
 have h1b : D1.b = D.b := by rw [<- hD1]
 have h1f : D1.f = D.f := by rw [<- hD1]
 have h1g : D1.gg = D.gg := by rw [<- hD1]
 have h1c : D1.cs = D.cs := by rw [<- hD1]
 have h1N : D1.N = upd D.N D.k w2.heap.size := by rw [<- hD1]
 have h1o : D1.own = upd D.own w2.heap.size (some (.nn D.k)) := by rw [<- hD1]
 have h1r : D1.ord = D.ord := by rw [<- hD1]
 rw [<- h1o] at I3
 rw [upd_hire (D' := D1) h1k (fun i hi => by rw [h1e, h1c, h1N, upd_ne _ _ (by omega)]; exact ⟨rfl, rfl, rfl⟩)] at A2
 have hmain := thr_main hs D.k
 have hNk : D1.N D.k = w2.heap.size := by rw [h1N, upd_same]
 have back : Relay.Comes Try.prog (fun m' T' => ∃ g₂ w' l, mw.home g₂ /\ At Try.prog (VV S (Bf D1 D.k l (C.out (C.born x D.k) D.k)) none none) 0 (S.g0 + D.k + 1) (Go.Conc.served g₂ (recvd true (.agg #[]) (C.out (C.born x D.k) D.k).isNone)) w' m' T' /\ Sys S n0 (Bf D1 D.k l (C.out (C.born x D.k) D.k)) w' /\ C.inv D1.k D1.own (C.born x D.k) (upd D1.cs D.k l) w') m2 T2 := by
  rcases C.start (V := VV S D1 (some mw) (some D.k)) (fr60 w2.heap.size (S.F D.k) (.iface 259 (.pointer (some ⟨S.p D.k, 0, none⟩)))) [fr78 (S.p D.k) (S.r D.k) (S.F D.k), bornfr] I3 hk (by rw [hD.cnt, h00]; simp)
    (fun b hb => VV_apart H3 hk (fun v hv => by cases hv; exact hm) hb) (fun b r hb => (H3.lt b r hb).2) with ⟨fi, fn, first, cap, hF, h1, h2, h3, hW⟩ | ⟨hF, ho, hI⟩
  ·refine (At.walk (Stop := Fin C.inv C.out S (D.k + 1) D1.own (C.born x D.k) D.cs D.k (fr60 w2.heap.size (S.F D.k) (.iface 259 (.pointer (some ⟨S.p D.k, 0, none⟩)))) [fr78 (S.p D.k) (S.r D.k) (S.F D.k), bornfr] (w2.alloc (.cells #[.bool false] 4))) (by
    rw [hmain]
    refine Lr _ _ _ _ (H2.p1 hk) ?_
    rw [hF] at hW ⊢
    exact ride_in fi fn first cap _ _ _ h1 h2 h3 hW) A2).bind ?_
   rintro m3 T3 ⟨g4, w4, hF, A3⟩
   have H4 : Sys S n0 D1 w4 := H3.same hF.1 hF.2.1
   rw [<- h1k, <- h1c, <- hNk] at hF
   exact fin_back H4 (by omega) (h1e ▸ he) (h1b ▸ hb) (by omega) hm hF A3
  ·refine (At.walk (Stop := fun g w' => (∃ d, w' = (w2.alloc (.cells #[.bool false] 4)).at d) /\ Walk Try.prog (S.g0 + D.k == 0) (DR (VV S D1 (some mw) (some D.k))) (fun g₂ w₂ => g₂ = G ((fr78 (S.p D.k) (S.r D.k) (S.F D.k)).finish (.tuple #[.bool true, .bool false])) [bornfr] /\ ∃ d, w₂ = ((w2.alloc (.cells #[.bool false] 4)).setCell ⟨w2.heap.size, 0, none⟩ (.bool false)).at d) g w') (by
    rw [hmain]
    refine Lr _ _ _ _ (H2.p1 hk) ?_
    rw [hF]
    refine (ride_none _ _ [bornfr] w2).mono ?_
    rintro g w' ⟨h1, h2⟩
    refine ⟨h1, h2 ?_⟩
    rw [<- hNk]
    exact Jf H3 hk hm (H3.oN D.k (by omega)) (.inl ⟨_, rfl⟩)) A2).bind ?_
   rintro m3 T3 ⟨g4, _, ⟨⟨d4, rfl⟩, hW⟩, A3⟩
   have H4 := H3.at d4
   refine (Gt H4 (by omega) (by omega) hm false (W := ((w2.alloc (.cells #[.bool false] 4)).at d4).setCell ⟨D1.N D.k, 0, none⟩ (.bool false)) (Keeps.set (.bool false) (H4.oN D.k (by omega))) (H4.ride (by omega) (.bool false)) (g := g4) (hW.mono ?_) A3 []).mono ?_
   ·rintro g w' ⟨rfl, d, rfl⟩
    refine ⟨true, rfl, d, ?_⟩
    rw [hNk]
    rfl
   ·rintro m4 T4 ⟨g₂, w', hh, A4, H5, K5⟩
    rw [ho]
    refine ⟨g₂, w', [], hh, A4, H5, ?_⟩
    rw [h1k, h1c]
    exact C.keep (C.keep hI ((Keeps.refl _ _).at d4)) K5
 refine back.bind ?_
 rintro m5 T5 ⟨g₂, w5, l, hh, A5, H5, I5⟩
 rw [<- hmw] at hh
 simp only [Gg] at hh
 subst hh
 have hg1 : 1 <= D.gg := by rw [hD.gg]; exact Ia hk hf
 have hg64 : D.gg <= 64 := by rw [hD.gg]; exact Nat.le_trans (going_le _ _) hs.n64
 have tB5 := H5.tB
 simp only [Bf, h1g] at tB5
 refine (At.walk (h := 0) (begin_back S.B S.sb S.n S.scap S.tb S.tcap D.k (S.p D.k) (S.r D.k) (S.F D.k) u cs0 (C.out (C.born x D.k) D.k).isNone (D1.f D.k) D.gg w5 (by have := hs.n64; omega) (by omega) (by omega) (Ne.symm hpB) (H5.p2 hk) (H5.pz hk 2) (Ez H5 (H5.op D.k hk) (.inr (by omega)))
  tB5.2.1 tB5.2.2.2.2.1 (Ez H5 H5.oB (.inl (by simp)))) A5).mono ?_
 rintro m6 T6 ⟨_, w6, ⟨⟨u', rfl⟩, d6, rfl⟩, A6⟩
 refine ⟨Hb (Bf D1 D.k l (C.out (C.born x D.k) D.k)) D.k (C.out (C.born x D.k) D.k).isNone, _, u', ?_, drv_noted (by rw [h1f, h1e]; exact hD.fe) (fun j hj hne => by rw [h1e, h1b, C.bornOut x D.k j hne]; exact hD.out j (by omega)) (fun j hj => by rw [h1e, h1b]; exact hD.fresh j (by omega)) (by rw [h1g, h1f]; exact hD.gg) hD.most (by rw [C.cntBorn, hD.cnt, h1r]) (by omega) (h1e ▸ he) l H5 I5 ⟨d6, by rw [h1g]⟩, h1r, h1k⟩
 have hV : VV S (Hb (Bf D1 D.k l (C.out (C.born x D.k) D.k)) D.k (C.out (C.born x D.k) D.k).isNone) none none = VV S (Bf D1 D.k l (C.out (C.born x D.k) D.k)) none none := Nf rfl (fun _ _ _ => ⟨rfl, rfl, rfl⟩)
 have hkk : (Hb (Bf D1 D.k l (C.out (C.born x D.k) D.k)) D.k (C.out (C.born x D.k) D.k).isNone).k = D.k + 1 := h1k
 rw [hkk, hV]
 exact A6
theorem VV_high (D : Dyn) (h : 1 <= S.g0) : ∀ i, S.g0 + D.k <= i -> VV S D none none i = none := fun i hi => by
 unfold VV
 rw [if_neg (by omega), if_neg (by omega)]
def Ie (C : Crew S X) : Nat -> Nat -> X -> X
 | 0, _, x => x
 | n + 1, k, x => Ie C n (k + 1) (C.born x k)
theorem begin_all {cs0 : List Frame} : ∀ (r : Nat) {D : Dyn} {x : X} {w : World} {u : Nat -> Value} {m : Machine} {T : Trace}, D.k + r = S.n -> D.ord = [] -> Drv C n0 D x w ->
  At Try.prog (VV S D none none) 0 (S.g0 + D.k) (G (Je S.B S.sb S.n S.scap S.tb S.tcap D.k u) cs0) w m T ->
  Relay.Comes Try.prog (fun m' T' => ∃ D' w' u', At Try.prog (VV S D' none none) 0 (S.g0 + S.n) (G (Je S.B S.sb S.n S.scap S.tb S.tcap S.n u') cs0) w' m' T' /\ Drv C n0 D' (Ie C r D.k x) w' /\ D'.ord = D.ord /\ D'.k = S.n) m T
 | 0, D, x, w, u, m, T, hk, _, hD, A => by
  have hk : D.k = S.n := hk
  rw [hk] at A
  exact .now ⟨D, w, u, A, hD, rfl, hk⟩
 | r + 1, D, x, w, u, m, T, hk, h00, hD, A => by
  refine (begin_one hD (by omega) (VV_high D hD.sys.hg0) h00 A).bind ?_
  rintro m1 T1 ⟨D1, w1, u1, A1, hD1, ho, hk1⟩
  refine (begin_all r (by omega) (ho.trans h00) hD1 A1).mono ?_
  rintro m2 T2 ⟨D2, w2, u2, A2, hD2, ho2, hk2⟩
  exact ⟨D2, w2, u2, A2, by rw [hk1] at hD2; exact hD2, ho2.trans ho, hk2⟩
end
end
section
variable {main : Bool} {V : Nat -> Option Wait}
def Ei : Code := match Try.f147.body with | some (.seq _ (.seq _ (.seq (.seq _ (.block _ (.loop c))) _))) => c | _ => .skip
def Fw : Code := match Try.f147.body with | some (.seq _ (.seq _ (.seq _ c))) => c | _ => .skip
def He (B sb n scap q j : Nat) (u : Nat -> Value) : Frame :=
 (base 147).at { tmps := #[.pointer (some ⟨B, 0, none⟩), undef, .slice none 0 0, .slice (some ⟨q, 0, none⟩) n n, u 4, u 5, .pointer (some ⟨B, 0, none⟩), .pointer (some ⟨B, 0, none⟩), .pointer (some ⟨B, 0, none⟩), .slice (some ⟨sb, 0, none⟩) n scap, .int .i64 n, .slice (some ⟨q, 0, none⟩) n n, .pointer (some ⟨B, 0, none⟩), .pointer (some ⟨B, 0, none⟩), .pointer (some ⟨B, 0, none⟩), .slice (some ⟨sb, 0, none⟩) n scap, .int .i64 n, .int .i64 j, u 18, u 19, u 20, u 21, u 22, u 23, u 24, u 25, u 26, u 27, u 28, u 29, u 30, u 31, u 32, u 33, u 34, u 35, u 36, u 37], defers := [] } [.code Ei, .inLoop Ei, .inBlock 0, .code Fw]
def Ll : Code := match Ei with | .seq _ (.seq _ (.seq (.block _ (.seq _ c)) _)) => c | _ => .skip
def ops56w : Array Oper := match Ll with | .seq (.seq _ (.cond _ (.region _ ops _) _)) _ => ops | _ => #[]
def No : Code := match Ll with | .seq _ c => c | _ => .skip
def post56 : Code := match Ei with | .seq _ (.seq _ (.seq _ c)) => c | _ => .skip
def Of (B sb n scap q j p : Nat) (u : Nat -> Value) : Frame :=
 (base 147).at { tmps := #[.pointer (some ⟨B, 0, none⟩), undef, .slice none 0 0, .slice (some ⟨q, 0, none⟩) n n, .int .i64 j, .pointer (some ⟨p, 0, none⟩), .pointer (some ⟨B, 0, none⟩), .pointer (some ⟨B, 0, none⟩), .pointer (some ⟨B, 0, none⟩), .slice (some ⟨sb, 0, none⟩) n scap, .int .i64 n, .slice (some ⟨q, 0, none⟩) n n, .pointer (some ⟨B, 0, none⟩), .pointer (some ⟨B, 0, none⟩), .pointer (some ⟨B, 0, none⟩), .slice (some ⟨sb, 0, none⟩) n scap, .int .i64 n, .int .i64 j, .bool true, .int .i64 j, .pointer (some ⟨sb, j, none⟩), .pointer (some ⟨p, 0, none⟩), .pointer (some ⟨p, 0, none⟩), .pointer (some ⟨p, 0, none⟩), .pointer (some ⟨p, 2, none⟩), .bool false, .bool true, .pointer (some ⟨p, 0, none⟩), u 28, u 29, u 30, u 31, u 32, u 33, u 34, u 35, u 36, u 37], defers := [] } [.inRegion ops56w [1], .code No, .inBlock 1, .code post56, .inLoop Ei, .inBlock 0, .code Fw]
theorem end_in (B sb n scap : Nat) (cs : List Frame) (w : World) (hn : n <= 64) (h0 : w.cell? ⟨B, 0, none⟩ = some (.slice (some ⟨sb, 0, none⟩) n scap)) :
  Walk Try.prog main (DR V) (fun g w' => g = G (He B sb n scap w.heap.size 0 (fun _ => undef)) cs /\ ∃ d, w' = (w.alloc (.cells (madeCells #[.bool false] n) 4)).at d) (G (Frame.enter Try.prog 147 #[.pointer (some ⟨B, 0, none⟩)] .normal) cs) w := by
 rw [enter_at _ Try.func147 rfl]
 simp only [Try.f147, ez, Nat.reduceAdd, Nat.reduceSub]
 refine Ae ?_
 have hi4 := Option.some_get (show (Try.prog.info? 4).isSome = true by kernel_rfl)
 refine Ek 180 (.tmp 10) (.tmp 10) rfl (by rfl) (by decide) rfl 4 _ (.bool false) 1 1 (by kernel_rfl) hi4.symm (by rfl) (by rfl) (by rfl) n (by rfl) (by rfl) (by omega) (by omega) ?_
 have h0' := Ai w (.cells (madeCells #[.bool false] n) 4) h0
 walk_nrm
 simp only [Value.cells, Nat.mul_one]
 refine Ae ?_
 refine Walk.ctl rfl (fun w => stepG_loop) ?_
 refine .stop fun d => ⟨?_, d, rfl⟩
 simp only [He, Ei, Fw, Try.f147]
 rfl
end
section
variable {main : Bool} {V : Nat -> Option Wait}
theorem end_go {Stop : Goroutine -> World -> Prop} (B sb n scap q j p : Nat) (u : Nat -> Value) (cs : List Frame) (w : World) (hj : j < n) (hp : w.cell? ⟨sb, j, none⟩ = some (.pointer (some ⟨p, 0, none⟩))) (hpe : w.cell? ⟨p, 2, none⟩ = some (.bool false))
  (hk : Walk Try.prog main (DR V) Stop (G (Frame.enter Try.prog 173 #[.pointer (some ⟨p, 0, none⟩)] .normal) (Of B sb n scap q j p u :: cs)) w) :
  Walk Try.prog main (DR V) Stop (G (He B sb n scap q j u) cs) w := by
 unfold He
 simp only [Of, ops56w, No, Ll, post56, Ei, Fw, Try.f147] at hk
 simp only [Ei, Fw, Try.f147]
 have hi0 : (0 : Int) <= j := by omega
 have hi1 : decide ((j : Int) < n) = true := by simp; omega
 have hi2 : decide (n <= j) = false := by simp; omega
 have hi3 : decide (j < n) = true := by simp; omega
 refine Ae ?_
 refine Walk.callE rfl (by rfl) (by decide) rfl Try.func173 (by kernel_rfl) (by rfl) ?_
 walk_nrm
 exact hk
theorem end_back (B sb n scap q j p : Nat) (br x : Bool) (u : Nat -> Value) (cs : List Frame) (w : World) (hj : j < n) (hn : n <= 64) (hpb : w.cell? ⟨p, 3, none⟩ = some (.bool br))
  (hq : w.cell? ⟨q, j, none⟩ = some (.bool x)) (hqz : w.frozen? ⟨q, j, none⟩ = false) (hqf : Di V ⟨q, j, none⟩) :
  Walk Try.prog main (DR V) (fun g w' => (∃ u', g = G (He B sb n scap q (j + 1) u') cs) /\ ∃ d, w' = (w.setCell ⟨q, j, none⟩ (.bool br)).at d) (G ((Of B sb n scap q j p u).finish (.tuple #[])) cs) w := by
 unfold Of
 rw [Frame.finish_at]
 simp only [ops56w, No, Ll, post56, Ei, Fw, Try.f147]
 have hi0 : (0 : Int) <= j := by omega
 have hi2 : decide (n <= j) = false := by simp; omega
 have hw1 : IntKind.wrap .i64 ((j : Int) + 1) = (j : Int) + 1 := by rw [IntKind.wrap_i64]; omega
 walk_nrm
 refine Ae ?_
 (refine Walk.os hqf hq ?_; try walk_nrm)
 refine Ae ?_
 refine Walk.ctl rfl (fun w => stepG_inLoop) ?_
 refine .stop fun d' => ⟨⟨fun k => ([undef, undef, undef, undef, .int .i64 j, .pointer (some ⟨p, 0, none⟩), undef, undef, undef, undef, undef, undef, undef, undef, undef, undef, undef, undef, .bool true, .int .i64 j, .pointer (some ⟨sb, j, none⟩), .pointer (some ⟨p, 0, none⟩), .pointer (some ⟨p, 0, none⟩), .pointer (some ⟨p, 0, none⟩), .pointer (some ⟨p, 2, none⟩), .bool false, .bool true, .pointer (some ⟨p, 0, none⟩), .tuple #[], .slice (some ⟨q, 0, none⟩) n n, .int .i64 j, .pointer (some ⟨p, 0, none⟩), .pointer (some ⟨p, 0, none⟩), .pointer (some ⟨p, 3, none⟩), .bool br, .pointer (some ⟨q, j, none⟩), .int .i64 ((j : Int) + 1), u 37] : List Value).getD k undef, ?_⟩, d', rfl⟩
 have hc : ((j + 1 : Nat) : Int) = (j : Int) + 1 := by simp
 simp only [He, Ei, Fw, Try.f147, hc]
 rfl
theorem end_out (B sb n scap q : Nat) (u : Nat -> Value) (c : Frame) (cs : List Frame) (w : World) :
  Walk Try.prog main (DR V) (fun g w' => g = G (c.finish (.slice (some ⟨q, 0, none⟩) n n)) cs /\ ∃ d, w' = w.at d) (G (He B sb n scap q n u) (c :: cs)) w := by
 unfold He
 simp only [Ei, Fw, Try.f147]
 have hi1 : decide ((n : Int) < n) = false := by simp
 have hi3 : decide (n < n) = false := by simp
 refine Ae ?_
 exact (An (Post := fun v w' => v = .slice (some ⟨q, 0, none⟩) n n /\ ∃ d, w' = w.at d) rfl rfl Try.func147 rfl fun d => ⟨by simp, d, rfl⟩).mono fun g w' ⟨v, ⟨e, d, e'⟩, hg⟩ => ⟨by rw [hg, e], d, e'⟩
end
section
variable {main : Bool} {V : Nat -> Option Wait}
theorem end_skip (B sb n scap q j p : Nat) (br x : Bool) (u : Nat -> Value) (cs : List Frame) (w : World) (hj : j < n) (hn : n <= 64) (hp : w.cell? ⟨sb, j, none⟩ = some (.pointer (some ⟨p, 0, none⟩))) (hpe : w.cell? ⟨p, 2, none⟩ = some (.bool true)) (hpb : w.cell? ⟨p, 3, none⟩ = some (.bool br))
  (hq : w.cell? ⟨q, j, none⟩ = some (.bool x)) (hqz : w.frozen? ⟨q, j, none⟩ = false) (hqf : Di V ⟨q, j, none⟩) :
  Walk Try.prog main (DR V) (fun g w' => (∃ u', g = G (He B sb n scap q (j + 1) u') cs) /\ ∃ d, w' = (w.setCell ⟨q, j, none⟩ (.bool br)).at d) (G (He B sb n scap q j u) cs) w := by
 unfold He
 simp only [Ei, Fw, Try.f147]
 have hi0 : (0 : Int) <= j := by omega
 have hi1 : decide ((j : Int) < n) = true := by simp; omega
 have hi2 : decide (n <= j) = false := by simp; omega
 have hi3 : decide (j < n) = true := by simp; omega
 have hw1 : IntKind.wrap .i64 ((j : Int) + 1) = (j : Int) + 1 := by rw [IntKind.wrap_i64]; omega
 refine Ae ?_
 (refine Walk.os hqf hq ?_; try walk_nrm)
 refine Ae ?_
 refine Walk.ctl rfl (fun w => stepG_inLoop) ?_
 refine .stop fun d' => ⟨⟨fun k => ([undef, undef, undef, undef, .int .i64 j, .pointer (some ⟨p, 0, none⟩), undef, undef, undef, undef, undef, undef, undef, undef, undef, undef, undef, undef, .bool true, .int .i64 j, .pointer (some ⟨sb, j, none⟩), .pointer (some ⟨p, 0, none⟩), .pointer (some ⟨p, 0, none⟩), .pointer (some ⟨p, 0, none⟩), .pointer (some ⟨p, 2, none⟩), .bool true, .bool false, u 27, u 28, .slice (some ⟨q, 0, none⟩) n n, .int .i64 j, .pointer (some ⟨p, 0, none⟩), .pointer (some ⟨p, 0, none⟩), .pointer (some ⟨p, 3, none⟩), .bool br, .pointer (some ⟨q, j, none⟩), .int .i64 ((j : Int) + 1), u 37] : List Value).getD k undef, ?_⟩, d', rfl⟩
 have hc : ((j + 1 : Nat) : Int) = (j : Int) + 1 := by simp
 simp only [He, Ei, Fw, Try.f147, hc]
 rfl
end
section
theorem Mu {fr : Frame} {fn : Func} (h : Try.prog.funcs[fr.fn]? = some fn) : fr.catches Try.prog = false := by
 unfold Frame.catches
 rw [h]
section
variable {main : Bool} {V : Nat -> Option Wait}
theorem pops {Stop : Goroutine -> World -> Prop} {ch : List PanicEntry} {f : Frame} {fs : List Frame} {w : World} (hk : Walk Try.prog main (DR V) Stop (G (f.raise ch) fs) w) (l : List Frame) (hl : ∀ f ∈ l, Cf f) {fr : Frame} (hm : fr.mode = .panicking ch) (hd : fr.defers = []) (hc : fr.catches Try.prog = false) :
  Walk Try.prog main (DR V) Stop (G fr (l ++ f :: fs)) w := by
 induction l generalizing fr with
 | nil =>
  rw [List.nil_append]
  exact Walk.ctl rfl (fun w => stepG_pop hm hd hc) hk
 | cons c l ih =>
  obtain ⟨h1, h2, fn, h3⟩ := hl c (by simp)
  have hr : c.raise ch = { c with mode := .panicking ch } := by unfold Frame.raise; rw [h2]
  rw [List.cons_append]
  refine Walk.ctl rfl (fun w => stepG_pop hm hd hc) ?_
  exact ih (fun f hf => hl f (by simp [hf])) (by rw [hr]) (by rw [hr]; exact h1) (Mu (fn := fn) (by rw [hr]; exact h3))
end
structure Fini {S : Stile} {X : Type} (C : Crew S X) (n0 : Nat) (D : Dyn) (x : X) (w : World) (q j : Nat) : Prop where
 sys : Sys S n0 D w
 inv : C.inv D.k (upd D.own q (some .ord)) x D.cs w
 qo : D.own q = none
 qh : ∃ arr, w.heap[q]? = some (.cells arr 4 (0, 0)) /\ ∀ i, i < S.n -> arr[i]? = some (.bool (decide (i < j) && (C.out x i == some true)))
 hi : ∀ i, j <= i -> i < S.n -> D.f i = D.e i /\ D.e i = (C.out x i).isSome
 lo : ∀ i, i < j -> D.e i = true
 b : ∀ i, i < S.n -> D.b i = (C.out x i == some true)
 k : D.k = S.n
section
variable {S : Stile} {X : Type} {C : Crew S X} {n0 : Nat} {D D' : Dyn} {w w' : World} {i j q nG : Nat} {m : Machine} {T : Trace} {l : List Frame} {x : X} {home : Goroutine -> Prop}
theorem Keeps.more {o o' : Nat -> Option Role} {w w' : World} (h : Keeps o o w w') (ho : ∀ b, o' b = none -> o b = none) : Keeps o' o' w w' := ⟨h.size, fun b hb hn => ⟨hn, (h.same b hb (ho b hn)).2⟩⟩
theorem Sys.weak (H : Sys S n0 D w) (j : Nat) : Sys S n0 { D with e := upd D.e j true } w := by
 refine H.put rfl rfl rfl rfl rfl rfl (Nat.le_refl _) (fun b x _ h => ?_) fun _ _ => rfl
 refine h.of_same (fun i _ => ⟨rfl, rfl⟩) (fun _ => ⟨rfl, rfl, rfl, rfl⟩) fun i _ z => ?_
 by_cases ei : i = j
 ·subst ei; simp only [upd_same] at z; cases z
 ·simpa only [upd_ne _ _ ei] using z
theorem Fini.lt (H : Fini C n0 D x w q j) : q < w.heap.size := by
 obtain ⟨arr, h, _⟩ := H.qh
 exact (Array.getElem?_eq_some_iff.1 h).1
theorem free_q (qo : D.own q = none) (H : Sys S n0 D w) (i : Nat) : Di (VV S D none none) ⟨q, i, none⟩ :=
 Jp (fun v h => by cases h) fun i' hi' e => by
  have h1 := H.op i' (Nat.lt_of_lt_of_le hi' H.kn)
  rw [<- show q = S.p i' from congrArg Addr.block e, qo] at h1
  cases h1
theorem Fini.next (hs : Sys S n0 D' w) (hi : C.inv D'.k (upd D'.own q (some .ord)) x D'.cs w) (qo : D'.own q = none) (qh : ∃ arr, w.heap[q]? = some (.cells arr 4 (0, 0)) /\ ∀ i, i < S.n -> arr[i]? = some (.bool (decide (i < j) && (C.out x i == some true))))
  (hhi : ∀ i, j + 1 <= i -> i < S.n -> D'.f i = D'.e i /\ D'.e i = (C.out x i).isSome) (hlo : ∀ i, i < j + 1 -> D'.e i = true) (hb : ∀ i, i < S.n -> D'.b i = (C.out x i == some true)) (hk : D'.k = S.n) (hj : j < S.n) {br : Bool} (hbr : br = (C.out x j == some true)) (d : Nat) :
  Fini C n0 D' x ((w.setCell ⟨q, j, none⟩ (.bool br)).at d) q (j + 1) := by
 obtain ⟨arr, h, ha⟩ := qh
 refine ⟨Sys.at (hs.same (Nat.le_of_eq (Af ..).symm) fun b x hx => Ab w _ b _ fun e => ?_) d, C.keep hi ((Keeps.set (a := ⟨q, j, none⟩) (r := .ord) _ (upd_same _ q _)).at d), qo, ⟨_, Am w _ h, fun i hi => ?_⟩, hhi, hlo, hb, hk⟩
 ·subst e; rw [qo] at hx; cases hx
 ·have hl : j < arr.size := (Array.getElem?_eq_some_iff.1 (ha j hj)).1
  by_cases e : i = j
  ·subst e
   rw [Array.getElem?_setIfInBounds_self_of_lt hl, hbr]
   simp
  ·rw [Array.getElem?_setIfInBounds_ne (Ne.symm e), ha i hi]
   have : decide (i < j) = decide (i < j + 1) := by
    by_cases h : i < j
    ·simp [h, Nat.lt_succ_of_lt h]
    ·have : ¬ i < j + 1 := by omega
     simp [h, this]
   rw [this]
theorem end_one {u : Nat -> Value} {cs0 : List Frame} (hF : Fini C n0 D x w q j) (hj : j < S.n)
  (A : At Try.prog (VV S D none none) 0 (S.g0 + S.n) (G (He S.B S.sb S.n S.scap q j u) cs0) w m T) :
  Relay.Comes Try.prog (fun m' T' => ∃ D' w' u', At Try.prog (VV S D' none none) 0 (S.g0 + S.n) (G (He S.B S.sb S.n S.scap q (j + 1) u') cs0) w' m' T' /\ Fini C n0 D' x w' q (j + 1) /\ D'.ord = D.ord /\ D'.oa = D.oa /\ D'.oc = D.oc) m T := by
 have hs := hF.sys
 have hg0 := hs.hg0
 have hjk : j < D.k := by rw [hF.k]; exact hj
 obtain ⟨hfe, heo⟩ := hF.hi j (Nat.le_refl _) hj
 have hqf := free_q hF.qo hs j
 cases he : D.e j with
 | true =>
  obtain ⟨arr, h, ha⟩ := id hF.qh
  refine (At.walk (h := 0) (end_skip S.B S.sb S.n S.scap q j (S.p j) (D.b j) _ u cs0 w hj hs.n64 (hs.ss hj) (by rw [hs.p2 hj, hfe, he]) (hs.p3 hj) ((Ac h j).trans (ha j hj)) (Aq h j) hqf) A).mono ?_
  rintro m1 T1 ⟨_, _, ⟨⟨u', rfl⟩, d, rfl⟩, A1⟩
  exact ⟨D, _, u', A1, Fini.next hs hF.inv hF.qo hF.qh (fun i h1 h2 => hF.hi i (by omega) h2) (fun i hi => by
   by_cases e : i = j
   ·subst e; exact he
   ·exact hF.lo i (by omega)) hF.b hF.k hj (hF.b j hj) d, rfl, rfl, rfl⟩
 | false =>
  have hf : D.f j = false := hfe.trans he
  have hout : C.out x j = none := by rw [he] at heo; exact Option.not_isSome_iff_eq_none.1 (by rw [<- heo]; simp)
  have hjb : D.b j = false := by rw [hF.b j hj, hout]; rfl
  refine (At.walk (h := 0) (Stop := fun g w' => g = rec82 (S.p j) (S.t j) (Of S.B S.sb S.n S.scap q j (S.p j) u :: cs0) /\ ∃ d, w' = w.at d) (end_go S.B S.sb S.n S.scap q j (S.p j) u cs0 w hj (hs.ss hj) (hf ▸ hs.p2 hj) (end1_in _ _ _ _ (hs.p0 hj))) A).bind ?_
  rintro m1 T1 ⟨_, _, ⟨rfl, d1, rfl⟩, A1⟩
  generalize hmw : Gg S j (fun g => g = rec107 (S.p j) (S.r j) (fr82 (S.p j) (S.t j) :: Of S.B S.sb S.n S.scap q j (S.p j) u :: cs0)) = mw
  have hm : MW S j mw := hmw ▸ Nr _ _ _
  refine (A1.shut (v := wT S D j) (j := S.g0 + j) (a' := rec82a (S.p j) (S.t j) (Of S.B S.sb S.n S.scap q j (S.p j) u :: cs0)) (new := some mw) (by omega) (by omega) (VV_at hg0 hjk he (by simp)) rfl (wake82 ..) rfl (fun d k hk => close82 _ _ _ _ k hk) ?_).bind ?_
  ·rw [<- hmw]
   exact Jw (hs.at d1) hj he hf fun main => end1_way _ _ _ _ _ rfl rfl rfl (Jx hs hj).2.2.1 (Jx hs hj).2.2.2 rfl
  rintro m2 T2 ⟨_, d2, k, rfl, A2⟩
  rw [after_main.resolve_right (by omega)] at A2
  simp only [wT] at A2
  have H2 : Sys S n0 { D with e := upd D.e j true } (((w.at d1).at d2).setChan (S.t j) 0 #[] true k k false) := (((hs.at d1).at d2).weak j).shut (j := j) (upd_same _ _ _) (.inl (hs.ot j hj))
  have K2 : Keeps D.own D.own w (((w.at d1).at d2).setChan (S.t j) 0 #[] true k k false) := (((Keeps.refl D.own w).at d1).at d2).trans (Keeps.chan (hs.ot j hj) true k)
  have N2 : (((w.at d1).at d2).setChan (S.t j) 0 #[] true k k false).heap[D.N j]? = some (.cells #[.bool false] 4) := by
   rw [heap_setChan_ne _ _ _ _ _ _ _ (hs.two (hs.ot j hj) (hs.oN j hjk) (by simp))]
   exact hs.good _ _ (hs.oN j hjk) he
  generalize ((w.at d1).at d2).setChan (S.t j) 0 #[] true k k false = w2 at A2 H2 K2 N2
  generalize hD1 : ({ D with e := upd D.e j true } : Dyn) = D1 at H2
  have h1k : D1.k = D.k := by rw [<- hD1]
  have h1e : D1.e = upd D.e j true := by rw [<- hD1]
  have h1b : D1.b = D.b := by rw [<- hD1]
  have h1f : D1.f = D.f := by rw [<- hD1]
  have h1c : D1.cs = D.cs := by rw [<- hD1]
  have h1N : D1.N = D.N := by rw [<- hD1]
  have h1o : D1.own = D.own := by rw [<- hD1]
  have h1r : D1.ord = D.ord /\ D1.oa = D.oa /\ D1.oc = D.oc := by rw [<- hD1]; exact ⟨rfl, rfl, rfl⟩
  rw [<- Nf (D' := D1) (D := D) h1k (fun i _ hx => by
   have : i ≠ j := fun e => hx (e ▸ rfl)
   rw [h1e, h1c, h1N, upd_ne _ _ this]; exact ⟨rfl, rfl, rfl⟩)] at A2
  have hj1 : j < D1.k := h1k ▸ hjk
  have hNj : D1.N j = D.N j := by rw [h1N]
  have hN3 : (w2.alloc (.cells #[] 90)).heap[D1.N j]? = some (.cells #[.bool false] 4) := by
   rw [hNj, Ad _ _ (h1N ▸ (H2.lt _ _ (H2.oN j hj1)).2)]; exact N2
  have hplain := (C.shape hF.inv hjk hout).2
  refine (Gt H2 hj1 (by omega) hm false (W := ((w2.alloc (.cells #[] 90)).alloc (.cells #[] 266)).setCell ⟨D1.N j, 0, none⟩ (.bool false)) (((Keeps.alloc _ w2 (.cells #[] 90)).trans (Keeps.alloc _ _ (.cells #[] 266))).trans (Keeps.set _ (H2.oN j hj1)))
   (((H2.alloc (.cells #[] 90)).alloc (.cells #[] 266)).ride hj1 _) (by
    refine (stop139 (S.p j) (S.r j) (S.t j) (D.cs j ++ bot S (D.N j) j) w2).then ?_
    rintro _ _ ⟨rfl, d, rfl⟩
    refine Walk.back ?_ d
    unfold rec139p bot
    rw [<- hNj]
    refine pops ?_ (D.cs j) hplain rfl rfl (Mu Try.func229)
    refine (ride_stopped (D1.N j) _ _ _ _ (w2.alloc (.cells #[] 90)) false ((Ac hN3 0).trans rfl) (Aq hN3 0) (Jf H2 hj hm (H2.oN j hj1) (.inl ⟨_, rfl⟩))).mono ?_
    rintro g w' ⟨rfl, d, rfl⟩
    exact ⟨false, rfl, d, rfl⟩) A2 (D.cs j)).bind ?_
  rintro m5 T5 ⟨g₂, w5, hh, A5, H5, K5⟩
  rw [<- hmw] at hh
  simp only [Gg] at hh
  subst hh
  rw [h1o] at K5
  have KA := K2.trans K5
  have q5 : w5.heap[q]? = w.heap[q]? := (KA.same q hF.lt hF.qo).2
  have hql : q < w5.heap.size := Nat.lt_of_lt_of_le hF.lt KA.size
  have hqo5 : (Bf D1 j (D.cs j) (some false)).own q = none := by simp only [Bf]; rw [h1o]; exact hF.qo
  have hqp : q ≠ S.p j := fun e => by have := hs.op j hj; rw [<- e, hF.qo] at this; cases this
  have H6 := (H5.alloc (.cells #[] 90)).flag hj true
  have K6 : Keeps D.own D.own w5 ((w5.alloc (.cells #[] 90)).setCell ⟨S.p j, 2, none⟩ (.bool true)) := (Keeps.alloc _ w5 (.cells #[] 90)).trans (Keeps.set _ (hs.op j hj))
  have q6 : ((w5.alloc (.cells #[] 90)).setCell ⟨S.p j, 2, none⟩ (.bool true)).heap[q]? = w.heap[q]? := by
   rw [Ab _ _ _ _ hqp, Ad _ _ hql]; exact q5
  obtain ⟨arr, h, ha⟩ := id hF.qh
  refine (At.walk (h := 0) (Stop := fun g w' => (∃ u', g = G (He S.B S.sb S.n S.scap q (j + 1) u') cs0) /\ ∃ d, w' = (((w5.alloc (.cells #[] 90)).setCell ⟨S.p j, 2, none⟩ (.bool true)).setCell ⟨q, j, none⟩ (.bool false)).at d)
   ((end1_back (S.p j) (S.t j) (S.r j) (Of S.B S.sb S.n S.scap q j (S.p j) u) cs0 _ w5 (H5.p2 hj) (H5.pz hj 2) (Ez H5 (H5.op j hj) (.inr (by omega)))).then (by
    rintro _ _ ⟨rfl, d, rfl⟩
    refine Walk.back ?_ d
    refine end_back S.B S.sb S.n S.scap q j (S.p j) false _ u cs0 _ hj hs.n64 ?_ ((Ac (q6.trans h) j).trans (ha j hj)) (Aq (q6.trans h) j) (free_q hqo5 H5 j)
    have := H6.p3 hj
    simp only [Bf, upd_same] at this
    exact this)) A5).mono ?_
  rintro m6 T6 ⟨_, _, ⟨⟨u', rfl⟩, d6, rfl⟩, A6⟩
  refine ⟨{ Bf D1 j (D.cs j) (some false) with f := upd (Bf D1 j (D.cs j) (some false)).f j true }, _, u', A6, Fini.next H6 ?_ hqo5 ⟨arr, q6.trans h, ha⟩ (fun i h1 h2 => ?_) (fun i hi => ?_) (fun i hi => ?_) (h1k.trans hF.k) hj (by rw [hout]; rfl) d6, h1r⟩
  ·simp only [Bf, h1k, h1o, h1c]
   rw [Ni _ rfl]
   refine C.keep hF.inv ((KA.trans K6).more fun b hb => ?_)
   by_cases e : b = q
   ·subst e; exact hF.qo
   ·rwa [upd_ne _ _ e] at hb
  ·have e : i ≠ j := by omega
   simp only [Bf, h1e, h1f, upd_ne _ _ e]
   exact hF.hi i (by omega) h2
  ·simp only [Bf, h1e]
   by_cases e : i = j
   ·subst e; rw [upd_same]; rfl
   ·rw [upd_ne _ _ e, upd_ne _ _ e]; exact hF.lo i (by omega)
  ·simp only [Bf, h1b]
   by_cases e : i = j
   ·subst e; rw [upd_same, hout]; rfl
   ·rw [upd_ne _ _ e]; exact hF.b i hi
theorem end_all {cs0 : List Frame} : ∀ (r j : Nat) {D : Dyn} {w : World} {u : Nat -> Value} {m : Machine} {T : Trace}, j + r = S.n -> Fini C n0 D x w q j ->
  At Try.prog (VV S D none none) 0 (S.g0 + S.n) (G (He S.B S.sb S.n S.scap q j u) cs0) w m T ->
  Relay.Comes Try.prog (fun m' T' => ∃ D' w' u', At Try.prog (VV S D' none none) 0 (S.g0 + S.n) (G (He S.B S.sb S.n S.scap q S.n u') cs0) w' m' T' /\ Fini C n0 D' x w' q S.n /\ D'.ord = D.ord /\ D'.oa = D.oa /\ D'.oc = D.oc) m T
 | 0, j, D, w, u, m, T, hj, hF, A => by
  have hj : j = S.n := hj
  rw [hj] at A hF
  exact .now ⟨D, w, u, A, hF, rfl, rfl, rfl⟩
 | r + 1, j, D, w, u, m, T, hj, hF, A => by
  refine (end_one hF (by omega) A).bind ?_
  rintro m1 T1 ⟨D1, w1, u1, A1, hF1, ho, ha, hc⟩
  refine (end_all r (j + 1) (by omega) hF1 A1).mono ?_
  rintro m2 T2 ⟨D2, w2, u2, A2, hF2, ho2, ha2, hc2⟩
  exact ⟨D2, w2, u2, A2, hF2, ho2.trans ho, ha2.trans ha, hc2.trans hc⟩
end
end
end
end Go.Proofs.Ytcdcnmphjhfbpaa
