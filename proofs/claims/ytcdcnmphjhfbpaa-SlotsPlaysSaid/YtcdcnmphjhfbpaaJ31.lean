/- Part 31. -/
import Derived.Test.YtcdcnmphjhfbpaaJ9
import Derived.Test.YtcdcnmphjhfbpaaJ17
import Derived.Test.YtcdcnmphjhfbpaaJ28
import Derived.Test.YtcdcnmphjhfbpaaJ29
import Derived.Test.YtcdcnmphjhfbpaaJ30
set_option linter.unusedSimpArgs false
set_option linter.unusedVariables false
set_option maxHeartbeats 8000000
set_option maxRecDepth 100000
namespace Go.Proofs.Ytcdcnmphjhfbpaa
open Go.Conc Go.RowKit Go.Relay
open Go.ConcN (upd upd_ne upd_same)
section
def CallP (main : Bool) (V : Nat -> Option Wait) (f : FuncId) (args : Array Value) (w : World) (Post : Value -> World -> Prop) : Prop :=
 ∀ (c : Frame) (cs : List Frame), Cf c -> Walk Try.prog main (DR V) (fun g w' => ∃ v, Post v w' /\ g = G (c.finish v) cs) (G (Frame.enter Try.prog f args .normal) (c :: cs)) w
section
variable {main : Bool} {V : Nat -> Option Wait} {Stop : Goroutine -> World -> Prop} {w : World} {b : Frame} {a : Act} {k : List Item} {cs : List Frame} {ops : Array Oper} {i : Nat} {rest : List Nat} {o : Oper}
theorem CallP.mono {f : FuncId} {args : Array Value} {Post Post' : Value -> World -> Prop} (h : CallP main V f args w Post) (hP : ∀ v w', Post v w' -> Post' v w') : CallP main V f args w Post' :=
 fun c cs hp => (h c cs hp).mono fun g w' ⟨v, hv, e⟩ => ⟨v, hP v w' hv, e⟩
theorem Dc {f : FuncId} {fn : Func} {args : Array Operand} {ats : Array TypeId} {Post : Value -> World -> Prop} (hc : CallP main V f (args.map a.eval) w Post) (ho : ops[i]? = some o) (hw : Region.wanted o (yielded ops a.tmps) = true) (hk : b.kind ≠ .early) (hop : o.op = .call { callee := .value (.func f), args, argTypes := ats })
  (hf : Try.prog.funcs[f]? = some fn) (hname : (fn.name == "runtime.NumGoroutine") = false) (hb : fn.body.isNone = false) (hp : Cf (b.at a (.inRegion ops (i :: rest) :: k)))
  (h : ∀ v w', Post v w' -> Walk Try.prog main (DR V) Stop (G (b.at (a.put o.dst v) (.inRegion ops rest :: k)) cs) w') : Walk Try.prog main (DR V) Stop (G (b.at a (.inRegion ops (i :: rest) :: k)) cs) w := by
 refine Walk.callE ho hw hk hop hf hname hb ((hc _ cs hp).then ?_)
 rintro _ w' ⟨v, hv, rfl⟩
 rw [Frame.finish_at, ho]
 exact h v w' hv
theorem Gx {L : La} {f : FuncId} {args : Array Value} {Rel : Value -> Ans -> World -> (Nat -> Prop) -> Prop} {R : L.Sg × Ans} (N : Nat) (y0 : L.Gh) (s : L.Sg) (r0 : Ans ⊕ L.D) (hat : ∀ v x w' P d, Rel v x w' P -> Rel v x (w'.at d) P) (hA : ∀ b, Bd V b) (hI : L.I y0 s w) (hrun : runN L N (s, r0) = some R)
  (hc : ∀ (K : Lg L .nilIface) (e : K.E), K.w e = w -> K.tgt e = (K.s e, r0) -> SCall K.toLb f args e (fun v e' => ∃ x, Rel v x (K.w e') (K.mine e') /\ K.tgt e' = (K.s e', .inl x))) :
  CallP main V f args w (fun v w' => ∃ y, Rel v R.2 w' (fun b => (w.heap.size <= b /\ b < w'.heap.size) /\ ¬ L.sh y b) /\ Lone L y0 w R w' y) := by
 intro c cs hp
 have key := hc (nilL (V := V) hA main (fun g w' => ∃ v, (∃ y, Rel v R.2 w' (fun b => (w.heap.size <= b /\ b < w'.heap.size) /\ ¬ L.sh y b) /\ Lone L y0 w R w' y) /\ g = G (c.finish v) cs) cs y0 w R) { w := w, y := y0, s := s, tgt := (s, r0), fuel := N, le := L.refl _, inv := hI, size := Nat.le_refl _, old := fun _ _ _ => rfl, pub := fun _ h _ => h, run := hrun } rfl rfl c [] hp (fun _ h => by cases h) ?_
 ·exact key
 ·rintro v e' ⟨x, hr, ht⟩
  have hrn := e'.run
  have ht : e'.tgt = (e'.s, .inl x) := ht
  rw [ht, Gd] at hrn
  have hR := Option.some.inj hrn
  have r1 : R.1 = e'.s := (congrArg Prod.fst hR).symm
  have r2 : R.2 = x := (congrArg Prod.snd hR).symm
  refine .stop fun d => ⟨v, ⟨e'.y, ?_, ⟨e'.le, ?_, e'.size, fun b h1 h2 => e'.old b h1 h2, e'.pub⟩⟩, rfl⟩
  ·rw [r2]
   exact hat _ _ _ _ d hr
  ·rw [r1]; exact L.stable e'.inv fun _ _ => rfl
end
end
section
structure SolR (rb sb n : Nat) (s : Rg) (w w' : World) : Prop where
 I : RgI rb sb n s w'
 old : ∀ b, b < w.heap.size -> b ≠ rb -> b ≠ sb -> w'.heap[b]? = w.heap[b]?
 size : w.heap.size <= w'.heap.size
section
variable {rb sb n : Nat}
theorem SolR.of {s : Rg} {a : Ans} {w w' : World} {y : (Bs rb sb n).Gh} (h : Lone (Bs rb sb n) () w (s, a) w' y) : SolR rb sb n s w w' := ⟨h.I, fun b hb h1 h2 => h.old b hb fun h => h.elim h1 h2, h.size⟩
theorem SolR.trans {s s' : Rg} {w w' w2 : World} (h : SolR rb sb n s w w') (k : SolR rb sb n s' w' w2) : SolR rb sb n s' w w2 :=
 ⟨k.I, fun b hb h1 h2 => (k.old b (Nat.lt_of_lt_of_le hb h.size) h1 h2).trans (h.old b hb h1 h2), Nat.le_trans h.size k.size⟩
theorem SolR.at {s : Rg} {w w' : World} (h : SolR rb sb n s w w') (d : Nat) : SolR rb sb n s w (w'.at d) := ⟨⟨h.I.hd, h.I.sl, h.I.pos⟩, h.old, h.size⟩
def Qbo (n : Nat) (s : Rg) (q : Int) : Ans := if good q then (if s.st (Bq n q) < Ce n q then ⟨false, 6, []⟩ else if Ce n q < s.st (Bq n q) then ⟨false, 10, []⟩ else ⟨true, s.va (Bq n q), []⟩) else ⟨false, 1, []⟩
def thA (n : Nat) (s : Rg) (q : Int) : Bool := if good q then decide (s.st (Bq n q) = Ce n q) else false
theorem Qcd (s : Rg) (q : Int) : runN (Bs rb sb n) 3 (s, if good q then .inr (.g1 q) else .inl ⟨false, 1, []⟩) = some (s, Qbo n s q) := by
 unfold Qbo
 by_cases h : good q
 ·rw [if_pos h, if_pos h]
  show runN (Bs rb sb n) 2 (Bh n s (.g1 q)) = _
  unfold Bh
  dsimp only
  by_cases h1 : s.st (Bq n q) < Ce n q
  ·rw [if_pos h1, if_pos h1]; exact Gd _ _ _ _
  ·rw [if_neg h1, if_neg h1]
   by_cases h2 : Ce n q < s.st (Bq n q)
   ·rw [if_pos h2, if_pos h2]; exact Gd _ _ _ _
   ·rw [if_neg h2, if_neg h2]
    show runN (Bs rb sb n) 0 (Bh n s (.g3 q (s.va (Bq n q)))) = _
    unfold Bh
    dsimp only
    rw [if_pos (by omega)]
    rfl
 ·rw [if_neg h, if_neg h]; exact Gd _ _ _ _
theorem Qdd (s : Rg) (q : Int) : runN (Bs rb sb n) 1 (s, if good q then .inr (.t q) else .inl ⟨false, 0, []⟩) = some (s, ⟨thA n s q, 0, []⟩) := by
 unfold thA
 by_cases h : good q
 ·rw [if_pos h, if_pos h]
  rfl
 ·rw [if_neg h, if_neg h]; exact Gd _ _ _ _
variable {main : Bool} {V : Nat -> Option Wait} {s : Rg} {w : World}
theorem Zn (hA : ∀ b, Bd V b) (I : RgI rb sb n s w) (q v : Int) (hq : good q) :
  CallP main V 60 #[.pointer (some ⟨rb, 0, none⟩), .nilIface, .int .i64 q, .int .i64 v] w (fun x w' => x = .int .i64 0 /\ SolR rb sb n (Hn n s q v) w w') :=
 (Gx (L := Bs rb sb n) (Rel := fun x a _ _ => x = .int .i64 0) 3 () s _ (fun _ _ _ _ _ h => h) hA I (Qp rb sb n s q v) (fun K e hw ht => (put_s K e q v hq ht).mono fun x e' ⟨h1, h2⟩ => ⟨⟨true, 0, []⟩, h1, h2⟩)).mono fun v w' ⟨y, h1, h2⟩ => ⟨h1, SolR.of h2⟩
theorem Qas (hA : ∀ b, Bd V b) (I : RgI rb sb n s w) (q : Int) :
  CallP main V 61 #[.pointer (some ⟨rb, 0, none⟩), .nilIface, .int .i64 q] w (fun x w' => ∃ a er, x = .tuple #[.int .i64 a, .int .i64 er] /\ Qbo n s q = ⟨er == 0, if er = 0 then a else er, []⟩ /\ SolR rb sb n s w w') :=
 (Gx (L := Bs rb sb n) (Rel := fun x b _ _ => ∃ a er, x = .tuple #[.int .i64 a, .int .i64 er] /\ b = ⟨er == 0, if er = 0 then a else er, []⟩) 3 () s _ (fun _ _ _ _ _ h => h) hA I (Qcd s q) (fun K e hw ht => (get_all K e q ht).mono fun x e' ⟨a, er, h1, h2⟩ => ⟨_, ⟨a, er, h1, rfl⟩, h2⟩)).mono fun v w' ⟨y, ⟨a, er, h1, h3⟩, h2⟩ => ⟨a, er, h1, h3, SolR.of h2⟩
theorem Zb (hA : ∀ b, Bd V b) (I : RgI rb sb n s w) (q : Int) :
  CallP main V 63 #[.pointer (some ⟨rb, 0, none⟩), .nilIface, .int .i64 q] w (fun x w' => x = .bool (thA n s q) /\ SolR rb sb n s w w') :=
 (Gx (L := Bs rb sb n) (Rel := fun x b _ _ => x = .bool b.ok) 1 () s _ (fun _ _ _ _ _ h => h) hA I (Qdd s q) (fun K e hw ht => (there_all K e q ht).mono fun x e' ⟨b, h1, h2⟩ => ⟨_, h1, h2⟩)).mono fun v w' ⟨y, h1, h2⟩ => ⟨h1, SolR.of h2⟩
theorem Qcg (hA : ∀ b, Bd V b) (I : RgI rb sb n s w) (a b : Int) (N : Nat) (S : Rg) (A : Ans) (hrun : runN (Bs rb sb n) N (s, hiD n a b) = some (S, A)) :
  CallP main V 62 #[.pointer (some ⟨rb, 0, none⟩), .nilIface, .int .i64 a, .int .i64 b] w (fun x w' => x = .int .i64 A.n /\ SolR rb sb n S w w') :=
 (Gx (L := Bs rb sb n) (Rel := fun x b _ _ => x = .int .i64 b.n) N () s _ (fun _ _ _ _ _ h => h) hA I hrun (fun K e hw ht => (highest_s K e a b ht).mono fun x e' ⟨z, h1, h2⟩ => ⟨_, h1, h2⟩)).mono fun v w' ⟨y, h1, h2⟩ => ⟨h1, SolR.of h2⟩
end
theorem Qdu {a er z : Int} (h : (⟨true, z, []⟩ : Ans) = ⟨er == 0, if er = 0 then a else er, []⟩) : er = 0 /\ a = z := by
 injection h with h1 h2
 have : er = 0 := by simpa using h1.symm
 exact ⟨this, by rw [if_pos this] at h2; exact h2.symm⟩
theorem Qdv {a er z : Int} (h : (⟨false, z, []⟩ : Ans) = ⟨er == 0, if er = 0 then a else er, []⟩) : er = z := by
 injection h with h1 h2
 have : ¬ er = 0 := by simpa using h1.symm
 rw [if_neg this] at h2
 exact h2.symm
end
section
def Nd : Nat -> List OpV := fun i => ([[⟨2, 0, 0, 0⟩], [⟨1, 2, 9, 0⟩]] : List (List OpV)).getD i []
def fxSl : List Int := [0, 1, 1, 0, 0, 1]
def fxA : Array Value := #[.int .i64 2, .int .i64 0, .int .i64 0, .int .i64 0]
def fxB : Array Value := #[.int .i64 1, .int .i64 2, .int .i64 9, .int .i64 0]
def fxW : Array Value := #[.int .i64 2, .int .i64 7]
def fxH (A B : Nat) : Array Value := #[.slice (some ⟨A, 0, none⟩) 1 1, .slice (some ⟨B, 0, none⟩) 1 1]
def fxS : Array Value := #[.int .i64 0, .int .i64 1, .int .i64 1, .int .i64 0, .int .i64 0, .int .i64 1]
def fxOa (A B : Nat) (i : Nat) : Option Addr := if i = 0 then some ⟨A, 0, none⟩ else some ⟨B, 0, none⟩
theorem fx_is : Nu [2, 7] := ⟨2, [7], rfl, by decide, by decide, by decide, by kernel_rfl⟩
theorem Qdw (rb sb : Nat) : ((Bu (Bs rb sb (Ki [2, 7])) (r0R [2, 7]) Nd 2 99 fxSl).1.th 0).ans = [⟨false, 10, []⟩] := by kernel_rfl
theorem Qbp (rb sb : Nat) : Lc (Ki [2, 7]) (Bu (Bs rb sb (Ki [2, 7])) (r0R [2, 7]) Nd 2 99 fxSl).1.s = [2, -2, 9, 0] := by kernel_rfl
theorem Qdx {A B Hd : Nat} {w : World} (h1 : w.heap[A]? = some (.cells fxA 49)) (h2 : w.heap[B]? = some (.cells fxB 49)) (h4 : w.heap[Hd]? = some (.cells (fxH A B) 34)) : OpsIn Hd 0 2 (fxOa A B) (fun _ => 1) (fun _ => 1) Nd w := by
 refine ⟨fun i hi => ?_, fun i hi => Nat.le_refl _, fun i hi => .inr ?_, fun i hi => ?_, fun i hi j o ho => ?_⟩
 ·rw [Nat.zero_add]
  refine (Ac h4 i).trans ?_
  match i, hi with
  | 0, _ => rfl
  | 1, _ => rfl
 ·match i, hi with
  | 0, _ => exact ⟨_, rfl⟩
  | 1, _ => exact ⟨_, rfl⟩
 ·match i, hi with
  | 0, _ => rfl
  | 1, _ => rfl
 ·match i, hi, ho with
  | 0, _, ho =>
   match j, ho with
   | 0, ho => cases ho; exact ⟨A, 0, rfl, (Ac h1 _).trans rfl, (Ac h1 _).trans rfl, (Ac h1 _).trans rfl, (Ac h1 _).trans rfl⟩
   | j + 1, ho => exact absurd ho (by simp [Nd])
  | 1, _, ho =>
   match j, ho with
   | 0, ho => cases ho; exact ⟨B, 0, rfl, (Ac h2 _).trans rfl, (Ac h2 _).trans rfl, (Ac h2 _).trans rfl, (Ac h2 _).trans rfl⟩
   | j + 1, ho => exact absurd ho (by simp [Nd])
def fz1 : Rg := Hn 2 (Oj 2) 0 7
def fz2 : Rg := Hn 2 fz1 1 8
def fz3 : Rg := Hn 2 fz2 2 9
theorem fz_g2 : Qbo 2 fz3 2 = ⟨true, 9, []⟩ := by kernel_rfl
theorem fz_g0 : Qbo 2 fz3 0 = ⟨false, 10, []⟩ := by kernel_rfl
theorem fz_t1 : thA 2 fz3 1 = true := by kernel_rfl
theorem fz_t0 : thA 2 fz3 0 = false := by kernel_rfl
theorem fz_hi (rb sb : Nat) : runN (Bs rb sb 2) 2 (fz3, hiD 2 1 5) = some (fz3, ⟨true, 2, []⟩) := by kernel_rfl
noncomputable def reg13_0 := rk Try.f13.body 0
noncomputable def reg13_1 := rk Try.f13.body 1
noncomputable def reg13_2 := rk Try.f13.body 2
noncomputable def reg13_3 := rk Try.f13.body 3
noncomputable def reg13_4 := rk Try.f13.body 4
noncomputable def reg13_5 := rk Try.f13.body 5
noncomputable def reg13_6 := rk Try.f13.body 6
noncomputable def reg13_7 := rk Try.f13.body 7
noncomputable def reg13_8 := rk Try.f13.body 8
noncomputable def reg13_9 := rk Try.f13.body 9
theorem z13 : reg13_0.size = 1 /\ reg13_1.size = 10 /\ reg13_2.size = 38 /\ reg13_3.size = 1 /\ reg13_4.size = 6 /\ reg13_5.size = 21 /\ reg13_6.size = 1 /\ reg13_7.size = 7 /\ reg13_8.size = 7 /\ reg13_9.size = 25 := by and_intros <;> kernel_rfl
theorem Qae : Try.f13.body = some (.seq (.region 0 reg13_0 false) (.seq (.region 1 reg13_1 false) (.seq (.seq (.region 2 reg13_2 false) (.cond (.tmp 52 ) (.seq (.region 3 reg13_3 false) (.ret)) (.skip))) (.seq (.region 4 reg13_4 false) (.seq (.seq (.region 5 reg13_5 false) (.cond (.tmp 77 ) (.seq (.region 6 reg13_6 false) (.ret)) (.skip))) (.seq (.region 7 reg13_7 false) (.seq (.region 8 reg13_8 false) (.seq (.region 9 reg13_9 false) (.ret))))))))) := by kernel_rfl
def Yi : Obj := .cells #[.slice none 0 0, .slice none 0 0, .slice none 0 0, .bool false] 31
def Qec (fr c : Frame) (cs : List Frame) : Prop := ∀ (cells : Array Value) (F : Nat -> List Ans) (ord : List Nat) (k : Bool) (w : World), TrA cells 2 F ord [2, -2, 9, 0] k w -> F 0 = [⟨false, 10, []⟩] ->
 Walk Try.prog true (DR (fun _ => none)) (fun g w' => g = G (c.finish (.bool true)) cs /\ (∀ b, b < w.heap.size -> w'.heap[b]? = w.heap[b]?) /\ w.heap.size <= w'.heap.size) (G (fr.finish (.agg cells)) (c :: cs)) w
section
variable {c : Frame} {cs : List Frame}
theorem Qbq (c : Frame) (cs : List Frame) (w : World) :
  Walk Try.prog true (DR (fun _ => none)) (fun g w' => ∃ fr, g = G (Frame.enter Try.prog 15 #[.slice (some ⟨w.heap.size, 0, none⟩) 2 2, .slice (some ⟨w.heap.size + 3, 0, none⟩) 2 2, .slice (some ⟨w.heap.size + 4, 0, none⟩) fxSl.length 6, .int .i64 99] .normal) (fr :: c :: cs) /\ (∀ b, b < w.heap.size -> w'.heap[b]? = w.heap[b]?) /\ w.heap.size <= w'.heap.size /\
    w'.heap[w.heap.size]? = some (.cells fxW 2) /\ OpsIn (w.heap.size + 3) 0 2 (fxOa (w.heap.size + 1) (w.heap.size + 2)) (fun _ => 1) (fun _ => 1) Nd w' /\ (∀ (j : Nat) (z : Int), fxSl[j]? = some z -> w'.cell? ⟨w.heap.size + 4, 0 + j, none⟩ = some (.int .i64 z)) /\ Qec fr c cs)
   (G (Frame.enter Try.prog 13 #[] .normal) (c :: cs)) w := by
 have hA : ∀ b, Bd (fun _ => none) b := fun b => ⟨fun _ _ _ _ h => (by cases h), fun _ _ h => (by cases h)⟩
 rw [enter_at _ Try.func13 Qae]
 simp only [Try.ntmps13, ez, Nat.reduceAdd, Nat.reduceSub]
 obtain ⟨T, hT⟩ : ∃ T, w.heap.size = T := ⟨_, rfl⟩
 rw [hT]
 refine Aa z13 ?_
 (refine Walk.oa ?_; try walk_nrm)
 have s1 : (w.alloc (.cells fxW 2)).heap.size = T + 1 := by simp [hT]
 have o1 : ∀ b, b < T -> (w.alloc (.cells fxW 2)).heap[b]? = w.heap[b]? := fun b hb => Ad _ _ (by omega)
 have d1 : (w.alloc (.cells fxW 2)).heap[T]? = some (.cells fxW 2) := hT ▸ heap_alloc_new w (.cells fxW 2)
 try simp only [hT]
 change Walk Try.prog true _ _ _ (w.alloc (.cells fxW 2))
 generalize w.alloc (.cells fxW 2) = x1 at *
 refine Aa z13 ?_
 (refine Walk.oa ?_; try walk_nrm)
 have s2 : (x1.alloc (.cells fxA 49)).heap.size = (T + 1) + 1 := by simp [s1]
 have o2 : ∀ b, b < (T + 1) -> (x1.alloc (.cells fxA 49)).heap[b]? = x1.heap[b]? := fun b hb => Ad _ _ (by omega)
 have d2 : (x1.alloc (.cells fxA 49)).heap[(T + 1)]? = some (.cells fxA 49) := s1 ▸ heap_alloc_new x1 (.cells fxA 49)
 try simp only [s1]
 change Walk Try.prog true _ _ _ (x1.alloc (.cells fxA 49))
 generalize x1.alloc (.cells fxA 49) = x2 at *
 refine Aa z13 ?_
 (refine Walk.oa ?_; try walk_nrm)
 have s3 : (x2.alloc (.cells fxB 49)).heap.size = (T + 2) + 1 := by simp [s2]
 have o3 : ∀ b, b < (T + 2) -> (x2.alloc (.cells fxB 49)).heap[b]? = x2.heap[b]? := fun b hb => Ad _ _ (by omega)
 have d3 : (x2.alloc (.cells fxB 49)).heap[(T + 2)]? = some (.cells fxB 49) := s2 ▸ heap_alloc_new x2 (.cells fxB 49)
 try simp only [s2]
 change Walk Try.prog true _ _ _ (x2.alloc (.cells fxB 49))
 generalize x2.alloc (.cells fxB 49) = x3 at *
 refine Aa z13 ?_
 (refine Walk.oa ?_; try walk_nrm)
 have s4 : (x3.alloc (.cells (fxH (T + 1) (T + 2)) 34)).heap.size = (T + 3) + 1 := by simp [s3]
 have o4 : ∀ b, b < (T + 3) -> (x3.alloc (.cells (fxH (T + 1) (T + 2)) 34)).heap[b]? = x3.heap[b]? := fun b hb => Ad _ _ (by omega)
 have d4 : (x3.alloc (.cells (fxH (T + 1) (T + 2)) 34)).heap[(T + 3)]? = some (.cells (fxH (T + 1) (T + 2)) 34) := s3 ▸ heap_alloc_new x3 (.cells (fxH (T + 1) (T + 2)) 34)
 try simp only [s3]
 change Walk Try.prog true _ _ _ (x3.alloc (.cells (fxH (T + 1) (T + 2)) 34))
 generalize x3.alloc (.cells (fxH (T + 1) (T + 2)) 34) = x4 at *
 refine Aa z13 ?_
 (refine Walk.oa ?_; try walk_nrm)
 have s5 : (x4.alloc (.cells fxS 3)).heap.size = (T + 4) + 1 := by simp [s4]
 have o5 : ∀ b, b < (T + 4) -> (x4.alloc (.cells fxS 3)).heap[b]? = x4.heap[b]? := fun b hb => Ad _ _ (by omega)
 have d5 : (x4.alloc (.cells fxS 3)).heap[(T + 4)]? = some (.cells fxS 3) := s4 ▸ heap_alloc_new x4 (.cells fxS 3)
 try simp only [s4]
 change Walk Try.prog true _ _ _ (x4.alloc (.cells fxS 3))
 generalize x4.alloc (.cells fxS 3) = x5 at *
 refine Aa z13 ?_
 refine Walk.callE Aj (by rfl) (by decide) rfl Try.func15 (by kernel_rfl) (by rfl) ?_
 walk_nrm
 have up : ∀ b, b < T + 1 -> x5.heap[b]? = x1.heap[b]? := fun b hb => (o5 b (by omega)).trans ((o4 b (by omega)).trans ((o3 b (by omega)).trans (o2 b (by omega))))
 refine .stop fun d => ⟨_, rfl, fun b hb => (up b (by omega)).trans (o1 b (by omega)), ?_, (up T (by omega)).trans d1, Qdx ((o5 _ (by omega)).trans ((o4 _ (by omega)).trans ((o3 _ (by omega)).trans d2))) ((o5 _ (by omega)).trans ((o4 _ (by omega)).trans d3)) ((o5 _ (by omega)).trans d4), fun j z hz => ?_, ?_⟩
 ·show T <= x5.heap.size
  omega
 ·try rw [Nat.zero_add]
  refine (Ac (w := x5) d5 j).trans ?_
  have h : (fxSl.map (Value.int .i64))[j]? = some (.int .i64 z) := by rw [List.getElem?_map, hz]; rfl
  simpa [fxSl, fxS] using h
 ·clear d1 d2 d3 d4 d5 s1 s2 s3 s4 s5 o1 o2 o3 o4 o5 up hT
  intro cells F ord k w6 hTr hF0
  obtain ⟨aa, ac, oa, oc, sa, sc, rfl, n1, n2, n3⟩ := hTr.all
  obtain ⟨b, o, ta0, tc0, rfl, a0, A0⟩ := n3 0 (by decide)
  rw [hF0] at a0 A0
  obtain ⟨b0, o0, la, lc, rfl, k0, k1, _⟩ := A0 0 _ rfl
  simp only [Nat.zero_mul, Nat.add_zero, List.length_cons, List.length_nil, Nat.zero_add, Nat.reduceAdd] at a0 k0 k1
  generalize ord.length = ol at *
  simp only [Ih, List.length_cons, List.length_nil, Nat.zero_add, Nat.reduceAdd]
  refine Walk.finish Aj ?_
  walk_nrm
  (refine Walk.oa ?_; try walk_nrm)
  have s7 : (w6.alloc Yi).heap.size = w6.heap.size + 1 := by simp
  have o7 : ∀ b, b < w6.heap.size -> (w6.alloc Yi).heap[b]? = w6.heap[b]? := fun b hb => Ad _ _ hb
  have d7 := heap_alloc_new w6 Yi
  have e7 : w6.alloc (.cells #[.slice none 0 0, .slice none 0 0, .slice none 0 0, .bool false] 31) = w6.alloc Yi := rfl
  try rw [e7]
  clear e7
  have l1 := Aw a0
  have l2 := Aw k0
  generalize hT1 : w6.heap.size = T1 at *
  generalize w6.alloc Yi = w7 at *
  unfold Yi at d7
  refine Az 31 (.tmp 1) (.tmp 14) Aj (by rfl) (by decide) rfl T1 #[.slice (some ⟨b, o, none⟩) 2 ac, .slice oa ol oc, .slice sa 4 sc, .bool k] _ 31 rfl rfl d7 (by kernel_rfl) (by rfl) (by simp [Value.oneCell']) (hA _) ?_
  have d8 := Bk (cells := #[.slice (some ⟨b, o, none⟩) 2 ac, .slice oa ol oc, .slice sa 4 sc, .bool k]) d7
  have o8 : ∀ x, x < T1 -> (w7.setRow T1 #[.slice (some ⟨b, o, none⟩) 2 ac, .slice oa ol oc, .slice sa 4 sc, .bool k]).heap[x]? = w6.heap[x]? := fun x hx => (Av _ _ (by omega)).trans (o7 x hx)
  have s8 := Bg w7 T1 #[.slice (some ⟨b, o, none⟩) 2 ac, .slice oa ol oc, .slice sa 4 sc, .bool k]
  rw [s7] at s8
  generalize w7.setRow T1 #[.slice (some ⟨b, o, none⟩) 2 ac, .slice oa ol oc, .slice sa 4 sc, .bool k] = w8 at *
  have hc8 : ∀ {x j : Nat} {v : Value}, x < T1 -> w6.cell? ⟨x, j, none⟩ = some v -> w8.cell? ⟨x, j, none⟩ = some v := fun {x j v} h e => (World.cell?_of_block (a := ⟨x, j, none⟩) (o8 x h)).trans e
  have x0 : w8.cell? ⟨T1, 0, none⟩ = some (.slice (some ⟨b, o, none⟩) 2 ac) := (Ac d8 0).trans rfl
  have x2 : w8.cell? ⟨T1, 2, none⟩ = some (.slice sa 4 sc) := (Ac d8 2).trans rfl
  have x1 := hc8 l1 a0
  have x3 := hc8 l2 k0
  have x4 := hc8 l2 k1
  have nl8 : NumA sa [2, -2, 9, 0] w8 := fun i x hx => by
   obtain ⟨bb, oo, e, h⟩ := n2 i x hx
   exact ⟨bb, oo, e, hc8 (by have := Aw h; omega) h⟩
  clear n1 n2 n3 A0 a0 k0 k1 d7 d8 hTr s7 o7 hc8 l1 l2
  try walk_nrm
  refine Aa z13 ?_
  (refine Walk.oa ?_; try walk_nrm)
  have s9 : (w8.alloc (.cells #[.int .i64 2, .int .i64 (-2), .int .i64 9, .int .i64 0] 2)).heap.size = T1 + 2 := by simp [s8]
  have o9 : ∀ x, x < T1 + 1 -> (w8.alloc (.cells #[.int .i64 2, .int .i64 (-2), .int .i64 9, .int .i64 0] 2)).heap[x]? = w8.heap[x]? := fun x hx => Ad _ _ (by omega)
  have d9 : NumB (w8.alloc (.cells #[.int .i64 2, .int .i64 (-2), .int .i64 9, .int .i64 0] 2)) (T1 + 1) [2, -2, 9, 0] := s8 ▸ heap_alloc_new w8 (.cells #[.int .i64 2, .int .i64 (-2), .int .i64 9, .int .i64 0] 2)
  have nl9 : NumA sa [2, -2, 9, 0] (w8.alloc (.cells #[.int .i64 2, .int .i64 (-2), .int .i64 9, .int .i64 0] 2)) := nl8.chg ⟨by simp, fun b hb _ => Ad _ _ hb⟩
  try simp only [s8]
  clear x0 x1 x2 x3 x4 nl8
  generalize w8.alloc (.cells #[.int .i64 2, .int .i64 (-2), .int .i64 9, .int .i64 0] 2) = w9 at *
  have hsn := sn_w (main := true) (V := fun _ => none) sa (some ⟨T1 + 1, 0, none⟩) [2, -2, 9, 0] sc 4 (by decide) w9 nl9 (fun i x hx => ⟨T1 + 1, 0, rfl, by rw [Nat.zero_add]; exact d9.cell hx⟩)
  refine Aa z13 ?_
  refine Walk.callV (x := .bool true) (W := w9) ?_ Aj (by rfl) (by decide) rfl Try.func25 (by kernel_rfl) (by rfl) ?_
  ·walk_nrm
   exact hsn
  clear hsn nl9 d9
  walk_nrm
  refine Aa z13 ?_
  have hnw := Qcs (main := true) (V := fun _ => none) 2 ⟨by decide, by decide, by kernel_rfl⟩ w9 (fun b _ => hA b)
  rw [s9] at hnw
  refine Ah (Post := fun v w' => v = .tuple #[.pointer (some ⟨T1 + 2 + 1, 0, none⟩), .int .i64 0] /\ NwR w9 (T1 + 2 + 1) (T1 + 2) 2 2 w') ?_ Aj (by rfl) (by decide) rfl Try.func17 (by kernel_rfl) (by rfl) ?_
  ·walk_nrm
   exact hnw
  rintro v w10 ⟨rfl, E10⟩
  have I10 := E10.I
  have z10 := E10.size
  have u10 : ∀ b, b < T1 -> w10.heap[b]? = w6.heap[b]? := fun b hb => (E10.old b (by omega)).trans ((o9 b (by omega)).trans (o8 b hb))
  clear hnw E10 o9 o8 s8
  have hq1 := fun w => Bz (P := Try.prog) 35 Dl (some ⟨T1 + 2 + 1, 0, none⟩) w
  have hq2 := fun w es => Cn (P := Try.prog) 35 Dl (some ⟨T1 + 2 + 1, 0, none⟩) w es
  simp only [Option.isNone_some] at hq1
  generalize hSB : T1 + 2 = SB at *
  generalize hLB : SB + 1 = LB at *
  walk_nrm
  refine Aa z13 ?_
  have hpt := Zn (main := true) (V := fun _ => none) hA I10 0 7 (by decide)
  refine Dc (Post := fun v w' => v = .int .i64 0 /\ SolR LB SB 2 fz1 w10 w') ?_ Aj (by rfl) (by decide) rfl Try.func60 (by kernel_rfl) (by rfl) ⟨rfl, rfl, _, Try.func13⟩ ?_
  ·walk_nrm
   exact hpt
  rintro v w11 ⟨rfl, H11⟩
  clear hpt
  walk_nrm
  refine Aa z13 ?_
  have hpt := Zn (main := true) (V := fun _ => none) hA H11.I 1 8 (by decide)
  refine Dc (Post := fun v w' => v = .int .i64 0 /\ SolR LB SB 2 fz2 w11 w') ?_ Aj (by rfl) (by decide) rfl Try.func60 (by kernel_rfl) (by rfl) ⟨rfl, rfl, _, Try.func13⟩ ?_
  ·walk_nrm
   exact hpt
  rintro v w12 ⟨rfl, H12⟩
  clear hpt
  walk_nrm
  refine Aa z13 ?_
  have hpt := Zn (main := true) (V := fun _ => none) hA H12.I 2 9 (by decide)
  refine Dc (Post := fun v w' => v = .int .i64 0 /\ SolR LB SB 2 fz3 w12 w') ?_ Aj (by rfl) (by decide) rfl Try.func60 (by kernel_rfl) (by rfl) ⟨rfl, rfl, _, Try.func13⟩ ?_
  ·walk_nrm
   exact hpt
  rintro v w13 ⟨rfl, H13⟩
  clear hpt
  walk_nrm
  refine Aa z13 ?_
  have hgt := Qas (main := true) (V := fun _ => none) hA H13.I 2
  rw [fz_g2] at hgt
  refine Dc (Post := fun x w' => ∃ a er, x = .tuple #[.int .i64 a, .int .i64 er] /\ (⟨true, 9, []⟩ : Ans) = ⟨er == 0, if er = 0 then a else er, []⟩ /\ SolR LB SB 2 fz3 w13 w') ?_ Aj (by rfl) (by decide) rfl Try.func61 (by kernel_rfl) (by rfl) ⟨rfl, rfl, _, Try.func13⟩ ?_
  ·walk_nrm
   exact hgt
  rintro v w14 ⟨a, er, rfl, he, H14⟩
  clear hgt
  obtain ⟨rfl, rfl⟩ := Qdu he
  clear he
  walk_nrm
  refine Aa z13 ?_
  have hgt := Qas (main := true) (V := fun _ => none) hA H14.I 0
  rw [fz_g0] at hgt
  refine Dc (Post := fun x w' => ∃ a er, x = .tuple #[.int .i64 a, .int .i64 er] /\ (⟨false, 10, []⟩ : Ans) = ⟨er == 0, if er = 0 then a else er, []⟩ /\ SolR LB SB 2 fz3 w14 w') ?_ Aj (by rfl) (by decide) rfl Try.func61 (by kernel_rfl) (by rfl) ⟨rfl, rfl, _, Try.func13⟩ ?_
  ·walk_nrm
   exact hgt
  rintro v w15 ⟨a, er, rfl, he, H15⟩
  clear hgt
  obtain rfl := Qdv he
  clear he
  walk_nrm
  refine Aa z13 ?_
  have hhi := Qcg (main := true) (V := fun _ => none) hA H15.I 1 5 2 fz3 ⟨true, 2, []⟩ (fz_hi LB SB)
  refine Dc (Post := fun x w' => x = .int .i64 2 /\ SolR LB SB 2 fz3 w15 w') ?_ Aj (by rfl) (by decide) rfl Try.func62 (by kernel_rfl) (by rfl) ⟨rfl, rfl, _, Try.func13⟩ ?_
  ·walk_nrm
   exact hhi
  rintro v w16 ⟨rfl, H16⟩
  clear hhi
  walk_nrm
  refine Aa z13 ?_
  have hth := Zb (main := true) (V := fun _ => none) hA H16.I 1
  rw [fz_t1] at hth
  refine Dc (Post := fun x w' => x = .bool true /\ SolR LB SB 2 fz3 w16 w') ?_ Aj (by rfl) (by decide) rfl Try.func63 (by kernel_rfl) (by rfl) ⟨rfl, rfl, _, Try.func13⟩ ?_
  ·walk_nrm
   exact hth
  rintro v w17 ⟨rfl, H17⟩
  clear hth
  walk_nrm
  refine Aa z13 ?_
  have hth := Zb (main := true) (V := fun _ => none) hA H17.I 0
  rw [fz_t0] at hth
  refine Dc (Post := fun x w' => x = .bool false /\ SolR LB SB 2 fz3 w17 w') ?_ Aj (by rfl) (by decide) rfl Try.func63 (by kernel_rfl) (by rfl) ⟨rfl, rfl, _, Try.func13⟩ ?_
  ·walk_nrm
   exact hth
  rintro v w18 ⟨rfl, H18⟩
  clear hth
  walk_nrm
  refine Aa z13 ?_
  have HH := ((((((H11.trans H12).trans H13).trans H14).trans H15).trans H16).trans H17).trans H18
  have zz := HH.size
  have oo := HH.old
  exact Be rfl rfl Try.func13 rfl (.stop fun d => ⟨rfl, fun b hb => (oo b (by omega) (by omega) (by omega)).trans (u10 b (by omega)), by show T1 <= w18.heap.size; omega⟩)
end
theorem Yw (c : Frame) (cs : List Frame) (w : World) : Runs (fun g w' => g = G (c.finish (.bool true)) cs /\ (∀ b, b < w.heap.size -> w'.heap[b]? = w.heap[b]?) /\ w.heap.size <= w'.heap.size) (G (Frame.enter Try.prog 13 #[] .normal) (c :: cs)) w := by
 refine Runs.walk (Qbq c cs w) ?_
 rintro _ w1 ⟨fr, rfl, O1, Z1, hw1, I1, hs1, hB⟩
 refine Runs.then (Qn (.slice (some ⟨w.heap.size, 0, none⟩) 2 2) [2, 7] (by decide) (.slice (some ⟨w.heap.size + 3, 0, none⟩) 2 2) 99 (some ⟨w.heap.size + 3, 0, none⟩) (w.heap.size + 3) 0 2 2 (fun _ => rfl) (by decide) _ _ _ _ (some ⟨w.heap.size + 4, 0, none⟩) 6 fxSl (by decide) fr (c :: cs) w1 (NumB.lsR (xs := [2, 7]) hw1) fx_is I1 (fun j z hz => ⟨_, 0, rfl, hs1 j z hz⟩) (fun w' _ => Ij _ 2 2 w' (by decide) (.inr ⟨_, rfl⟩))) ?_
 rintro _ w2 ⟨cells, H, rfl⟩
 have O2 := H.old
 have Z2 := H.size
 have hT := H.tr.tr
 rw [Qbp] at hT
 refine Runs.walk (hB cells _ _ _ w2 hT (Qdw _ _)) ?_
 rintro _ w3 ⟨rfl, O3, Z3⟩
 exact .now ⟨rfl, fun b hb => (O3 b (by omega)).trans ((O2 b (by omega)).trans (O1 b hb)), by omega⟩
end
section
section
variable {b : Frame} {k : List Item} {cs : List Frame} {ops : Array Oper} {Post : Goroutine -> World -> Prop}
theorem Runs.drawnR {id : Nat} {a : Act} {w : World} {Inv : (Nat -> Bool) -> Act -> World -> Prop} (hm : Try.prog.follows .mixedOrders = true) (hlow : lowW ops = true) (h0 : ∀ d, Inv (fun _ => false) a (w.at d))
  (hop : ∀ f i o a w, Inv f a w -> Closed ops f -> f i = false -> ops[i]? = some o -> (∀ x ∈ o.after, Region.binds .any x = true -> f x.on = true) -> ∀ rest, (∀ a' w', Inv (upd f i true) a' w' -> Runs Post (G (b.at a' (.inRegion ops rest :: k)) cs) w') -> Runs Post (G (b.at a (.inRegion ops (i :: rest) :: k)) cs) w)
  (hend : ∀ f a w, Inv f a w -> (∀ i, i < ops.size -> f i = true) -> Runs Post (G (b.at a (.inRegion ops [] :: k)) cs) w) : Runs Post (G (b.at a (.code (.region id ops true) :: k)) cs) w := by
 have hu : Do (Array.replicate ops.size false) = fun _ => false := by
  funext j
  unfold Do
  rw [Array.getD_eq_getD_getElem?, Array.getElem?_replicate]
  split <;> rfl
 refine Runs.walk (Stop := fun g w' => ∃ t d, g = G (b.at a (.inRegion ops (Region.linearise .any ops t) :: k)) cs /\ w' = w.at d) ?_ ?_
 ·refine Walk.step rfl (fun d => G (b.at a (.inRegion ops (Region.linearise .any ops (w.tape d (.order b.fn id))) :: k)) cs) (fun d => w.at (d + 1)) (fun _ => #[]) (fun d => ?_) (fun d => Ms _) (fun d => .stop fun d' => ⟨w.tape d (.order b.fn id), d', rfl, rfl⟩)
  rw [stepG_region_draw]
  simp only [Region.schedule, hm, Bool.true_or, if_true]
  rfl
 ·rintro _ _ ⟨t, d, rfl, rfl⟩
  refine anyE (E := World) (Good := fun rest a w => Runs Post (G (b.at a (.inRegion ops rest :: k)) cs) w) hlow hop hend ops.size _ _ a (w.at d) (by simp) (by rw [hu]; exact h0 d) (by rw [hu]; intro _ _ _ h; cases h) ?_
  unfold Go.Relay.leftOf
  exact Nat.le_trans List.countP_le_length (by simp)
end
end
noncomputable def reg3_0 := rk Try.f3.body 0
noncomputable def reg3_1 := rk Try.f3.body 1
noncomputable def reg3_2 := rk Try.f3.body 2
noncomputable def reg3_3 := rk Try.f3.body 3
theorem Zw : reg3_3.size = 20 := by kernel_rfl
theorem z3 : reg3_0.size = 2 /\ reg3_1.size = 2 /\ reg3_2.size = 1 /\ reg3_3.size = 20 := by and_intros <;> kernel_rfl
theorem Qbv : Try.f3.body = some (.seq (.region 0 reg3_0 false) (.seq (.seq (.region 1 reg3_1 false) (.cond (.tmp 4 ) (.seq (.region 2 reg3_2 false) (.ret)) (.skip))) (.seq (.region 3 reg3_3 true) (.ret)))) := by kernel_rfl
noncomputable def tmSP (S : Value) (X : Nat) (u : Nat -> Value) : Array Value := #[S, .pointer (some ⟨X, 0, none⟩), u 2, u 3, u 4, u 5, u 6, u 7, u 8, u 9, u 10, u 11, u 12, u 13, u 14, u 15, u 16, u 17, u 18, u 19, u 20, u 21, u 22, u 23]
def OldW (w0 w : World) : Prop := w0.heap.size <= w.heap.size /\ ∀ b, b < w0.heap.size -> w.heap[b]? = w0.heap[b]?
theorem OldW.chg {w0 w : World} (h : OldW w0 w) : Chg (fun _ => False) w0 w := ⟨h.1, fun b hb _ => h.2 b hb⟩
theorem OldW.trans {w0 w1 w2 : World} (h1 : OldW w0 w1) (h2 : OldW w1 w2) : OldW w0 w2 := ⟨Nat.le_trans h1.1 h2.1, fun b hb => (h2.2 b (Nat.lt_of_lt_of_le hb h1.1)).trans (h1.2 b hb)⟩
theorem OldW.of {w0 w : World} (h : Chg (fun _ => False) w0 w) : OldW w0 w := ⟨h.size, fun b hb => h.same b hb id⟩
def dP : List Nat := [5, 6, 7, 8, 9, 10, 11, 12, 13, 14, 15, 16, 17, 18, 19, 20, 21, 22, 23, 2]
def vP (X : Nat) (xv tv sv : Value) (most : Int) (vA vB : Value) : List Value := [.pointer (some ⟨X, 0, none⟩), xv, .pointer (some ⟨X, 1, none⟩), tv, .pointer (some ⟨X, 2, none⟩), sv, .pointer (some ⟨X, 3, none⟩), .int .i64 most, vA, .pointer (some ⟨X, 0, none⟩), xv, .pointer (some ⟨X, 1, none⟩), tv, .pointer (some ⟨X, 2, none⟩), sv, .pointer (some ⟨X, 3, none⟩), .int .i64 most, vB, .bool true, .bool true]
theorem Qby (S xv tv sv : Value) (most : Int) (X n : Nat) (Fa : Nat -> List Ans) (ord : List Nat) (sts : List Int) (kk : Bool) (w0 : World) (hX : w0.heap[X]? = some (.cells #[xv, tv, sv, .int .i64 most] 26)) (hn : n <= 64) (hord : ord.length <= 1048576) (hst : sts.length <= 1048576)
  (hP : ∀ d, ∀ fr : Frame, Runs (fun g w' => ∃ cells, g = G (fr.finish (.agg cells)) [] /\ TrA cells n Fa ord sts kk w' /\ OldW w0 w') (G (Frame.enter Try.prog 15 #[xv, tv, sv, .int .i64 most] .normal) [fr]) (w0.at d))
  (hR : ∀ w1, OldW w0 w1 -> CallW Try.prog true (fun _ => none) 16 #[xv, tv, sv, .int .i64 most] w1 (fun v w' => ∃ cells, v = .agg cells /\ TrA cells n Fa ord sts kk w' /\ (∀ i, i < n -> (Fa i).length <= 65536) /\ OldW w1 w')) (u0 : Nat -> Value) (kx : List Item)
  {Post : Goroutine -> World -> Prop} (hk : ∀ (u : Nat -> Value) (w' : World), u 2 = .bool true -> OldW w0 w' -> Runs Post (G ((base 3).at ⟨tmSP S X u, []⟩ (.inRegion reg3_3 [] :: kx)) []) w') :
  Runs Post (G ((base 3).at ⟨tmSP S X u0, []⟩ (.code (.region 3 reg3_3 true) :: kx)) []) w0 := by
 refine Runs.drawnR (Inv := fun f a w' => ∃ u vA vB, a = ⟨tmSP S X u, []⟩ /\ Facts dP (vP X xv tv sv most vA vB) f u /\ OldW w0 w' /\ (f 8 = true -> ∃ cells, vA = .agg cells /\ TrA cells n Fa ord sts kk w') /\ (f 17 = true -> ∃ cells, vB = .agg cells /\ TrA cells n Fa ord sts kk w' /\ (∀ i, i < n -> (Fa i).length <= 65536)) /\ (f 8 = false -> ∃ d, w' = w0.at d)) (by kernel_rfl) (by kernel_rfl) (fun d => ⟨u0, undef, undef, rfl, Facts.none _ _ _, ⟨Nat.le_refl _, fun _ _ => rfl⟩, fun h => (by cases h), fun h => (by cases h), fun _ => ⟨d, rfl⟩⟩) ?_ ?_
 ·rintro f i o a w' ⟨u, vA, vB, rfl, F0, O, hA, hB, hD⟩ hC hfi ho hdeps rest hr0
  have hi : i < 20 := by have := (Array.getElem?_eq_some_iff.1 ho).1; rw [Zw] at this; exact this
  have hX' := (O.2 X (Array.getElem?_eq_some_iff.1 hX).1).trans hX
  have c0 : w'.cell? ⟨X, 0, none⟩ = some xv := (Ac hX' 0).trans rfl
  have c1 : w'.cell? ⟨X, 1, none⟩ = some tv := (Ac hX' 1).trans rfl
  have c2 : w'.cell? ⟨X, 2, none⟩ = some sv := (Ac hX' 2).trans rfl
  have c3 : w'.cell? ⟨X, 3, none⟩ = some (.int .i64 most) := (Ac hX' 3).trans rfl
  clear hX'
  by_cases e8 : i = 8
  ·subst e8
   have hd := Bi (l := [1, 3, 5, 7]) (by kernel_rfl) ho hdeps
   have e6 := F0 1 6 _ (hd 1 (by simp)) rfl rfl
   have e8 := F0 3 8 _ (hd 3 (by simp)) rfl rfl
   have e10 := F0 5 10 _ (hd 5 (by simp)) rfl rfl
   have e12 := F0 7 12 _ (hd 7 (by simp)) rfl rfl
   have h17 : f 17 = false := by
    cases h : f 17 with
    | false => rfl
    | true => have := hC.deps (i := 17) (l := [8]) h (by kernel_rfl) 8 (by simp); rw [hfi] at this; cases this
   have hset : ∀ v, Facts dP ((vP X xv tv sv most vA vB).set 8 v) (upd f 8 true) (upd u 13 v) := fun v => by
    refine Facts.set (fun j d x hj hd hx => ?_) (by decide) rfl rfl
    have hj8 : j ≠ 8 := fun e => by rw [e, hfi] at hj; cases hj
    exact F0 j d x hj hd (by rw [List.getElem?_set_ne (Ne.symm hj8)] at hx; exact hx)
   refine Runs.walk (Stop := fun g w'' => ∃ d fr, w'' = w'.at d /\ g = G (Frame.enter Try.prog 15 #[xv, tv, sv, .int .i64 most] .normal) [fr] /\ ∀ (cells : Array Value) (w3 : World), (∀ x, Runs Post (G ((base 3).at ⟨tmSP S X (upd u 13 (.agg cells)), []⟩ (.inRegion reg3_3 rest :: kx)) []) (w3.at x)) -> Runs Post (G (fr.finish (.agg cells)) []) w3) ?_ ?_
   ·clear hdeps hC hA hB hP hR hr0 hk
    simp only [tmSP]
    refine Walk.callE Aj (by rfl) (by decide) rfl Try.func15 (by kernel_rfl) (by rfl) ?_
    walk_nrm
    simp only [e6, e8, e10, e12]
    refine .stop fun d => ⟨d, _, rfl, rfl, fun cells w3 hh => ?_⟩
    refine Runs.walk (Stop := fun g w4 => ∃ x, g = G ((base 3).at ⟨tmSP S X (upd u 13 (.agg cells)), []⟩ (.inRegion reg3_3 rest :: kx)) [] /\ w4 = w3.at x) ?_ ?_
    ·refine Walk.finish Aj ?_
     walk_nrm
     refine .stop fun x => ⟨x, ?_, rfl⟩
     simp [tmSP, upd, e6, e8, e10, e12]
    ·rintro _ _ ⟨x, rfl, rfl⟩
     exact hh x
   ·rintro _ _ ⟨d, fr, rfl, rfl, hfr⟩
    obtain ⟨e, rfl⟩ := hD hfi
    refine Runs.then (hP d fr) ?_
    rintro _ w3 ⟨cells, rfl, hT, O3⟩
    refine hfr cells w3 fun x => hr0 _ _ ⟨upd u 13 (.agg cells), .agg cells, vB, rfl, hset _, O3, fun _ => ⟨cells, rfl, hT.chg ⟨Nat.le_refl _, fun _ _ _ => rfl⟩⟩, fun h => ?_, fun h => ?_⟩
    ·rw [upd_ne _ _ (by decide), h17] at h
     cases h
    ·rw [upd_same] at h
     cases h
  ·refine Runs.walk (Stop := fun g w'' => ∃ a', g = G ((base 3).at a' (.inRegion reg3_3 rest :: kx)) [] /\ ∃ u vA vB, a' = ⟨tmSP S X u, []⟩ /\ Facts dP (vP X xv tv sv most vA vB) (upd f i true) u /\ OldW w0 w'' /\ (upd f i true 8 = true -> ∃ cells, vA = .agg cells /\ TrA cells n Fa ord sts kk w'') /\ (upd f i true 17 = true -> ∃ cells, vB = .agg cells /\ TrA cells n Fa ord sts kk w'' /\ (∀ i, i < n -> (Fa i).length <= 65536)) /\ (upd f i true 8 = false -> ∃ d, w'' = w0.at d)) ?_ ?_
   rotate_left
   ·rintro _ w3 ⟨a', rfl, h⟩
    exact hr0 a' w3 h
   have hr : ∀ a' w'', (∃ u vA vB, a' = ⟨tmSP S X u, []⟩ /\ Facts dP (vP X xv tv sv most vA vB) (upd f i true) u /\ OldW w0 w'' /\ (upd f i true 8 = true -> ∃ cells, vA = .agg cells /\ TrA cells n Fa ord sts kk w'') /\ (upd f i true 17 = true -> ∃ cells, vB = .agg cells /\ TrA cells n Fa ord sts kk w'' /\ (∀ i, i < n -> (Fa i).length <= 65536)) /\ (upd f i true 8 = false -> ∃ d, w'' = w0.at d)) -> Walk Try.prog true (DR (fun _ => none)) (fun g w'' => ∃ a', g = G ((base 3).at a' (.inRegion reg3_3 rest :: kx)) [] /\ ∃ u vA vB, a' = ⟨tmSP S X u, []⟩ /\ Facts dP (vP X xv tv sv most vA vB) (upd f i true) u /\ OldW w0 w'' /\ (upd f i true 8 = true -> ∃ cells, vA = .agg cells /\ TrA cells n Fa ord sts kk w'') /\ (upd f i true 17 = true -> ∃ cells, vB = .agg cells /\ TrA cells n Fa ord sts kk w'' /\ (∀ i, i < n -> (Fa i).length <= 65536)) /\ (upd f i true 8 = false -> ∃ d, w'' = w0.at d)) (G ((base 3).at a' (.inRegion reg3_3 rest :: kx)) []) w'' := by
    rintro a' w'' ⟨u, vA, vB, h1, h2, h3, h4, h5, h6⟩
    have hc : ∀ d, Chg (fun _ => False) w'' (w''.at d) := fun d => ⟨Nat.le_refl _, fun _ _ _ => rfl⟩
    exact .stop fun d => ⟨a', rfl, u, vA, vB, h1, h2, h3, fun h => (h4 h).imp fun c h => ⟨h.1, h.2.chg (hc d)⟩, fun h => (h5 h).imp fun c h => ⟨h.1, h.2.1.chg (hc d), h.2.2⟩, fun h => by obtain ⟨e, rfl⟩ := h6 h; exact ⟨d, rfl⟩⟩
   clear hr0
   have h20 : i = 0 ∨ i = 1 ∨ i = 2 ∨ i = 3 ∨ i = 4 ∨ i = 5 ∨ i = 6 ∨ i = 7 ∨ i = 9 ∨ i = 10 ∨ i = 11 ∨ i = 12 ∨ i = 13 ∨ i = 14 ∨ i = 15 ∨ i = 16 ∨ i = 17 ∨ i = 18 ∨ i = 19 := by omega
   rcases h20 with rfl | rfl | rfl | rfl | rfl | rfl | rfl | rfl | rfl | rfl | rfl | rfl | rfl | rfl | rfl | rfl | rfl | rfl | rfl
   ·clear hdeps hC ho
    simp only [tmSP] at hr ⊢
    (refine Walk.oq ?_; try walk_nrm)
    refine hr _ _ ⟨upd u 5 (.pointer (some ⟨X, 0, none⟩)), vA, vB, ?_, F0.set (by decide) rfl rfl, O, fun h => hA (by rwa [upd_ne _ _ (by decide)] at h), fun h => hB (by rwa [upd_ne _ _ (by decide)] at h), fun h => hD (by rwa [upd_ne _ _ (by decide)] at h)⟩
    simp [upd]
   ·have hd := Bi (l := [0]) (by kernel_rfl) ho hdeps
    have e5 := F0 0 5 _ (hd 0 (by simp)) rfl rfl
    clear hdeps hC ho
    simp only [tmSP] at hr ⊢
    simp only [e5]
    (refine Walk.oq ?_; try walk_nrm)
    refine hr _ _ ⟨upd u 6 (xv), vA, vB, ?_, F0.set (by decide) rfl rfl, O, fun h => hA (by rwa [upd_ne _ _ (by decide)] at h), fun h => hB (by rwa [upd_ne _ _ (by decide)] at h), fun h => hD (by rwa [upd_ne _ _ (by decide)] at h)⟩
    simp [upd, e5]
   ·clear hdeps hC ho
    simp only [tmSP] at hr ⊢
    (refine Walk.oq ?_; try walk_nrm)
    refine hr _ _ ⟨upd u 7 (.pointer (some ⟨X, 1, none⟩)), vA, vB, ?_, F0.set (by decide) rfl rfl, O, fun h => hA (by rwa [upd_ne _ _ (by decide)] at h), fun h => hB (by rwa [upd_ne _ _ (by decide)] at h), fun h => hD (by rwa [upd_ne _ _ (by decide)] at h)⟩
    simp [upd]
   ·have hd := Bi (l := [2]) (by kernel_rfl) ho hdeps
    have e7 := F0 2 7 _ (hd 2 (by simp)) rfl rfl
    clear hdeps hC ho
    simp only [tmSP] at hr ⊢
    simp only [e7]
    (refine Walk.oq ?_; try walk_nrm)
    refine hr _ _ ⟨upd u 8 (tv), vA, vB, ?_, F0.set (by decide) rfl rfl, O, fun h => hA (by rwa [upd_ne _ _ (by decide)] at h), fun h => hB (by rwa [upd_ne _ _ (by decide)] at h), fun h => hD (by rwa [upd_ne _ _ (by decide)] at h)⟩
    simp [upd, e7]
   ·clear hdeps hC ho
    simp only [tmSP] at hr ⊢
    (refine Walk.oq ?_; try walk_nrm)
    refine hr _ _ ⟨upd u 9 (.pointer (some ⟨X, 2, none⟩)), vA, vB, ?_, F0.set (by decide) rfl rfl, O, fun h => hA (by rwa [upd_ne _ _ (by decide)] at h), fun h => hB (by rwa [upd_ne _ _ (by decide)] at h), fun h => hD (by rwa [upd_ne _ _ (by decide)] at h)⟩
    simp [upd]
   ·have hd := Bi (l := [4]) (by kernel_rfl) ho hdeps
    have e9 := F0 4 9 _ (hd 4 (by simp)) rfl rfl
    clear hdeps hC ho
    simp only [tmSP] at hr ⊢
    simp only [e9]
    (refine Walk.oq ?_; try walk_nrm)
    refine hr _ _ ⟨upd u 10 (sv), vA, vB, ?_, F0.set (by decide) rfl rfl, O, fun h => hA (by rwa [upd_ne _ _ (by decide)] at h), fun h => hB (by rwa [upd_ne _ _ (by decide)] at h), fun h => hD (by rwa [upd_ne _ _ (by decide)] at h)⟩
    simp [upd, e9]
   ·clear hdeps hC ho
    simp only [tmSP] at hr ⊢
    (refine Walk.oq ?_; try walk_nrm)
    refine hr _ _ ⟨upd u 11 (.pointer (some ⟨X, 3, none⟩)), vA, vB, ?_, F0.set (by decide) rfl rfl, O, fun h => hA (by rwa [upd_ne _ _ (by decide)] at h), fun h => hB (by rwa [upd_ne _ _ (by decide)] at h), fun h => hD (by rwa [upd_ne _ _ (by decide)] at h)⟩
    simp [upd]
   ·have hd := Bi (l := [6]) (by kernel_rfl) ho hdeps
    have e11 := F0 6 11 _ (hd 6 (by simp)) rfl rfl
    clear hdeps hC ho
    simp only [tmSP] at hr ⊢
    simp only [e11]
    (refine Walk.oq ?_; try walk_nrm)
    refine hr _ _ ⟨upd u 12 (.int .i64 most), vA, vB, ?_, F0.set (by decide) rfl rfl, O, fun h => hA (by rwa [upd_ne _ _ (by decide)] at h), fun h => hB (by rwa [upd_ne _ _ (by decide)] at h), fun h => hD (by rwa [upd_ne _ _ (by decide)] at h)⟩
    simp [upd, e11]
   ·clear hdeps hC ho
    simp only [tmSP] at hr ⊢
    (refine Walk.oq ?_; try walk_nrm)
    refine hr _ _ ⟨upd u 14 (.pointer (some ⟨X, 0, none⟩)), vA, vB, ?_, F0.set (by decide) rfl rfl, O, fun h => hA (by rwa [upd_ne _ _ (by decide)] at h), fun h => hB (by rwa [upd_ne _ _ (by decide)] at h), fun h => hD (by rwa [upd_ne _ _ (by decide)] at h)⟩
    simp [upd]
   ·have hd := Bi (l := [9]) (by kernel_rfl) ho hdeps
    have e14 := F0 9 14 _ (hd 9 (by simp)) rfl rfl
    clear hdeps hC ho
    simp only [tmSP] at hr ⊢
    simp only [e14]
    (refine Walk.oq ?_; try walk_nrm)
    refine hr _ _ ⟨upd u 15 (xv), vA, vB, ?_, F0.set (by decide) rfl rfl, O, fun h => hA (by rwa [upd_ne _ _ (by decide)] at h), fun h => hB (by rwa [upd_ne _ _ (by decide)] at h), fun h => hD (by rwa [upd_ne _ _ (by decide)] at h)⟩
    simp [upd, e14]
   ·clear hdeps hC ho
    simp only [tmSP] at hr ⊢
    (refine Walk.oq ?_; try walk_nrm)
    refine hr _ _ ⟨upd u 16 (.pointer (some ⟨X, 1, none⟩)), vA, vB, ?_, F0.set (by decide) rfl rfl, O, fun h => hA (by rwa [upd_ne _ _ (by decide)] at h), fun h => hB (by rwa [upd_ne _ _ (by decide)] at h), fun h => hD (by rwa [upd_ne _ _ (by decide)] at h)⟩
    simp [upd]
   ·have hd := Bi (l := [11]) (by kernel_rfl) ho hdeps
    have e16 := F0 11 16 _ (hd 11 (by simp)) rfl rfl
    clear hdeps hC ho
    simp only [tmSP] at hr ⊢
    simp only [e16]
    (refine Walk.oq ?_; try walk_nrm)
    refine hr _ _ ⟨upd u 17 (tv), vA, vB, ?_, F0.set (by decide) rfl rfl, O, fun h => hA (by rwa [upd_ne _ _ (by decide)] at h), fun h => hB (by rwa [upd_ne _ _ (by decide)] at h), fun h => hD (by rwa [upd_ne _ _ (by decide)] at h)⟩
    simp [upd, e16]
   ·clear hdeps hC ho
    simp only [tmSP] at hr ⊢
    (refine Walk.oq ?_; try walk_nrm)
    refine hr _ _ ⟨upd u 18 (.pointer (some ⟨X, 2, none⟩)), vA, vB, ?_, F0.set (by decide) rfl rfl, O, fun h => hA (by rwa [upd_ne _ _ (by decide)] at h), fun h => hB (by rwa [upd_ne _ _ (by decide)] at h), fun h => hD (by rwa [upd_ne _ _ (by decide)] at h)⟩
    simp [upd]
   ·have hd := Bi (l := [13]) (by kernel_rfl) ho hdeps
    have e18 := F0 13 18 _ (hd 13 (by simp)) rfl rfl
    clear hdeps hC ho
    simp only [tmSP] at hr ⊢
    simp only [e18]
    (refine Walk.oq ?_; try walk_nrm)
    refine hr _ _ ⟨upd u 19 (sv), vA, vB, ?_, F0.set (by decide) rfl rfl, O, fun h => hA (by rwa [upd_ne _ _ (by decide)] at h), fun h => hB (by rwa [upd_ne _ _ (by decide)] at h), fun h => hD (by rwa [upd_ne _ _ (by decide)] at h)⟩
    simp [upd, e18]
   ·clear hdeps hC ho
    simp only [tmSP] at hr ⊢
    (refine Walk.oq ?_; try walk_nrm)
    refine hr _ _ ⟨upd u 20 (.pointer (some ⟨X, 3, none⟩)), vA, vB, ?_, F0.set (by decide) rfl rfl, O, fun h => hA (by rwa [upd_ne _ _ (by decide)] at h), fun h => hB (by rwa [upd_ne _ _ (by decide)] at h), fun h => hD (by rwa [upd_ne _ _ (by decide)] at h)⟩
    simp [upd]
   ·have hd := Bi (l := [15]) (by kernel_rfl) ho hdeps
    have e20 := F0 15 20 _ (hd 15 (by simp)) rfl rfl
    clear hdeps hC ho
    simp only [tmSP] at hr ⊢
    simp only [e20]
    (refine Walk.oq ?_; try walk_nrm)
    refine hr _ _ ⟨upd u 21 (.int .i64 most), vA, vB, ?_, F0.set (by decide) rfl rfl, O, fun h => hA (by rwa [upd_ne _ _ (by decide)] at h), fun h => hB (by rwa [upd_ne _ _ (by decide)] at h), fun h => hD (by rwa [upd_ne _ _ (by decide)] at h)⟩
    simp [upd, e20]
   ·have hd := Bi (l := [10, 12, 14, 16, 8]) (by kernel_rfl) ho hdeps
    have e15 := F0 10 15 _ (hd 10 (by simp)) rfl rfl
    have e17 := F0 12 17 _ (hd 12 (by simp)) rfl rfl
    have e19 := F0 14 19 _ (hd 14 (by simp)) rfl rfl
    have e21 := F0 16 21 _ (hd 16 (by simp)) rfl rfl
    have hA8 := hA (hd 8 (by simp))
    have h18 : f 18 = false := by
     cases h : f 18 with
     | false => rfl
     | true => have := hC.deps (i := 18) (l := [17]) h (by kernel_rfl) 17 (by simp); rw [hfi] at this; cases this
    have hset : ∀ v, Facts dP ((vP X xv tv sv most vA vB).set 17 v) (upd f 17 true) (upd u 22 v) := fun v => by
     refine Facts.set (fun j d x hj hd hx => ?_) (by decide) rfl rfl
     have hj8 : j ≠ 17 := fun e => by rw [e, hfi] at hj; cases hj
     exact F0 j d x hj hd (by rw [List.getElem?_set_ne (Ne.symm hj8)] at hx; exact hx)
    have hR' := hR w' O
    clear hdeps hC ho hA hB hP hR hk
    simp only [tmSP] at hr ⊢
    simp only [e15, e17, e19, e21]
    refine Ah (Post := fun v w2 => ∃ cells, v = .agg cells /\ TrA cells n Fa ord sts kk w2 /\ (∀ i, i < n -> (Fa i).length <= 65536) /\ OldW w' w2) ?_ Aj (by rfl) (by decide) rfl Try.func16 (by kernel_rfl) (by rfl) ?_
    ·walk_nrm
     exact hR'
    rintro v w2 ⟨cells, rfl, hT, hLF, O2⟩
    walk_nrm
    refine hr _ _ ⟨upd u 22 (.agg cells), vA, .agg cells, ?_, hset _, O.trans O2, fun _ => hA8.imp fun c h => ⟨h.1, h.2.chg O2.chg⟩, fun _ => ⟨cells, rfl, hT, hLF⟩, fun h => by rw [upd_ne _ _ (by decide), hd 8 (by simp)] at h; cases h⟩
    simp [upd, e15, e17, e19, e21]
   ·have hd := Bi (l := [8, 17]) (by kernel_rfl) ho hdeps
    have e13 := F0 8 13 _ (hd 8 (by simp)) rfl rfl
    have e22 := F0 17 22 _ (hd 17 (by simp)) rfl rfl
    obtain ⟨ca, rfl, hT1⟩ := hA (hd 8 (by simp))
    obtain ⟨cb, rfl, hT2, hF⟩ := hB (hd 17 (by simp))
    have hS := sm_w (main := true) ca cb n Fa ord sts kk w' hn hord hst hF hT1 hT2
    clear hdeps hC ho hA hB hP hR hk
    simp only [tmSP] at hr ⊢
    simp only [e13, e22]
    refine Ah (Post := fun v w2 => v = .bool true /\ Chg (fun _ => False) w' w2) ?_ Aj (by rfl) (by decide) rfl Try.func14 (by kernel_rfl) (by rfl) ?_
    ·walk_nrm
     exact hS
    rintro v w2 ⟨rfl, O2⟩
    walk_nrm
    refine hr _ _ ⟨upd u 23 (.bool true), _, _, ?_, F0.set (by decide) rfl rfl, O.trans (.of O2), fun _ => ⟨ca, rfl, hT1.chg O2⟩, fun _ => ⟨cb, rfl, hT2.chg O2, hF⟩, fun h => by rw [upd_ne _ _ (by decide), hd 8 (by simp)] at h; cases h⟩
    simp [upd, e13, e22]
   ·have hd := Bi (l := [18]) (by kernel_rfl) ho hdeps
    have e23 := F0 18 23 _ (hd 18 (by simp)) rfl rfl
    clear hdeps hC ho
    simp only [tmSP] at hr ⊢
    simp only [e23]
    (refine Walk.oq ?_; try walk_nrm)
    refine hr _ _ ⟨upd u 2 (.bool true), vA, vB, ?_, F0.set (by decide) rfl rfl, O, fun h => hA (by rwa [upd_ne _ _ (by decide)] at h), fun h => hB (by rwa [upd_ne _ _ (by decide)] at h), fun h => hD (by rwa [upd_ne _ _ (by decide)] at h)⟩
    simp [upd, e23]
 ·rintro f a w' ⟨u, vA, vB, rfl, F0, O, _, _, _⟩ hall
  exact hk u w' (F0 19 2 _ (hall 19 (by rw [Zw]; decide)) rfl rfl) O
end Go.Proofs.Ytcdcnmphjhfbpaa
