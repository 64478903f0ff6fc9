/- Part 22. -/
import Derived.Test.YtflcclneedldoaaJ21
set_option linter.unusedSimpArgs false
set_option linter.unusedVariables false
set_option maxHeartbeats 8000000
set_option maxRecDepth 100000
namespace Go.Proofs.Ytflcclneedldoaa
open Go.Conc Go.RowKit Go.Relay Try
open Go.ConcN (upd upd_ne upd_same)
section
variable {a0 M tb tc n m : Nat} {cb : CB} {ta : Option Addr} {Sx : Rg} {T : Nat -> R11} {main : Bool}
theorem stp_2f {i Sb x : Nat} (q lp : Int) (p : Nat) (oa ob oc : Int) (w0 : World) (P Q : World -> Prop) (hQ : ∀ w d, Q w -> Q (w.at d)) (hP : ∀ w, P w -> w.heap[Sb]? = some (.cells #[.int .i64 2, .int .i64 oa, .int .i64 ob, .int .i64 oc] 45))
  (hget : CallW prog main (fun _ => none) 159 #[.pointer (some ⟨M, 0, none⟩), .int .i64 i, .int .i64 p] w0 (fun vv w1 => vv = .tuple #[.int .i64 0, .int .i64 0, .bool false] /\ P w1)) (hPQ : ∀ w, P w -> Q w) (u : Nat -> Value) (fr : Frame) (cs : List Frame) :
  Walk prog main (DR (fun _ => none)) (fun g w' => g = G (fr.finish (.tuple #[])) cs /\ Q w') (G (hdSt11 M i Sb q x lp p 2 u) (fr :: cs)) w0 := by
 obtain ⟨fsO, huO⟩ := Ci 45 (by kernel_rfl)
 conv => arg 5; unfold hdSt11
 refine Aa z117 ?_
 refine qW (Post := fun vv w1 => vv = .tuple #[.int .i64 0, .int .i64 0, .bool false] /\ P w1) func159 ?_ ?_
 ·walk_nrm
  exact hget
 rintro vv w1 ⟨rfl, hp⟩
 have hop := hP w1 hp
 have b0 := (Ab hop 0).trans rfl
 clear hget
 walk_nrm
 refine Aa z117 ?_
 exact Au rfl rfl func117 rfl (.stop fun d => ⟨rfl, hQ _ d (hPQ w1 hp)⟩)
theorem stp_2e {i Sb x : Nat} (q lp : Int) (p : Nat) (oa ob oc e : Int) (he0 : e ≠ 0) (w0 : World) (P Q : World -> Prop) (hQ : ∀ w d, Q w -> Q (w.at d)) (hP : ∀ w, P w -> w.heap[Sb]? = some (.cells #[.int .i64 2, .int .i64 oa, .int .i64 ob, .int .i64 oc] 45))
  (hget : CallW prog main (fun _ => none) 159 #[.pointer (some ⟨M, 0, none⟩), .int .i64 i, .int .i64 p] w0 (fun vv w1 => vv = .tuple #[.int .i64 0, .int .i64 e, .bool true] /\ P w1)) (he : ∀ w1, P w1 -> CallW prog main (fun _ => none) 158 #[.pointer (some ⟨M, 0, none⟩), .int .i64 i, .agg #[.bool false, .int .i64 e, .slice none 0 0]] w1 (fun vv w2 => vv = .tuple #[] /\ Q w2 /\ w2.heap[Sb]? = w1.heap[Sb]?)) (u : Nat -> Value) (fr : Frame) (cs : List Frame) :
  Walk prog main (DR (fun _ => none)) (fun g w' => g = G (fr.finish (.tuple #[])) cs /\ Q w') (G (hdSt11 M i Sb q x lp p 2 u) (fr :: cs)) w0 := by
 obtain ⟨fsO, huO⟩ := Ci 45 (by kernel_rfl)
 have k1 : (e == 0) = false := by simpa using he0
 have k2 : (e != 0) = true := by simpa using he0
 conv => arg 5; unfold hdSt11
 refine Aa z117 ?_
 refine qW (Post := fun vv w1 => vv = .tuple #[.int .i64 0, .int .i64 e, .bool true] /\ P w1) func159 ?_ ?_
 ·walk_nrm
  exact hget
 rintro vv w1 ⟨rfl, hp⟩
 have hop := hP w1 hp
 have b0 := (Ab hop 0).trans rfl
 clear hget
 walk_nrm
 refine Aa z117 ?_
 refine qW (Post := fun vv w' => vv = .tuple #[] /\ Q w' /\ w'.heap[Sb]? = w1.heap[Sb]?) func158 ?_ ?_
 ·walk_nrm
  exact he w1 hp
 rintro vv w2 ⟨rfl, hq, hs⟩
 have b0' := (Ab (hs.trans hop) 0).trans rfl
 clear b0
 walk_nrm
 refine Aa z117 ?_
 exact Au rfl rfl func117 rfl (.stop fun d => ⟨rfl, hQ _ d hq⟩)
theorem stp_2v {i Sb x : Nat} (q lp : Int) (p : Nat) (oa ob oc v : Int) (w0 : World) (P Q : World -> Prop) (hQ : ∀ w d, Q w -> Q (w.at d)) (hP : ∀ w, P w -> w.heap[Sb]? = some (.cells #[.int .i64 2, .int .i64 oa, .int .i64 ob, .int .i64 oc] 45))
  (hget : CallW prog main (fun _ => none) 159 #[.pointer (some ⟨M, 0, none⟩), .int .i64 i, .int .i64 p] w0 (fun vv w1 => vv = .tuple #[.int .i64 v, .int .i64 0, .bool true] /\ P w1)) (he : ∀ w1, P w1 -> CallW prog main (fun _ => none) 158 #[.pointer (some ⟨M, 0, none⟩), .int .i64 i, .agg #[.bool true, .int .i64 v, .slice none 0 0]] w1 (fun vv w2 => vv = .tuple #[] /\ Q w2 /\ w2.heap[Sb]? = w1.heap[Sb]?)) (u : Nat -> Value) (fr : Frame) (cs : List Frame) :
  Walk prog main (DR (fun _ => none)) (fun g w' => g = G (fr.finish (.tuple #[])) cs /\ Q w') (G (hdSt11 M i Sb q x lp p 2 u) (fr :: cs)) w0 := by
 obtain ⟨fsO, huO⟩ := Ci 45 (by kernel_rfl)
 conv => arg 5; unfold hdSt11
 refine Aa z117 ?_
 refine qW (Post := fun vv w1 => vv = .tuple #[.int .i64 v, .int .i64 0, .bool true] /\ P w1) func159 ?_ ?_
 ·walk_nrm
  exact hget
 rintro vv w1 ⟨rfl, hp⟩
 have hop := hP w1 hp
 have b0 := (Ab hop 0).trans rfl
 clear hget
 walk_nrm
 refine Aa z117 ?_
 refine qW (Post := fun vv w' => vv = .tuple #[] /\ Q w' /\ w'.heap[Sb]? = w1.heap[Sb]?) func158 ?_ ?_
 ·walk_nrm
  exact he w1 hp
 rintro vv w2 ⟨rfl, hq, hs⟩
 have b0' := (Ab (hs.trans hop) 0).trans rfl
 clear b0
 walk_nrm
 refine Aa z117 ?_
 exact Au rfl rfl func117 rfl (.stop fun d => ⟨rfl, hQ _ d hq⟩)
theorem stp_5f {i Sb x : Nat} (q lp : Int) (p : Nat) (oa ob oc : Int) (w0 : World) (P Q : World -> Prop) (hQ : ∀ w d, Q w -> Q (w.at d)) (hP : ∀ w, P w -> w.heap[Sb]? = some (.cells #[.int .i64 5, .int .i64 oa, .int .i64 ob, .int .i64 oc] 45))
  (hget : CallW prog main (fun _ => none) 159 #[.pointer (some ⟨M, 0, none⟩), .int .i64 i, .int .i64 p] w0 (fun vv w1 => vv = .tuple #[.int .i64 0, .int .i64 0, .bool false] /\ P w1)) (hPQ : ∀ w, P w -> Q w) (u : Nat -> Value) (fr : Frame) (cs : List Frame) :
  Walk prog main (DR (fun _ => none)) (fun g w' => g = G (fr.finish (.tuple #[])) cs /\ Q w') (G (hdSt11 M i Sb q x lp p 5 u) (fr :: cs)) w0 := by
 obtain ⟨fsO, huO⟩ := Ci 45 (by kernel_rfl)
 conv => arg 5; unfold hdSt11
 refine Aa z117 ?_
 refine qW (Post := fun vv w1 => vv = .tuple #[.int .i64 0, .int .i64 0, .bool false] /\ P w1) func159 ?_ ?_
 ·walk_nrm
  exact hget
 rintro vv w1 ⟨rfl, hp⟩
 have hop := hP w1 hp
 have b0 := (Ab hop 0).trans rfl
 clear hget
 walk_nrm
 refine Aa z117 ?_
 exact Au rfl rfl func117 rfl (.stop fun d => ⟨rfl, hQ _ d (hPQ w1 hp)⟩)
theorem Pq {i Sb x : Nat} (q lp : Int) (p : Nat) (oa ob oc v e : Int) (w0 : World) (P Q : World -> Prop) (hQ : ∀ w d, Q w -> Q (w.at d)) (hP : ∀ w, P w -> w.heap[Sb]? = some (.cells #[.int .i64 5, .int .i64 oa, .int .i64 ob, .int .i64 oc] 45))
  (hget : CallW prog main (fun _ => none) 159 #[.pointer (some ⟨M, 0, none⟩), .int .i64 i, .int .i64 p] w0 (fun vv w1 => vv = .tuple #[.int .i64 v, .int .i64 e, .bool true] /\ P w1)) (hga : ∀ w1, P w1 -> CallW prog main (fun _ => none) 160 #[.pointer (some ⟨M, 0, none⟩), .int .i64 i, .agg #[.int .i64 5, .int .i64 oa, .int .i64 ob, .int .i64 oc], .int .i64 v, .int .i64 e] w1 (fun vv w2 => vv = .tuple #[] /\ Q w2)) (u : Nat -> Value) (fr : Frame) (cs : List Frame) :
  Walk prog main (DR (fun _ => none)) (fun g w' => g = G (fr.finish (.tuple #[])) cs /\ Q w') (G (hdSt11 M i Sb q x lp p 5 u) (fr :: cs)) w0 := by
 obtain ⟨fsO, huO⟩ := Ci 45 (by kernel_rfl)
 conv => arg 5; unfold hdSt11
 refine Aa z117 ?_
 refine qW (Post := fun vv w1 => vv = .tuple #[.int .i64 v, .int .i64 e, .bool true] /\ P w1) func159 ?_ ?_
 ·walk_nrm
  exact hget
 rintro vv w1 ⟨rfl, hp⟩
 have hop := hP w1 hp
 have b0 := (Ab hop 0).trans rfl
 clear hget
 walk_nrm
 have hcs : ∀ (j : Nat) (u : Value), ([.int .i64 5, .int .i64 oa, .int .i64 ob, .int .i64 oc] : List Value)[j]? = some u -> w1.cell? ⟨Sb, 0 + j, none⟩ = some u := fun j u hu => by
  rw [Nat.zero_add]
  exact (Ab hop j).trans (by simpa using hu)
 refine Aa z117 ?_
 refine Walk.loadS 45 (.tmp 4) Ah (by rfl) (by decide) rfl Sb 0 [.int .i64 5, .int .i64 oa, .int .i64 ob, .int .i64 oc] (.struct fsO) rfl hcs huO rfl (by kernel_rfl) ?_
 walk_nrm
 refine Aa z117 ?_
 refine qW (Post := fun vv w' => vv = .tuple #[] /\ Q w') func160 ?_ ?_
 ·walk_nrm
  exact hga w1 hp
 rintro vv w2 ⟨rfl, hq⟩
 walk_nrm
 refine Aa z117 ?_
 exact Au rfl rfl func117 rfl (.stop fun d => ⟨rfl, hQ _ d hq⟩)
end
section
variable {a0 M tb tc n m : Nat} {cb : CB} {ta : Option Addr} {S : Rg} {T : Nat -> R11}
theorem gd_none {main : Bool} {i : Nat} (hi : i < n) (k oa ob oc : Int) (v : Int) (e : Int) (he0 : e ≠ 0) (hlv : (T i).live) (hs : (T i).seen = []) (hl : (T i).ans.length <= 65536) (hat : (T i).at' <= 65536) (w : World) (I : M11 a0 M cb tb tc n m ta S T w) (hn : n <= 64) (ha0 : a0 <= w.heap.size) :
  CallW prog main (fun _ => none) 160 #[.pointer (some ⟨M, 0, none⟩), .int .i64 i, .agg #[.int .i64 k, .int .i64 oa, .int .i64 ob, .int .i64 oc], .int .i64 v, .int .i64 e] w (fun v w' => v = .tuple #[] /\ ∃ av oA, M11 a0 M cb tb tc n m ta S (upd T i ((T i).told ⟨false, e, []⟩ av oA)) w' /\ Got M cb m tb n T (upd T i ((T i).told ⟨false, e, []⟩ av oA)) w w') := by
 intro kf cs
 obtain ⟨hi0, hi1, hi3, hi4⟩ := hIx i n
 have ll3 := I.lt.2.2 (by omega)
 rw [enter_at _ func160 code160_is]
 simp only [ntmps160, ez, Nat.reduceAdd, Nat.reduceSub]
 refine Aa z160 ?_
 (refine Wa ?_; try walk_nrm)
 have s0 : (w.alloc (.cells #[.int .i64 k, .int .i64 oa, .int .i64 ob, .int .i64 oc] 45)).heap.size = w.heap.size + 1 := by simp
 have o0 : ∀ x, x < w.heap.size -> (w.alloc (.cells #[.int .i64 k, .int .i64 oa, .int .i64 ob, .int .i64 oc] 45)).heap[x]? = w.heap[x]? := fun x hx => Ad _ _ hx
 have d0 := hAw w (.cells #[.int .i64 k, .int .i64 oa, .int .i64 ob, .int .i64 oc] 45)
 have I0 := I.same o0
 generalize hT : w.heap.size = Zs at *
 generalize hw0 : (w.alloc (.cells #[.int .i64 k, .int .i64 oa, .int .i64 ob, .int .i64 oc] 45)) = w0 at *
 have b2 := (Ab d0 2).trans rfl
 have g0 : Got M cb m tb n T T w w0 := ⟨⟨by omega, fun x hx hn => o0 x (by omega)⟩, fun _ h => .inl h⟩
 have hz0 : Zs + 1 <= w0.heap.size /\ w0.heap.size <= Zs + 1 := by omega
 clear s0 hw0 I
 have ke : (e != 0) = true := by simpa using he0
 have ke2 : (e == 0) = false := by simpa using he0
 have Rt := (I0.rows i hi).rS hlv
 have hsv : ∃ a c, (T i).sv = .slice a 0 c := by
  rcases Rt.2 with ⟨e, h0⟩ | ⟨g, cap, cur, e, _⟩
  ·exact ⟨none, 0, e⟩
  ·rw [hs] at e; exact ⟨_, _, e⟩
 obtain ⟨sa, sc, hsv⟩ := hsv
 have c1 := I0.cT (by omega)
 have c8 : w0.cell? ⟨tb, i * 9 + 8, none⟩ = some (T i).sv := I0.tcell hi rfl
 rw [hsv] at c8
 have he := Oq (main := main) hi ⟨false, e, []⟩ (.slice none 0 0) w0 (LsAt.nil _ _ _) I0 hn (by omega) hl hat
 simp only [Bo] at he
 clear hsv hs Rt
 refine Aa z160 ?_
 try walk_nrm
 refine Aa z160 ?_
 refine qW (Post := Told11 a0 M cb tb tc n m ta S T T i (T i) ⟨false, e, []⟩ w0) func158 ?_ ?_
 ·walk_nrm
  exact he
 intro vv w9 h
 obtain rfl := h.1
 walk_nrm
 refine Aa z160 ?_
 exact Au rfl rfl func160 rfl (.stop fun d => ⟨_, h.by (g0) d, rfl⟩)
theorem gd_some {main : Bool} {i : Nat} (hi : i < n) (k oa ob oc : Int) (v : Int) (e : Int) (he0 : e ≠ 0) (hlv : (T i).live) (hs : 0 < (T i).seen.length) (hsl : (T i).seen.length <= 1048576) (hl : (T i).ans.length <= 65536) (hat : (T i).at' <= 65536) (w : World) (I : M11 a0 M cb tb tc n m ta S T w) (hn : n <= 64) (ha0 : a0 <= w.heap.size) :
  CallW prog main (fun _ => none) 160 #[.pointer (some ⟨M, 0, none⟩), .int .i64 i, .agg #[.int .i64 k, .int .i64 oa, .int .i64 ob, .int .i64 oc], .int .i64 v, .int .i64 e] w (fun v w' => v = .tuple #[] /\ ∃ av oA, M11 a0 M cb tb tc n m ta S (upd T i (((T i).take).told ⟨true, 0, (T i).seen⟩ av oA)) w' /\ Got M cb m tb n T (upd T i (((T i).take).told ⟨true, 0, (T i).seen⟩ av oA)) w w') := by
 intro kf cs
 obtain ⟨hi0, hi1, hi3, hi4⟩ := hIx i n
 have ll3 := I.lt.2.2 (by omega)
 rw [enter_at _ func160 code160_is]
 simp only [ntmps160, ez, Nat.reduceAdd, Nat.reduceSub]
 refine Aa z160 ?_
 (refine Wa ?_; try walk_nrm)
 have s0 : (w.alloc (.cells #[.int .i64 k, .int .i64 oa, .int .i64 ob, .int .i64 oc] 45)).heap.size = w.heap.size + 1 := by simp
 have o0 : ∀ x, x < w.heap.size -> (w.alloc (.cells #[.int .i64 k, .int .i64 oa, .int .i64 ob, .int .i64 oc] 45)).heap[x]? = w.heap[x]? := fun x hx => Ad _ _ hx
 have d0 := hAw w (.cells #[.int .i64 k, .int .i64 oa, .int .i64 ob, .int .i64 oc] 45)
 have I0 := I.same o0
 generalize hT : w.heap.size = Zs at *
 generalize hw0 : (w.alloc (.cells #[.int .i64 k, .int .i64 oa, .int .i64 ob, .int .i64 oc] 45)) = w0 at *
 have b2 := (Ab d0 2).trans rfl
 have g0 : Got M cb m tb n T T w w0 := ⟨⟨by omega, fun x hx hn => o0 x (by omega)⟩, fun _ h => .inl h⟩
 have hz0 : Zs + 1 <= w0.heap.size /\ w0.heap.size <= Zs + 1 := by omega
 clear s0 hw0 I
 have ke : (e != 0) = true := by simpa using he0
 have ke2 : (e == 0) = false := by simpa using he0
 have Rt := (I0.rows i hi).taken hlv hsl
 have c1 := I0.cT (by omega)
 have c8 : w0.cell? ⟨tb, i * 9 + 8, none⟩ = some (T i).sv := I0.tcell hi rfl
 have he := Oq (main := main) hi ⟨true, 0, (T i).seen⟩ (T i).sv w0 (by rw [upd_same]; exact Rt) (I0.take hi hlv) hn (by omega) (by rw [upd_same]; exact hl) (by rw [upd_same]; exact hat)
 simp only [upd_same, An] at he
 simp only [Bo] at he
 have gt := Got.take (M := M) (cb := cb) (m := m) (tb := tb) (w := w0) hi hlv
 obtain ⟨sa, sc, hsv, _⟩ := Rt
 rw [hsv] at c8 he
 clear hsv
 have hne : (T i).seen ≠ [] := fun e => by rw [e] at hs; exact absurd hs (by decide)
 have kl : (((T i).seen.length : Int) == 0) = false := by simp [hne]
 have kl2 : ((T i).seen.length == 0) = false := by simp [hne]
 clear hne
 refine Aa z160 ?_
 try walk_nrm
 refine Aa z160 ?_
 refine qW (Post := Told11 a0 M cb tb tc n m ta S (upd T i (T i).take) T i ((T i).take) ⟨true, 0, (T i).seen⟩ w0) func158 ?_ ?_
 ·walk_nrm
  exact he
 intro vv w9 h
 obtain rfl := h.1
 walk_nrm
 refine Aa z160 ?_
 exact Au rfl rfl func160 rfl (.stop fun d => ⟨_, h.by (g0.trans gt) d, rfl⟩)
noncomputable def hdGd (M i Zs : Nat) (v : Int) (u : Nat -> Value) : Frame :=
 (base 160).at { tmps := #[.pointer (some ⟨M, 0, none⟩), .int .i64 i, u 2, .int .i64 v, .int .i64 0, u 5, u 6, .pointer (some ⟨Zs, 0, none⟩), u 8, u 9, u 10, u 11, u 12, u 13, u 14, u 15, u 16, u 17, u 18, u 19, u 20, u 21, u 22, u 23, u 24, u 25, u 26, u 27, u 28, u 29, u 30, u 31, u 32, u 33, u 34, u 35, u 36, u 37, u 38, u 39, u 40, u 41, u 42, u 43, u 44, u 45, u 46, u 47, u 48, u 49, u 50, u 51, u 52, u 53, u 54, u 55, u 56, u 57, u 58, u 59, u 60, u 61, u 62, u 63, u 64, u 65, u 66, u 67, u 68, u 69, u 70, u 71, u 72, u 73, u 74, u 75, u 76, u 77, u 78, u 79, u 80, u 81, u 82, u 83, u 84, u 85, u 86, u 87, u 88, u 89, u 90, u 91, u 92, u 93, u 94, u 95, u 96, u 97, u 98, u 99, u 100, u 101, u 102, u 103, u 104, u 105, u 106, u 107, u 108, u 109, u 110, u 111, u 112, u 113, u 114, u 115, u 116, u 117, u 118, u 119, u 120, u 121, u 122, u 123, u 124, u 125, u 126, u 127, u 128, u 129, u 130, u 131], defers := [] } [.code (.seq (.region 5 reg160_5 false) (.seq (.seq (.region 6 reg160_6 false) (.cond (.tmp 74 ) (.seq (.region 7 reg160_7 false) (.ret)) (.skip))) (.seq (.region 8 reg160_8 true) (.seq (.region 9 reg160_9 false) (.seq (.region 10 reg160_10 false) (.cond (.tmp 119 ) (.region 11 reg160_11 false) (.skip)))))))]
theorem gd_in {main : Bool} {i : Nat} (hi : i < n) (k oa ob oc : Int) (v : Int) (hlv : (T i).live) (hsl : (T i).seen.length <= 65536) (hl : (T i).ans.length <= 65536) (hat : (T i).at' <= 65536) (w : World) (I : M11 a0 M cb tb tc n m ta S T w) (hn : n <= 64) (ha0 : a0 <= w.heap.size) (cs : List Frame) :
  Walk prog main (DR (fun _ => none)) (fun g' w' => ∃ g cap, (∃ u, g' = G (hdGd M i w.heap.size v u) cs) /\ M11 a0 M cb tb tc n m ta S (upd T i { T i with sv := .slice (some ⟨g, 0, none⟩) ((T i).seen.length + 1) cap, seen := (T i).seen ++ [v] }) w' /\ Got M cb m tb n T (upd T i { T i with sv := .slice (some ⟨g, 0, none⟩) ((T i).seen.length + 1) cap, seen := (T i).seen ++ [v] }) w w' /\ w'.heap[w.heap.size]? = some (.cells #[.int .i64 k, .int .i64 oa, .int .i64 ob, .int .i64 oc] 45)) (G (Frame.enter prog 160 #[.pointer (some ⟨M, 0, none⟩), .int .i64 i, .agg #[.int .i64 k, .int .i64 oa, .int .i64 ob, .int .i64 oc], .int .i64 v, .int .i64 0] .normal) cs) w := by
 obtain ⟨hi0, hi1, hi3, hi4⟩ := hIx i n
 have ll3 := I.lt.2.2 (by omega)
 rw [enter_at _ func160 code160_is]
 simp only [ntmps160, ez, Nat.reduceAdd, Nat.reduceSub]
 refine Aa z160 ?_
 (refine Wa ?_; try walk_nrm)
 have s0 : (w.alloc (.cells #[.int .i64 k, .int .i64 oa, .int .i64 ob, .int .i64 oc] 45)).heap.size = w.heap.size + 1 := by simp
 have o0 : ∀ x, x < w.heap.size -> (w.alloc (.cells #[.int .i64 k, .int .i64 oa, .int .i64 ob, .int .i64 oc] 45)).heap[x]? = w.heap[x]? := fun x hx => Ad _ _ hx
 have d0 := hAw w (.cells #[.int .i64 k, .int .i64 oa, .int .i64 ob, .int .i64 oc] 45)
 have I0 := I.same o0
 generalize hT : w.heap.size = Zs at *
 generalize hw0 : (w.alloc (.cells #[.int .i64 k, .int .i64 oa, .int .i64 ob, .int .i64 oc] 45)) = w0 at *
 have b2 := (Ab d0 2).trans rfl
 have g0 : Got M cb m tb n T T w w0 := ⟨⟨by omega, fun x hx hn => o0 x (by omega)⟩, fun _ h => .inl h⟩
 have hz0 : Zs + 1 <= w0.heap.size /\ w0.heap.size <= Zs + 1 := by omega
 have hwZ : ∀ g, (T i).sv.ownBlock = some g -> g < Zs := fun g hg => by have := (((I.rows i hi).rS hlv).lt g hg).2; omega
 clear s0 hw0 I
 have ke : ((0 : Int) != 0) = false := by decide
 obtain ⟨bb1, bb2, bb3, bb4⟩ := I0.base
 obtain ⟨bb5, bb6, bb7⟩ := bb4 (by omega)
 obtain ⟨ll1, ll2, ll3'⟩ := I0.lt
 have ll3' := ll3' (by omega)
 have R0 := I0.rows i hi
 have c1 := I0.cT (by omega)
 have c2 : w0.cell? ⟨tb, i * 9 + 8, none⟩ = some (T i).sv := I0.tcell hi rfl
 have hsz1 : w0.heap.size + 1 <= (w0.alloc (Qc v)).heap.size /\ (w0.alloc (Qc v)).heap.size <= w0.heap.size + 1 := by simp
 have hO1 : ∀ y, y < w0.heap.size -> (w0.alloc (Qc v)).heap[y]? = w0.heap[y]? := fun y hy => Ad _ _ hy
 have hown' : (w0.alloc (Qc v)).ownsRow a0 2 1 (T i).sv (T i).seen.length (Bg (T i).seen) := As (R0.rS hlv) fun g hg => hO1 g ((R0.rS hlv).lt g hg).2
 have hnews : ∀ (j : Nat) (u : Value), ([.int .i64 v] : List Value)[j]? = some u -> (w0.alloc (Qc v)).cell? ((⟨w0.heap.size, 0, none⟩ : Addr).add j) = some u := fun j u hu => by
  rw [Bs, Nat.zero_add]
  refine (Ab (hAw _ _) j).trans ?_
  simpa using hu
 have hnM : ∀ g, (T i).sv.ownBlock = some g -> g ≠ M /\ ¬ cI m cb g /\ g ≠ tb := fun g hg => by
  obtain ⟨e1, e2, e3, _⟩ := I0.far i hi g (.inr ⟨hlv, hg⟩)
  exact ⟨e1, e2, e3⟩
 have hfar : ∀ (y : Nat) (w2 : World), y < w0.heap.size -> (∀ g, (T i).sv.ownBlock = some g -> g ≠ y) -> (w0.alloc (Qc v)).grownBy w2 (T i).sv.ownBlock -> w2.heap[y]? = w0.heap[y]? := fun y w2 hy hne hg => (hg.block y (by omega) (fun e => hne y e.symm rfl)).trans (hO1 y hy)
 have hnZ : ∀ g, (T i).sv.ownBlock = some g -> g ≠ Zs := fun g hg e => by have := ((((I0.rows i hi)).rS hlv).lt g hg).2; have h3 := (hwZ g hg); omega
 refine Aa z160 ?_
 refine Io (iA := 14) (iB := 15) (w1 := w0.alloc (Qc v)) (vA := .slice (some ⟨w0.heap.size, 0, none⟩) 1 1) (Z := fun y => y.cell? ⟨M, 3, none⟩ = some (.slice (some ⟨tb, 0, none⟩) n tc) /\ y.cell? ⟨tb, i * 9 + 8, none⟩ = some (T i).sv)
  (fun v' w2 => ∃ g cap, v' = .slice (some ⟨g, 0, none⟩) ((T i).seen.length + 1) cap /\ AppI a0 w0 v (T i).sv (T i).seen g cap w2) (by kernel_rfl) size160_4 (by kernel_rfl) (by kernel_rfl) (by kernel_rfl) (by kernel_rfl) (by decide) Ah Ah ⟨c1, c2⟩ ⟨Aj _ _ c1, Aj _ _ c2⟩ ?_ ?_
 ·rintro v' w2 ⟨g, cap, _, hA⟩
  exact ⟨(cBk (a := ⟨M, 3, none⟩) (hfar M w2 (by omega) (fun g hg => (hnM g hg).1) hA.grown)).trans c1, (cBk (a := ⟨tb, i * 9 + 8, none⟩) (hfar tb w2 (by omega) (fun g hg => (hnM g hg).2.2) hA.grown)).trans c2⟩
 rw [show List.filter (Ck 14 15) (List.range 18) = [0, 1, 2, 3, 4, 5, 6, 7, 8, 9, 10, 11, 12, 13, 16, 17] from by decide]
 repeat (first | (refine Nc Ah (by rfl) (fun wz hz dd e he => ?_) ?_; (· (obtain ⟨z1, z2⟩ := hz; simp [go_sem, *] at he; try (subst he; exact Da _ _))); apply Exists.intro; apply And.intro; (· (intro wz hz dd K hK; obtain ⟨z1, z2⟩ := hz; go_simp; exact hK))) | (refine Be Ah (by rfl) ?_; walk_nrm))
 refine cDn ⟨?_, ?_, ?_⟩
 ·intro y hev rest hr'
  have e0 : y.eval (.tmp 45) = .int .i64 v := (hev (.tmp 45) (by simp [Op.operands])).trans rfl
  have e1 : y.tmps[45]?.getD undef = .int .i64 v := by
   rw [<- Array.getD_eq_getD_getElem?]
   exact e0
  clear e0 hev
  (refine Wa ?_; try walk_nrm)
  exact hr' _ _ ⟨rfl, _, rfl⟩
 ·intro y hev rest hr'
  have e1 : y.eval (.tmp 44) = (T i).sv := (hev (.tmp 44) (by simp [Op.operands, Call.operands])).trans rfl
  have e2 : y.eval (.tmp 46) = .slice (some ⟨w0.heap.size, 0, none⟩) 1 1 := (hev (.tmp 46) (by simp [Op.operands, Call.operands])).trans rfl
  have hiA := Option.some_get (show (prog.info? 2).isSome = true by kernel_rfl)
  refine Walk.append (.tmp 44) (.tmp 46) 31 Ah (by rfl) (by decide) rfl a0 2 _ (.int .i64 0) 1 8 (by kernel_rfl) hiA.symm (by rfl) (by rfl) (by rfl) (by rfl) (by decide) (T i).sv (T i).seen.length (Bg (T i).seen) e1 hown' ⟨w0.heap.size, 0, none⟩ 1 1 [.int .i64 v] e2 (by rfl) hnews (by simp [Value.oneCell']) (by decide) (by simp [maxLen]; omega) (by omega) (by omega) (fun g _ => Ov g) (fun g cap w3 hown hg hat hlt => ?_)
  exact hr' _ _ ⟨_, w3, ⟨g, cap, rfl, hown, hg, hat, hlt⟩, rfl, w3.drawn, rfl⟩
 rintro v' w2 ⟨g, cap, rfl, hA⟩ rest hr'
 have hb2 : w2.heap[tb]? = w0.heap[tb]? := hfar tb w2 (by omega) (fun g hg => (hnM g hg).2.2) hA.grown
 have hbZ : w2.heap[Zs]? = w0.heap[Zs]? := hfar Zs w2 (by omega) hnZ hA.grown
 have h12 : w2.cell? ⟨tb, i * 9 + 8, none⟩ = some (T i).sv := (cBk (a := ⟨tb, i * 9 + 8, none⟩) hb2).trans c2
 have z12 : w2.frozen? ⟨tb, i * 9 + 8, none⟩ = false := by
  obtain ⟨_, arr, h1, _⟩ := I0.ts (by omega)
  exact Av (hb2.trans h1) _
 have hgs := hA.grown.size
 have hlen : ((T i).seen ++ [v]).length = (T i).seen.length + 1 := by simp
 have hgo : ∀ b, ({ T i with sv := .slice (some ⟨g, 0, none⟩) ((T i).seen.length + 1) cap, seen := (T i).seen ++ [v] } : R11).own b -> (T i).own b ∨ w0.heap.size <= b := fun b hb => by
  rcases hb with hb | ⟨_, hb⟩
  ·exact .inl (.inl hb)
  ·simp only [Value.ownBlock, Option.some.injEq] at hb
   subst hb
   rcases hA.hat with h | h
   ·exact .inl (.inr ⟨hlv, h⟩)
   ·exact .inr (by omega)
 have I3 : M11 a0 M cb tb tc n m ta S (upd T i { T i with sv := .slice (some ⟨g, 0, none⟩) ((T i).seen.length + 1) cap, seen := (T i).seen ++ [v] }) (w2.setCell ⟨tb, i * 9 + 8, none⟩ (.slice (some ⟨g, 0, none⟩) ((T i).seen.length + 1) cap)) := by
  refine I0.put' hi rfl (by decide) w2 (fun b hb hn => hfar b w2 hb (fun g hg e => hn (.inr ⟨hlv, by rw [<- e]; exact hg⟩)) hA.grown) ⟨?_, ?_, fun _ => ?_, fun _ b hb hob => ?_, fun b hob => ?_⟩ hgo
  ·exact R0.rO.same fun b hb hw => hfar b w2 hw (fun g hg e => by have := ((R0.rS hlv).lt g hg).1; omega) hA.grown
  ·exact R0.rA.same fun b hb => hfar b w2 (R0.lo b hb).2 (fun g hg e => R0.ne hlv g hg (by rw [e]; exact hb)) hA.grown
  ·show w2.ownsRow a0 _ 1 _ ((T i).seen ++ [v]).length (Bg ((T i).seen ++ [v]))
   rw [hlen, intRow_snoc]
   exact hA.own
  ·have hlt := (R0.lo b hob).2
   simp only [Value.ownBlock, Option.some.injEq] at hb
   subst hb
   rcases hA.hat with h | h
   ·exact R0.ne hlv _ h hob
   ·omega
  ·have := R0.lo b hob
   exact ⟨this.1, by omega⟩
 have g3 : Got M cb m tb n T (upd T i { T i with sv := .slice (some ⟨g, 0, none⟩) ((T i).seen.length + 1) cap, seen := (T i).seen ++ [v] }) w0 (w2.setCell ⟨tb, i * 9 + 8, none⟩ (.slice (some ⟨g, 0, none⟩) ((T i).seen.length + 1) cap)) := by
  refine ⟨⟨by rw [Ai]; omega, fun y hy hn => ?_⟩, fun b hb => Bu hi hgo b hb⟩
  rw [Ac _ _ _ _ (fun e => hn (.inr (.inr (.inl e)))), hfar y w2 (by omega) (fun g hg e => hn (.inr (.inr (.inr ⟨i, hi, .inr ⟨hlv, by rw [<- e]; exact hg⟩⟩)))) hA.grown]
 have hs3 := Ai w2 ⟨tb, i * 9 + 8, none⟩ (.slice (some ⟨g, 0, none⟩) ((T i).seen.length + 1) cap)
 have d3 : (w2.setCell ⟨tb, i * 9 + 8, none⟩ (.slice (some ⟨g, 0, none⟩) ((T i).seen.length + 1) cap)).heap[Zs]? = some (.cells #[.int .i64 k, .int .i64 oa, .int .i64 ob, .int .i64 oc] 45) := (Ac _ _ _ _ (show Zs ≠ tb by omega)).trans (hbZ.trans d0)
 (have hfr := Ju tb (i * 9 + 8); refine Ws hfr h12 ?_; clear hfr; try walk_nrm)
 refine hr' _ _ ?_
 generalize w2.setCell ⟨tb, i * 9 + 8, none⟩ (.slice (some ⟨g, 0, none⟩) ((T i).seen.length + 1) cap) = w3 at *
 refine Walk.c rfl ?_
 refine .stop fun d => ⟨g, cap, Ak ?_, I3.same fun _ _ => rfl, ⟨(g0.trans g3).chg.at d, (g0.trans g3).own⟩, d3⟩
 simp only [hdGd]
 rfl
theorem gd_ob {main : Bool} {i : Nat} (hi : i < n) (k oa ob oc : Int) (v : Int) (hlv : (T i).live) (hsl : (T i).seen.length <= 65536) (hwv : (T i).seen.length < m) (hm2 : m <= 65536) (hb : ((T i).seen.length : Int) + 1 = ob) (hl : (T i).ans.length <= 65536) (hat : (T i).at' <= 65536) (w : World) (I : M11 a0 M cb tb tc n m ta S T w) (hn : n <= 64) (ha0 : a0 <= w.heap.size) :
  CallW prog main (fun _ => none) 160 #[.pointer (some ⟨M, 0, none⟩), .int .i64 i, .agg #[.int .i64 k, .int .i64 oa, .int .i64 ob, .int .i64 oc], .int .i64 v, .int .i64 0] w (fun v' w' => v' = .tuple #[] /\ ∃ sv av oA, M11 a0 M cb tb tc n m ta S (upd T i (({ T i with sv := sv, seen := (T i).seen ++ [v] } : R11).take.told ⟨true, 0, (T i).seen ++ [v]⟩ av oA)) w' /\ Got M cb m tb n T (upd T i (({ T i with sv := sv, seen := (T i).seen ++ [v] } : R11).take.told ⟨true, 0, (T i).seen ++ [v]⟩ av oA)) w w') := by
 intro kf cs
 obtain ⟨hi0, hi1, hi3, hi4⟩ := hIx i n
 refine (gd_in hi k oa ob oc v hlv hsl hl hat w I hn ha0 (kf :: cs)).then ?_
 rintro _ w3 ⟨g, cap, ⟨u, rfl⟩, I3, g3, d3⟩
 have hz3 : a0 <= w3.heap.size := Nat.le_trans ha0 g3.chg.size
 have hlen : ((T i).seen ++ [v]).length = (T i).seen.length + 1 := by simp
 have b2 := (Ab d3 2).trans rfl
 have c1 := I3.cT (by omega)
 have c8 : w3.cell? ⟨tb, i * 9 + 8, none⟩ = some (.slice (some ⟨g, 0, none⟩) ((T i).seen.length + 1) cap) := I3.tcell hi (by rw [upd_same]; rfl)
 have cz := I3.cZ
 generalize w.heap.size = Zs at *
 clear d3 I
 conv => arg 5; unfold hdGd
 have Rt := (I3.rows i hi).taken (by rw [upd_same]; exact hlv) (by rw [upd_same]; show ((T i).seen ++ [v]).length <= _; rw [hlen]; omega)
 have ht := I3.take hi (by rw [upd_same]; exact hlv)
 have gt := Got.take (M := M) (cb := cb) (m := m) (tb := tb) (w := w3) (T := upd T i { T i with sv := .slice (some ⟨g, 0, none⟩) ((T i).seen.length + 1) cap, seen := (T i).seen ++ [v] }) hi (by rw [upd_same]; exact hlv)
 rw [upd_same] at Rt ht gt
 rw [An] at ht gt
 have he := Ch (main := main) hi _ ⟨true, 0, (T i).seen ++ [v]⟩ (.slice (some ⟨g, 0, none⟩) ((T i).seen.length + 1) cap) w3 Rt ht hn (by omega) hl hat
 simp only [Bo, hlen] at he
 have kb : (((T i).seen.length : Int) + 1 == ob) = true := by simpa using hb
 clear hb
 clear I3 Rt ht
 try walk_nrm
 try walk_nrm
 refine Aa z160 ?_
 refine qW (Post := Told11 a0 M cb tb tc n m ta S (upd T i ({ T i with sv := .slice (some ⟨g, 0, none⟩) ((T i).seen.length + 1) cap, seen := (T i).seen ++ [v] } : R11).take) T i (({ T i with sv := .slice (some ⟨g, 0, none⟩) ((T i).seen.length + 1) cap, seen := (T i).seen ++ [v] } : R11).take) ⟨true, 0, (T i).seen ++ [v]⟩ w3) func158 ?_ ?_
 ·walk_nrm
  exact he
 intro vv w9 h
 obtain rfl := h.1
 walk_nrm
 refine Aa z160 ?_
 exact Au rfl rfl func160 rfl (.stop fun d => ⟨_, ⟨rfl, _, (h.by (g3.trans gt) d).2⟩, rfl⟩)
theorem gd_m {main : Bool} {i : Nat} (hi : i < n) (k oa ob oc : Int) (v : Int) (hlv : (T i).live) (hsl : (T i).seen.length <= 65536) (hwv : (T i).seen.length < m) (hm2 : m <= 65536) (hb : ((T i).seen.length : Int) + 1 ≠ ob) (hme : m <= (T i).seen.length + 1) (hl : (T i).ans.length <= 65536) (hat : (T i).at' <= 65536) (w : World) (I : M11 a0 M cb tb tc n m ta S T w) (hn : n <= 64) (ha0 : a0 <= w.heap.size) :
  CallW prog main (fun _ => none) 160 #[.pointer (some ⟨M, 0, none⟩), .int .i64 i, .agg #[.int .i64 k, .int .i64 oa, .int .i64 ob, .int .i64 oc], .int .i64 v, .int .i64 0] w (fun v' w' => v' = .tuple #[] /\ ∃ sv av oA, M11 a0 M cb tb tc n m ta S (upd T i (({ T i with sv := sv, seen := (T i).seen ++ [v] } : R11).take.told ⟨true, 0, (T i).seen ++ [v]⟩ av oA)) w' /\ Got M cb m tb n T (upd T i (({ T i with sv := sv, seen := (T i).seen ++ [v] } : R11).take.told ⟨true, 0, (T i).seen ++ [v]⟩ av oA)) w w') := by
 intro kf cs
 obtain ⟨hi0, hi1, hi3, hi4⟩ := hIx i n
 refine (gd_in hi k oa ob oc v hlv hsl hl hat w I hn ha0 (kf :: cs)).then ?_
 rintro _ w3 ⟨g, cap, ⟨u, rfl⟩, I3, g3, d3⟩
 have hz3 : a0 <= w3.heap.size := Nat.le_trans ha0 g3.chg.size
 have hlen : ((T i).seen ++ [v]).length = (T i).seen.length + 1 := by simp
 have b2 := (Ab d3 2).trans rfl
 have c1 := I3.cT (by omega)
 have c8 : w3.cell? ⟨tb, i * 9 + 8, none⟩ = some (.slice (some ⟨g, 0, none⟩) ((T i).seen.length + 1) cap) := I3.tcell hi (by rw [upd_same]; rfl)
 have cz := I3.cZ
 generalize w.heap.size = Zs at *
 clear d3 I
 conv => arg 5; unfold hdGd
 have Rt := (I3.rows i hi).taken (by rw [upd_same]; exact hlv) (by rw [upd_same]; show ((T i).seen ++ [v]).length <= _; rw [hlen]; omega)
 have ht := I3.take hi (by rw [upd_same]; exact hlv)
 have gt := Got.take (M := M) (cb := cb) (m := m) (tb := tb) (w := w3) (T := upd T i { T i with sv := .slice (some ⟨g, 0, none⟩) ((T i).seen.length + 1) cap, seen := (T i).seen ++ [v] }) hi (by rw [upd_same]; exact hlv)
 rw [upd_same] at Rt ht gt
 rw [An] at ht gt
 have he := Ch (main := main) hi _ ⟨true, 0, (T i).seen ++ [v]⟩ (.slice (some ⟨g, 0, none⟩) ((T i).seen.length + 1) cap) w3 Rt ht hn (by omega) hl hat
 simp only [Bo, hlen] at he
 have kb : (((T i).seen.length : Int) + 1 == ob) = false := by simpa using hb
 have km : (((T i).seen.length : Int) + 1 == (m : Int)) = true := by simp; omega
 have km2 : ((T i).seen.length + 1 == m) = true := by simp; omega
 clear hb
 clear I3 Rt ht
 try walk_nrm
 try walk_nrm
 refine Aa z160 ?_
 refine qW (Post := Told11 a0 M cb tb tc n m ta S (upd T i ({ T i with sv := .slice (some ⟨g, 0, none⟩) ((T i).seen.length + 1) cap, seen := (T i).seen ++ [v] } : R11).take) T i (({ T i with sv := .slice (some ⟨g, 0, none⟩) ((T i).seen.length + 1) cap, seen := (T i).seen ++ [v] } : R11).take) ⟨true, 0, (T i).seen ++ [v]⟩ w3) func158 ?_ ?_
 ·walk_nrm
  exact he
 intro vv w9 h
 obtain rfl := h.1
 walk_nrm
 refine Aa z160 ?_
 exact Au rfl rfl func160 rfl (.stop fun d => ⟨_, ⟨rfl, _, (h.by (g3.trans gt) d).2⟩, rfl⟩)
noncomputable def hdGe (M i Zs : Nat) (u : Nat -> Value) : Frame :=
 (base 160).at { tmps := #[.pointer (some ⟨M, 0, none⟩), .int .i64 i, u 2, u 3, u 4, u 5, u 6, .pointer (some ⟨Zs, 0, none⟩), u 8, u 9, u 10, u 11, u 12, u 13, u 14, u 15, u 16, u 17, u 18, u 19, u 20, u 21, u 22, u 23, u 24, u 25, u 26, u 27, u 28, u 29, u 30, u 31, u 32, u 33, u 34, u 35, u 36, u 37, u 38, u 39, u 40, u 41, u 42, u 43, u 44, u 45, u 46, u 47, u 48, u 49, u 50, u 51, u 52, u 53, u 54, u 55, u 56, u 57, u 58, u 59, u 60, u 61, u 62, u 63, u 64, u 65, u 66, u 67, u 68, u 69, u 70, u 71, u 72, u 73, u 74, u 75, u 76, u 77, u 78, u 79, u 80, u 81, u 82, u 83, u 84, u 85, u 86, u 87, u 88, u 89, u 90, u 91, u 92, u 93, u 94, u 95, u 96, u 97, u 98, u 99, u 100, u 101, u 102, u 103, u 104, u 105, u 106, u 107, u 108, u 109, u 110, u 111, u 112, u 113, u 114, u 115, u 116, u 117, u 118, u 119, u 120, u 121, u 122, u 123, u 124, u 125, u 126, u 127, u 128, u 129, u 130, u 131], defers := [] } [.code (.seq (.region 10 reg160_10 false) (.cond (.tmp 119 ) (.region 11 reg160_11 false) (.skip)))]
theorem gd_more {main : Bool} {i : Nat} (hi : i < n) (k oa ob oc : Int) (v : Int) (hlv : (T i).live) (hsl : (T i).seen.length <= 65536) (hwv : (T i).seen.length < m) (hm2 : m <= 65536) (hb : ((T i).seen.length : Int) + 1 ≠ ob) (hme : (T i).seen.length + 1 ≠ m) (hg : good (T i).q) (hl : (T i).ans.length <= 65536) (hat : (T i).at' <= 65536) (w : World) (I : M11 a0 M cb tb tc n m ta S T w) (hn : n <= 64) (ha0 : a0 <= w.heap.size) (cs : List Frame) :
  Walk prog main (DR (fun _ => none)) (fun g' w' => ∃ g cap, (∃ u, g' = G (hdGe M i w.heap.size u) cs) /\ M11 a0 M cb tb tc n m ta S (upd T i { T i with q := (T i).q + 1, pc := 1, sv := .slice (some ⟨g, 0, none⟩) ((T i).seen.length + 1) cap, seen := (T i).seen ++ [v] }) w' /\ Got M cb m tb n T (upd T i { T i with q := (T i).q + 1, pc := 1, sv := .slice (some ⟨g, 0, none⟩) ((T i).seen.length + 1) cap, seen := (T i).seen ++ [v] }) w w') (G (Frame.enter prog 160 #[.pointer (some ⟨M, 0, none⟩), .int .i64 i, .agg #[.int .i64 k, .int .i64 oa, .int .i64 ob, .int .i64 oc], .int .i64 v, .int .i64 0] .normal) cs) w := by
 obtain ⟨hi0, hi1, hi3, hi4⟩ := hIx i n
 refine (gd_in hi k oa ob oc v hlv hsl hl hat w I hn ha0 (cs)).then ?_
 rintro _ w3 ⟨g, cap, ⟨u, rfl⟩, I3, g3, d3⟩
 have hz3 : a0 <= w3.heap.size := Nat.le_trans ha0 g3.chg.size
 have hlen : ((T i).seen ++ [v]).length = (T i).seen.length + 1 := by simp
 have b2 := (Ab d3 2).trans rfl
 have c1 := I3.cT (by omega)
 have c8 : w3.cell? ⟨tb, i * 9 + 8, none⟩ = some (.slice (some ⟨g, 0, none⟩) ((T i).seen.length + 1) cap) := I3.tcell hi (by rw [upd_same]; rfl)
 have cz := I3.cZ
 generalize w.heap.size = Zs at *
 clear d3 I
 conv => arg 5; unfold hdGd
 have kb : (((T i).seen.length : Int) + 1 == ob) = false := by simpa using hb
 have km : (((T i).seen.length : Int) + 1 == (m : Int)) = false := by simp; omega
 have km2 : ((T i).seen.length + 1 == m) = false := by simpa using hme
 clear hb
 have hqw : IntKind.wrap .i64 ((T i).q + 1) = (T i).q + 1 := by rw [IntKind.wrap_i64]; have := hg.1; have := hg.2; omega
 have c5 : w3.cell? ⟨tb, i * 9 + 5, none⟩ = some (.int .i64 (T i).q) := I3.tcell hi (by rw [upd_same]; rfl)
 have z5 := I3.tfrz hi (i * 9 + 5)
 have I4 := I3.put hi (j := 5) (v := .int .i64 ((T i).q + 1)) (t := { T i with q := (T i).q + 1, sv := .slice (some ⟨g, 0, none⟩) ((T i).seen.length + 1) cap, seen := (T i).seen ++ [v] })
 rw [An] at I4
 clear I3
 try walk_nrm
 refine Aa z160 ?_
 (refine Bw (by kernel_rfl) size160_8 (by kernel_rfl) (by kernel_rfl) (by kernel_rfl) (by decide) ?_; simp only [List.range, List.range.loop]; repeat (first | (refine cQ ?_) | (refine Be Ah (by rfl) ?_; walk_nrm)))
 refine cDn ?_
 intro rest2 hr2
 (have hfr := Ju tb (i * 9 + 5); refine Ws hfr c5 ?_; clear hfr; try walk_nrm)
 refine hr2 _ _ ?_
 have s4 := Ai w3 ⟨tb, i * 9 + 5, none⟩ (.int .i64 ((T i).q + 1))
 have o4 : ∀ y, y ≠ tb -> (w3.setCell ⟨tb, i * 9 + 5, none⟩ (.int .i64 ((T i).q + 1))).heap[y]? = w3.heap[y]? := fun y hy => Ac _ _ _ _ hy
 generalize w3.setCell ⟨tb, i * 9 + 5, none⟩ (.int .i64 ((T i).q + 1)) = w4 at *
 clear c1 c8 cz c5 z5 b2
 have c1 := I4.cT (by omega)
 have c4 : w4.cell? ⟨tb, i * 9 + 4, none⟩ = some (.int .i64 (T i).pc) := I4.tcell hi (by rw [upd_same]; rfl)
 have z4 := I4.tfrz hi (i * 9 + 4)
 have I5 := I4.put hi (j := 4) (v := .int .i64 1) (t := { T i with q := (T i).q + 1, pc := 1, sv := .slice (some ⟨g, 0, none⟩) ((T i).seen.length + 1) cap, seen := (T i).seen ++ [v] })
 rw [An] at I5
 try walk_nrm
 refine Aa z160 ?_
 (have hfr := Ju tb (i * 9 + 4); refine Ws hfr c4 ?_; clear hfr; try walk_nrm)
 have s5 := Ai w4 ⟨tb, i * 9 + 4, none⟩ (.int .i64 1)
 have o5 : ∀ y, y ≠ tb -> (w4.setCell ⟨tb, i * 9 + 4, none⟩ (.int .i64 1)).heap[y]? = w4.heap[y]? := fun y hy => Ac _ _ _ _ hy
 generalize w4.setCell ⟨tb, i * 9 + 4, none⟩ (.int .i64 1) = w5 at *
 clear c1 c4 z4 I4
 have g5 : Got M cb m tb n (upd T i { T i with sv := .slice (some ⟨g, 0, none⟩) ((T i).seen.length + 1) cap, seen := (T i).seen ++ [v] }) (upd T i { T i with q := (T i).q + 1, pc := 1, sv := .slice (some ⟨g, 0, none⟩) ((T i).seen.length + 1) cap, seen := (T i).seen ++ [v] }) w3 w5 := ⟨⟨by omega, fun y hy hn => by
  have hy' : y ≠ tb := fun e => hn (.inr (.inr (.inl e)))
  exact (o5 y hy').trans (o4 y hy')⟩, fun b hb => by
  have := Bu (M := M) (cb := cb) (m := m) (tb := tb) (T := upd T i { T i with sv := .slice (some ⟨g, 0, none⟩) ((T i).seen.length + 1) cap, seen := (T i).seen ++ [v] }) (t := { T i with q := (T i).q + 1, pc := 1, sv := .slice (some ⟨g, 0, none⟩) ((T i).seen.length + 1) cap, seen := (T i).seen ++ [v] }) (s := w3.heap.size) hi (fun b hb => .inl (by rw [upd_same]; exact hb)) b
  rw [An] at this
  exact this hb⟩
 refine Walk.c rfl ?_
 refine .stop fun d => ⟨g, cap, Ak ?_, I5.same fun _ _ => rfl, ⟨(g3.trans g5).chg.at d, (g3.trans g5).own⟩⟩
 simp only [hdGe]
 rfl
end
end Go.Proofs.Ytflcclneedldoaa
