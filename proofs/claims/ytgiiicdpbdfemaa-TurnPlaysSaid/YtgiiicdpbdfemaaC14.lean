/-
For all words, programs (lists of codes), schedules and every most: TurnPlays returns true on every schedule of the goroutines, without a data race, and what was there stands. Conditions: none beyond the statement's own.
-/
import Derived.Test.YtgiiicdpbdfemaaC13
import Derived.Test.YtgiiicdpbdfemaaRows
import Derived.Lib.SmallJoins
import Derived.SizedLaws
import Derived.Carry
import Derived.Deep.Slices
set_option linter.unusedSimpArgs false
section
namespace Go.Proofs.Ytgiiicdpbdfemaa
open Go.Conc Go.RowKit Go.ChangeShapes Go.WideShapes Go.ChangeAt Go.Joins Go.Deep
theorem prog_own : ownKnob Try.prog.godebug = none := by kernel_rfl
def Left (W : World) (v : Value) (w' : World) : Prop := v = .bool true ∧ w'.os = W.os ∧ w'.output = W.output ∧ ∀ b, b < W.heap.size → w'.heap[b]? = W.heap[b]?
theorem Left.kept {W w' : World} {v : Value} (h : Left W v w') (may : MemPlace → Prop) : W.keptBut w' may := by
  refine ⟨h.2.1, h.2.2.1, fun i hi => ?_⟩
  rw [h.2.2.2 i hi]
  split <;> simp_all
theorem und3_is : Try.prog.underlying 3 = some (.int .i64) := by kernel_rfl
theorem und4_is : Try.prog.underlying 4 = some .bool := by kernel_rfl
end Go.Proofs.Ytgiiicdpbdfemaa
end

section
namespace Go.Proofs.Ytgiiicdpbdfemaa
open Go.Conc Go.RowKit Go.Relay Go.ChangeShapes Go.WideShapes Go.ChangeAt Go.Joins Go.Deep
theorem laid_out : laidOutB Try.prog = true := by kernel_rfl
section
variable {H : Type} {enc : TypeId × Value → H} {W w' : World}
theorem Left.stays {r : Value} {t : TypeId} {v : Value} {d : DataW H} {ps : List MemPlace} (K : Left W r w') (hr : Try.prog.readableRec t = true) (hrow : t < Try.prog.types.size) (h : DataW.Trod enc Try.prog W 0 (fun _ => true) true t v d ps) (hlt : ∀ x ∈ ps, x.block < W.heap.size) :
    DataW.Trod enc Try.prog w' 0 (fun b => decide (b < W.heap.size)) true t v d ps :=
  WideElems.Trod_stays laid_out hr hrow h (fun x hx => by
    have hb := K.2.2.2 x.block (hlt x hx)
    cases x with
    | cell b o => exact World.cell?_of_block (w := W) (a := ⟨b, o, none⟩) hb
    | map b => exact hb) (fun x hx => by simpa using hlt x hx)
theorem addr_form {w : World} {a : Addr} {v : Value} (h : w.cell? a = some v) : a = ⟨a.block, a.off, none⟩ := by
  obtain ⟨b, o, s⟩ := a
  cases s with
  | none => rfl
  | some s =>
    unfold World.cell? at h
    split at h
    · simp at h
    · cases h
set_option maxHeartbeats 8000000 in
set_option maxRecDepth 100000 in
theorem open_nums {t : TypeId} {base : Nat} {v : Value} {d : DataW H} {ps : List MemPlace} (hu : Try.prog.underlying t = some (.slice 3)) (hval : Value.okWide Try.prog W .any base t v) (h : DataW.Trod enc Try.prog W 0 (fun _ => true) true t v d ps)
    {ts : List TypeId} {ds : List (DataW H)} {j : Nat} (hsz : (DataW.weightsEach Try.prog ts ds).all (· ≤ reachBytes) = true) (ht : ts[j]? = some t) (hd : ds[j]? = some d) :
    ∃ (a : Option Addr) (cap : Nat) (zs : List Int), v = .slice a zs.length cap ∧ zs.length ≤ 17592186044416 ∧ (∀ (i : Nat) (z : Int), zs[i]? = some z → ∃ s so, a = some ⟨s, so, none⟩ ∧ W.cell? ⟨s, so + i, none⟩ = some (.int .i64 z)) ∧ (a = none → zs = [] ∧ cap = 0) := by
  obtain ⟨a, len, cap, rfl⟩ := okWide_slice hu hval
  obtain ⟨fuel, hf⟩ := h
  have hc3 : Try.prog.cellsOf 3 = 1 := by kernel_rfl
  have hb3 : Try.prog.bytesOf 3 = 8 := by kernel_rfl
  rcases open_ints hu und3_is hc3 hf with ⟨e, _⟩ | ⟨a', len', cap', zs, e, _, hl, _, hzl, hx, hcell, _⟩
  · have e : [Value.slice a len cap] = [.slice none 0 0] := e
    injection e with e _
    injection e with e1 e2 e3
    subst e1 e2 e3
    exact ⟨none, 0, [], rfl, Nat.zero_le _, fun i z h => by simp at h, fun _ => ⟨rfl, rfl⟩⟩
  · have e : [Value.slice a len cap] = [.slice (some a') len' cap'] := e
    injection e with e _
    injection e with e1 e2 e3
    subst e1 e2 e3
    have hzl : zs.length = cap := by simpa using hzl
    injection hx with hx _
    subst hx
    have hs := sized_slice hsz ht hd hu
    rw [hb3] at hs
    have hs2 : ((lits .i64 (zs.take len) : List (DataW H)).length + (lits .i64 (zs.drop len) : List (DataW H)).length) = cap := by simp [lits]; omega
    rw [hs2] at hs
    have hr := reachBytes_lt
    have htl : (zs.take len).length = len := by rw [List.length_take]; omega
    refine ⟨some a', cap, zs.take len, by rw [htl], by omega, fun i z hz => ?_, fun e => by cases e⟩
    have hi : i < len := by have := (List.getElem?_eq_some_iff.1 hz).1; omega
    have h0 := hcell 0 (by omega)
    have ha : a'.add 0 = a' := by simp [Addr.add]
    rw [ha] at h0
    have hform := addr_form h0
    have hci := hcell i (by omega)
    rw [hform] at hci
    refine ⟨_, _, congrArg some hform, ?_⟩
    rw [add_none] at hci
    rw [hci]
    have : zs[i]? = some z := by
      rw [List.getElem?_take, if_pos hi] at hz
      exact hz
    rw [List.getD_eq_getElem?_getD, this]
    rfl
end
end Go.Proofs.Ytgiiicdpbdfemaa
end

section
namespace Go.Proofs.Ytgiiicdpbdfemaa
open Go.Conc Go.RowKit Go.Relay Go.ChangeShapes Go.WideShapes Go.ChangeAt Go.Joins Go.Deep
theorem und2_is : Try.prog.underlying 2 = some (.int .i64) := by kernel_rfl
noncomputable def flds96 : Array Field := match Try.prog.underlying 96 with | some (.struct fs) => fs | _ => #[]
theorem und96_is : Try.prog.underlying 96 = some (.struct flds96) := by kernel_rfl
theorem flds96_five : ∃ f0 f1 f2 f3 f4, flds96 = #[f0, f1, f2, f3, f4] ∧ f0.type = 3 ∧ f1.type = 3 ∧ f2.type = 3 ∧ f3.type = 3 ∧ f4.type = 2 := by
  have hs : flds96.size = 5 := by kernel_rfl
  have h0 : (flds96[0]?).map (·.type) = some 3 := by kernel_rfl
  have h1 : (flds96[1]?).map (·.type) = some 3 := by kernel_rfl
  have h2 : (flds96[2]?).map (·.type) = some 3 := by kernel_rfl
  have h3 : (flds96[3]?).map (·.type) = some 3 := by kernel_rfl
  have h4 : (flds96[4]?).map (·.type) = some 2 := by kernel_rfl
  generalize flds96 = F at *
  obtain ⟨l⟩ := F
  match l, hs with
  | [f0, f1, f2, f3, f4], _ => exact ⟨f0, f1, f2, f3, f4, rfl, by simpa using h0, by simpa using h1, by simpa using h2, by simpa using h3, by simpa using h4⟩
section
variable {H : Type} {enc : TypeId × Value → H} {W : World} {base : Nat} {spare : Nat → Bool} {held : Bool}
theorem trod_struct5 {P : Program} {t : TypeId} {f0 f1 f2 f3 f4 : Field} {fuel : Nat} {cs : List Value} {x : DataW H × List MemPlace} (ht : P.underlying t = some (.struct #[f0, f1, f2, f3, f4])) (h : DataW.trod enc P W base spare held fuel t cs = some x) :
    ∃ y0 y1 y2 y3 y4 n, cs.length = P.cellsOf t ∧ DataW.trod enc P W base spare held n f0.type ((cs.drop f0.offset).take (P.cellsOf f0.type)) = some y0 ∧
      DataW.trod enc P W base spare held n f1.type ((cs.drop f1.offset).take (P.cellsOf f1.type)) = some y1 ∧ DataW.trod enc P W base spare held n f2.type ((cs.drop f2.offset).take (P.cellsOf f2.type)) = some y2 ∧
      DataW.trod enc P W base spare held n f3.type ((cs.drop f3.offset).take (P.cellsOf f3.type)) = some y3 ∧ DataW.trod enc P W base spare held n f4.type ((cs.drop f4.offset).take (P.cellsOf f4.type)) = some y4 := by
  obtain ⟨xs, n, _, rfl, hl, hlen, hf⟩ := DataW.trod_struct ht h
  match xs, hlen with
  | [y0, y1, y2, y3, y4], _ => exact ⟨y0, y1, y2, y3, y4, n, hl, by simpa using hf 0 f0 rfl, by simpa using hf 1 f1 rfl, by simpa using hf 2 f2 rfl, by simpa using hf 3 f3 rfl, by simpa using hf 4 f4 rfl⟩
theorem weights_all {P : Program} {e : TypeId} : ∀ {elems : List (DataW H)} {d : DataW H}, d ∈ elems → ∀ n ∈ d.weights P e, n ∈ DataW.weightsAll P e elems
  | x :: l, d, hd, n, hn => by
    simp only [DataW.weightsAll, List.mem_append]
    rcases List.mem_cons.1 hd with rfl | h
    · exact .inl hn
    · exact .inr (weights_all h n hn)
set_option maxHeartbeats 8000000 in
set_option maxRecDepth 100000 in
theorem open_codes {n : Nat} {v : Value} {x : DataW H × List MemPlace} (hu : Try.prog.underlying 85 = some (.slice 96)) (h : DataW.trod enc Try.prog W base (fun _ => true) held n 85 [v] = some x) (hw : ∀ k ∈ x.1.weights Try.prog 85, k ≤ reachBytes) :
    ∃ (p : Sl) (c : List Cd), v = slc p ∧ p.2.1 = c.length ∧ c.length ≤ 3518437208883 ∧ ∀ (k : Nat) (d : Cd), c[k]? = some d → ∃ cb co, p.1 = some ⟨cb, co, none⟩ ∧ ∀ m v, (cdCells d)[m]? = some v → W.cell? ⟨cb, co + k * 5 + m, none⟩ = some v := by
  have hC : Try.prog.cellsOf 96 = 5 := by kernel_rfl
  have hB : Try.prog.bytesOf 96 = 40 := by kernel_rfl
  obtain ⟨f0, f1, f2, f3, f4, ef, t0, t1, t2, t3, t4⟩ := flds96_five
  have hst : Try.prog.underlying 96 = some (.struct #[f0, f1, f2, f3, f4]) := by rw [und96_is, ef]
  have hone : oneCellFields Try.prog #[f0, f1, f2, f3, f4] = true := by rw [← ef]; kernel_rfl
  rcases open_slice hu h with ⟨e, _⟩ | ⟨a', len', cap', m, n', D, Pl, e, _, hl, _, hm, hx, hel⟩
  · injection e with e _
    exact ⟨(none, 0, 0), [], e, rfl, Nat.zero_le _, fun k d h => by simp at h⟩
  · injection e with e _
    have hm : m = cap' := by simpa using hm
    rw [hx] at hw
    have hs := hw ((((List.range len').map D).length + ((List.range (m - len')).map fun j => D (len' + j)).length) * Try.prog.bytesOf 96) (by simp [DataW.weights, hu])
    rw [hB] at hs
    have hr := reachBytes_lt
    simp only [List.length_map, List.length_range] at hs
    have key : ∀ i, i < len' → ∃ d : Cd, ∀ k v, (cdCells d)[k]? = some v → W.cell? ((a'.add (i * 5)).add k) = some v := fun i hi => by
      obtain ⟨cs', h1, h2⟩ := hel i (by omega)
      rw [hC] at h1
      obtain ⟨_, hlen, hcell⟩ := World.cells?_some h1
      obtain ⟨y0, y1, y2, y3, y4, k, _, u0, u1, u2, u3, u4⟩ := trod_struct5 hst h2
      obtain ⟨o0, k0⟩ := hone_of hone 0 f0 rfl
      obtain ⟨o1, k1⟩ := hone_of hone 1 f1 rfl
      obtain ⟨o2, k2⟩ := hone_of hone 2 f2 rfl
      obtain ⟨o3, k3⟩ := hone_of hone 3 f3 rfl
      obtain ⟨o4, k4⟩ := hone_of hone 4 f4 rfl
      match cs', hlen with
      | [c0, c1, c2, c3, c4], _ =>
        rw [o0, k0, t0] at u0
        rw [o1, k1, t1] at u1
        rw [o2, k2, t2] at u2
        rw [o3, k3, t3] at u3
        rw [o4, k4, t4] at u4
        obtain ⟨z0, e0, _, _⟩ := DataW.trod_int und3_is u0
        obtain ⟨z1, e1, _, _⟩ := DataW.trod_int und3_is u1
        obtain ⟨z2, e2, _, _⟩ := DataW.trod_int und3_is u2
        obtain ⟨z3, e3, _, _⟩ := DataW.trod_int und3_is u3
        obtain ⟨z4, e4, _, _⟩ := DataW.trod_int und2_is u4
        simp at e0 e1 e2 e3 e4
        subst e0 e1 e2 e3 e4
        refine ⟨⟨z0, z1, z2, z3, z4⟩, fun k v hv => ?_⟩
        have hk5 : k < 5 := (List.getElem?_eq_some_iff.1 hv).1
        have hc := hcell k (by simpa using hk5)
        rw [hc]
        exact hv
    have hI : Inhabited Cd := ⟨⟨0, 0, 0, 0, 0⟩⟩
    obtain ⟨f, hf'⟩ := choose_lt (α := Cd) key
    refine ⟨(some a', len', cap'), (List.range len').map f, e, by simp, by simp; omega, fun k d hd => ?_⟩
    have hk : k < len' := by simpa using (List.getElem?_eq_some_iff.1 hd).1
    have hd : f k = d := by simpa [hk] using hd
    have hf := hf' k hk
    rw [hd] at hf
    have h0 := hf' 0 (by omega) 0 _ rfl
    have ha : (a'.add (0 * 5)).add 0 = a' := by simp [Addr.add]
    rw [ha] at h0
    have hform := addr_form h0
    refine ⟨a'.block, a'.off, congrArg some hform, fun m v hv => ?_⟩
    have := hf m v hv
    rw [hform, add_none, add_none] at this
    exact this
set_option maxHeartbeats 8000000 in
set_option maxRecDepth 100000 in
theorem open_nums64 {t : TypeId} {base : Nat} {v : Value} {d : DataW H} {ps : List MemPlace} (hu : Try.prog.underlying t = some (.slice 2)) (hval : Value.okWide Try.prog W .any base t v) (h : DataW.Trod enc Try.prog W 0 (fun _ => true) true t v d ps)
    {ts : List TypeId} {ds : List (DataW H)} {j : Nat} (hsz : (DataW.weightsEach Try.prog ts ds).all (· ≤ reachBytes) = true) (ht : ts[j]? = some t) (hd : ds[j]? = some d) :
    ∃ (a : Option Addr) (cap : Nat) (zs : List Int), v = .slice a zs.length cap ∧ zs.length ≤ 17592186044416 ∧ (∀ (i : Nat) (z : Int), zs[i]? = some z → ∃ s so, a = some ⟨s, so, none⟩ ∧ W.cell? ⟨s, so + i, none⟩ = some (.int .i64 z)) ∧ (a = none → zs = [] ∧ cap = 0) := by
  obtain ⟨a, len, cap, rfl⟩ := okWide_slice hu hval
  obtain ⟨fuel, hf⟩ := h
  have hc3 : Try.prog.cellsOf 2 = 1 := by kernel_rfl
  have hb3 : Try.prog.bytesOf 2 = 8 := by kernel_rfl
  rcases open_ints hu und2_is hc3 hf with ⟨e, _⟩ | ⟨a', len', cap', zs, e, _, hl, _, hzl, hx, hcell, _⟩
  · have e : [Value.slice a len cap] = [.slice none 0 0] := e
    injection e with e _
    injection e with e1 e2 e3
    subst e1 e2 e3
    exact ⟨none, 0, [], rfl, Nat.zero_le _, fun i z h => by simp at h, fun _ => ⟨rfl, rfl⟩⟩
  · have e : [Value.slice a len cap] = [.slice (some a') len' cap'] := e
    injection e with e _
    injection e with e1 e2 e3
    subst e1 e2 e3
    have hzl : zs.length = cap := by simpa using hzl
    injection hx with hx _
    subst hx
    have hs := sized_slice hsz ht hd hu
    rw [hb3] at hs
    have hs2 : ((lits .i64 (zs.take len) : List (DataW H)).length + (lits .i64 (zs.drop len) : List (DataW H)).length) = cap := by simp [lits]; omega
    rw [hs2] at hs
    have hr := reachBytes_lt
    have htl : (zs.take len).length = len := by rw [List.length_take]; omega
    refine ⟨some a', cap, zs.take len, by rw [htl], by omega, fun i z hz => ?_, fun e => by cases e⟩
    have hi : i < len := by have := (List.getElem?_eq_some_iff.1 hz).1; omega
    have h0 := hcell 0 (by omega)
    have ha : a'.add 0 = a' := by simp [Addr.add]
    rw [ha] at h0
    have hform := addr_form h0
    have hci := hcell i (by omega)
    rw [hform] at hci
    refine ⟨_, _, congrArg some hform, ?_⟩
    rw [add_none] at hci
    rw [hci]
    have : zs[i]? = some z := by
      rw [List.getElem?_take, if_pos hi] at hz
      exact hz
    rw [List.getD_eq_getElem?_getD, this]
    rfl
set_option maxHeartbeats 8000000 in
set_option maxRecDepth 100000 in
theorem open_progs {t : TypeId} {base : Nat} {v : Value} {d : DataW H} {ps : List MemPlace} (hu : Try.prog.underlying t = some (.slice 85)) (hu85 : Try.prog.underlying 85 = some (.slice 96)) (hval : Value.okWide Try.prog W .any base t v) (h : DataW.Trod enc Try.prog W 0 (fun _ => true) true t v d ps)
    {ts : List TypeId} {ds : List (DataW H)} {j : Nat} (hsz : (DataW.weightsEach Try.prog ts ds).all (· ≤ reachBytes) = true) (ht : ts[j]? = some t) (hd : ds[j]? = some d) :
    ∃ (a : Option Addr) (cap : Nat) (l : List Sl) (Ps : List (List Cd)), v = .slice a Ps.length cap ∧ Src a l Ps W ∧ Ps.length ≤ 5864062014805 ∧ ∀ c ∈ Ps, c.length ≤ 3518437208883 := by
  obtain ⟨a, len, cap, rfl⟩ := okWide_slice hu hval
  obtain ⟨fuel, hf⟩ := h
  have hC : Try.prog.cellsOf 85 = 1 := by kernel_rfl
  have hB : Try.prog.bytesOf 85 = 24 := by kernel_rfl
  rcases open_slice1 hu hC hf with ⟨e, _⟩ | ⟨a', len', cap', m, n, V, D, Pl, e, _, hl, _, hm, hx, hel⟩
  · injection e with e _
    injection e with e1 e2 e3
    subst e1 e2 e3
    exact ⟨none, 0, [], [], rfl, ⟨rfl, fun i p h => by simp at h, fun i p c h => by simp at h⟩, Nat.zero_le _, fun c h => by simp at h⟩
  · injection e with e _
    injection e with e1 e2 e3
    subst e1 e2 e3
    have hm : m = cap := by simpa using hm
    injection hx with hx _
    subst hx
    have hs := sized_slice hsz ht hd hu
    rw [hB] at hs
    have hr := reachBytes_lt
    simp only [List.length_map, List.length_range] at hs
    have key : ∀ i, i < len → ∃ q : Sl × List Cd, V i = slc q.1 ∧ q.1.2.1 = q.2.length ∧ q.2.length ≤ 3518437208883 ∧ ∀ (k : Nat) (d : Cd), q.2[k]? = some d → ∃ cb co, q.1.1 = some ⟨cb, co, none⟩ ∧ ∀ m v, (cdCells d)[m]? = some v → W.cell? ⟨cb, co + k * 5 + m, none⟩ = some v := fun i hi => by
      obtain ⟨_, h2⟩ := hel i (by omega)
      obtain ⟨p, c, q1, q2, q3, q4⟩ := open_codes hu85 h2 (fun k hk => by
        have h3 := weights_all (P := Try.prog) (e := 85) (elems := (List.range len).map D) (d := D i) (List.mem_map.2 ⟨i, List.mem_range.2 hi, rfl⟩) k hk
        have h4 := DataW.weights_mem_each (P := Try.prog) ht hd k (by simp [DataW.weights, hu, h3])
        simpa using List.all_eq_true.1 hsz k h4)
      exact ⟨(p, c), q1, q2, q3, q4⟩
    have hI : Inhabited (Sl × List Cd) := ⟨((none, 0, 0), [])⟩
    obtain ⟨f, hf'⟩ := choose_lt (α := Sl × List Cd) key
    have hget : ∀ {α : Type} (g : Nat → α) (i : Nat) (y : α), ((List.range len).map g)[i]? = some y → i < len ∧ g i = y := fun g i y h => by
      have hi : i < len := by simpa using (List.getElem?_eq_some_iff.1 h).1
      exact ⟨hi, by simpa [hi] using h⟩
    refine ⟨some a', cap, (List.range len).map fun i => (f i).1, (List.range len).map fun i => (f i).2, by simp, ⟨by simp, fun i p hp => ?_, fun i p c hp hc => ?_⟩, by simp; omega, fun c hc => ?_⟩
    · obtain ⟨hi, rfl⟩ := hget _ i p hp
      have h0 := (hel 0 (by omega)).1
      have ha : a'.add 0 = a' := by simp [Addr.add]
      rw [ha] at h0
      have hform := addr_form h0
      have hci := (hel i (by omega)).1
      rw [(hf' i hi).1] at hci
      refine ⟨_, _, congrArg some hform, ?_⟩
      rw [hform, add_none] at hci
      exact hci
    · obtain ⟨hi, rfl⟩ := hget _ i p hp
      obtain ⟨_, rfl⟩ := hget _ i c hc
      obtain ⟨_, q2, _, q4⟩ := hf' i hi
      exact ⟨q2, q4⟩
    · obtain ⟨i, hi, rfl⟩ := List.mem_map.1 hc
      exact (hf' i (List.mem_range.1 hi)).2.2.1
end
end Go.Proofs.Ytgiiicdpbdfemaa
end

section
namespace Go.Proofs.Ytgiiicdpbdfemaa
open Go.Conc Go.RowKit Go.Relay
open Go.ConcN (upd upd_ne upd_same)
structure Hid (p : Prop) : Prop where
  is : p
theorem ints_at {w : World} {base : Nat} {a : Option Addr} {cap : Nat} {l : List Int} {e : TypeId} (h : w.ownsRow base e 1 (.slice a l.length cap) l.length (ints l)) : IntsAt a l w := fun j z hz => by
  obtain ⟨g, c, e, _, _, _, hc⟩ := row_cell h (ints_get hz)
  injection e with e _ _
  exact ⟨g, e, hc⟩
theorem Src.take {pa : Option Addr} {l : List Sl} {Ps : List (List Cd)} {w : World} (S : Src pa l Ps w) {i : Nat} (hi : i < (Ps.take 64).length) : ∃ pb po, pa = some ⟨pb, po, none⟩ ∧ w.cell? ⟨pb, po + i, none⟩ = some (.slice (l.getD i (none, 0, 0)).1 ((Ps.take 64).getD i []).length (l.getD i (none, 0, 0)).2.2) ∧ CodesIn (l.getD i (none, 0, 0)).1 ((Ps.take 64).getD i []) w ∧ (Ps.take 64).getD i [] ∈ Ps := by
  have hi2 : i < Ps.length := by rw [List.length_take] at hi; omega
  have hil : i < l.length := by rw [S.len]; exact hi2
  have hp := List.getElem?_eq_getElem hil
  have hc := List.getElem?_eq_getElem hi2
  have e1 : l.getD i (none, 0, 0) = l[i] := by rw [List.getD_eq_getElem?_getD, hp]; rfl
  have e2 : (Ps.take 64).getD i [] = Ps[i] := by
    have : i < 64 := by rw [List.length_take] at hi; omega
    rw [List.getD_eq_getElem?_getD, List.getElem?_take, if_pos this, hc]; rfl
  obtain ⟨pb, po, e, hcell⟩ := S.at_ i _ hp
  obtain ⟨h1, h2⟩ := S.codes i _ _ hp hc
  rw [e1, e2]
  refine ⟨pb, po, e, ?_, fun k d hd => h2 k d hd, List.getElem_mem hi2⟩
  rw [← h1]
  exact hcell
set_option maxHeartbeats 8000000 in
set_option maxRecDepth 100000 in
theorem plays_all (wa : Option Addr) (wc : Nat) (zs : List Int) (pa : Option Addr) (pc : Nat) (l : List Sl) (Ps : List (List Cd)) (va : Option Addr) (vc : Nat) (sl : List Int) (most : Int) (W : World)
    (hz : zs.length ≤ 17592186044416) (hnil : wa = none → zs = [] ∧ wc = 0) (hs : ∀ (j : Nat) (z : Int), zs[j]? = some z → ∃ s so, wa = some ⟨s, so, none⟩ ∧ W.cell? ⟨s, so + j, none⟩ = some (.int .i64 z))
    (S : Src pa l Ps W) (hP : Ps.length ≤ 5864062014805) (hc : ∀ c ∈ Ps, c.length ≤ 3518437208883)
    (hsl : sl.length ≤ 17592186044416) (hvn : va = none → sl = [] ∧ vc = 0) (hv : ∀ (j : Nat) (z : Int), sl[j]? = some z → ∃ s so, va = some ⟨s, so, none⟩ ∧ W.cell? ⟨s, so + j, none⟩ = some (.int .i64 z)) :
    Runs (fun g w' => Closing 3 8 (.bool true) g ∧ (OsSame W w' → ∀ d, Left W (.bool true) (w'.at d))) (G (Frame.enter Try.prog 3 #[.slice wa zs.length wc, .slice pa Ps.length pc, .slice va sl.length vc, .int .i64 most] .normal) []) W := by
  refine Runs.go ?_
  rw [enter_at _ Try.func3 code3_is]
  simp only [Try.ntmps3, List.size_toArray, List.length_cons, List.length_nil, Nat.reduceAdd, Nat.reduceSub, Array.replicate_succ, Array.replicate_zero, List.push_toArray, List.append_toArray, List.nil_append, List.cons_append]
  repeat (first | refine Walk.c rfl ?_ | refine Walk.cRet ?_ | refine Walk.cEnd ?_ | (refine Walk.cReg ?_; simp only [size3_0, size3_1, size3_2, size3_3, size3_4, size3_5, List.range, List.range.loop]) | (refine Walk.oq ?_; try walk_nrm) | (refine Walk.un ?_; walk_nrm))
  refine Walk.callE (ho_of (by conv => lhs; whnf) (by kernel_rfl)) (by rfl) (by decide) rfl Try.func13 (by kernel_rfl) (by rfl) ?_
  refine .stop fun d => ?_
  walk_nrm
  refine Runs.then (awake_run _ _ (W.at d)) ?_
  rintro _ w1 ⟨O1, rfl⟩
  have O1 := Old.un d O1
  refine Runs.go ?_
  refine Walk.finish (ho_of (by conv => lhs; whnf) (by kernel_rfl)) ?_
  walk_nrm
  repeat (first | refine Walk.c rfl ?_ | refine Walk.cRet ?_ | refine Walk.cEnd ?_ | (refine Walk.cReg ?_; simp only [size3_0, size3_1, size3_2, size3_3, size3_4, size3_5, List.range, List.range.loop]) | (refine Walk.oq ?_; try walk_nrm) | (refine Walk.un ?_; walk_nrm))
  (refine Walk.oa ?_; try walk_nrm)
  have hrow0 := World.ownsRow_lit (e := 2) (size := 1) w1 #[] 0 (Nat.le_refl _) (by decide) rfl
  have O12 := old_alloc w1 (.cells #[] 2)
  have O2 := O1.trans O12
  have hs2 : (w1.alloc (.cells #[] 2)).heap.size = w1.heap.size + 1 := by simp
  generalize w1.alloc (.cells #[] 2) = w2 at *
  repeat (first | (refine Walk.oq ?_; try walk_nrm) | (refine Walk.un ?_; walk_nrm))
  have hi2 := Option.some_get (show (Try.prog.info? 2).isSome = true by kernel_rfl)
  refine Walk.appendSl (.tmp 13) (.tmp 14) 22 (ho_of (by conv => lhs; whnf) (by kernel_rfl)) (by rfl) (by decide) rfl w1.heap.size 2 _ (.int .i64 0) 1 8 (by kernel_rfl) hi2.symm (by rfl) (by rfl) (by rfl) (by rfl) (by decide) (.slice (some ⟨w1.heap.size, 0, none⟩) 0 0) 0 [] rfl hrow0 wa zs.length wc (ints zs) rfl (fun e => ⟨by rw [(hnil e).1]; rfl, (hnil e).2⟩) (by simp [ints]) (fun ad e j u hu => ?_) (by simp [ints, Value.oneCell']) (by simp [maxLen]; omega) (by omega) (by omega) (fun g _ => apart0 g) (fun v' w3 hown hg hat => ?_)
  · unfold ints at hu
    rw [List.getElem?_map] at hu
    obtain ⟨z, hz, rfl⟩ := Option.map_eq_some_iff.1 hu
    obtain ⟨s, so, e', hc⟩ := hs j z hz
    rw [e] at e'
    cases e'
    rw [add_none]
    exact old_cell O2 hc
  clear hi2
  rw [Nat.zero_add, List.nil_append] at hown
  obtain ⟨ca, cc, rfl⟩ := row_shape hown
  have O3 : Old W w3 := ⟨by have := O2.size; have := hg.size; omega, fun b hb => (hg.block b (by have := O2.size; omega) (by have := O1.size; simp [Value.ownBlock]; omega)).trans (O2.same b hb)⟩
  clear hg hat hrow0 O12 O2 hs2
  walk_nrm
  repeat (first | refine Walk.c rfl ?_ | refine Walk.cRet ?_ | refine Walk.cEnd ?_ | (refine Walk.cReg ?_; simp only [size3_0, size3_1, size3_2, size3_3, size3_4, size3_5, List.range, List.range.loop]) | (refine Walk.oq ?_; try walk_nrm) | (refine Walk.un ?_; walk_nrm))
  refine Walk.callW (Post := fun v w' => ∃ fa fc ls, v = .slice fa Ps.length fc ∧ Coded w3 w' Ps fa fc Ps.length ls ∧ (Ps.length = 0 → fa = none ∧ fc = 0)) ?_ (ho_of (by conv => lhs; whnf) (by kernel_rfl)) (by rfl) (by decide) rfl Try.func15 (by kernel_rfl) (by rfl) ?_
  · walk_nrm
    exact codes_any pa pc l Ps w3 (S.old O3) hP hc fun b _ => apart0 b
  rintro v w4 ⟨fa, fc, ls, rfl, M, h0⟩
  have O4 := O3.trans M.old
  have hown4 := row_old hown M.old
  walk_nrm
  (refine Walk.oa ?_; try walk_nrm)
  have hrow0 := World.ownsRow_lit (e := 3) (size := 1) w4 #[] 0 (Nat.le_refl _) (by decide) rfl
  have O45 := old_alloc w4 (.cells #[] 3)
  have O5 := O4.trans O45
  have hs5 : (w4.alloc (.cells #[] 3)).heap.size = w4.heap.size + 1 := by simp
  generalize w4.alloc (.cells #[] 3) = w5 at *
  repeat (first | (refine Walk.oq ?_; try walk_nrm) | (refine Walk.un ?_; walk_nrm))
  have hi3 := Option.some_get (show (Try.prog.info? 3).isSome = true by kernel_rfl)
  refine Walk.appendSl (.tmp 19) (.tmp 20) 24 (ho_of (by conv => lhs; whnf) (by kernel_rfl)) (by rfl) (by decide) rfl w4.heap.size 3 _ (.int .i64 0) 1 8 (by kernel_rfl) hi3.symm (by rfl) (by rfl) (by rfl) (by rfl) (by decide) (.slice (some ⟨w4.heap.size, 0, none⟩) 0 0) 0 [] rfl hrow0 va sl.length vc (ints sl) rfl (fun e => ⟨by rw [(hvn e).1]; rfl, (hvn e).2⟩) (by simp [ints]) (fun ad e j u hu => ?_) (by simp [ints, Value.oneCell']) (by simp [maxLen]; omega) (by omega) (by omega) (fun g _ => apart0 g) (fun v' w6 hsown hg hat => ?_)
  · unfold ints at hu
    rw [List.getElem?_map] at hu
    obtain ⟨z, hz, rfl⟩ := Option.map_eq_some_iff.1 hu
    obtain ⟨s, so, e', hc⟩ := hv j z hz
    rw [e] at e'
    cases e'
    rw [add_none]
    exact old_cell O5 hc
  clear hi3
  rw [Nat.zero_add, List.nil_append] at hsown
  obtain ⟨da, dc, rfl⟩ := row_shape hsown
  have O46 : Old w4 w6 := ⟨by have := hg.size; omega, fun b hb => (hg.block b (by omega) (by simp [Value.ownBlock]; omega)).trans (O45.same b hb)⟩
  have O6 := O4.trans O46
  have hown6 := row_old hown4 O46
  clear hg hat hrow0 O45 O5 hs5 hown hown4
  walk_nrm
  repeat (first | (refine Walk.oq ?_; try walk_nrm) | (refine Walk.un ?_; walk_nrm))
  refine Walk.callE (ho_of (by conv => lhs; whnf) (by kernel_rfl)) (by rfl) (by decide) rfl Try.func14 (by kernel_rfl) (by rfl) ?_
  refine .stop fun d6 => ?_
  walk_nrm
  have hI1 := ints_at hown6
  have hI2 := ints_at hsown
  have hdb : ∀ s, da = some ⟨s, 0, none⟩ → s < w6.heap.size := fun s e => (hsown.lt s (by rw [e]; rfl)).2
  refine Runs.then (play_any M h0 hc ca cc da dc most zs sl (w6.at d6) (O46.at d6) hz hsl hI1 hI2 hdb _ _) ?_
  rintro _ w8 ⟨cells, hPO, O8, rfl⟩
  have O8 := Old.un d6 O8
  obtain ⟨aa, ac, oa, oc, sa, sc, hcells, o1, s1, a1⟩ := hPO.trace
  replace hcells := Hid.mk hcells
  have O8W := O6.trans O8
  have hIn := hI1.old O8.same
  clear hPO O6 O46 hown6 hsown hI1 hI2 hdb M h0
  refine Runs.go ?_
  refine Walk.finish (ho_of (by conv => lhs; whnf) (by kernel_rfl)) ?_
  walk_nrm
  (refine Walk.oa ?_; try walk_nrm)
  have hone : cells.all (·.oneCell') = true := by rw [hcells.is]; simp [trArr, Value.oneCell']
  have hsz : cells.size = 4 := by rw [hcells.is]; rfl
  refine Walk.storeS 28 (.tmp 10) (.tmp 23) (ho_of (by conv => lhs; whnf) (by kernel_rfl)) (by rfl) (by decide) rfl w8.heap.size cells #[.slice none 0 0, .slice none 0 0, .slice none 0 0, .bool false] 28 rfl rfl (heap_alloc_new w8 _) (by rw [hsz]; kernel_rfl) (by rw [hsz]; rfl) hone (apart0 _) ?_
  rw [setRow_alloc]
  have hX := heap_alloc_new w8 (.cells cells 28)
  have O9 := old_alloc w8 (.cells cells 28)
  have O9W := O8W.trans O9
  have o1 := o1.old O9
  have s1 := s1.old O9
  have a1 := a1.old O9
  have hIn := hIn.old O9.same
  clear O9 O8 O8W O1 O3 O4
  generalize w8.heap.size = X at *
  generalize w8.alloc (.cells cells 28) = w9 at *
  walk_nrm
  refine Walk.ctl rfl (fun w => stepG_region_end) ?_
  refine Walk.c rfl ?_
  have hfin : ∀ (u : Nat → Value) (w' : World), u 8 = .bool true → Old w9 w' → Walk Try.prog true (DR (fun _ => none)) (fun g w' => Runs (fun g w' => Closing 3 8 (.bool true) g ∧ (OsSame W w' → ∀ d, Left W (.bool true) (w'.at d))) g w') (G ((base 3).at ⟨tm3 (.slice wa zs.length wc) (.slice pa Ps.length pc) (.slice va sl.length vc) (.int .i64 most) (.slice ca zs.length cc) X u, []⟩ [.inRegion reg3_5 [], .code .ret]) []) w' := fun u w' hu hO => by
    simp only [tm3]
    refine Walk.ctl rfl (fun w => stepG_region_end) ?_
    refine Walk.cRet ?_
    refine .stop fun d => Runs.now ⟨⟨_, rfl, rfl, rfl, rfl, rfl, ?_⟩, fun ho d' => ⟨rfl, ho.1, ho.2, fun b hb => (O9W.trans hO).same b hb⟩⟩
    exact hu
  have hn64 : (Ps.take 64).length ≤ 64 := by rw [List.length_take]; omega
  have h17 : ∀ w1, Old w9 w1 → CallW Try.prog true (fun _ => none) 17 #[.slice wa zs.length wc, .slice pa Ps.length pc, .slice va sl.length vc, .int .i64 most] w1 (fun v w' => TraceOut (Ps.take 64).length zs.length (playA (Ps.take 64) zs most sl) v w' ∧ Old w1 w') := fun w1 hO => by
    have hO := O9W.trans hO
    refine play17_w wa wc zs pa Ps.length pc (Ps.take 64).length va vc sl most (fun i => (Ps.take 64).getD i []) (fun i => (l.getD i (none, 0, 0)).1) (fun i => (l.getD i (none, 0, 0)).2.2) w1 hz hnil (fun j z h => ?_) hsl hvn (fun j z h => ?_) (by rw [List.length_take]; omega) (fun i hi => ?_) (fun i hi => ?_) (fun i hi => ?_)
    · obtain ⟨s, so, e, hcell⟩ := hs j z h
      exact ⟨s, so, e, old_cell hO hcell⟩
    · obtain ⟨s, so, e, hcell⟩ := hv j z h
      exact ⟨s, so, e, old_cell hO hcell⟩
    · obtain ⟨pb, po, e, hcell, _⟩ := S.take hi
      exact ⟨pb, po, e, old_cell hO hcell⟩
    · obtain ⟨_, _, _, _, hcd, _⟩ := S.take hi
      exact hcd.old hO
    · obtain ⟨_, _, _, _, _, hm⟩ := S.take hi
      have := hc _ hm
      show ((Ps.take 64).getD i []).length ≤ 4398046511104
      omega
  have h18 : ∀ w1, Old w9 w1 → CallV Try.prog true (fun _ => none) 18 #[.slice ca zs.length cc, .slice wa zs.length wc] w1 (.bool true) w1 := fun w1 hO => by
    refine same18_w ca wa zs.length cc wc (fun i => zs.getD i 0) hz w1 (fun i hi => ?_) (fun i hi => ?_)
    · obtain ⟨g, e, hcell⟩ := hIn i _ (List.getElem?_eq_getElem hi)
      refine ⟨g, 0, e, ?_⟩
      show w1.cell? ⟨g, 0 + i, none⟩ = some (.int .i64 (zs.getD i 0))
      rw [Nat.zero_add, List.getD_eq_getElem?_getD, List.getElem?_eq_getElem hi]
      exact old_cell hO hcell
    · obtain ⟨s, so, e, hcell⟩ := hs i _ (List.getElem?_eq_getElem hi)
      refine ⟨s, so, e, ?_⟩
      show w1.cell? ⟨s, so + i, none⟩ = some (.int .i64 (zs.getD i 0))
      rw [List.getD_eq_getElem?_getD, List.getElem?_eq_getElem hi]
      exact old_cell (O9W.trans hO) hcell
  refine slots_walk (F := fun u => G ((base 3).at ⟨tm3 (.slice wa zs.length wc) (.slice pa Ps.length pc) (.slice va sl.length vc) (.int .i64 most) (.slice ca zs.length cc) X u, []⟩ (.code (.region 5 reg3_5 true) :: [.code .ret])) []) (fun u => plays_last (main := true) _ _ _ _ _ X zs.length (Ps.take 64).length (playA (Ps.take 64) zs most sl) cells w9 hX aa ac oa oc sa sc hcells.is o1 s1 a1 hn64 hz h17 h18 [.code .ret] [] u hfin) ?_
  simp only [tm3]
  rfl
end Go.Proofs.Ytgiiicdpbdfemaa
end

section
namespace Go.Proofs.Ytgiiicdpbdfemaa
open Go.Conc Go.RowKit Go.Relay
open Go.ChangeShapes Go.WideShapes Go.ChangeAt Go.Joins Go.Deep
set_option maxRecDepth 100000 in
theorem turnPlays_lifted (os : Os) (started : os.Started) (H : Type) (enc : TypeId × Value → H) :
    ReturnsInLeavingWide {} Try.checked os 3 .any (Rows.turnPlaysSpec.pre6 enc Try.prog Try.f3 Rows.turnPlaysRow.domain false) (Rows.turnPlaysSpec.post enc Try.prog Try.f3 false true false false) := by
  refine returnsInLeavingWide_of_change_sized (C := Try.checked) prog_own started Try.func3
    (ChangeSpec.witness6 (enc := enc) (C := Try.checked) false ⟨#[], #[.slice none 0 0, .slice none 0 0, .slice none 0 0, .int .i64 0], []⟩ 8 (by kernel_rfl) (by kernel_rfl) (by kernel_rfl) (by kernel_rfl)) ?_
  intro W base args ds gs before hval0 hW _ hsz0 _
  have hval : ∀ (j : Nat) t v, Try.f3.params[j]? = some t → args[j]? = some v → Value.okWide Try.prog W .any base t v := hval0
  have hW' := hW
  obtain ⟨p, q, hA0, hV, rfl, _, _⟩ := hW
  have hA : DataW.TrodAll enc Try.prog W 0 (fun _ => true) true Try.f3.params.toList args.toList ds p := hA0
  rw [Try.params3] at hA hval
  have hsz : (DataW.weightsEach Try.prog (Try.f3.params.toList ++ Rows.turnPlaysSpec.plain.varTypes Try.prog) (ds ++ gs)).all (· ≤ reachBytes) = true := hsz0
  rw [Try.params3] at hsz
  obtain ⟨v0, v1, v2, v3, d0, d1, d2, d3, p0, p1, p2, p3, rfl, rfl, rfl, h0, h1, h2, h3⟩ := trodAll_four hA
  obtain ⟨rfl, rfl⟩ := trodVars_none hV
  have hlt := hW'.lt
  obtain ⟨wa, wc, zs, rfl, hzs, hs, hnil⟩ := open_nums64 (t := 22) (by kernel_rfl) (hval 0 22 v0 rfl rfl) h0 (j := 0) hsz rfl rfl
  obtain ⟨pa, pc, l, Ps, rfl, S, hP, hc⟩ := open_progs (t := 23) (by kernel_rfl) (by kernel_rfl) (hval 1 23 v1 rfl rfl) h1 (j := 1) hsz rfl rfl
  obtain ⟨va, vc, sl, rfl, hsl, hv, hvn⟩ := open_nums (t := 24) (by kernel_rfl) (hval 2 24 v2 rfl rfl) h2 (j := 2) hsz rfl rfl
  obtain ⟨most, rfl, rfl, rfl, wm⟩ := open_int und3_is (hval 3 3 v3 rfl rfl) h3
  clear hA0 hval0 hsz0 hsz
  simp only [List.append_nil] at hW' hlt
  obtain ⟨M, last, o, w', t', r1, r2, r3, r4⟩ := run_claim (t := 8) Try.func3 rfl (by kernel_rfl) (plays_all wa wc zs pa pc l Ps va vc sl most W hzs hnil hs S hP hc hsl hvn hv)
  refine ⟨M, last, o, w', t', r1, r2, r3, r4.mono fun v hF => ?_⟩
  have hk : Left W (.bool true) w' := ⟨rfl, hF.2⟩
  obtain rfl : v = .bool true := hF.1
  exact ⟨_, _, _, [], _, [], hW', trodAll_mk1 (shut_bool und4_is true), trodAll_mk4 (hk.stays (by kernel_rfl) (of_decide_eq_true (by kernel_rfl)) h0 fun x hx => hlt x (by simp [hx])) (hk.stays (by kernel_rfl) (of_decide_eq_true (by kernel_rfl)) h1 fun x hx => hlt x (by simp [hx])) (hk.stays (by kernel_rfl) (of_decide_eq_true (by kernel_rfl)) h2 fun x hx => hlt x (by simp [hx])) (shut_int und3_is wm), rfl, hk.kept _, fun h => by cases h⟩
theorem turnPlays_holds : Rows.TurnPlaysSaid :=
  OpenClaim.holds_of_wide_leaving 3 Try.f3 rfl rfl rfl rfl rfl rfl rfl ⟨rfl, rfl, rfl, rfl, rfl⟩ rfl rfl rfl rfl rfl (by kernel_rfl) Try.func3 (by kernel_rfl)
    (of_decide_eq_true (by kernel_rfl)) (by unfold Func.isWrapper; first | (rw [if_pos (by decide +kernel)]; kernel_rfl) | (rw [if_neg (by decide +kernel)]; exact ⟨rfl, rfl⟩))
    (fun os started H enc _ => turnPlays_lifted os started H enc)
end Go.Proofs.Ytgiiicdpbdfemaa
end
