/- Part 2. -/
import Derived.Test.YtdcjgmlgmjjogaaM1
set_option linter.unusedSimpArgs false
set_option linter.unusedVariables false
set_option maxHeartbeats 8000000
set_option maxRecDepth 100000
namespace Go.Proofs.Ytdcjgmlgmjjogaa
open Go.Conc Go.RowKit Go.Relay
open Go.ConcN (upd upd_ne upd_same)
def holdsZ : OD → Option Nat
  | .s2 c _ => some c
  | .s3 c _ => some c
  | .m4 _ c _ => some c
  | .m5 c _ => some c
  | .m6 c _ => some c
  | .m7 c _ => some c
  | .m8 c => some c
  | _ => none
def atZ (s : Oz) (o : OpV) : OD → Prop
  | .g1 c => o.k = 1 ∧ o.a = c
  | .g2 c => o.k = 1 ∧ o.a = c ∧ s.st c = 2
  | .s1 c _ => o.k = 2 ∧ o.a = c
  | .s2 c _ => o.k = 2 ∧ o.a = c ∧ s.st c = 1
  | .s3 c v => o.k = 2 ∧ o.a = c ∧ s.st c = 1 ∧ s.vl c = v
  | .s4 c => o.k = 2 ∧ o.a = c
  | .s5 c => o.k = 2 ∧ o.a = c ∧ s.st c = 2
  | .m1 q c _ _ => o.k = (if q then 4 else 3) ∧ o.a = c
  | .m2 c => (o.k = 3 ∨ o.k = 4) ∧ o.a = c ∧ s.st c = 2
  | .m3 q c _ _ => o.k = (if q then 4 else 3) ∧ o.a = c
  | .m4 q c _ => o.k = (if q then 4 else 3) ∧ o.a = c ∧ s.st c = 1
  | .m5 c _ => o.k = 3 ∧ o.a = c ∧ s.st c = 1
  | .m6 c _ => o.k = 3 ∧ o.a = c ∧ s.st c = 1
  | .m7 c x => o.k = 3 ∧ o.a = c ∧ s.st c = 1 ∧ s.vl c = x
  | .m8 c => o.k = 4 ∧ o.a = c ∧ s.st c = 1
def ansZ (s : Oz) (o : OpV) (a : Ans) : Prop :=
  (a.1 = true ∨ (o.k = 2 ∧ a.2 ≠ 0) → s.st o.a.toNat = 2 ∧ a.2 = s.vl o.a.toNat) ∧ (o.k = 4 → a.1 = false → a.2 = -6 ∨ a.2 = -4) ∧ (o.k = 3 → a.1 = false → a.2 = -4)
def fineZ (m : Nat) (o : OpV) : Prop := (o.k = 1 ∨ o.k = 2 ∨ o.k = 3 ∨ o.k = 4) ∧ 0 ≤ o.a ∧ o.a < m
def entZ (o : OpV) : OD := if o.k = 1 then .g1 o.a.toNat else if o.k = 2 then .s1 o.a.toNat o.b else if o.k = 3 then .m1 false o.a.toNat o.b (triesX o.c) else .m1 true o.a.toNat 0 (triesX o.c)
theorem ent_at {m : Nat} {s : Oz} {o : OpV} (h : fineZ m o) : onEnter m s o = (s, .inr (entZ o)) ∧ atZ s o (entZ o) ∧ holdsZ (entZ o) = none := by
  obtain ⟨hk, h0, h1⟩ := h
  have hn : ¬ (o.a < 0 ∨ (m : Int) ≤ o.a) := by omega
  have ht : o.a = (o.a.toNat : Int) := by omega
  rcases hk with hk | hk | hk | hk <;> simp [onEnter, entZ, hn, hk, atZ, holdsZ] <;> omega
def touchZ (s s' : Oz) (d : OD) : Prop := (s'.st = s.st ∧ s'.vl = s.vl) ∨ ∃ c, (holdsZ d = some c ∨ s.st c = 0) ∧ s.st c ≠ 2 ∧ ∀ c', c' ≠ c → s'.st c' = s.st c' ∧ s'.vl c' = s.vl c'
def goodZ (s : Oz) (len : Nat) : Prop := (∀ c, s.st c = 0 ∨ s.st c = 1 ∨ s.st c = 2) ∧ ∀ c, 0 ≤ s.ct c ∧ s.ct c ≤ len
def doneZ (s s' : Oz) (o : OpV) (d : OD) : Ans ⊕ OD → Prop
  | .inr d' => atZ s' o d' ∧ ∀ c', holdsZ d' = some c' → holdsZ d = some c' ∨ s.st c' = 0
  | .inl a => ansZ s' o a ∧ (o.k = 2 → a.1 = true → s.st o.a.toNat ≠ 2)
theorem good_more {s : Oz} {len : Nat} (h : goodZ s len) : goodZ s (len + 1) := ⟨h.1, fun c => by have := h.2 c; omega⟩
theorem good_st {s : Oz} {len : Nat} (h : goodZ s len) (c : Nat) (v : Int) (hv : v = 0 ∨ v = 1 ∨ v = 2) : goodZ { s with st := upd s.st c v } (len + 1) := by
  refine ⟨fun c' => ?_, fun c' => by have := h.2 c'; show 0 ≤ s.ct c' ∧ s.ct c' ≤ ((len + 1 : Nat) : Int); omega⟩
  by_cases e : c' = c
  · subst e; simpa only [upd_same] using hv
  · simpa only [upd_ne _ _ e] using h.1 c'
theorem good_vl {s : Oz} {len : Nat} (h : goodZ s len) (f : Nat → Int) : goodZ { s with vl := f } (len + 1) := ⟨h.1, fun c => by have := h.2 c; show 0 ≤ s.ct c ∧ s.ct c ≤ ((len + 1 : Nat) : Int); omega⟩
theorem touch_st {s : Oz} {d : OD} {c : Nat} {v : Int} (h1 : holdsZ d = some c ∨ s.st c = 0) (h2 : s.st c ≠ 2) : touchZ s { s with st := upd s.st c v } d := .inr ⟨c, h1, h2, fun c' e => ⟨upd_ne _ _ e, rfl⟩⟩
theorem touch_vl {s : Oz} {d : OD} {c : Nat} {v : Int} (h1 : holdsZ d = some c ∨ s.st c = 0) (h2 : s.st c ≠ 2) : touchZ s { s with vl := upd s.vl c v } d := .inr ⟨c, h1, h2, fun c' e => ⟨rfl, upd_ne _ _ e⟩⟩
theorem ans_no {s : Oz} {o : OpV} (h2 : o.k = 1) : ansZ s o (false, 0) := ⟨fun h => by simp [h2] at h, fun h => by omega, fun h => by omega⟩
theorem ans_no2 {s : Oz} {o : OpV} (h2 : o.k = 2) : ansZ s o (false, 0) := ⟨fun h => by simp at h, fun h => by omega, fun h => by omega⟩
theorem ans_yes {s : Oz} {o : OpV} {c : Nat} (hc : o.a = c) (h : s.st c = 2) {b : Bool} (hb : b = true ∨ o.k = 2) {v : Int} (hv : v = s.vl c) : ansZ s o (b, v) := by
  have e : o.a.toNat = c := by omega
  refine ⟨fun _ => by rw [e]; exact ⟨h, hv⟩, fun h4 hf => ?_, fun h3 hf => ?_⟩
  · rcases hb with hb | hb
    · rw [hb] at hf; cases hf
    · omega
  · rcases hb with hb | hb
    · rw [hb] at hf; cases hf
    · omega
theorem act_fine {s : Oz} {o : OpV} {d : OD} {len : Nat} (h : atZ s o d) (hg : goodZ s len) (hl : len < 1048576) :
    touchZ s (onAct s d).1 d ∧ goodZ (onAct s d).1 (len + 1) ∧ doneZ s (onAct s d).1 o d (onAct s d).2 := by
  cases d with
  | g1 c =>
    obtain ⟨hk, ha⟩ := h
    by_cases e : s.st c = 2
    · simp only [onAct, e, if_true]
      exact ⟨.inl ⟨rfl, rfl⟩, good_more hg, ⟨hk, ha, e⟩, fun c' h => by simp [holdsZ] at h⟩
    · simp only [onAct, e, if_false]
      exact ⟨.inl ⟨rfl, rfl⟩, good_more hg, ans_no hk, fun h2 => by omega⟩
  | g2 c =>
    obtain ⟨hk, ha, hs⟩ := h
    exact ⟨.inl ⟨rfl, rfl⟩, good_more hg, ans_yes ha hs (.inl rfl) rfl, fun h2 => by omega⟩
  | s1 c v =>
    obtain ⟨hk, ha⟩ := h
    by_cases e : s.st c = 0
    · simp only [onAct, e, if_true]
      exact ⟨touch_st (.inr e) (by omega), good_st hg c 1 (.inr (.inl rfl)), ⟨hk, ha, upd_same ..⟩, fun c' h => by simp only [holdsZ, Option.some.injEq] at h; exact .inr (h ▸ e)⟩
    · simp only [onAct, e, if_false]
      exact ⟨.inl ⟨rfl, rfl⟩, good_more hg, ⟨hk, ha⟩, fun c' h => by simp [holdsZ] at h⟩
  | s2 c v =>
    obtain ⟨hk, ha, hs⟩ := h
    exact ⟨touch_vl (.inl rfl) (by omega), good_vl hg _, ⟨hk, ha, hs, upd_same ..⟩, fun c' h => .inl h⟩
  | s3 c v =>
    obtain ⟨hk, ha, hs, hv⟩ := h
    refine ⟨touch_st (.inl rfl) (by omega), good_st hg c 2 (.inr (.inr rfl)), ans_yes ha (upd_same ..) (.inl rfl) hv.symm, fun _ _ => ?_⟩
    have e : o.a.toNat = c := by omega
    rw [e, hs]
    decide
  | s4 c =>
    obtain ⟨hk, ha⟩ := h
    by_cases e : s.st c = 2
    · simp only [onAct, e, if_true]
      exact ⟨.inl ⟨rfl, rfl⟩, good_more hg, ⟨hk, ha, e⟩, fun c' h => by simp [holdsZ] at h⟩
    · simp only [onAct, e, if_false]
      exact ⟨.inl ⟨rfl, rfl⟩, good_more hg, ans_no2 hk, fun _ h => by cases h⟩
  | s5 c =>
    obtain ⟨hk, ha, hs⟩ := h
    exact ⟨.inl ⟨rfl, rfl⟩, good_more hg, ans_yes ha hs (.inr hk) rfl, fun _ h => by cases h⟩
  | m1 q c v n =>
    obtain ⟨hk, ha⟩ := h
    by_cases e : s.st c = 2
    · simp only [onAct, e, if_true]
      exact ⟨.inl ⟨rfl, rfl⟩, good_more hg, ⟨by cases q <;> simp at hk <;> omega, ha, e⟩, fun c' h => by simp [holdsZ] at h⟩
    · simp only [onAct, e, if_false]
      exact ⟨.inl ⟨rfl, rfl⟩, good_more hg, ⟨hk, ha⟩, fun c' h => by simp [holdsZ] at h⟩
  | m2 c =>
    obtain ⟨hk, ha, hs⟩ := h
    exact ⟨.inl ⟨rfl, rfl⟩, good_more hg, ans_yes ha hs (.inl rfl) rfl, fun h2 => by omega⟩
  | m3 q c v n =>
    obtain ⟨hk, ha⟩ := h
    by_cases e : s.st c = 0
    · simp only [onAct, e, if_true]
      exact ⟨touch_st (.inr e) (by omega), good_st hg c 1 (.inr (.inl rfl)), ⟨hk, ha, upd_same ..⟩, fun c' h => by simp only [holdsZ, Option.some.injEq] at h; exact .inr (h ▸ e)⟩
    · by_cases hn : n ≤ 1
      · simp only [onAct, e, hn, if_true, if_false]
        refine ⟨.inl ⟨rfl, rfl⟩, good_more hg, ⟨fun h => ?_, fun _ _ => .inr rfl, fun _ _ => rfl⟩, fun _ h => by cases h⟩
        have h2 : o.k = 2 := by simpa using h
        cases q <;> simp at hk <;> omega
      · simp only [onAct, e, hn, if_false]
        exact ⟨.inl ⟨rfl, rfl⟩, good_more hg, ⟨hk, ha⟩, fun c' h => by simp [holdsZ] at h⟩
  | m4 q c v =>
    obtain ⟨hk, ha, hs⟩ := h
    refine ⟨.inl ⟨rfl, rfl⟩, ⟨hg.1, fun c' => ?_⟩, ?_⟩
    · show 0 ≤ upd s.ct c (IntKind.i64.wrap (s.ct c + 1)) c' ∧ upd s.ct c (IntKind.i64.wrap (s.ct c + 1)) c' ≤ ((len + 1 : Nat) : Int)
      have h1 := hg.2 c
      have h2 := hg.2 c'
      have hw : IntKind.i64.wrap (s.ct c + 1) = s.ct c + 1 := by rw [IntKind.wrap_i64]; omega
      by_cases e : c' = c
      · subst e
        rw [upd_same, hw]
        omega
      · rw [upd_ne _ _ e]
        omega
    · cases q
      · exact ⟨⟨hk, ha, hs⟩, fun c' h => .inl h⟩
      · exact ⟨⟨hk, ha, hs⟩, fun c' h => .inl h⟩
  | m5 c v =>
    obtain ⟨hk, ha, hs⟩ := h
    exact ⟨.inl ⟨rfl, rfl⟩, good_more hg, ⟨hk, ha, hs⟩, fun c' h => .inl h⟩
  | m6 c x =>
    obtain ⟨hk, ha, hs⟩ := h
    exact ⟨touch_vl (.inl rfl) (by omega), good_vl hg _, ⟨hk, ha, hs, upd_same ..⟩, fun c' h => .inl h⟩
  | m7 c x =>
    obtain ⟨hk, ha, hs, hv⟩ := h
    exact ⟨touch_st (.inl rfl) (by omega), good_st hg c 2 (.inr (.inr rfl)), ans_yes ha (upd_same ..) (.inl rfl) hv.symm, fun h2 => by omega⟩
  | m8 c =>
    obtain ⟨hk, ha, hs⟩ := h
    refine ⟨touch_st (.inl rfl) (by omega), good_st hg c 0 (.inl rfl), ⟨fun h => ?_, fun _ _ => .inl rfl, fun h3 => by omega⟩, fun _ h => by cases h⟩
    have h2 : o.k = 2 := by simpa using h
    omega
theorem holds_st {s : Oz} {o : OpV} {d : OD} {c : Nat} (h : atZ s o d) (hh : holdsZ d = some c) : s.st c = 1 := by
  cases d <;> simp only [holdsZ, Option.some.injEq, reduceCtorEq] at hh <;> subst hh
  · exact h.2.2
  · exact h.2.2.1
  · exact h.2.2
  · exact h.2.2
  · exact h.2.2
  · exact h.2.2.1
  · exact h.2.2
theorem ans_keep {s s' : Oz} {o : OpV} {a : Ans} {d : OD} (ht : touchZ s s' d) (h : ansZ s o a) : ansZ s' o a := by
  refine ⟨fun hh => ?_, h.2⟩
  obtain ⟨h1, h2⟩ := h.1 hh
  rcases ht with ⟨e1, e2⟩ | ⟨c, _, hn, hf⟩
  · rw [e1, e2]; exact ⟨h1, h2⟩
  · have e : o.a.toNat ≠ c := fun e => hn (e ▸ h1)
    rw [(hf _ e).1, (hf _ e).2]
    exact ⟨h1, h2⟩
theorem at_keep {s s' : Oz} {o : OpV} {d d' : OD} (ht : touchZ s s' d) (h : atZ s o d') (hu : ∀ c, holdsZ d = some c → holdsZ d' = some c → False) : atZ s' o d' := by
  rcases ht with ⟨e1, e2⟩ | ⟨c, hc, hn, hf⟩
  · cases d' <;> simp only [atZ, e1, e2] at h ⊢ <;> exact h
  · have hne : ∀ c', s.st c' = 2 → s'.st c' = 2 := fun c' h2 => by rw [(hf c' fun e => hn (e ▸ h2)).1]; exact h2
    have hno : ∀ c', holdsZ d' = some c' → c' ≠ c := fun c' h' e => by
      subst e
      rcases hc with hc | hc
      · exact hu _ hc h'
      · have := holds_st h h'
        omega
    cases d' with
    | g1 c' => exact h
    | g2 c' => exact ⟨h.1, h.2.1, hne _ h.2.2⟩
    | s1 c' v => exact h
    | s2 c' v => exact ⟨h.1, h.2.1, by rw [(hf _ (hno _ rfl)).1]; exact h.2.2⟩
    | s3 c' v => exact ⟨h.1, h.2.1, by rw [(hf _ (hno _ rfl)).1]; exact h.2.2.1, by rw [(hf _ (hno _ rfl)).2]; exact h.2.2.2⟩
    | s4 c' => exact h
    | s5 c' => exact ⟨h.1, h.2.1, hne _ h.2.2⟩
    | m1 q c' v n => exact h
    | m2 c' => exact ⟨h.1, h.2.1, hne _ h.2.2⟩
    | m3 q c' v n => exact h
    | m4 q c' v => exact ⟨h.1, h.2.1, by rw [(hf _ (hno _ rfl)).1]; exact h.2.2⟩
    | m5 c' v => exact ⟨h.1, h.2.1, by rw [(hf _ (hno _ rfl)).1]; exact h.2.2⟩
    | m6 c' x => exact ⟨h.1, h.2.1, by rw [(hf _ (hno _ rfl)).1]; exact h.2.2⟩
    | m7 c' x => exact ⟨h.1, h.2.1, by rw [(hf _ (hno _ rfl)).1]; exact h.2.2.1, by rw [(hf _ (hno _ rfl)).2]; exact h.2.2.2⟩
    | m8 c' => exact ⟨h.1, h.2.1, by rw [(hf _ (hno _ rfl)).1]; exact h.2.2⟩
end Go.Proofs.Ytdcjgmlgmjjogaa
