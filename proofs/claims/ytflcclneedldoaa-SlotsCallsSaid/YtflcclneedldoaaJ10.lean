/- Part 10. -/
import Derived.Test.YtflcclneedldoaaJ2
import Derived.Test.YtflcclneedldoaaJ3
import Derived.Test.YtflcclneedldoaaJ4
import Derived.Test.YtflcclneedldoaaJ9
import Derived.Conc.AtomicLaws2
import Derived.Laws.CopyRow
set_option linter.unusedSimpArgs false
set_option linter.unusedVariables false
set_option maxHeartbeats 8000000
set_option maxRecDepth 100000
namespace Go.Proofs.Ytflcclneedldoaa
open Go.Conc Go.RowKit Go.Relay Try
open Go.ConcN (upd upd_ne upd_same)
section
variable {L : La} {sv : Value}
def FzE (K : Lg L sv) (e0 : K.E) : Type := { e : K.E // ∀ b, K.mine e0 b -> K.mine e b /\ (K.w e).heap[b]? = (K.w e0).heap[b]? }
def FzB (K : Lg L sv) (e0 : K.E) : Lb L where
 main := K.main
 E := FzE K e0
 V := fun e => K.V e.1
 Stop := fun e => K.Stop e.1
 bot := fun e => K.bot e.1
 w := fun e => K.w e.1
 s := fun e => K.s e.1
 gh := fun e => K.gh e.1
 tgt := fun e => K.tgt e.1
 fuel := fun e => K.fuel e.1
 mine := fun e b => K.mine e.1 b /\ ¬ K.mine e0 b
def Fz (K : Lg L sv) (e0 : K.E) : Lg L sv where
 toLb := FzB K e0
 inv := fun e => K.inv e.1
 shA := fun e => K.shA e.1
 mineA := fun e b h => K.mineA e.1 b h.1
 newA := fun e => K.newA e.1
 one := K.one
 mg := fun e y' s' w' h0 h1 h2 h3 h4 => by
  have hz : ∀ b, K.mine e0 b -> b < (K.w e.1).heap.size /\ w'.heap[b]? = (K.w e.1).heap[b]? := fun b h => by
   have hm := K.mineA e.1 b (e.2 b h).1
   exact ⟨hm.2.2, h2 b hm.2.2 (fun x => x.2 h) hm.2.1⟩
  have hn : ∀ b, K.mine e0 b -> ¬ L.sh y' b := fun b h hs => by
   have hm := K.mineA e.1 b (e.2 b h).1
   rcases h4 b hs with x | x | x
   ·exact hm.2.1 x
   ·exact x.2 h
   ·have : (K.w e.1).heap.size <= b := x
    have := hm.2.2; omega
  obtain ⟨e', m⟩ := K.mg e.1 y' s' w' h0 h1 (fun b hb hn hs => h2 b hb (fun x => hn x.1) hs) h3 (fun b h => (h4 b h).imp id fun x => x.imp (fun x => x.1) id)
  refine ⟨⟨e', fun b h => ⟨(m.mine b).2 ⟨.inl (e.2 b h).1, hn b h⟩, ?_⟩⟩, m.V, m.Stop, m.bot, m.w, m.s, m.gh, m.tgt, m.fuel, fun b => ?_⟩
  ·rw [m.w]; exact (hz b h).2.trans (e.2 b h).2
  ·show (K.mine e' b /\ ¬ K.mine e0 b) ↔ ((K.mine e.1 b /\ ¬ K.mine e0 b) ∨ ((K.w e.1).heap.size <= b /\ b < w'.heap.size)) /\ ¬ L.sh y' b
   rw [m.mine]
   constructor
   ·rintro ⟨⟨h | h, hs⟩, hn⟩
    ·exact ⟨.inl ⟨h, hn⟩, hs⟩
    ·exact ⟨.inr h, hs⟩
   ·rintro ⟨⟨h, hn⟩ | h, hs⟩
    ·exact ⟨⟨.inl h, hs⟩, hn⟩
    ·exact ⟨⟨.inr h, hs⟩, fun hn => by have := (hz b hn).1; omega⟩
 step := fun e d ht fr l hp hl hk => by
  refine K.step e.1 d ht fr l hp hl fun e' ha => ?_
  refine hk ⟨e', fun b h => ?_⟩ ⟨ha.tgt, ha.fuel, ha.le, ha.size, fun b hb => ⟨⟨(ha.mine b hb.1).1, hb.2⟩, (ha.mine b hb.1).2⟩⟩
  have hm := ha.mine b (e.2 b h).1
  exact ⟨hm.1, hm.2.trans (e.2 b h).2⟩
def fz0 (K : Lg L sv) (e : K.E) : (Fz K e).E := ⟨e, fun _ h => ⟨h, rfl⟩⟩
def Ml (K : Lg L sv) (e e' : K.E) : Prop := ∀ b, K.mine e b -> K.mine e' b /\ (K.w e').heap[b]? = (K.w e).heap[b]?
theorem Db (K : Lg L sv) {e : K.E} {f : FuncId} {args : Array Value} {Q : Value -> (Fz K e).E -> Prop} (h : SCall (Fz K e).toLb f args (fz0 K e) Q) : SCall K.toLb f args e (fun v e' => ∃ h : Ml K e e', Q v ⟨e', h⟩) := fun fr l hp hl hk =>
 h fr l hp hl fun v e' hq => hk v e'.1 ⟨e'.2, hq⟩
theorem Mv.new {K : Lg L sv} {e e' : K.E} {s' : L.Sg} {w' : World} (m : Mv K.toLb e e' s' w') {b : Nat} (h1 : (K.w e).heap.size <= b) (h2 : b < w'.heap.size) : K.mine e' b := (m.mine b).2 (.inr ⟨h1, h2⟩)
theorem Lg.grow (K : Lg L sv) (e : K.E) {w' : World} (hs : (K.w e).heap.size <= w'.heap.size) (hb : ∀ b, b < (K.w e).heap.size -> w'.heap[b]? = (K.w e).heap[b]?) : ∃ e', Mv K.toLb e e' (K.s e) w' :=
 K.mv e (K.s e) w' hs (fun b h _ _ => hb b h) (L.stable (K.inv e) fun b h => hb b (L.lt (K.inv e) h))
theorem Lg.own (K : Lg L sv) (e : K.E) {w' : World} (hs : (K.w e).heap.size <= w'.heap.size) (hb : ∀ b, b < (K.w e).heap.size -> ¬ K.mine e b -> w'.heap[b]? = (K.w e).heap[b]?) : ∃ e', Mv K.toLb e e' (K.s e) w' :=
 K.mv e (K.s e) w' hs (fun b h hm _ => hb b h hm) (L.stable (K.inv e) fun b h => hb b (L.lt (K.inv e) h) fun hm => (K.mineA e b hm).2.1 h)
theorem Ak {b : Frame} {A : Array Value} {todo : List Item} {cs : List Frame} {F : (Nat -> Value) -> Goroutine} (h : G (b.at ⟨A, []⟩ todo) cs = F (fun k => A.getD k undef)) : ∃ u, G (b.at ⟨A, []⟩ todo) cs = F u := ⟨_, h⟩
theorem Fm {P : Program} {main : Bool} {D : World -> World -> Array Event -> Prop} {Stop : Goroutine -> World -> Prop} {b : Frame} {A : Array Value} {todo : List Item} {cs : List Frame} {w : World} {F : (Nat -> Value) -> Goroutine} (h : ∀ u, Walk P main D Stop (F u) w) (e : G (b.at ⟨A, []⟩ todo) cs = F (fun k => A.getD k undef)) : Walk P main D Stop (G (b.at ⟨A, []⟩ todo) cs) w := e ▸ h _
theorem Walk.finish {P : Program} {main : Bool} {D : World -> World -> Array Event -> Prop} {Stop : Goroutine -> World -> Prop} {w : World} {b : Frame} {a : Act} {k : List Item} {cs : List Frame} {ops : Array Oper} {i : Nat} {rest : List Nat} {o : Oper} {v : Value} (ho : ops[i]? = some o)
  (h : Walk P main D Stop (G (b.at (a.put o.dst v) (.inRegion ops rest :: k)) cs) w) : Walk P main D Stop (G ((b.at a (.inRegion ops (i :: rest) :: k)).finish v) cs) w := by
 rw [Frame.finish_at, ho]
 exact h
theorem Gb {K : Lb L} {e e' : K.E} {s' : L.Sg} {w' : World} {fr : Frame} {l : List Frame} (m : Mv K e e' s' w') (h : LW K e' (G fr (l ++ K.bot e'))) : Walk prog K.main (DR (K.V e)) (K.Stop e) (G fr (l ++ K.bot e)) w' := by
 rw [m.bot] at h
 exact LW.mv m h
end
theorem Ci (t : TypeId) (h : (match prog.underlying t with | some (.struct _) => true | _ => false) = true) : ∃ fs, prog.underlying t = some (.struct fs) := by
 revert h
 cases prog.underlying t with
 | none => simp
 | some d =>
  cases d with
  | struct fs => exact fun _ => ⟨fs, rfl⟩
  | _ => simp
section
variable {P : Program} {w : World}
theorem run_eql_func (t : TypeId) (f : Fn) (x y : Array Value) {a b c} (hu : P.underlying t = some (.func a b c)) : (binOp .eql t (.func f x y) .nilFunc).run P w = .ok (.bool false) w := by
 simp only [binOp]
 simp [Op.equal, Op.maxDepth, Et (w := w) 9999 t f x y hu]
theorem ev_eql_func (t : TypeId) (f : Fn) (x y : Array Value) (es : Array Event) {a b c} (hu : P.underlying t = some (.func a b c)) : (binOp .eql t (.func f x y) .nilFunc).events P w es = es := by
 simp only [binOp]
 simp [Op.equal, Op.maxDepth, Et (w := w) 9999 t f x y hu, Kn (w := w) 9999 t f x y es hu]
theorem Fv (d : Nat) (t : TypeId) {e} (hu : P.underlying t = some (.slice e)) : (Op.equalIn (d + 1) t (.slice none 0 0) (.slice none 0 0)).run P w = .ok true w := by simp [Op.equalIn, run_underlying hu]
theorem ev_eqIn_nilSlice (d : Nat) (t : TypeId) (es : Array Event) {e} (hu : P.underlying t = some (.slice e)) : (Op.equalIn (d + 1) t (.slice none 0 0) (.slice none 0 0)).events P w es = es := by simp [Op.equalIn, run_underlying hu]
theorem run_eql_nilSlice (t : TypeId) {e} (hu : P.underlying t = some (.slice e)) : (binOp .eql t (.slice none 0 0) (.slice none 0 0)).run P w = .ok (.bool true) w := by
 simp only [binOp]
 simp [Op.equal, Op.maxDepth, Fv (w := w) 9999 t hu]
theorem ev_eql_nilSlice (t : TypeId) (es : Array Event) {e} (hu : P.underlying t = some (.slice e)) : (binOp .eql t (.slice none 0 0) (.slice none 0 0)).events P w es = es := by
 simp only [binOp]
 simp [Op.equal, Op.maxDepth, Fv (w := w) 9999 t hu, ev_eqIn_nilSlice (w := w) 9999 t es hu]
end
theorem Kc {fn : Func} {tmps : Array Value} {t : Tmp} {ty tt : TypeId} {T : Nat} {cells : Array Value} {w : World} {V : Nat -> Option Wait} (hr : fn.results = #[.cell t ty]) (h8 : tmps.getD t undef = .pointer (some ⟨T, 0, none⟩)) (hT : w.heap[T]? = some (.cells cells tt (0, 0)))
  {fs} (hu : prog.underlying ty = some (.struct fs)) (hi : (prog.info? ty).map (·.size) = some cells.size) :
  (results fn tmps).run prog w = .ok (.agg cells) w /\ ∀ e ∈ (results fn tmps).events prog w #[], Je V e := by
 have hl := run_loadVar_row (P := prog) w T tt ty cells (0, 0) _ hT hu rfl hi
 have he := Dh (P := prog) w ⟨T, 0, none⟩ ty hu rfl hi
 simp only [Array.getD_eq_getD_getElem?] at h8
 constructor
 ·simp only [results, hr]
  simp [h8, asAddr, hl]
 ·intro e hm
  refine Fr (he e ?_)
  simp only [results, hr] at hm
  simpa [h8, asAddr, hl] using hm
theorem Bv {main : Bool} {V : Nat -> Option Wait} {Stop : Goroutine -> World -> Prop} {fr c : Frame} {cs : List Frame} {w : World} {fn : Func} {t : Tmp} {ty tt : TypeId} {T : Nat} {cells : Array Value} (hm : fr.mode = .returning) (hn : fr.kind = .normal) (hd : fr.defers = []) (hf : prog.funcs[fr.fn]? = some fn)
  (hr : fn.results = #[.cell t ty]) (h8 : fr.tmps.getD t undef = .pointer (some ⟨T, 0, none⟩)) (hT : w.heap[T]? = some (.cells cells tt (0, 0))) (hs : (match prog.underlying ty with | some (.struct _) => true | _ => false) = true) (hi : (prog.info? ty).map (·.size) = some cells.size)
  (h : Walk prog main (DR V) Stop (G (c.finish (.agg cells)) cs) w) : Walk prog main (DR V) Stop (G fr (c :: cs)) w := by
 obtain ⟨fs, hu⟩ := Ci ty hs
 exact Ox (fun x => seen prog fr.fn ((results fn fr.tmps).events prog (w.at x) #[])) rfl (fun x => Jx hm hn hd hf (Kc (V := V) (w := w.at x) hr h8 hT hu hi).1)
  (fun x e he => (Kc (V := V) (w := w.at x) hr h8 hT hu hi).2 e (mem_seen he)) h
section
variable {P : Program}
theorem Dv (d : Nat) (t : TypeId) {e} (hu : P.underlying t = some (.slice e)) (a : Addr) (n c : Nat) (w : World) (es : Array Event) : (Op.equalIn (d + 1) t (.slice (some a) n c) (.slice none 0 0)).run P w = .ok false w /\ (Op.equalIn (d + 1) t (.slice (some a) n c) (.slice none 0 0)).events P w es = es := by
 constructor <;> simp [Op.equalIn, run_underlying hu]
theorem Kb (t : TypeId) {e} (hu : P.underlying t = some (.slice e)) (a : Addr) (n c : Nat) (w : World) : (binOp .eql t (.slice (some a) n c) (.slice none 0 0)).run P w = .ok (.bool false) w := by
 simp only [binOp]
 simp [Op.equal, Op.maxDepth, (Dv 9999 t hu a n c w #[]).1]
theorem ev_eql_someSlice (t : TypeId) {e} (hu : P.underlying t = some (.slice e)) (a : Addr) (n c : Nat) (w : World) (es : Array Event) : (binOp .eql t (.slice (some a) n c) (.slice none 0 0)).events P w es = es := by
 simp only [binOp]
 simp [Op.equal, Op.maxDepth, (Dv 9999 t hu a n c w #[]).1, (Dv 9999 t hu a n c w es).2]
theorem run_app0 {t e : TypeId} {ti : TypeInfo} (hu : P.underlying t = some (.slice e)) (hi : P.info? e = some ti) (ty : TypeId) (a : Addr) (x : Option Addr) (c : Nat) (w : World) (es : Array Event) : (Builtin.append_ #[t, t] ty #[.slice (some a) 0 0, .slice x 0 c]).run P w = .ok (.slice (some a) 0 0) w /\ (Builtin.append_ #[t, t] ty #[.slice (some a) 0 0, .slice x 0 c]).events P w es = es := by
 constructor <;> cases x <;> simp [Builtin.append_, run_underlying hu, sizeOf, typeInfo, hi, Builtin.lenOf, Builtin.firstCells, loadCells] <;> rfl
end
section
variable {main : Bool} {V : Nat -> Option Wait}
noncomputable def reg200_0 := rk f200.body 0
noncomputable def reg200_1 := rk f200.body 1
noncomputable def reg200_2 := rk f200.body 2
noncomputable def reg200_3 := rk f200.body 3
theorem z200 : reg200_0.size = 1 /\ reg200_1.size = 2 /\ reg200_2.size = 1 /\ reg200_3.size = 4 := by and_intros <;> kernel_rfl
theorem code200_is : f200.body = some (.seq (.region 0 reg200_0 false) (.seq (.seq (.region 1 reg200_1 false) (.cond (.tmp 4 ) (.seq (.region 2 reg200_2 false) (.ret)) (.skip))) (.seq (.region 3 reg200_3 false) (.ret)))) := by kernel_rfl
theorem Ig : prog.underlying 31 = some (.slice 2) := by kernel_rfl
theorem clone_nil (w : World) : Aw prog main V 200 #[.slice none 0 0] w (.slice none 0 0) w := by
 have hn1 := fun w => run_eql_nilSlice (P := prog) (w := w) 31 Ig
 have hn2 := fun w es => ev_eql_nilSlice (P := prog) (w := w) 31 es Ig
 refine Aq func200 code200_is fun fr cs => ?_
 simp only [ntmps200, ez, Nat.reduceAdd, Nat.reduceSub]
 refine Aa z200 ?_
 exact Ar rfl rfl func200 rfl fun d => ⟨rfl, d, rfl⟩
theorem clone_some (w : World) (a : Addr) (c : Nat) (l : List Int) (h63 : l.length <= 1048576) (hA : ∀ b, w.heap.size <= b -> Az V b) (hcells : ∀ (j : Nat) (z : Int), l[j]? = some z -> ∃ b off, some a = some ⟨b, off, none⟩ /\ w.cell? ⟨b, off + j, none⟩ = some (.int .i64 z)) :
  CallW prog main V 200 #[.slice (some a) l.length c] w (fun v w' => LsAt w.heap.size (fun b => w.heap.size <= b /\ b < w'.heap.size) v l w' /\ w.heap.size <= w'.heap.size /\ ∀ b, b < w.heap.size -> w'.heap[b]? = w.heap[b]?) := by
 have hi1 := Option.some_get (show (prog.info? 2).isSome = true by kernel_rfl)
 have hn1 := fun w => Kb (P := prog) 31 Ig a l.length c w
 have hn2 := fun w es => ev_eql_someSlice (P := prog) 31 Ig a l.length c w es
 refine Aq func200 code200_is fun fr cs => ?_
 simp only [ntmps200, ez, Nat.reduceAdd, Nat.reduceSub]
 refine Aa z200 ?_
 (refine Wa ?_; try walk_nrm)
 have s1 : (w.alloc (.cells #[] 2)).heap.size = w.heap.size + 1 := by simp
 have o1 : ∀ b, b < w.heap.size -> (w.alloc (.cells #[] 2)).heap[b]? = w.heap[b]? := fun b hb => Ad _ _ hb
 have hown : (w.alloc (.cells #[] 2)).ownsRow w.heap.size 2 1 (.slice (some ⟨w.heap.size, 0, none⟩) 0 0) 0 [] := World.ownsRow_made w #[] 0 (Nat.le_refl _) (by decide) (by simp)
 have hap := hA w.heap.size (Nat.le_refl _)
 have hcells1 : ∀ (j : Nat) (z : Int), l[j]? = some z -> ∃ b off, a = ⟨b, off, none⟩ /\ (w.alloc (.cells #[] 2)).cell? ⟨b, off + j, none⟩ = some (.int .i64 z) := fun j z hj => by
  obtain ⟨b, off, e, h⟩ := hcells j z hj
  exact ⟨b, off, Option.some.inj e, Aj w _ h⟩
 generalize w.alloc (.cells #[] 2) = w1 at *
 generalize hT : w.heap.size = T at *
 cases l with
 | nil =>
  have hz := fun w es => run_app0 Ig hi1.symm 31 ⟨T, 0, none⟩ (some a) c w es
  have hz1 := fun w => (hz w #[]).1
  have hz2 := fun w es => (hz w es).2
  clear hz
  refine Aa z200 ?_
  refine Ar rfl rfl func200 rfl fun d => ⟨⟨some ⟨T, 0, none⟩, 0, rfl, Nat.zero_le _, fun _ => ⟨As hown fun _ _ => rfl, fun b hb => ?_⟩⟩, ?_, o1⟩
  ·have hb : some T = some b := hb
   obtain rfl := Option.some.inj hb
   exact ⟨Nat.le_refl _, show T < w1.heap.size by omega⟩
  ·show T <= w1.heap.size
   omega
 | cons z l =>
  obtain ⟨b, off, rfl, _⟩ := hcells1 0 z rfl
  refine Aa z200 ?_
  refine Walk.append (.tmp 5) (.tmp 6) 31 Ah (by rfl) (by decide) rfl T 2 _ (.int .i64 0) 1 8 Ig hi1.symm (by rfl) (by rfl) (by rfl) (by rfl) (by decide) (.slice (some ⟨T, 0, none⟩) 0 0) 0 [] rfl hown ⟨b, off, none⟩ (z :: l).length c ((z :: l).map fun z => .int .i64 z) rfl (by simp) (fun j u hu => ?_) (fun u hu => ?_) (by simp) (by simp only [maxLen]; omega) (by omega) (by omega) (fun g hg => ?_) (fun g cap w' hown' hgr hat hlt => ?_)
  ·rw [List.getElem?_map, Option.map_eq_some_iff] at hu
   obtain ⟨y, hy, rfl⟩ := hu
   obtain ⟨b', off', e, h⟩ := hcells1 j y hy
   obtain ⟨rfl, rfl, _⟩ := Addr.mk.inj e
   rw [Bs]; exact h
  ·obtain ⟨y, _, rfl⟩ := List.mem_map.1 hu
   rfl
  ·simp only [Value.ownBlock, Option.some.injEq] at hg
   rw [<- hg]; exact hap
  ·walk_nrm
   refine Aa z200 ?_
   have hgT : T <= g := by
    rcases hat with h | h
    ·simp only [Value.ownBlock, Option.some.injEq] at h
     omega
    ·omega
   refine Ar rfl rfl func200 rfl fun d => ⟨⟨some ⟨g, 0, none⟩, cap, by simp, h63, fun _ => ⟨?_, fun b' hb' => ?_⟩⟩, ?_, fun b' hb' => ?_⟩
   ·have h := hown'
    simp only [Nat.zero_add, List.nil_append] at h
    exact As h fun _ _ => rfl
   ·have hb' : some g = some b' := hb'
    obtain rfl := Option.some.inj hb'
    exact ⟨hgT, hlt⟩
   ·show T <= w'.heap.size
    have := hgr.size; omega
   ·exact (hgr.block b' (by omega) (by simp [Value.ownBlock]; omega)).trans (o1 b' hb')
theorem clone_w (w : World) (sl : Value) (l : List Int) (hl : LsR sl l w) (h63 : l.length <= 1048576) (hA : ∀ b, w.heap.size <= b -> Az V b) :
  CallW prog main V 200 #[sl] w (fun v w' => LsAt w.heap.size (fun b => w.heap.size <= b /\ b < w'.heap.size) v l w' /\ w.heap.size <= w'.heap.size /\ ∀ b, b < w.heap.size -> w'.heap[b]? = w.heap[b]?) := by
 obtain ⟨a, c, rfl, hc, hn, hcells⟩ := hl
 cases a with
 | none =>
  obtain rfl := hn rfl
  have h0 : l.length = 0 := Nat.le_zero.1 hc
  rw [h0]
  intro fr cs
  refine (clone_nil w fr cs).mono ?_
  rintro g w' ⟨v, ⟨rfl, d, rfl⟩, rfl⟩
  exact ⟨_, ⟨⟨none, 0, by rw [h0], by omega, fun _ => ⟨by rw [List.eq_nil_of_length_eq_zero h0]; exact ⟨rfl, .inl ⟨rfl, rfl⟩⟩, fun b h => by simp [Value.ownBlock] at h⟩⟩, Nat.le_refl _, fun _ _ => rfl⟩, rfl⟩
 | some a => exact clone_some w a c l h63 hA hcells
end
theorem Ba {w : World} {g : Nat} {old cells : Array Value} {tt : TypeId} {fr : Nat × Nat} (h : w.heap[g]? = some (.cells old tt fr)) : (w.setRow g cells).heap[g]? = some (.cells cells tt fr) := setRow_heap w g old cells tt fr h
theorem Ap (w : World) {g b : Nat} (cells : Array Value) (h : b ≠ g) : (w.setRow g cells).heap[b]? = w.heap[b]? := by
 unfold World.setRow
 simp only [Array.getElem?_modify]
 rw [if_neg (Ne.symm h)]
theorem Ay (w : World) (g : Nat) (cells : Array Value) : (w.setRow g cells).heap.size = w.heap.size := by
 unfold World.setRow
 simp
section
variable {main : Bool} {V : Nat -> Option Wait}
theorem Walk.turn {P : Program} {Stop : Goroutine -> World -> Prop} {g g' : Goroutine} {w W : World} {es : Array Event} (hr : g.status = .running) (hs : ∀ d, stepG P main g (w.at d) = .go g' (W.at d) es) (hd : ∀ d, DR V (w.at d) (W.at d) es) (h : Walk P main (DR V) Stop g' W) : Walk P main (DR V) Stop g w :=
 Walk.step hr (fun _ => g') (fun d => W.at d) (fun _ => es) hs hd (fun d => h.back d)
theorem atLoad (b q : Nat) (v : Int) (w : World) (hc : w.cell? ⟨b, q, none⟩ = some (.int .i64 v)) : Aw prog main V 239 #[.pointer (some ⟨b, q, none⟩)] w (.int .i64 v) w := by
 refine Aq func239 rfl fun fr cs => ?_
 simp only [ntmps239, ez, Nat.reduceAdd, Nat.reduceSub]
 refine Ae ?_
 refine Ox (fun _ => #[⟨.cell ⟨b, q, none⟩, false, true⟩]) rfl (fun d => stepG_load_atomic (w := w.at d) rfl (by rfl) (by decide) rfl func240 (by kernel_rfl) (by rfl) (by kernel_rfl) .i64 (by kernel_rfl) rfl hc) (fun d e he => by simp at he; subst he; exact Da _ _) ?_
 walk_nrm
 refine Ae ?_
 exact Ar rfl rfl func239 rfl fun d => ⟨rfl, d, rfl⟩
theorem atStore (b q : Nat) (u : Value) (v : Int) (w : World) (hc : w.cell? ⟨b, q, none⟩ = some u) (hz : w.frozen? ⟨b, q, none⟩ = false) (hf : Dm V ⟨b, q, none⟩) : Aw prog main V 113 #[.pointer (some ⟨b, q, none⟩), .int .i64 v] w (.tuple #[]) (w.setCell ⟨b, q, none⟩ (.int .i64 v)) := by
 refine Aq func113 rfl fun fr cs => ?_
 simp only [ntmps113, ez, Nat.reduceAdd, Nat.reduceSub]
 refine Ae ?_
 refine Walk.turn (W := w.setCell ⟨b, q, none⟩ (.int .i64 v)) rfl (fun d => stepG_store_atomic (w := w.at d) rfl (by rfl) (by decide) rfl func156 (by kernel_rfl) (by rfl) (by kernel_rfl) (by kernel_rfl) rfl rfl hc hz) (fun d => Qo hf hc d _ (fun e he => by simp at he; subst he; exact Jb _ _ hf)) ?_
 walk_nrm
 refine Ae ?_
 exact Jd rfl rfl func113 rfl fun d => ⟨rfl, d, rfl⟩
end
structure Wd (L : La) where
 on : L.Gh -> Prop
 up : ∀ {y y' : L.Gh}, L.le y y' -> on y -> on y'
 b : Nat
 q : Nat
 get : L.Sg -> Int
 put : L.Sg -> Int -> L.Sg
 ok : Int -> Prop
 sh : ∀ y, on y -> L.sh y b
 rd : ∀ y s w, on y -> L.I y s w -> w.cell? ⟨b, q, none⟩ = some (.int .i64 (get s)) /\ w.frozen? ⟨b, q, none⟩ = false
 wr : ∀ y s w v, on y -> ok v -> L.I y s w -> L.I y (put s v) (w.setCell ⟨b, q, none⟩ (.int .i64 v))
def Wd.p {L : La} (W : Wd L) : Value := .pointer (some ⟨W.b, W.q, none⟩)
noncomputable def reg139_0 := rk f139.body 0
noncomputable def reg139_1 := rk f139.body 1
noncomputable def reg139_2 := rk f139.body 2
theorem z139 : reg139_0.size = 1 /\ reg139_1.size = 2 /\ reg139_2.size = 4 := by and_intros <;> kernel_rfl
theorem code139_is : f139.body = some (.seq (.region 0 reg139_0 false) (.seq (.region 1 reg139_1 false) (.seq (.region 2 reg139_2 false) (.ret)))) := by kernel_rfl
noncomputable def reg90_0 := rk f90.body 0
noncomputable def reg90_1 := rk f90.body 1
noncomputable def reg90_2 := rk f90.body 2
noncomputable def reg90_3 := rk f90.body 3
theorem z90 : reg90_0.size = 1 /\ reg90_1.size = 2 /\ reg90_2.size = 1 /\ reg90_3.size = 6 := by and_intros <;> kernel_rfl
theorem code90_is : f90.body = some (.seq (.region 0 reg90_0 false) (.seq (.seq (.region 1 reg90_1 false) (.cond (.tmp 6 ) (.seq (.region 2 reg90_2 false) (.ret)) (.skip))) (.seq (.region 3 reg90_3 false) (.ret)))) := by kernel_rfl
noncomputable def reg57_0 := rk f57.body 0
noncomputable def reg57_1 := rk f57.body 1
noncomputable def reg57_2 := rk f57.body 2
theorem z57 : reg57_0.size = 2 /\ reg57_1.size = 2 /\ reg57_2.size = 5 := by and_intros <;> kernel_rfl
theorem code57_is : f57.body = some (.seq (.seq (.region 0 reg57_0 false) (.cond (.tmp 7 ) (.ret) (.skip))) (.seq (.region 1 reg57_1 false) (.region 2 reg57_2 false))) := by kernel_rfl
section
variable {L : La} {sv : Value}
theorem step_s (K : Lg L sv) (e : K.E) (d : L.D) (ht : K.tgt e = (K.s e, .inr d)) : SCall K.toLb 112 #[sv] e (fun _ e' => Aft K.toLb e d e') := fun fr l hp hl hk => K.step e d ht fr l hp hl fun e' ha => hk _ e' ha
theorem Bc {fr : Frame} {l : List Frame} (hp : Cf fr) (hl : ∀ f ∈ l, Cf f) : ∀ f ∈ fr :: l, Cf f := fun x hx => by
 rcases List.mem_cons.1 hx with rfl | hx
 ·exact hp
 ·exact hl x hx
theorem Wd.put_mv (W : Wd L) (K : Lg L sv) (e : K.E) (v : Int) (hon : W.on (K.gh e)) (hv : W.ok v) : ∃ e', Mv K.toLb e e' (W.put (K.s e) v) ((K.w e).setCell ⟨W.b, W.q, none⟩ (.int .i64 v)) :=
 K.mv e _ _ (Nat.le_of_eq (Ai ..).symm) (fun b _ _ hs => Ac _ _ _ _ fun he : b = W.b => hs (by rw [he]; exact W.sh _ hon)) (W.wr _ _ _ v hon hv (K.inv e))
theorem holds_s (K : Lg L sv) (W : Wd L) (e : K.E) (d : L.D) (hon : W.on (K.gh e)) (ht : K.tgt e = (K.s e, .inr d)) : SCall K.toLb 139 #[sv, W.p] e (fun v e' => Aft K.toLb e d e' /\ v = .int .i64 (W.get (K.s e'))) := by
 intro fr l hp hl hk
 unfold LW Wd.p
 rw [enter_at _ func139 code139_is]
 simp only [ntmps139, ez, Nat.reduceAdd, Nat.reduceSub]
 refine Aa z139 ?_
 refine Bi (K := K.toLb) (e := e) (l := fr :: l) (f := 112) (Q := fun _ e' => Aft K.toLb e d e') ?_ Ah (by rfl) (by decide) rfl func112 (by kernel_rfl) (by rfl) ⟨rfl, rfl, _, func139⟩ (Bc hp hl) ?_
 ·walk_nrm
  exact step_s K e d ht
 intro v e' ha
 have hc := (W.rd _ _ _ (W.up ha.le hon) (K.inv e')).1
 have hi1 := Hj
 have hi2 := In
 unfold LW
 walk_nrm
 refine Aa z139 ?_
 refine Hn W.b W.q Ah (by rfl) (by decide) rfl rfl ?_
 refine (atLoad W.b W.q _ (K.w e') hc _ _).then ?_
 rintro g' w' ⟨v', ⟨rfl, dd, rfl⟩, rfl⟩
 refine Walk.back ?_ dd
 refine Walk.finish Ah ?_
 walk_nrm
 refine Aa z139 ?_
 exact Bk rfl rfl func139 rfl (hk _ e' ⟨ha, rfl⟩)
theorem word_load (K : Lg L sv) (W : Wd L) (e : K.E) (d : L.D) (hon : W.on (K.gh e)) (ht : K.tgt e = (K.s e, .inr d)) : SCall K.toLb 90 #[W.p, sv] e (fun v e' => Aft K.toLb e d e' /\ v = .int .i64 (W.get (K.s e'))) := by
 intro fr l hp hl hk
 have hh := holds_s K W e d hon ht
 unfold Wd.p at *
 unfold LW
 have hp1 := fun w => Ce (P := prog) 183 Ft (some ⟨W.b, W.q, none⟩) w
 have hp2 := fun w es => Cp (P := prog) 183 Ft (some ⟨W.b, W.q, none⟩) w es
 simp only [Option.isNone_some] at hp1
 rw [enter_at _ func90 code90_is]
 simp only [ntmps90, ez, Nat.reduceAdd, Nat.reduceSub]
 refine Aa z90 ?_
 refine Bi (K := K.toLb) (e := e) (l := fr :: l) (f := 139) (Q := fun v e' => Aft K.toLb e d e' /\ v = .int .i64 (W.get (K.s e'))) ?_ Ah (by rfl) (by decide) rfl func139 (by kernel_rfl) (by rfl) ⟨rfl, rfl, _, func90⟩ (Bc hp hl) ?_
 ·walk_nrm
  exact hh
 rintro v e' ⟨ha, rfl⟩
 unfold LW
 walk_nrm
 refine Aa z90 ?_
 exact Bk rfl rfl func90 rfl (hk _ e' ⟨ha, rfl⟩)
structure Wrote (K : Lg L sv) (e : K.E) (d : L.D) (s : L.Sg) (s' : L.Sg) (e' : K.E) : Prop where
 tgt : K.tgt e' = L.act s d
 fuel : K.fuel e' < K.fuel e
 le : L.le (K.gh e) (K.gh e')
 s : K.s e' = s'
 size : (K.w e).heap.size <= (K.w e').heap.size
 mine : ∀ b, K.mine e b -> K.mine e' b /\ (K.w e').heap[b]? = (K.w e).heap[b]?
theorem Wrote.of {K : Lg L sv} {e e1 e' : K.E} {d : L.D} {s' : L.Sg} {W : Wd L} {v : Int} (hon : W.on (K.gh e)) (ha : Aft K.toLb e d e1) (m : Mv K.toLb e1 e' s' ((K.w e1).setCell ⟨W.b, W.q, none⟩ (.int .i64 v))) : Wrote K e d (K.s e1) s' e' :=
 ⟨m.tgt.trans ha.tgt, by rw [m.fuel]; exact ha.fuel, by rw [m.gh]; exact ha.le, m.s, by rw [m.w, Ai]; exact ha.size, fun b hb => by
  obtain ⟨h1, h2⟩ := ha.mine b hb
  have hne : b ≠ W.b := fun he => (K.mineA e1 b h1).2.1 (by rw [he]; exact W.sh _ (W.up ha.le hon))
  refine ⟨(m.mine b).2 (.inl h1), ?_⟩
  rw [m.w, Ac _ _ _ _ hne]
  exact h2⟩
theorem Wrote.same {K : Lg L sv} {e e1 : K.E} {d : L.D} (ha : Aft K.toLb e d e1) : Wrote K e d (K.s e1) (K.s e1) e1 := ⟨ha.tgt, ha.fuel, ha.le, rfl, ha.size, ha.mine⟩
theorem Nd (K : Lg L sv) (W : Wd L) (e : K.E) (d : L.D) (x : Int) (hx : W.ok x) (hon : W.on (K.gh e)) (ht : K.tgt e = (K.s e, .inr d)) : SCall K.toLb 57 #[W.p, sv, .int .i64 x] e (fun _ e' => ∃ s, Wrote K e d s (W.put s x) e') := by
 intro fr l hp hl hk
 unfold Wd.p
 unfold LW
 have hp1 := fun w => Ce (P := prog) 183 Ft (some ⟨W.b, W.q, none⟩) w
 have hp2 := fun w es => Cp (P := prog) 183 Ft (some ⟨W.b, W.q, none⟩) w es
 simp only [Option.isNone_some] at hp1
 rw [enter_at _ func57 code57_is]
 simp only [ntmps57, ez, Nat.reduceAdd, Nat.reduceSub]
 refine Aa z57 ?_
 refine Bi (K := K.toLb) (e := e) (l := fr :: l) (f := 112) (Q := fun _ e' => Aft K.toLb e d e') ?_ Ah (by rfl) (by decide) rfl func112 (by kernel_rfl) (by rfl) ⟨rfl, rfl, _, func57⟩ (Bc hp hl) ?_
 ·walk_nrm
  exact step_s K e d ht
 intro v e1 ha
 obtain ⟨hc, hz⟩ := W.rd _ _ _ (W.up ha.le hon) (K.inv e1)
 obtain ⟨e', m⟩ := W.put_mv K e1 x (W.up ha.le hon) hx
 unfold LW
 walk_nrm
 refine Aa z57 ?_
 refine qV (x := .tuple #[]) (W := (K.w e1).setCell ⟨W.b, W.q, none⟩ (.int .i64 x)) func113 ?_ ?_
 ·walk_nrm
  exact atStore W.b W.q _ x (K.w e1) hc hz ((K.shA e1 _ (W.sh _ (W.up ha.le hon))).1 _ rfl)
 walk_nrm
 refine Aa z57 ?_
 exact Au rfl rfl func57 rfl (Gb m (hk _ e' ⟨K.s e1, Wrote.of hon ha m⟩))
end
structure Rg where
 st : Nat -> Int
 va : Nat -> Int
inductive RD where
 | p1 (q v : Int) | p2 (q v : Int) | p3 (q : Int) | g1 (q : Int) | g2 (q : Int) | g3 (q v : Int) | t (q : Int) | h (q l : Int) | a1 (q m : Int) (l : List Int) | a2 (q m : Int) (l : List Int) | a3 (q m : Int) (l : List Int) (v : Int)
def good (q : Int) : Prop := 0 <= q /\ q < 4611686018427387904
instance (q : Int) : Decidable (good q) := inferInstanceAs (Decidable (_ /\ _))
def Bl (n : Nat) (q : Int) : Nat := (q % n).toNat
def Bx (n : Nat) (q : Int) : Int := 2 * (q / n)
def Cj (s : Rg) (i : Nat) (x : Int) : Rg := ⟨upd s.st i x, s.va⟩
def Fa (s : Rg) (i : Nat) (x : Int) : Rg := ⟨s.st, upd s.va i x⟩
def Gg (l : List Int) (e : Int) : Ans := if l = [] then ⟨false, e, []⟩ else ⟨true, 0, l⟩
def Bt (n : Nat) (s : Rg) (_ : Int) (o : OpV) : Rg × (Ans ⊕ RD) :=
 if o.k = 1 then (s, if good o.a then .inr (.p1 o.a o.b) else .inl ⟨false, 1, []⟩)
 else if o.k = 2 then (s, if good o.a then .inr (.g1 o.a) else .inl ⟨false, 1, []⟩)
 else if o.k = 3 then (s, if good o.a then .inr (.t o.a) else .inl ⟨false, 0, []⟩)
 else if o.k = 4 then (s, if o.a = -9223372036854775808 then .inl ⟨true, o.a, []⟩ else if good o.a /\ o.a <= o.b then .inr (.h o.a (min o.b (min 4611686018427387903 (o.a + n - 1)))) else .inl ⟨true, IntKind.i64.wrap (o.a - 1), []⟩)
 else if o.k = 5 then (s, if good o.a then (if min o.b n <= 0 then .inl ⟨true, 0, []⟩ else .inr (.a1 o.a (min o.b n) [])) else .inl ⟨false, 1, []⟩)
 else (s, .inl ⟨false, 0, []⟩)
def Bd (n : Nat) (s : Rg) : RD -> Rg × (Ans ⊕ RD)
 | .p1 q v => (Cj s (Bl n q) (Bx n q - 1), .inr (.p2 q v))
 | .p2 q v => (Fa s (Bl n q) v, .inr (.p3 q))
 | .p3 q => (Cj s (Bl n q) (Bx n q), .inl ⟨true, 0, []⟩)
 | .g1 q => (s, if s.st (Bl n q) < Bx n q then .inl ⟨false, 6, []⟩ else if Bx n q < s.st (Bl n q) then .inl ⟨false, 10, []⟩ else .inr (.g2 q))
 | .g2 q => (s, .inr (.g3 q (s.va (Bl n q))))
 | .g3 q v => (s, if s.st (Bl n q) = Bx n q then .inl ⟨true, v, []⟩ else .inl ⟨false, 10, []⟩)
 | .t q => (s, .inl ⟨decide (s.st (Bl n q) = Bx n q), 0, []⟩)
 | .h q l => (s, if s.st (Bl n q) = Bx n q then (if q < l then .inr (.h (q + 1) l) else .inl ⟨true, l, []⟩) else .inl ⟨true, q - 1, []⟩)
 | .a1 q m l => (s, if s.st (Bl n q) < Bx n q then .inl (Gg l 6) else if Bx n q < s.st (Bl n q) then .inl (Gg l 10) else .inr (.a2 q m l))
 | .a2 q m l => (s, .inr (.a3 q m l (s.va (Bl n q))))
 | .a3 q m l v => (s, if s.st (Bl n q) = Bx n q then (if ((l.length : Int) + 1 < m) /\ good (q + 1) then .inr (.a1 (q + 1) m (l ++ [v])) else .inl ⟨true, 0, l ++ [v]⟩) else .inl (Gg l 10))
structure RgI (rb sb n : Nat) (s : Rg) (w : World) : Prop where
 hd : w.heap[rb]? = some (.cells #[.slice (some ⟨sb, 0, none⟩) n n] 122)
 sl : ∃ arr : Array Value, w.heap[sb]? = some (.cells arr 124) /\ arr.size = 2 * n /\ (∀ i, i < n -> arr[i * 2]? = some (.int .i64 (s.st i)) /\ arr[i * 2 + 1]? = some (.int .i64 (s.va i)))
 pos : 1 <= n /\ n <= 65536
theorem RgI.old {rb sb n : Nat} {s : Rg} {w w' : World} (h : RgI rb sb n s w) (hb : w'.heap[rb]? = w.heap[rb]?) (hc : w'.heap[sb]? = w.heap[sb]?) : RgI rb sb n s w' := by
 obtain ⟨arr, h1, h2⟩ := h.sl
 exact ⟨hb.trans h.hd, ⟨arr, hc.trans h1, h2⟩, h.pos⟩
theorem RgI.lt {rb sb n : Nat} {s : Rg} {w : World} (h : RgI rb sb n s w) : rb < w.heap.size /\ sb < w.heap.size := by
 obtain ⟨arr, h1, h2⟩ := h.sl
 exact ⟨(aEs h.hd).1, (aEs h1).1⟩
theorem RgI.ne {rb sb n : Nat} {s : Rg} {w : World} (h : RgI rb sb n s w) : rb ≠ sb := fun e => by
 obtain ⟨arr, h1, h2⟩ := h.sl
 have := h.hd
 rw [e, h1] at this
 cases this
def Br (rb sb n : Nat) : La where
 Sg := Rg
 D := RD
 Gh := Unit
 le := fun _ _ => True
 refl := fun _ => trivial
 trans := fun _ _ => trivial
 enter := Bt n
 act := Bd n
 sh := fun _ b => b = rb ∨ b = sb
 mono := fun _ h => h
 I := fun _ => RgI rb sb n
 stable := fun h hb => h.old (hb _ (.inl rfl)) (hb _ (.inr rfl))
 lt := fun h hb => hb.elim (fun e => e ▸ h.lt.1) (fun e => e ▸ h.lt.2)
section
variable {rb sb n : Nat}
theorem RgI.size {s : Rg} {w : World} (h : RgI rb sb n s w) : w.cell? ⟨rb, 0, none⟩ = some (.slice (some ⟨sb, 0, none⟩) n n) := (Ab h.hd 0).trans rfl
theorem RgI.rdS {i : Nat} (hi : i < n) {s : Rg} {w : World} (h : RgI rb sb n s w) : w.cell? ⟨sb, i * 2, none⟩ = some (.int .i64 (s.st i)) /\ w.frozen? ⟨sb, i * 2, none⟩ = false := by
 obtain ⟨arr, h1, h2, h3⟩ := h.sl
 exact ⟨(Ab h1 _).trans (h3 i hi).1, Av h1 _⟩
theorem RgI.rdV {i : Nat} (hi : i < n) {s : Rg} {w : World} (h : RgI rb sb n s w) : w.cell? ⟨sb, i * 2 + 1, none⟩ = some (.int .i64 (s.va i)) /\ w.frozen? ⟨sb, i * 2 + 1, none⟩ = false := by
 obtain ⟨arr, h1, h2, h3⟩ := h.sl
 exact ⟨(Ab h1 _).trans (h3 i hi).2, Av h1 _⟩
theorem RgI.wrS {i : Nat} (hi : i < n) {s : Rg} {w : World} (v : Int) (h : RgI rb sb n s w) : RgI rb sb n (Cj s i v) (w.setCell ⟨sb, i * 2, none⟩ (.int .i64 v)) := by
 obtain ⟨arr, h1, h2, h3⟩ := h.sl
 refine ⟨(Ac _ _ _ _ h.ne).trans h.hd, ⟨_, Ao _ _ h1, by simp [h2], fun j hj => ⟨?_, ?_⟩⟩, h.pos⟩
 ·show _ = some (Value.int .i64 (upd s.st i v j))
  by_cases e : j = i
  ·subst e
   rw [upd_same]
   exact aSf
  ·rw [upd_ne _ _ e, aNe]; exact (h3 j hj).1
 ·rw [aNe]; exact (h3 j hj).2
theorem RgI.wrV {i : Nat} (hi : i < n) {s : Rg} {w : World} (v : Int) (h : RgI rb sb n s w) : RgI rb sb n (Fa s i v) (w.setCell ⟨sb, i * 2 + 1, none⟩ (.int .i64 v)) := by
 obtain ⟨arr, h1, h2, h3⟩ := h.sl
 refine ⟨(Ac _ _ _ _ h.ne).trans h.hd, ⟨_, Ao _ _ h1, by simp [h2], fun j hj => ⟨?_, ?_⟩⟩, h.pos⟩
 ·rw [aNe]; exact (h3 j hj).1
 ·show _ = some (Value.int .i64 (upd s.va i v j))
  by_cases e : j = i
  ·subst e
   rw [upd_same]
   exact aSf
  ·rw [upd_ne _ _ e, aNe]; exact (h3 j hj).2
def stpW (i : Nat) (hi : i < n) : Wd (Br rb sb n) where
 on := fun _ => True
 up := fun _ _ => trivial
 b := sb
 q := i * 2
 get := fun s => (s : Rg).st i
 put := fun s v => Cj s i v
 ok := fun _ => True
 sh := fun _ _ => .inr rfl
 rd := fun _ s w _ h => RgI.rdS hi h
 wr := fun _ s w v _ _ h => RgI.wrS hi v h
def vluW (i : Nat) (hi : i < n) : Wd (Br rb sb n) where
 on := fun _ => True
 up := fun _ _ => trivial
 b := sb
 q := i * 2 + 1
 get := fun s => (s : Rg).va i
 put := fun s v => Fa s i v
 ok := fun _ => True
 sh := fun _ _ => .inr rfl
 rd := fun _ s w _ h => RgI.rdV hi h
 wr := fun _ s w v _ _ h => RgI.wrV hi v h
end
theorem Ll {n : Nat} (hn : 1 <= n) (q : Int) : Bl n q < n := by
 unfold Bl
 have h1 := Int.emod_nonneg q (show (n : Int) ≠ 0 by omega)
 have h2 := Int.emod_lt_of_pos q (show (0 : Int) < n by omega)
 omega
theorem Dr : prog.underlying 24 = some (.pointer 122) := by kernel_rfl
noncomputable def reg63_0 := rk f63.body 0
noncomputable def reg63_1 := rk f63.body 1
theorem z63 : reg63_0.size = 1 /\ reg63_1.size = 7 := by and_intros <;> kernel_rfl
theorem code63_is : f63.body = some (.seq (.region 0 reg63_0 false) (.seq (.region 1 reg63_1 false) (.ret))) := by kernel_rfl
noncomputable def reg17_0 := rk f17.body 0
noncomputable def reg17_1 := rk f17.body 1
noncomputable def reg17_2 := rk f17.body 2
noncomputable def reg17_3 := rk f17.body 3
theorem z17 : reg17_0.size = 1 /\ reg17_1.size = 2 /\ reg17_2.size = 1 /\ reg17_3.size = 6 := by and_intros <;> kernel_rfl
theorem code17_is : f17.body = some (.seq (.region 0 reg17_0 false) (.seq (.seq (.region 1 reg17_1 false) (.cond (.tmp 4 ) (.seq (.region 2 reg17_2 false) (.ret)) (.skip))) (.seq (.region 3 reg17_3 false) (.ret)))) := by kernel_rfl
noncomputable def reg62_0 := rk f62.body 0
noncomputable def reg62_1 := rk f62.body 1
theorem z62 : reg62_0.size = 1 /\ reg62_1.size = 8 := by and_intros <;> kernel_rfl
theorem code62_is : f62.body = some (.seq (.region 0 reg62_0 false) (.seq (.region 1 reg62_1 false) (.ret))) := by kernel_rfl
noncomputable def reg21_0 := rk f21.body 0
noncomputable def reg21_1 := rk f21.body 1
noncomputable def reg21_2 := rk f21.body 2
noncomputable def reg21_3 := rk f21.body 3
theorem z21 : reg21_0.size = 1 /\ reg21_1.size = 4 /\ reg21_2.size = 1 /\ reg21_3.size = 5 := by and_intros <;> kernel_rfl
theorem code21_is : f21.body = some (.seq (.region 0 reg21_0 false) (.seq (.seq (.region 1 reg21_1 false) (.cond (.tmp 8 ) (.seq (.region 2 reg21_2 false) (.ret)) (.skip))) (.seq (.region 3 reg21_3 false) (.ret)))) := by kernel_rfl
noncomputable def reg22_0 := rk f22.body 0
noncomputable def reg22_1 := rk f22.body 1
noncomputable def reg22_2 := rk f22.body 2
noncomputable def reg22_3 := rk f22.body 3
noncomputable def reg22_4 := rk f22.body 4
noncomputable def reg22_5 := rk f22.body 5
theorem z22 : reg22_0.size = 1 /\ reg22_1.size = 4 /\ reg22_2.size = 1 /\ reg22_3.size = 5 /\ reg22_4.size = 1 /\ reg22_5.size = 5 := by and_intros <;> kernel_rfl
theorem code22_is : f22.body = some (.seq (.region 0 reg22_0 false) (.seq (.block 0 (.seq (.region 1 reg22_1 false) (.cond (.tmp 5 ) (.seq (.region 2 reg22_2 false) (.ret)) (.seq (.region 3 reg22_3 false) (.cond (.tmp 9 ) (.seq (.region 4 reg22_4 false) (.ret)) (.skip)))))) (.seq (.region 5 reg22_5 false) (.ret)))) := by kernel_rfl
section
variable {main : Bool} {V : Nat -> Option Wait} {rb sb n : Nat} {s : Rg}
theorem good_yes (q : Int) (w : World) (h0 : 0 <= q) : Aw prog main V 63 #[.int .i64 q] w (.bool (decide (q < 4611686018427387904))) w := by
 refine Aq func63 code63_is fun fr cs => ?_
 simp only [ntmps63, ez, Nat.reduceAdd, Nat.reduceSub]
 refine Aa z63 ?_
 exact Ar rfl rfl func63 rfl fun d => ⟨rfl, d, rfl⟩
theorem good_no (q : Int) (w : World) (h0 : ¬ 0 <= q) : Aw prog main V 63 #[.int .i64 q] w (.bool false) w := by
 have h1 : q < 0 := by omega
 refine Aq func63 code63_is fun fr cs => ?_
 simp only [ntmps63, ez, Nat.reduceAdd, Nat.reduceSub]
 refine Aa z63 ?_
 exact Ar rfl rfl func63 rfl fun d => ⟨rfl, d, rfl⟩
theorem Qd (q : Int) (w : World) : Aw prog main V 63 #[.int .i64 q] w (.bool (decide (good q))) w := by
 by_cases h0 : 0 <= q
 ·have e : decide (good q) = decide (q < 4611686018427387904) := by simp [good, h0]
  rw [e]
  exact good_yes q w h0
 ·have e : decide (good q) = false := by simp [good, h0]
  rw [e]
  exact good_no q w h0
theorem Gw (w : World) (I : RgI rb sb n s w) : Aw prog main V 17 #[.pointer (some ⟨rb, 0, none⟩)] w (.int .i64 (n : Nat)) w := by
 have c1 := I.size
 have hp1 := fun w => Ce (P := prog) 24 Dr (some ⟨rb, 0, none⟩) w
 have hp2 := fun w es => Cp (P := prog) 24 Dr (some ⟨rb, 0, none⟩) w es
 simp only [Option.isNone_some] at hp1
 clear I
 refine Aq func17 code17_is fun fr cs => ?_
 simp only [ntmps17, ez, Nat.reduceAdd, Nat.reduceSub]
 refine Aa z17 ?_
 exact Ar rfl rfl func17 rfl fun d => ⟨rfl, d, rfl⟩
theorem Fg (w : World) (I : RgI rb sb n s w) (q : Int) (h : good q) : Aw prog main V 62 #[.pointer (some ⟨rb, 0, none⟩), .int .i64 q] w (.bool true) w := by
 have hg := Qd (main := main) (V := V) q w
 have hsz := Gw (main := main) (V := V) w I
 have hn := I.pos.1
 have hn1 : decide ((0 : Int) < (n : Int)) = true := by simp; omega
 have hn2 : decide (0 < n) = true := by simp; omega
 clear I
 have e : decide (good q) = true := by simp [h]
 rw [e] at hg
 refine Aq func62 code62_is fun fr cs => ?_
 simp only [ntmps62, ez, Nat.reduceAdd, Nat.reduceSub]
 refine Aa z62 ?_
 refine qV (x := .bool true) (W := w) func63 ?_ ?_
 ·walk_nrm
  exact hg
 walk_nrm
 refine Aa z62 ?_
 refine qV (x := .int .i64 (n : Nat)) (W := w) func17 ?_ ?_
 ·walk_nrm
  exact hsz
 walk_nrm
 refine Aa z62 ?_
 exact Ar rfl rfl func62 rfl fun d => ⟨rfl, d, rfl⟩
theorem Fq (r : Value) (w : World) (q : Int) (h : ¬ good q) : Aw prog main V 62 #[r, .int .i64 q] w (.bool false) w := by
 have hg := Qd (main := main) (V := V) q w
 have e : decide (good q) = false := by simp [h]
 rw [e] at hg
 refine Aq func62 code62_is fun fr cs => ?_
 simp only [ntmps62, ez, Nat.reduceAdd, Nat.reduceSub]
 refine Aa z62 ?_
 refine qV (x := .bool false) (W := w) func63 ?_ ?_
 ·walk_nrm
  exact hg
 walk_nrm
 refine Aa z62 ?_
 exact Ar rfl rfl func62 rfl fun d => ⟨rfl, d, rfl⟩
theorem holds_w (w : World) (I : RgI rb sb n s w) (q : Int) : Aw prog main V 62 #[.pointer (some ⟨rb, 0, none⟩), .int .i64 q] w (.bool (decide (good q))) w := by
 by_cases h : good q
 ·rw [show decide (good q) = true by simp [h]]
  exact Fg w I q h
 ·rw [show decide (good q) = false by simp [h]]
  exact Fq _ w q h
theorem ixR_tmod {n : Nat} (hn : 1 <= n) {q : Int} (hq : 0 <= q) : q.tmod n = ((Bl n q : Nat) : Int) := by
 have h1 := Int.emod_nonneg q (show (n : Int) ≠ 0 by omega)
 rw [Int.tmod_eq_emod_of_nonneg hq]
 unfold Bl
 omega
theorem laR_tdiv {n : Nat} {q : Int} (hq : 0 <= q) : q.tdiv n = q / n := Int.tdiv_eq_ediv_of_nonneg hq
theorem slot_w (w : World) (I : RgI rb sb n s w) (q : Int) (hq : good q) : Aw prog main V 21 #[.pointer (some ⟨rb, 0, none⟩), .int .i64 q] w (.int .i64 (Bl n q : Nat)) w := by
 have hh := holds_w (main := main) (V := V) w I q
 have hsz := Gw (main := main) (V := V) w I
 have e : decide (good q) = true := by simp [hq]
 rw [e] at hh
 have hn := I.pos
 have hm := ixR_tmod hn.1 hq.1
 have hn0 : ¬ ((n : Int) = 0) := by omega
 have hn1 : ¬ (n = 0) := by omega
 have hlt := Ll hn.1 q
 have hw : IntKind.wrap .i64 (q.tmod n) = ((Bl n q : Nat) : Int) := by rw [hm, IntKind.wrap_i64]; omega
 clear I
 refine Aq func21 code21_is fun fr cs => ?_
 simp only [ntmps21, ez, Nat.reduceAdd, Nat.reduceSub]
 refine Aa z21 ?_
 refine qV (x := .bool true) (W := w) func62 ?_ ?_
 ·walk_nrm
  exact hh
 walk_nrm
 refine Aa z21 ?_
 refine qV (x := .int .i64 (n : Nat)) (W := w) func17 ?_ ?_
 ·walk_nrm
  exact hsz
 walk_nrm
 refine Aa z21 ?_
 exact Ar rfl rfl func21 rfl fun d => ⟨by simp [hm, hw], d, rfl⟩
theorem lap_w (w : World) (I : RgI rb sb n s w) (q : Int) (hq : good q) : Aw prog main V 22 #[.pointer (some ⟨rb, 0, none⟩), .int .i64 q] w (.int .i64 (q / n)) w := by
 have hg := Qd (main := main) (V := V) q w
 have hh := holds_w (main := main) (V := V) w I q
 have hsz := Gw (main := main) (V := V) w I
 have e : decide (good q) = true := by simp [hq]
 rw [e] at hh hg
 have hn := I.pos
 have hm := laR_tdiv (n := n) hq.1
 have hn0 : ¬ ((n : Int) = 0) := by omega
 have hn1 : ¬ (n = 0) := by omega
 have hb : 0 <= q / (n : Int) /\ q / (n : Int) <= q := ⟨Int.ediv_nonneg hq.1 (by omega), Int.ediv_le_self _ hq.1⟩
 have hq2 := hq.2
 have hw : IntKind.wrap .i64 (q / (n : Int)) = q / n := by rw [IntKind.wrap_i64]; omega
 clear I
 refine Aq func22 code22_is fun fr cs => ?_
 simp only [ntmps22, ez, Nat.reduceAdd, Nat.reduceSub]
 refine Aa z22 ?_
 refine qV (x := .bool true) (W := w) func63 ?_ ?_
 ·walk_nrm
  exact hg
 walk_nrm
 refine Aa z22 ?_
 refine qV (x := .bool true) (W := w) func62 ?_ ?_
 ·walk_nrm
  exact hh
 walk_nrm
 refine Aa z22 ?_
 refine qV (x := .int .i64 (n : Nat)) (W := w) func17 ?_ ?_
 ·walk_nrm
  exact hsz
 walk_nrm
 refine Aa z22 ?_
 exact Ar rfl rfl func22 rfl fun d => ⟨by simp [hm, hw], d, rfl⟩
end
end Go.Proofs.Ytflcclneedldoaa
