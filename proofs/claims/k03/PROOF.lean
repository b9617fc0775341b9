import PyProof.Rows.All
import Wide.All
import OpenK.AllK
import Wide.FinOn
import HandS.ForMost
import HandS.ForExc
import HandS.Iter
import HandS.Zip
import HandS.IsInst
import HandS.Defaults
import HandS.More
import HandS.Deep
import HandS.TupAny
import HandS.Flow
import HandS.Style
import HandS.GenList
import HandS.RevRange
import PySem.Challenge.RW_saidanew_k03_paths_and_inks
import HandS.Rev
import HandS.Lambda
import HandS.Nested
import KE.GoesMore
import HandS.Walk
import PyProof.P3Eq
import HandS.EndTab
set_option Elab.async false
set_option linter.all false
set_option maxRecDepth 100000
set_option maxHeartbeats 1000000
/-! ### a loop over a generator that may be left: the generator's context is made anew at each waking, over the heap as it then stands -/
namespace GF
open PySem PySem.Spec PyProof.Rows L2 GenW
/-- the oldest n objects -/
def cut (n : Nat) (h : Heap) : Heap := ⟨h.objs.extract 0 n, h.life⟩
theorem cut_size {n : Nat} {h : Heap} (le : n ≤ h.objs.size) : (cut n h).objs.size = n := by
  show (h.objs.extract 0 n).size = n
  rw [Array.size_extract]
  omega
theorem cut_get {n b : Nat} {h : Heap} (lt : b < n) : (cut n h).get? b = h.get? b := by
  have e : (h.objs.extract 0 n)[b]? = h.objs[b]? := by
    rw [Array.getElem?_extract]
    by_cases hb : b < h.objs.size
    · rw [if_pos (by omega)]
      simp
    · rw [if_neg (by omega), Array.getElem?_eq_none (by omega)]
  unfold Heap.get? cut
  dsimp only
  rw [e]
theorem cut_lt {n b : Nat} {h : Heap} {o : Obj} (e : (cut n h).get? b = some o) : b < n := by
  have l := Heap.lt_size e
  have s : (cut n h).objs.size ≤ n := by
    show (h.objs.extract 0 n).size ≤ n
    rw [Array.size_extract]
    omega
  exact Nat.lt_of_lt_of_le l s
theorem cut_up {n b : Nat} {h : Heap} {o : Obj} (e : (cut n h).get? b = some o) : h.get? b = some o := by
  rw [← cut_get (cut_lt e)]
  exact e
theorem cut_down {n b : Nat} {h : Heap} {o : Obj} (lt : b < n) (e : h.get? b = some o) : (cut n h).get? b = some o := by
  rw [cut_get lt]
  exact e
def cutS (n : Nat) (s : Shared) : Shared := { s with heap := cut n s.heap }
theorem funs_cut {n : Nat} {h base : Heap} : ∀ {l : List Env}, (∀ b ∈ frs l, b < n) → h.FunFrames base l → (cut n h).FunFrames base l
  | [], _, _ => trivial
  | env :: rest, lt, ⟨k, ⟨L, o, hf, hn, ho, hd⟩, r⟩ => by
    have mem : ∀ b ∈ frs rest, b ∈ frs (env :: rest) := fun b hb => by
      unfold frs
      rw [List.filterMap_cons, hf]
      exact List.mem_cons_of_mem _ hb
    have hL : L ∈ frs (env :: rest) := by
      unfold frs
      rw [List.filterMap_cons, hf]
      exact List.mem_cons_self
    exact ⟨k, ⟨L, o, hf, hn, cut_down (lt L hL) ho, hd⟩, funs_cut (fun b hb => lt b (mem b hb)) r⟩
/-- what stays of a generator's run -/
structure GD where
  P : Program
  w : World
  K : PySem.W.Frag
  mg : Str → Option Value
  base : Heap
  N : List Str
  A : Around
  env : Env
  outer : List Env
  n0 : Nat
  a : Addr
  go : Obj
  X : Cx
  pins : List (Addr × Obj)
  Sg : L2.St → Prop
abbrev GD.cx (G : GD) (s0 : Shared) (H0 : Hp) : Cx where
  prog := G.P
  w := G.w
  K := G.K
  mg := G.mg
  base := G.base
  A := G.A.deeper G.env
  N := G.N
  s_0 := s0
  H_0 := H0
  env := G.env
  outer := G.outer
  stack := G.env :: G.outer
  ex := []
  fn := fun _ => true
  calm := true
  pn := [(G.a, G.go)]
  xe := fun _ _ => False
/-- that a world is one of this generator's: the records ahead of it, as they stand at s₀ -/
structure Lk (G : GD) (s0 : Shared) (s₀ : Shared) (H0 : Hp) : Prop where
  hp : s0.heap = cut G.n0 s₀.heap
  os : s0.os = s₀.os
  le : G.n0 ≤ s₀.heap.objs.size
  co : ∃ σ, G.Sg σ ∧ Inv G.X G.pins σ H0 s₀
/-- the consumer's: it stands over the generator's callers, and is older than the generator -/
structure Co (G : GD) : Prop where
  prog : G.X.prog = G.P
  w : G.X.w = G.w
  K : G.X.K = G.K
  base : G.X.base = G.base
  stack : G.X.stack = G.outer
  cells : ∀ x, G.X.env.cells.lookup x = none
  lt : ∀ b ∈ frs G.X.stack, b < G.n0
  sz : G.X.s_0.heap.objs.size ≤ G.n0
  lo : G.X.env.frame = some G.X.env.locals ∧ G.X.stack = G.X.env :: G.X.outer
  pn : ∀ p ∈ G.X.pn ++ G.pins, p.1 < G.n0 ∨ p = (G.a, G.go)
  gcell : ∀ x, G.env.cells.lookup x = none
theorem Co.mem {G : GD} (c : Co G) : G.X.env.locals ∈ frs G.outer := by
  rw [← c.stack, c.lo.2]
  unfold frs
  rw [List.filterMap_cons, c.lo.1]
  exact List.mem_cons_self
theorem Co.sub {G : GD} (c : Co G) {b : Addr} (h : b ∈ frs G.outer) : b = G.X.env.locals ∨ b ∈ G.X.fs := by
  rw [← c.stack, c.lo.2] at h
  unfold frs at h
  rw [List.filterMap_cons, c.lo.1] at h
  exact List.mem_cons.mp h
theorem Co.sup {G : GD} (c : Co G) {b : Addr} (h : b ∈ G.X.fs) : b ∈ frs G.outer := by
  rw [← c.stack, c.lo.2]
  unfold frs
  rw [List.filterMap_cons, c.lo.1]
  exact List.mem_cons_of_mem _ h
section
variable {G : GD} {σ τ : L2.St} {H H1 : Hp}
/-- the consumer has its own again when the generator has handed something out -/
theorem back {s0 s₀ s1 : Shared} {gs : GenState} {g : Nat} (c : Co G) (lk : Lk G s0 s₀ H) (Ig : Inv (G.cx s0 H) [] τ H1 s1) (hb : gs.bare = true) :
    ∃ σ, G.Sg σ ∧ Inv G.X G.pins σ H1 (s1.setGen g gs) := by
  obtain ⟨hh, gg, dd, tt, oo⟩ := s0
  obtain ⟨e1, e2, le, σ, hσ, Ic⟩ := lk
  dsimp only at e1 e2
  subst e1 e2
  have u : Un (frs G.outer) [] H H1 (cut G.n0 s₀.heap) s1.heap := Ig.base
  have down : ∀ b o, G.X.s_0.heap.get? b = some o → b < G.n0 := fun b o e => Nat.lt_of_lt_of_le (Heap.lt_size e) c.sz
  have neL : ∀ b o, G.X.s_0.heap.get? b = some o → b ≠ G.X.env.locals := fun b o e => Nat.ne_of_lt (Nat.lt_of_lt_of_le (Heap.lt_size e) Ic.ok.above)
  refine ⟨σ, hσ, Ic.ok, ?_, allBare_setGen Ig.bare hb, ⟨fun b o e n hb hx => ?_, fun b o e n hb hx => ?_, fun b o e n hx => ?_, fun b o e hx => ?_, fun b xs e => ?_, fun b o xs e => ?_, fun b ps e => ?_⟩, ?_, fun x a e => ?_, ?_, fun x a e => ?_, fun p hpp => ?_, ?_, Ic.len⟩
  · show s1.os = G.X.s_0.os
    rw [← Ic.os]
    exact Ig.os
  · have q := Ic.base.keep b o e n hb hx
    refine u.keep b o (cut_down (down b o e) q) (Ic.base.free b o e n hx) (fun z => ?_) (by simp)
    rcases c.sub z with z | z
    · exact neL b o e z
    · exact hb z
  · obtain ⟨sl, q⟩ := Ic.base.slot b o e n hb hx
    obtain ⟨sl2, q2⟩ := u.slot b _ (cut_down (down b o e) q) (Ic.base.free b o e n hx) (c.sup hb) (by simp)
    exact ⟨sl2, q2⟩
  · obtain ⟨o', q⟩ := Ic.base.there b o e hx
    exact u.free b o' (cut_down (down b o e) q) (Ic.base.free b o e n hx) (by simp)
  · obtain ⟨o', q⟩ := Ic.base.there b o e hx
    exact u.there b o' (cut_down (down b o e) q) (by simp)
  · exact u.tups b xs (Ic.base.tups b xs e)
  · exact u.frzs b o xs (Ic.base.frzs b o xs e)
  · obtain ⟨m1, q1⟩ := Ic.base.tbls b ps e
    obtain ⟨m2, q2⟩ := u.tbls b _ q1
    exact ⟨m1 ++ m2, by rw [q2, Array.append_assoc]⟩
  · obtain ⟨m, ⟨o, es, ep, ho, hd, r⟩, hl⟩ := Ic.loc
    have hm := c.mem
    obtain ⟨sl, q⟩ := u.slot _ o (cut_down (c.lt _ (by rw [c.stack]; exact hm)) ho) Ic.free hm (by simp)
    refine ⟨m, ⟨_, es, ep, q, hd, r⟩, fun i x v e1 e2 e3 => ?_⟩
    obtain ⟨y, ry, z⟩ := hl i x v e1 e2 e3
    refine ⟨y, ry, ?_⟩
    rcases z with z | ⟨_, a, e, _⟩
    · exact .inl z
    · rw [c.cells x] at e
      cases e
  · rw [c.cells x] at e
    cases e
  · obtain ⟨m, ⟨o, es, ep, ho, _⟩, _⟩ := Ic.loc
    exact u.free _ o (cut_down (c.lt _ (by rw [c.stack]; exact c.mem)) ho) Ic.free (by simp)
  · rw [c.cells x] at e
    cases e
  · obtain ⟨q, n, ne, nf, d⟩ := Ic.pin p hpp
    rcases c.pn p hpp with lt | rfl
    · refine ⟨u.keep p.1 p.2 (cut_down lt q) n (fun z => ?_) (by simp), u.free p.1 p.2 (cut_down lt q) n (by simp), ne, nf, d⟩
      rcases c.sub z with z | z
      · exact ne z
      · exact nf z
    · obtain ⟨q2, n2, _⟩ := Ig.pin (G.a, G.go) (by simp)
      exact ⟨q2, n2, ne, nf, d⟩
  · have k := Ig.hok
    rw [c.prog, c.w]
    exact k
/-- the generator has its own again when it is woken -/
theorem wake {s0 s1 s' : Shared} {H0 H2 : Hp} (c : Co G) (hσ : G.Sg σ) (Ic : Inv G.X G.pins σ H2 s') (Ig : Inv (G.cx s0 H0) [] τ H1 s1) (h0 : s0.heap.objs.size = G.n0) (le : G.n0 ≤ s'.heap.objs.size)
    (hL : ∀ o, s1.heap.get? G.env.locals = some o → s'.heap.get? G.env.locals = some o) (hLH : H2 G.env.locals = none) (ha : s'.heap.get? G.a = some G.go) (haH : H2 G.a = none) : Inv (G.cx (cutS G.n0 s') H2) [] τ H2 s' ∧ Lk G (cutS G.n0 s') s' H2 := by
  have kj := Ig.ok
  have sz : (cutS G.n0 s').heap.objs.size = G.n0 := cut_size le
  have bs : ∀ b o, G.base.get? b = some o → s'.heap.get? b = some o ∧ H2 b = none := fun b o e => Ic.bs b o (by rw [c.base]; exact e)
  have bl : ∀ b o, G.base.get? b = some o → b < G.n0 := fun b o e => by
    have z := kj.bsz
    have y := Heap.lt_size e
    have x : s0.heap.objs.size = G.n0 := h0
    exact Nat.lt_of_lt_of_le y (by rw [← x]; exact z)
  refine ⟨⟨⟨kj.mod, kj.kind, kj.glob, kj.blt, ?_, kj.inj, kj.has, fun x a _ e => ?_, kj.hd, kj.frames, .inr ⟨rfl, ?_⟩, (fun b z => nomatch z), fun b o e => ?_, ?_, (fun _ _ _ z => nomatch z), (fun b z => nomatch z), ?_, fun b hb => ?_⟩,
    rfl, Ic.bare, Un.kept fun b o e => cut_up e, ?_, fun x a e => ?_, hLH, fun x a e => ?_, fun p hp => ?_, ?_, Ig.len⟩, ⟨rfl, rfl, le, σ, hσ, Ic⟩⟩
  · show (cutS G.n0 s').heap.objs.size ≤ G.env.locals
    rw [sz, ← h0]
    exact kj.above
  · have e' : G.env.cells.lookup x = some a := e
    rw [c.gcell x] at e'
    cases e'
  · rcases kj.stk with z | z
    · have z' : G.env :: G.outer = G.outer := z
      exact absurd (congrArg List.length z') (by simp)
    · exact z.2
  · exact ⟨cut_down (bl b o e) (bs b o e).1, (bs b o e).2⟩
  · show G.base.objs.size ≤ (cutS G.n0 s').heap.objs.size
    rw [sz, ← h0]
    exact kj.bsz
  · have z : s'.heap.FunFrames G.X.base G.X.stack := Ic.stack
    rw [c.base, c.stack] at z
    exact funs_cut (fun b hb => c.lt b (by rw [c.stack]; exact hb)) z
  · exact Ic.stkFree b (by rw [c.stack]; exact hb)
  · obtain ⟨m, ⟨o, es, ep, ho, r⟩, hl⟩ := Ig.loc
    refine ⟨m, ⟨o, es, ep, hL o ho, r⟩, fun i x v e1 e2 e3 => ?_⟩
    obtain ⟨y, ry, z⟩ := hl i x v e1 e2 e3
    refine ⟨y, ry, ?_⟩
    rcases z with z | ⟨_, a, e, _⟩
    · exact .inl z
    · have e' : G.env.cells.lookup x = some a := e
      rw [c.gcell x] at e'
      cases e'
  · have e' : G.env.cells.lookup x = some a := e
    rw [c.gcell x] at e'
    cases e'
  · have e' : G.env.cells.lookup x = some a := e
    rw [c.gcell x] at e'
    cases e'
  · have hp' : p = (G.a, G.go) := by simpa using hp
    subst hp'
    obtain ⟨_, _, ne, nf, d⟩ := Ig.pin (G.a, G.go) (by simp)
    exact ⟨ha, haH, ne, nf, d⟩
  · have k := Ic.hok
    rw [c.prog, c.w] at k
    exact k
end
end GF

set_option Elab.async false
set_option linter.all false
set_option maxRecDepth 100000
set_option maxHeartbeats 1000000
namespace GF
open PySem PySem.Spec PyProof.Rows L2 GenW
/-- what the loop does with what is handed out: at the value and the heap, with what waking asks of the heap then -/
abbrev Hd := V → Hp → (Hp → Prop) → Prop
structure HdOk (Y : Hd) : Prop where
  up : ∀ (x : V) (H : Hp) (k k' : Hp → Prop), (∀ H2, k H2 → k' H2) → Y x H k → Y x H k'
def Yp (G : GD) (Y : Hd) : Protocol := fun n s₀ v s1 kap =>
  ∃ (x : V) (τ : L2.St) (H1 : Hp) (s0 : Shared) (H0 : Hp), RelV x v ∧ Lk G s0 s₀ H0 ∧ Inv (G.cx s0 H0) [] τ H1 s1 ∧
    Y x H1 fun H2 => ∀ s0' s', Lk G s0' s' H2 → Inv (G.cx s0' H2) [] τ H2 s' → kap (.send .none) s'
def FP (G : GD) (s0 : Shared) (H0 : Hp) (D : GEnds) (ys : List V) (f : Flow) (s : Shared) : Prop :=
  match f with
  | .next => ∃ σ H, Inv (G.cx s0 H0) [] σ H s ∧ D.nx ys σ H
  | .brk => ∃ σ H, Inv (G.cx s0 H0) [] σ H s ∧ D.bk ys σ H
  | .cont => ∃ σ H, Inv (G.cx s0 H0) [] σ H s ∧ D.ct ys σ H
  | .ret u => ∃ v σ H, Inv (G.cx s0 H0) [] σ H s ∧ RelV v u ∧ D.rt ys v H
structure Wh (G : GD) (A : Around) (c : Code) (fs : List Frame) (gd : Bool → Bool) : Prop where
  over : A.over c fs = G.A.deeper G.env
  split : splitAtGen fs = none
  guard : fs.any Frame.guarded = false
  gd : gd false = false
def Kp (G : GD) (Y : Hd) (A : Around) (R : GenEnd) (c : Code) (fs : List Frame) (K : Flow → Sem PySem.Fin) (D : GEnds) : Prop :=
  ∀ (n : Nat) (ys : List V) (s₀ s : Shared) (f : Flow) (s0 : Shared) (H0 : Hp), n + ys.length = sizeLine → Lk G s0 s₀ H0 → FP G s0 H0 D ys f s → Seg (model G.P G.w) A R (Yp G Y) n s₀ c (K f) fs s
structure GT (G : GD) (Y : Hd) (st : Stmt) (t : TGn) : Prop where
  run : ∀ (A : Around) (R : GenEnd) (n : Nat) (ys : List V) (s₀ : Shared) (c : Code) (fs : List Frame) (K : Flow → Sem PySem.Fin) (J : Value → Sem PySem.Fin) (gd : Bool → Bool) (lv : List Value → List Value) (s : Shared) (σ : L2.St) (H : Hp) (D : GEnds) (s0 : Shared) (H0 : Hp),
    Wh G A c fs gd → n + ys.length = sizeLine → Lk G s0 s₀ H0 → Kp G Y A R c fs K D → Inv (G.cx s0 H0) [] σ H s → t D ys σ H →
    Seg (model G.P G.w) A R (Yp G Y) n s₀ c ((exec st G.env).wrap K J gd lv) fs s
structure GTs (G : GD) (Y : Hd) (st : List Stmt) (t : TGn) : Prop where
  run : ∀ (A : Around) (R : GenEnd) (n : Nat) (ys : List V) (s₀ : Shared) (c : Code) (fs : List Frame) (K : Flow → Sem PySem.Fin) (J : Value → Sem PySem.Fin) (gd : Bool → Bool) (lv : List Value → List Value) (s : Shared) (σ : L2.St) (H : Hp) (D : GEnds) (s0 : Shared) (H0 : Hp),
    Wh G A c fs gd → n + ys.length = sizeLine → Lk G s0 s₀ H0 → Kp G Y A R c fs K D → Inv (G.cx s0 H0) [] σ H s → t D ys σ H →
    Seg (model G.P G.w) A R (Yp G Y) n s₀ c ((execs st G.env).wrap K J gd lv) fs s
section
variable {G : GD} {Y : Hd} {st : Stmt} {rest : List Stmt}
theorem fp_of {s0 : Shared} {H0 : Hp} {D : GEnds} {ys : List V} {f : Flow} {s : Shared} (h : SP (G.cx s0 H0) [] (D.at ys) f s) : FP G s0 H0 D ys f s := by
  cases f <;> exact h
theorem gt_ps {t : TS} (h : ∀ s0 H0, PS (G.cx s0 H0) st t) : GT G Y st (tPlain t) := by
  refine ⟨fun A R n ys s₀ c fs K J gd lv s σ H D s0 H0 w hn lk k I ht => ?_⟩
  refine seg_wrap ?_
  rw [w.over]
  exact wpAny_mono ((h s0 H0).run _ s σ H (D.at ys) I ht) (fun f s' hs => k n ys s₀ s' f s0 H0 hn lk (fp_of hs)) fun x s' hx => False.elim hx
theorem gts_pss {t : TS} (h : ∀ s0 H0, PSs (G.cx s0 H0) rest t) : GTs G Y rest (tPlain t) := by
  refine ⟨fun A R n ys s₀ c fs K J gd lv s σ H D s0 H0 w hn lk k I ht => ?_⟩
  refine seg_wrap ?_
  rw [w.over]
  exact wpAny_mono ((h s0 H0).run _ s σ H (D.at ys) I ht) (fun f s' hs => k n ys s₀ s' f s0 H0 hn lk (fp_of hs)) fun x s' hx => False.elim hx
theorem gts_nil : GTs G Y [] tG0 :=
  ⟨fun A R n ys s₀ c fs K J gd lv s σ H D s0 H0 w hn lk k I ht => seg_execs_nil (k n ys s₀ s .next s0 H0 hn lk ⟨σ, H, I, ht⟩)⟩
theorem gts_cons {t u : TGn} (a : GT G Y st t) (b : GTs G Y rest u) : GTs G Y (st :: rest) (tGThen t u) := by
  refine ⟨fun A R n ys s₀ c fs K J gd lv s σ H D s0 H0 w hn lk k I ht => ?_⟩
  refine seg_execs_cons (a.run A R n ys s₀ c fs _ J gd lv s σ H _ s0 H0 w hn lk (fun n1 ys1 s₁ s2 f s01 H01 hn1 lk1 hf => ?_) I ht)
  cases f with
  | next =>
    obtain ⟨σ1, H1, I1, q⟩ := hf
    exact b.run A R n1 ys1 s₁ c fs K J gd lv s2 σ1 H1 D s01 H01 w hn1 lk1 k I1 q
  | brk => exact k n1 ys1 s₁ s2 .brk s01 H01 hn1 lk1 hf
  | cont => exact k n1 ys1 s₁ s2 .cont s01 H01 hn1 lk1 hf
  | ret u => exact k n1 ys1 s₁ s2 (.ret u) s01 H01 hn1 lk1 hf
theorem gts_one {t : TGn} (a : GT G Y st t) : GTs G Y [st] (tGThen t tG0) := gts_cons a gts_nil
/-- an if that may hand out within -/
def tGIf (tc : TT) (tb te : TGn) : TGn := fun D ys σ H => tc σ H fun b H1 => if b = true then tb D ys σ H1 else te D ys σ H1
theorem gt_if {test : Expr} {body orelse : List Stmt} {pos : Pos} {tc : TT} {tb te : TGn} (hc : ∀ s0 H0, PT (G.cx s0 H0) test tc) (hb : GTs G Y body tb) (he : GTs G Y orelse te) : GT G Y (.If test body orelse pos) (tGIf tc tb te) := by
  refine ⟨fun A R n ys s₀ c fs K J gd lv s σ H D s0 H0 w hn lk k I ht => ?_⟩
  rw [exec_If]
  refine seg_bind_wrap (wpAny_standAt ?_)
  refine seg_bind_wrap ?_
  rw [w.over]
  refine wpAny_mono ((hc s0 H0).run _ s σ H _ I ht) (fun b s1 hs => ?_) fun x s' hx => False.elim hx
  obtain ⟨H1, I1, q⟩ := hs
  cases b with
  | true =>
    rw [if_pos rfl] at q
    exact hb.run A R n ys s₀ c fs K J gd lv s1 σ H1 D s0 H0 w hn lk k I1 q
  | false =>
    rw [if_neg Bool.false_ne_true] at q
    exact he.run A R n ys s₀ c fs K J gd lv s1 σ H1 D s0 H0 w hn lk k I1 q
def tGHand (Y : Hd) (te : TE) : TGn := fun D ys σ H => ys.length < sizeLine ∧ te σ H fun x H1 => Y x H1 fun H2 => D.nx (ys ++ [x]) σ H2
theorem gt_yield {e : Expr} {yp pos : Pos} {te : TE} (hY : HdOk Y) (he : ∀ s0 H0, PE (G.cx s0 H0) e te) (hco : G.env.scope.isCoroutine = false := by rfl) (hi : interactive G.env = false := by rfl) : GT G Y (.Expr (.Yield (some e) yp) pos) (tGHand Y te) := by
  refine ⟨fun A R n ys s₀ c fs K J gd lv s σ H D s0 H0 w hn lk k I ht => ?_⟩
  obtain ⟨few, ht⟩ := ht
  obtain ⟨m, rfl⟩ : ∃ m, n = m + 1 := ⟨n - 1, by omega⟩
  refine seg_Expr_Yield w.split w.gd w.guard ?_ hco hi
  rw [w.over]
  refine wpAny_mono ((he s0 H0).run _ s σ H _ I ht) (fun v s1 hv => ?_) fun x s' hx => False.elim hx
  obtain ⟨x, H1, I1, rv, q⟩ := hv
  intro kap hk
  refine ⟨x, σ, H1, s0, H0, rv, lk, I1, hY.up _ _ _ _ (fun H2 z s02 s2 lk2 I2 => hk .none s2 ?_) q⟩
  exact k m (ys ++ [x]) s2 s2 .next s02 H2 (by rw [List.length_append, List.length_singleton]; omega) lk2 ⟨σ, H2, I2, z⟩
theorem wh_loop {A : Around} {c c' : Code} {fs : List Frame} {gd : Bool → Bool} {k : Result → Sem PySem.Fin} {l kp : List Value} {p : Pos} (w : Wh G A c fs gd) (hw : c'.weight = 0) (hu : c'.cUnits = 0) : Wh G A c' (.ret k none (gd false) l c p kp :: fs) id := by
  refine ⟨(over_loop hw hu).trans w.over, ?_, ?_, rfl⟩
  · show (splitAtGen fs).map _ = none
    rw [w.split, Option.map_none]
  · show (gd false || fs.any Frame.guarded) = false
    rw [w.gd, w.guard, Bool.or_false]
theorem gt_while {test : Expr} {body : List Stmt} {pos : Pos} {tc : TT} {tb : TGn} (hc : ∀ s0 H0, PT (G.cx s0 H0) test tc) (hb : GTs G Y body tb) : GT G Y (.While test body [] pos) (tGWhile tc tb) := by
  refine ⟨fun A R n ys s₀ c fs K J gd lv s σ H D s0 H0 w hn lk k I ht => ?_⟩
  obtain ⟨W, ⟨m0, w0⟩, turn⟩ := ht
  refine seg_While fun p => ?_
  have wl := fun kk : Result → Sem PySem.Fin => wh_loop (k := kk) (c' := .whileLoop test body [] G.env) (l := lv []) (kp := []) (p := p) w rfl rfl
  suffices hloop : ∀ (m n : Nat) (ys : List V) (s₀ s : Shared) (σ : L2.St) (H : Hp) (s0 : Shared) (H0 : Hp), n + ys.length = sizeLine → Lk G s0 s₀ H0 → W m ys σ H → Inv (G.cx s0 H0) [] σ H s →
      Seg (model G.P G.w) A R (Yp G Y) n s₀ (.whileLoop test body [] G.env) ((model G.P G.w).den (.whileLoop test body [] G.env))
        (.ret (fun r => ((match r with | .ok f => (.pure f : Sem Flow) | .error e => .raise e).onRaise (cameBack G.env)).wrap K J gd lv) none (gd false) (lv []) c p [] :: fs) s from hloop m0 n ys s₀ s σ H s0 H0 hn lk w0 I
  intro m
  induction m using Nat.strongRecOn with
  | ind m ih =>
    intro n ys s₀ s σ H s0 H0 hn lk w1 I
    refine seg_whileLoop ?_
    rw [(wl _).over]
    refine wpAny_mono ((hc s0 H0).run _ s σ H _ I (turn m ys σ H w1)) (fun b s1 hs => ?_) fun x s' hx => False.elim hx
    obtain ⟨H2, I2, q⟩ := hs
    cases b with
    | true =>
      obtain ⟨N, hN, q⟩ := q
      rw [if_pos rfl]
      refine hb.run A R n ys s₀ _ _ _ _ id id s1 σ H2 { D with nx := N, ct := N, bk := D.nx } s0 H0 (wl _) hn lk (fun n1 ys1 s₁ s3 f s01 H01 hn1 lk1 hf => ?_) I2 q
      cases f with
      | next =>
        obtain ⟨σ3, H3, I3, n3⟩ := hf
        obtain ⟨m', lt, w3⟩ := hN ys1 σ3 H3 n3
        exact seg_again rfl (ih m' lt n1 ys1 s₁ s3 σ3 H3 s01 H01 hn1 lk1 w3 I3)
      | cont =>
        obtain ⟨σ3, H3, I3, n3⟩ := hf
        obtain ⟨m', lt, w3⟩ := hN ys1 σ3 H3 n3
        exact seg_again rfl (ih m' lt n1 ys1 s₁ s3 σ3 H3 s01 H01 hn1 lk1 w3 I3)
      | brk => exact seg_leaf (.ok .next) (k n1 ys1 s₁ s3 .next s01 H01 hn1 lk1 hf)
      | ret v => exact seg_leaf (.ok (.ret v)) (k n1 ys1 s₁ s3 (.ret v) s01 H01 hn1 lk1 hf)
    | false =>
      rw [if_neg Bool.false_ne_true]
      exact seg_execs_nil (seg_leaf (.ok .next) (k n ys s₀ s1 .next s0 H0 hn lk ⟨σ, H2, I2, q⟩))
end
end GF

set_option Elab.async false
set_option linter.all false
set_option maxRecDepth 100000
set_option maxHeartbeats 1000000
namespace GF
open PySem PySem.Spec PyProof.Rows L2 GenW
section
variable {X : Cx} {pins : List (Addr × Obj)} {σ : L2.St} {H : Hp} {s : Shared}
/-- a local name read: the state stays -/
theorem rd {A : Around} {M : Model} {E : Value → Shared → Prop} {i : Nat} {x : Str} {v : V} {pos : Pos} {Q : Value → Shared → Prop} (I : Inv X pins σ H s) (hi : X.N[i]? = some x) (hv : σ[i]? = some (some v)) (hk : X.env.scope.names.lookup x = some .local)
    (q : ∀ u, RelV v u → Q u s) (hd : (x == ("__debug__" : Str)) = false := by decide) : wpAny M A (eval (.Name x pos) X.env) Q E s := by
  obtain ⟨m, hn, hl⟩ := I.loc
  obtain ⟨u, r, z⟩ := hl i x v hi hv (.inl hk)
  rcases z with ⟨k, e⟩ | ⟨k, _⟩
  · exact wpAny_Name (wpAny_loadName_local I.ok.kind k hn e (q u r)) hd
  · have k' : X.env.kindOf x = some .local := hk
    rcases k with k | k <;> rw [k'] at k <;> cases k
/-- a local name stored: only the frame's own record changes -/
theorem st {M : Model} {A : Around} {E : Value → Shared → Prop} {i : Nat} {x : Str} {v : V} {u : Value} {pos : Pos} {Q : Unit → Shared → Prop} (I : Inv X pins σ H s) (nd : X.N.Nodup) (nc : ∀ y, X.env.cells.lookup y = none) (hi : X.N[i]? = some x) (hk : X.env.scope.names.lookup x = some .local) (r : RelV v u)
    (q : ∀ s', s'.gens = s.gens → Inv X pins (σ.set i (some v)) H s' → Q () s') : wpAny M A (assign (.Name x pos) X.env u) Q E s := by
  obtain ⟨m, hn, hl⟩ := id I.loc
  refine wpAny_assign_Name (wpAny_storeName_local hk hn (fun h' hn' same => ?_) (by rw [I.ok.kind]; rfl))
  have old : ∀ b o, b ≠ X.env.locals → s.heap.get? b = some o → h'.get? b = some o := fun b o n e => (same.2 b n).trans e
  have ne : ∀ b o, X.s_0.heap.get? b = some o → b ≠ X.env.locals := fun b o e => Nat.ne_of_lt (Nat.lt_of_lt_of_le (Heap.lt_size e) I.ok.above)
  have lt : i < σ.length := by rw [I.len]; exact (List.getElem?_eq_some_iff.mp hi).1
  refine q _ rfl ⟨I.ok, I.os, I.bare, ⟨fun b o e n b1 b2 => old b o (ne b o e) (I.base.keep b o e n b1 b2), fun b o e n b1 b2 => ?_, I.base.free, fun b o e b2 => ?_, I.base.tups, I.base.frzs, I.base.tbls⟩, ⟨_, hn', fun j y w e1 e2 e3 => ?_⟩, fun y c e => ?_, I.free, I.freeC, fun p hp => ?_, fun b o e => ?_, by rw [List.length_set]; exact I.len⟩
  · obtain ⟨sl, z⟩ := I.base.slot b o e n b1 b2
    exact ⟨sl, old b _ (ne b o e) z⟩
  · obtain ⟨o', z⟩ := I.base.there b o e b2
    exact ⟨o', old b o' (ne b o e) z⟩
  · by_cases hj : j = i
    · subst hj
      have ex : y = x := Option.some.inj (e1.symm.trans hi)
      subst ex
      rw [List.getElem?_set_self lt] at e2
      obtain rfl : v = w := Option.some.inj (Option.some.inj e2)
      exact ⟨u, r, .inl ⟨hk, if_pos rfl⟩⟩
    · have hj' : i ≠ j := fun z => hj z.symm
      rw [List.getElem?_set_ne hj'] at e2
      obtain ⟨u', r', z⟩ := hl j y w e1 e2 e3
      refine ⟨u', r', ?_⟩
      have ny : y ≠ x := fun z => hj (nodup_ix nd e1 (z ▸ hi))
      rcases z with ⟨k, e⟩ | ⟨_, c, e, _⟩
      · exact .inl ⟨k, (if_neg ny).trans e⟩
      · rw [nc y] at e
        cases e
  · rw [nc y] at e
    cases e
  · obtain ⟨e, n, nl, nf, d⟩ := I.pin p hp
    exact ⟨old p.1 p.2 nl e, n, nl, nf, d⟩
  · refine (I.hok b o e).stay (fun c w hc z => old c w (fun y => ?_) z) (fun _ z => z) fun _ _ z => z
    have fr := I.free
    rw [← show c = X.env.locals from y] at fr
    rcases hc with rfl | hc
    · rw [fr] at e
      cases e
    · rw [fr] at hc
      cases hc
end
end GF

set_option Elab.async false
set_option linter.all false
set_option maxRecDepth 100000
set_option maxHeartbeats 1000000
namespace GF
open PySem PySem.Spec PyProof.Rows L2 GenW
section
variable {X : Cx} {pins : List (Addr × Obj)} {σ : L2.St} {H : Hp} {s : Shared}
/-- what the names of such a loop are: the target, the list that is filled, how many are wanted -/
structure Nm (X : Cx) (ip jf im : Nat) (pr fn mn : Str) : Prop where
  nd : X.N.Nodup
  nc : ∀ y, X.env.cells.lookup y = none
  hp : X.N[ip]? = some pr
  hf : X.N[jf]? = some fn
  hm : X.N[im]? = some mn
  kp : X.env.scope.names.lookup pr = some .local
  kf : X.env.scope.names.lookup fn = some .local
  km : X.env.scope.names.lookup mn = some .local
  n1 : ip ≠ jf
  n2 : ip ≠ im
  len : Gl X "len"
  mlen : X.mg "len" = none
  dp : (pr == ("__debug__" : Str)) = false
  df : (fn == ("__debug__" : Str)) = false
  dm : (mn == ("__debug__" : Str)) = false
theorem bod {E : Value → Shared → Prop} {ip jf im : Nat} {pr fn mn : Str} {v : V} {u : Value} {l : Addr} {mv : Int} {acc : List V} {p0 p1 p2 p3 p4 p5 p6 p7 p8 p9 pa pb pc : Pos} {Q : Flow → Shared → Prop} (T : Nm X ip jf im pr fn mn) (I : Inv X pins σ H s) (rv : RelV v u)
    (vf : σ[jf]? = some (some (.ref l))) (vm : σ[im]? = some (some (.int mv))) (hH : H l = some (.lst acc)) (few : acc.length < 1000) (hline : (p2.endLine == p4.line) = true)
    (q1 : mv ≤ (acc.length : Int) + 1 → ∀ s', Inv X pins (σ.set ip (some v)) (upd H l (.lst (acc ++ [v]))) s' → Q .brk s')
    (q2 : ¬ mv ≤ (acc.length : Int) + 1 → ∀ s', s'.gens = s.gens → Inv X pins (σ.set ip (some v)) (upd H l (.lst (acc ++ [v]))) s' → Q .next s') :
    wpAny (model X.prog X.w) X.A (assign (.Name pr p0) X.env u) (fun _ s2 => wpAny (model X.prog X.w) X.A (execs [.Expr (.Call (.Attribute (.Name fn p1) "append" p2) [.Name pr p3] [] p4) p5,
      .If (.Compare (.Call (.Name "len" p6) [.Name fn p7] [] p8) [.GtE] [.Name mn p9] pa) [.Break pb] [] pc] X.env) Q E s2) E s := by
  refine st I T.nd T.nc T.hp T.kp rv fun s2 g2 I2 => ?_
  have lt : ip < σ.length := by rw [I.len]; exact (List.getElem?_eq_some_iff.mp T.hp).1
  have w1 : (σ.set ip (some v))[ip]? = some (some v) := List.getElem?_set_self lt
  have w2 : (σ.set ip (some v))[jf]? = some (some (.ref l)) := by rw [List.getElem?_set_ne T.n1]; exact vf
  have w3 : (σ.set ip (some v))[im]? = some (some (.int mv)) := by rw [List.getElem?_set_ne T.n2]; exact vm
  refine wpAny_execs_cons (wpAny_Expr_any (wpAny_Call_append rfl rfl hline rfl (rd I2 T.hf w2 T.kf (fun ul rl => ?_) T.df)) I2.quiet rfl)
  obtain rfl : ul = Value.ref l := rl
  obtain ⟨z, its, n, rr, hl, e⟩ := I2.lstM hH
  refine ⟨l, its.toArray, rfl, ⟨_, n, e, rfl, rfl, rfl⟩, rd I2 T.hp w1 T.kp (fun uv rv2 => ?_) T.dp⟩
  have room : acc.length + 1 ≤ sizeLine := Nat.le_of_lt (by
    have hs : sizeLine = 16777216 := sizeLine_eq
    omega)
  refine call_meets PySem.F.slot_list_append ⟨_, e, rfl⟩ PySem.F.entry_list_append (PySem.F.args_list_append_2 _ _) (PySem.list_append l its.toArray n uv (by rw [List.size_toArray]; omega)) ⟨e, ?_⟩
  have I3 := I2.lset (t' := s2.toks) (its' := its ++ [uv]) (f := fun a => a.push uv) hH e (by simp) (rr.append (.cons rv2 .nil)) (by rw [List.length_append]; exact room)
  have e3 : upd H l (.lst (acc ++ [v])) l = some (.lst (acc ++ [v])) := upd_same
  refine wpAny_execs_cons (wpAny_If ?_)
  refine wpAny_isTrue_Compare1 (wpAny_Call_Name_kw (ld_blt I3 T.len T.mlen PySem.boot_len ?_)) (nomark _)
  refine PyProof.Rows.callWith_builtin1 ?_ rfl rfl
  show wpAny _ _ (spliced [(false, eval (.Name fn p7) X.env)]) _ _ _
  refine Calls.spliced_cons (rd I3 T.hf w2 T.kf (fun ul rl => Calls.spliced_nil ?_) T.df)
  obtain rfl : ul = Value.ref l := rl
  obtain ⟨its4, r4, pl, hz⟩ := I3.list (SqL.of e3)
  have hn := line63
  refine Calls.call_len_list pl.isList (by simp only [List.size_toArray] <;> (have := r4.length; omega)) ?_
  have I4 := I3.tok (s2.toks + 1 + 1)
  refine rd I4 T.hm w3 T.km (fun um rm => ?_) T.dm
  obtain ⟨tm, rfl⟩ := rm
  refine ge_int (wpAny_truthy_bool ?_)
  have el : ((its4.toArray.size : Nat) : Int) = (acc.length : Int) + 1 := by
    have := r4.length
    rw [List.length_append, List.length_singleton] at this
    rw [List.size_toArray]
    omega
  rw [el]
  by_cases c : mv ≤ (acc.length : Int) + 1
  · rw [decide_eq_true c, if_pos rfl]
    exact wpAny_execs_cons (wpAny_Break (q1 c _ I4))
  · rw [decide_eq_false c, if_neg Bool.false_ne_true]
    exact wpAny_execs_nil (wpAny_execs_nil (q2 c _ g2 I4))
end
end GF

set_option Elab.async false
set_option linter.all false
set_option maxRecDepth 100000
set_option maxHeartbeats 1000000
namespace GF
open PySem PySem.Spec PyProof.Rows L2 GenW
theorem inv_gens {X : Cx} {pins : List (Addr × Obj)} {σ : L2.St} {H : Hp} {s : Shared} {g : Array GenState} (I : Inv X pins σ H s) (b : AllBare g) : Inv X pins σ H { s with gens := g } :=
  ⟨I.ok, I.os, b, I.base, I.loc, I.cell, I.free, I.freeC, I.pin, I.hok, I.len⟩
/-- a generator def and its text -/
structure Gn (P : Program) (w : World) (K : PySem.W.Frag) (name qual : Str) (params : Arguments) (body : List Stmt) (scope : Scope) (N ps : List Str) (f : Addr) (fd : FuncData) (cdv : Value) : Prop where
  lk : ∃ (dV kV doc pm ct oc : Value) (an od : Option Addr) (osl : Array (Option Value)), fd = PySem.W.fnOf name qual params body scope dV kV doc pm an cdv ct ∧ K.lookup f = some ⟨oc, od, .func fd, osl⟩
  cd : PySem.W.codeIn K cdv qual = true
  S : GScope N ps scope
  nc : ∀ n y, (cellsFrom n scope.names []).lookup y = none
/-- what a call of it has made -/
structure Mk (P : Program) (w : World) (K : PySem.W.Frag) (mg : Str → Option Value) (base : Heap) (N : List Str) (qual : Str) (scope : Scope) (body : List Stmt) (f : Addr) (cdv : Value) (outer : List Env) (s : Shared) (H : Hp) (vs : List V) (a : Addr) (go : Obj) (g : Nat) (s' : Shared) : Prop where
  at_ : s'.heap.get? a = some go
  gen : s'.heap.IsGen a g
  nocell : ∀ v, go.data ≠ .cell v
  fresh : s'.gens[g]? = some (.fresh (.func body (envOfC qual scope s.heap.objs.size f cdv)))
  os : s'.os = s.os
  bare : AllBare s'.gens
  kept : ∀ b o, s.heap.get? b = some o → s'.heap.get? b = some o
  young : s.heap.objs.size < a
  inv : ∀ G : GD, G.P = P → G.w = w → G.K = K → G.mg = mg → G.base = base → G.N = N → G.A.handled = none → G.A.frames = some outer → G.env = envOfC qual scope s.heap.objs.size f cdv → G.outer = outer → G.a = a → G.go = go → Inv (G.cx s H) [] (start N vs) H s'
theorem make {P : Program} {w : World} {K : PySem.W.Frag} {mg : Str → Option Value} {base : Heap} {name qual : Str} {params : Arguments} {body : List Stmt} {scope : Scope} {N ps : List Str} {f : Addr} {fd : FuncData} {cdv : Value} {A : Around} {outer : List Env} {s : Shared} {H : Hp} {args : Args} {us : List Value} {vs : List V} {k : Nat}
    (F : Gn P w K name qual params body scope N ps f fd cdv) (hr : Room k A) (e0 : Env0 P w K mg base A outer s H) (hb : BindsTo s fd args (ps.zip us)) (r : Vals vs us) (hl : vs.length = ps.length) {R : Result → Shared → Prop}
    (q : ∀ a go g s', Mk P w K mg base N qual scope body f cdv outer s H vs a go g s' → R (.ok (.ret (.ref a))) s') : codeAny (model P w) A (.call (.ref f) args) R s := by
  obtain ⟨dV, kV, doc, pm, ct, oc, an, od, osl, rfl, lk⟩ := F.lk
  have S := F.S
  have KX : K.In s.heap := e0.mod.kin.keeps fun b o e => (e0.bs b o e).1
  have lim : s.heap.NoLimit := e0.mod.nolimit.keeps fun b o e => (e0.bs b o e).1
  have kinds : ∀ y ∈ ps.zip us, scope.names.lookup y.1 = some .local ∨ (scope.names.lookup y.1 = some .cell ∧ ((cellsFrom (s.heap.objs.size + 1) scope.names []).lookup y.1).isSome = true) := fun y hy => by
    obtain ⟨n, v⟩ := y
    rcases S.par n (List.of_mem_zip hy).1 with z | z
    · exact .inl z
    · exact .inr ⟨z, PySem.W.cellsFrom_some _ _ _ (.inl z)⟩
  refine codeAny_call_generator (by have := hr.dp; omega) (KX _ _ lk) rfl S.co S.gen rfl (PySem.W.codeRec_of KX F.cd) (hb _ _ _ _ ?_)
  refine wpAny_newFunctionEnv_cells S.kind kinds fun env he s1 x => ?_
  subst he
  obtain ⟨h1, tk, es1, hk1⟩ := x.done
  have os1 : s1.os = s.os := by rw [es1]
  have gen1 : s1.gens = s.gens := by rw [es1]
  have lt1 : s.heap.objs.size < s1.heap.objs.size := x.toInCall.ns.lt
  refine ⟨lim.keeps x.toInCall.keep, q _ _ _ _ ⟨Heap.get?_push_size _ rfl, ⟨_, _, _, Heap.get?_push_size _ rfl, rfl, rfl, rfl⟩, (fun v z => by cases z), Array.getElem?_push_size .., os1, AllBare.push (by rw [gen1]; exact e0.bare) rfl,
    fun b o e => Heap.get?_push_of_some _ (x.toInCall.keep b o e), lt1, fun G e1 e2 e3 e4 e5 e6 e7 e8 e9 e10 e11 e12 => ?_⟩⟩
  obtain ⟨P', w', K', mg', base', N', A', env', outer', n0', a', go', X', pins', Sg'⟩ := G
  dsimp only at e1 e2 e3 e4 e5 e6 e7 e8 e9 e10 e11 e12
  subst e1 e2 e3 e4 e5 e6 e9 e10 e11 e12
  have I1 := inv_startG (P := P') (w := w') (K := K') (mg := mg') (base := base') (N := N') (A := A') (E := fun _ _ _ => False) (qual := qual) (f := f) (cd := cdv) S e7 ⟨e8, e0.mod, e0.bs, e0.bsz, e0.funs, e0.frf, e0.hok, e0.bare⟩ hl r x
  have I2 := I1.call' (ch := []) (s' := { s1 with gens := s1.gens.push (.fresh (.func body (envOfC qual scope s.heap.objs.size f cdv))), toks := s1.toks + 1 + 1, heap := s1.heap.push { cls := .type "generator", data := .fields #[.int s1.gens.size 0, .str (PySem.W.fnOf name qual params body scope dV kV doc pm an cdv ct).name s1.toks, .str (PySem.W.fnOf name qual params body scope dV kV doc pm an cdv ct).qualname (s1.toks + 1)] } })
    rfl (Un.kept fun b o e => Heap.get?_push_of_some _ e) (I1.hok.kept fun b o e => Heap.get?_push_of_some _ e) (AllBare.push (by rw [gen1]; exact e0.bare) rfl) fun b z => by simp at z
  have kj := I2.ok
  refine ⟨⟨kj.mod, kj.kind, kj.glob, kj.blt, kj.above, kj.inj, kj.has, kj.cab, kj.hd, kj.frames, kj.stk, kj.exf, kj.bs, kj.bsz, kj.noex, kj.exfs, kj.funs, kj.frf⟩, I2.os, I2.bare, I2.base, I2.loc, I2.cell, I2.free, I2.freeC, fun p hp => ?_, I2.hok, I2.len⟩
  obtain rfl := List.mem_singleton.mp (show p ∈ [(_, _)] from hp)
  exact ⟨Heap.get?_push_size _ rfl, I1.hok.fresh (Nat.le_refl _), Nat.ne_of_gt lt1, I1.nofs (Nat.le_refl _), (fun v z => by cases z)⟩
end GF

set_option Elab.async false
set_option linter.all false
set_option maxRecDepth 100000
set_option maxHeartbeats 1000000
namespace GF
open PySem PySem.Spec PyProof.Rows L2 GenW
/-- alike but at one name -/
def Sh (ip : Nat) (σ τ : L2.St) : Prop := τ.length = σ.length ∧ ∀ j, j ≠ ip → τ[j]? = σ[j]?
theorem Sh.refl {ip : Nat} {σ : L2.St} : Sh ip σ σ := ⟨rfl, fun _ _ => rfl⟩
theorem Sh.set {ip : Nat} {σ τ : L2.St} {v : Option V} (h : Sh ip σ τ) : Sh ip σ (τ.set ip v) := ⟨by rw [List.length_set]; exact h.1, fun j n => by rw [List.getElem?_set_ne (Ne.symm n)]; exact h.2 j n⟩
/-- the loop: what is handed out goes behind the list; out of it when there are enough -/
def HY (D : Ends) (σ : L2.St) (ip : Nat) (l : Addr) (mv : Int) : Hd := fun x H k =>
  ∃ acc, H l = some (.lst acc) ∧ acc.length < 1000 ∧ (mv ≤ (acc.length : Int) + 1 → ∀ τ, Sh ip σ τ → D.nx τ (upd H l (.lst (acc ++ [x])))) ∧ (¬ mv ≤ (acc.length : Int) + 1 → k (upd H l (.lst (acc ++ [x]))))
theorem hy_ok {D : Ends} {σ : L2.St} {ip : Nat} {l : Addr} {mv : Int} : HdOk (HY D σ ip l mv) :=
  ⟨fun x H k k' up ⟨acc, e, few, q1, q2⟩ => ⟨acc, e, few, q1, fun c => up _ (q2 c)⟩⟩
def tForG (ta : TA) (tb : Hd → TGn) (N ps : List Str) (ip jf im : Nat) : TS := fun D σ H => ta σ H fun vs H1 => vs.length = ps.length ∧ ∃ l mv, σ[jf]? = some (some (.ref l)) ∧ σ[im]? = some (some (.int mv)) ∧
  tb (HY D σ ip l mv) { nx := fun _ _ H' => ∀ τ, Sh ip σ τ → D.nx τ H', rt := fun _ v H' => v = .non ∧ ∀ τ, Sh ip σ τ → D.nx τ H' } [] (start N vs) H1
/-- the end of the generator -/
def Fe (G : GD) (Fi : Hp → Prop) : Nat → Shared → Shared → Prop := fun n s₀ s1 => ∃ s0 H0 τ H1, Lk G s0 s₀ H0 ∧ Inv (G.cx s0 H0) [] τ H1 s1 ∧ Fi H1
def Re (G : GD) (Fi : Hp → Prop) : GenEnd := fun n s₀ r s1 => ((r = .ok (.ret .none) ∨ r = .ok .next) ∧ Fe G Fi n s₀ s1) ∨ ∃ e, r = .error e ∧ False
section
variable {X : Cx} {name qual nm : Str} {params : Arguments} {gbody : List Stmt} {scope : Scope} {N ps : List Str} {f : Addr} {fd : FuncData} {cdv : Value} {k ip jf im : Nat} {pr fn mn : Str} {e : Expr} {es : List Expr} {ta : TA} {tb : Hd → TGn} {p pos fpos p0 p1 p2 p3 p4 p5 p6 p7 p8 p9 pa pb pc : Pos}
theorem ps_forG (T : Nm X ip jf im pr fn mn) (F : Gn X.prog X.w X.K name qual params gbody scope N ps f fd cdv) (hr : Room (k + 3) X.A) (lo : X.env.frame = some X.env.locals ∧ X.stack = X.env :: X.outer)
    (hg : Gl X nm) (hm : X.mg nm = some (.ref f)) (hk : PySem.W.keepIn X.K (.ref f) = true) (hb : Binds X.K fd ps []) (ha : PA X (e :: es) ta)
    (hbody : ∀ (G : GD) (Y : Hd), HdOk Y → G.P = X.prog → G.w = X.w → G.K = X.K → G.mg = X.mg → G.base = X.base → G.N = N → G.env = envOfC qual scope G.n0 f cdv → Room k (G.A.deeper G.env) → GTs G Y gbody (tb Y))
    (hline : (p2.endLine == p4.line) = true) (hdb : (nm == ("__debug__" : Str)) = false := by decide) (he : starEach (e :: es) X.env = (false, eval e X.env) :: starEach es X.env := by rfl) (hpl : (backTo pos (starEach es X.env)).any (·.1) = false := by rfl)
    (hs : ∀ x, foldedSetIterable (.Call (.Name nm p) (e :: es) [] pos) X.env x = pure x := by intro _; rfl) :
    PS X (.For (.Name pr p0) (.Call (.Name nm p) (e :: es) [] pos) [.Expr (.Call (.Attribute (.Name fn p1) "append" p2) [.Name pr p3] [] p4) p5,
      .If (.Compare (.Call (.Name "len" p6) [.Name fn p7] [] p8) [.GtE] [.Name mn p9] pa) [.Break pb] [] pc] [] fpos) (tForG ta tb N ps ip jf im) := by
  refine ⟨fun pins s σ H D I h => ?_⟩
  refine wpAny_For (wpAny_Call_Name_kw (ld_glob I hg hm ?_ hdb)) hs
  refine PySem.W.callWith_K (h₀ := X.base) I.ok.mod.kin hk (thn (ha.run pos pins s σ H _ I h) fun us s1 ⟨vs, H1, I1, r, hl, l, mv, vf, vm, q⟩ => ⟨I1.kIn, ?_⟩) he hpl
  have hlu : us.length = ps.length := by rw [← r.length]; exact hl
  refine wpAny_call (make F hr I1.env0 (by have z := hb s1 us I1.kIn (by simpa using hlu); simpa using z) r hl fun a go g s2 M => ?_)
  refine wpAny_pyIter_gen M.gen ?_
  -- what stays
  let G : GD := ⟨X.prog, X.w, X.K, X.mg, X.base, N, X.A.in1, envOfC qual scope s1.heap.objs.size f cdv, X.stack, s1.heap.objs.size, a, go, X, pins ++ [(a, go)], Sh ip σ⟩
  let Y : Hd := HY D σ ip l mv
  let Fi : Hp → Prop := fun H' => ∀ τ, Sh ip σ τ → D.nx τ H'
  have hrk : Room k (X.A.in1.deeper (envOfC qual scope s1.heap.objs.size f cdv)) := ⟨hr.hd, by have := hr.dp; show X.A.depth + 1 + 3 * k + 5 < _; omega, by have := hr.un; show X.A.units + 1 + 3 + 16 * k + 200 < _; omega⟩
  have GB : GTs G Y gbody (tb Y) := hbody G Y hy_ok rfl rfl rfl rfl rfl rfl rfl hrk
  have Ig : Inv (G.cx s1 H1) [] (start N vs) H1 s2 := M.inv G rfl rfl rfl rfl rfl rfl hr.hd I1.ok.frames rfl rfl rfl rfl
  have Ic0 : Inv X pins σ H1 s2 := I1.call' (ch := []) M.os (Un.kept M.kept) (I1.hok.kept M.kept) M.bare fun b z => by simp at z
  have pa0 : s2.heap.get? a = some go ∧ H1 a = none ∧ a ≠ X.env.locals ∧ a ∉ X.fs ∧ ∀ v, go.data ≠ .cell v :=
    ⟨M.at_, I1.hok.fresh (Nat.le_of_lt M.young), Nat.ne_of_gt (Nat.lt_trans I1.lt M.young), I1.nofs (Nat.le_of_lt M.young), M.nocell⟩
  have Ic : Inv X (pins ++ [(a, go)]) σ H1 s2 := Ic0.pins_of fun p hp => (List.mem_append.mp hp).elim (fun z => Ic0.pin p (List.mem_append_right _ z)) fun z => by
    obtain rfl := List.mem_singleton.mp z
    exact pa0
  have stk : ∀ b ∈ frs X.stack, b < s1.heap.objs.size := fun b hb => by
    obtain ⟨_, o, ho, _⟩ := I1.stack.mem hb
    exact Heap.lt_size ho
  have c : Co G := by
    refine ⟨rfl, rfl, rfl, rfl, rfl, T.nc, stk, I1.sz, lo, fun p hp => ?_, fun x => F.nc _ x⟩
    have hp' : p ∈ X.pn ++ (pins ++ [(a, go)]) := hp
    rw [← List.append_assoc] at hp'
    rcases List.mem_append.mp hp' with z | z
    · exact .inl (Heap.lt_size (I1.pin p z).1)
    · exact .inr (List.mem_singleton.mp z)
  have ltL : X.env.locals < s1.heap.objs.size := I1.lt
  refine codeAny_forLoop_any (fun n s' => s1.heap.objs.size ≤ s'.heap.objs.size ∧ (∃ τ H', Sh ip σ τ ∧ Inv X (pins ++ [(a, go)]) τ H' s') ∧ ∃ gs, s'.gens[g]? = some gs ∧ gs.Goes (model X.prog X.w) X.A.in1 (Re G Fi) (Yp G Y) n (.send .none) (s'.setGen g .running)) ?_ sizeLine ?_
  · rintro n s3 ⟨big, ⟨τ, H3, sh, I3⟩, gs, hgs, hgo⟩
    have hgen : s3.heap.IsGen a g := by
      obtain ⟨o, x1, x2, ho, hc⟩ := M.gen
      have e1 : o = go := Option.some.inj (ho.symm.trans M.at_)
      subst e1
      exact ⟨_, x1, x2, (I3.pin (a, _) (by simp)).1, hc⟩
    have hgl : g < s3.gens.size := (Array.getElem?_eq_some_iff.mp hgs).1
    refine wpAny_gsz (n := g + 1) hgl (next_genG hr.hd I3.nolimit (by have := hr.dp; omega) hgen hgs hgo (fun v s4 gs' hbare hy => ?_) (fun s4 hf h' hk' => ?_) fun e s4 hx => False.elim hx)
    · intro hsz
      rw [setGen_size] at hsz
      obtain ⟨x, τg, H4, s0, H0, rv, lk, Ig4, hY⟩ := hy
      obtain ⟨τ4, sh4, I4⟩ := back (g := g) c lk Ig4 hbare
      refine wpAny_pure ?_
      obtain ⟨acc, eH, few, q1, q2⟩ := hY
      -- the generator's frame as it stands
      have fL : Inv (G.cx s0 H0) [] τg H4 s4 := Ig4
      obtain ⟨m, ⟨oL, esL, epL, hoL, hdL, _⟩, _⟩ := Ig4.loc
      have I4' : Inv X (pins ++ [(a, go)] ++ [(s1.heap.objs.size, oL)]) τ4 H4 (s4.setGen g gs') := I4.pins_of fun p hp => (List.mem_append.mp hp).elim (fun z => I4.pin p (List.mem_append_right _ z)) fun z => by
        obtain rfl := List.mem_singleton.mp z
        refine ⟨hoL, Ig4.free, Nat.ne_of_gt ltL, fun z => ?_, fun v z => ?_⟩
        · exact absurd (stk _ (c.sup z)) (Nat.lt_irrefl _)
        · have hz : oL.data = .cell v := z
          rw [hdL] at hz
          cases hz
      refine bod T I4' rv (by rw [sh4.2 jf T.n1.symm]; exact vf) (by rw [sh4.2 im T.n2.symm]; exact vm) eH few hline (fun cc s5 I5 => ?_) (fun cc s5 g5 I5 => ?_)
      · exact ⟨_, _, I5.unpinned.unpinned, q1 cc _ sh4.set⟩
      · have k2 := q2 cc
        have bare5 : AllBare (s5.setGen g .running).gens := allBare_setGen I5.bare rfl
        have I6 : Inv X (pins ++ [(a, go)]) (τ4.set ip (some x)) (upd H4 l (.lst (acc ++ [x]))) (s5.setGen g .running) := inv_gens I5.unpinned bare5
        have pL := I5.pin (s1.heap.objs.size, oL) (by simp)
        have pA := I5.pin (a, go) (by simp)
        have big5 : s1.heap.objs.size ≤ s5.heap.objs.size := Nat.le_of_lt (Heap.lt_size pL.1)
        have sz0 : s0.heap.objs.size = s1.heap.objs.size := by
          rw [lk.hp]
          exact cut_size lk.le
        obtain ⟨w1, w2⟩ := wake (s' := s5.setGen g .running) c sh4.set I6 Ig4 sz0 big5 (fun o ho => by
          have ho' : s4.heap.get? s1.heap.objs.size = some o := ho
          have hoL' : s4.heap.get? s1.heap.objs.size = some oL := hoL
          rw [hoL'] at ho'
          cases ho'
          exact pL.1) pL.2.1 pA.1 pA.2.1
        have go' := k2 _ _ w2 w1
        cases n with
        | zero => exact False.elim go'
        | succ n =>
          refine ⟨n, Nat.lt_succ_self _, big5, ⟨_, _, sh4.set, I5.unpinned⟩, gs', ?_, go'⟩
          rw [g5]
          exact setGen_at hsz
    · intro _
      obtain ⟨s0, H0, τg, H4, lk, Ig4, fi⟩ := hf
      obtain ⟨τ4, sh4, I4⟩ := back (gs := .finished) (g := g) c lk Ig4 rfl
      have I5 : Inv X (pins ++ [(a, go)]) τ4 H4 { s4.setGen g .finished with heap := h' } := I4.kept (t' := s4.toks) hk'
      exact wpAny_execs_nil ⟨τ4, H4, I5.unpinned, fi τ4 sh4⟩
  · have bare2 : AllBare (s2.setGen g .running).gens := allBare_setGen M.bare rfl
    have le2 : s1.heap.objs.size ≤ s2.heap.objs.size := Nat.le_of_lt (Nat.lt_trans M.young (Heap.lt_size M.at_))
    refine ⟨le2, ⟨σ, H1, Sh.refl, Ic⟩, _, M.fresh, rfl, ?_⟩
    obtain ⟨w1, w2⟩ := wake (s' := s2.setGen g .running) c Sh.refl (inv_gens Ic bare2) Ig rfl le2 (fun o ho => ho) Ig.free M.at_ pa0.2.1
    refine seg_func (GB.run X.A.in1 _ sizeLine [] _ _ [] _ _ id id _ _ _ _ _ _ ⟨over_func, rfl, rfl, rfl⟩ rfl w2 (fun n ys s₀ s' fl s0 H0 hn lk hf => ?_) w1 q)
    cases fl with
    | next =>
      obtain ⟨τ, H', I', fi⟩ := hf
      exact seg_end (.ok (.ret .none)) (.inl ⟨.inl rfl, s0, H0, τ, H', lk, I', fi⟩)
    | brk => obtain ⟨_, _, _, z⟩ := hf; exact False.elim z
    | cont => obtain ⟨_, _, _, z⟩ := hf; exact False.elim z
    | ret u =>
      obtain ⟨v, τ, H', I', rv, ev, fi⟩ := hf
      subst ev
      obtain rfl : u = Value.none := rv
      exact seg_end (.ok (.ret .none)) (.inl ⟨.inl rfl, s0, H0, τ, H', lk, I', fi⟩)
end
end GF

set_option Elab.async false
set_option linter.all false
set_option maxRecDepth 100000
set_option maxHeartbeats 4000000
namespace K03
open PySem PySem.Spec PyProof.Rows L2
def top (i : Nat) : Stmt := PySem.Challenge.pw_saidanew_k03_paths_and_inks.main.body.getD i (.Pass ⟨0, 0, 0, 0⟩)
abbrev sFeed : Stmt := top 14
abbrev sDraw : Stmt := top 15
abbrev sPick : Stmt := top 16
theorem scF : FnScope ["_law_script", "_law_k", "_law_cell", "_law_great"] ["_law_script", "_law_k"] (defScope sFeed) := ⟨rfl, rfl, rfl, by decide +kernel, rfl, by decide +kernel, by decide +kernel⟩
theorem scD : FnScope ["_law_feed", "_law_many", "_law_digit"] ["_law_feed", "_law_many"] (defScope sDraw) := ⟨rfl, rfl, rfl, by decide +kernel, rfl, by decide +kernel, by decide +kernel⟩
theorem scP : FnScope ["_law_feed", "_law_items"] ["_law_feed", "_law_items"] (defScope sPick) := ⟨rfl, rfl, rfl, by decide +kernel, rfl, by decide +kernel, by decide +kernel⟩
theorem same_new {H : Hp} {p : Addr} {o : HO} (h : H p = none) : Same H (upd H p o) := fun b u q => by rw [upd_ne (ne_of_none q h)]; exact q
def But (f : Addr) (H H' : Hp) : Prop := ∀ b o, b ≠ f → H b = some o → H' b = some o
theorem But.refl {f : Addr} {H : Hp} : But f H H := fun _ _ _ h => h
theorem But.trans {f : Addr} {H H1 H2 : Hp} (a : But f H H1) (b : But f H1 H2) : But f H H2 := fun c o n h => b c o n (a c o n h)
theorem But.of {f : Addr} {H H' : Hp} (s : Same H H') : But f H H' := fun c o _ h => s c o h
theorem But.upd {f : Addr} {H : Hp} {o : HO} : But f H (upd H f o) := fun c u n h => by rw [upd_ne n]; exact h
section
variable {P : Program} {w : World} {K : PySem.W.Frag} {mg : Str → Option Value} {base : Heap}
/-- a draw -/
def spDraw : Sp := fun vs H Q _ => ∃ (f : Addr) (g m many : Int), vs = [.ref f, .int many] ∧ H f = some (.lst [.int g, .int m]) ∧ 0 < many ∧ many < 1073741824 ∧
  ∀ d g' m' : Int, 0 ≤ d → d < many → Q (.int d) (upd H f (.lst [.int g', .int m']))
theorem ok_draw {f : Addr} {fd : FuncData} (F : Fun K "_law_draw" "_law_draw" sDraw f fd) : FnOk P w K mg base CX0 1 f fd ["_law_feed", "_law_many"] spDraw := by
  refine F.ok scD (fun vs H Q E h => ?_) (fun cdv A outer s H vs Q E hr h => ?_)
  · obtain ⟨f, g, m, many, rfl, _⟩ := h
    rfl
  · obtain ⟨f, g, m, many, rfl, hf, h0, h1, q⟩ := h
    refine ⟨_, pss_cons (ps_if (pt_cmpR op_gt (pe_ix ix_list (pv 0) pe_int (fun _ _ => rfl)) pe_int (nomark _))
        (pss_cons (ps_set (i := 2) scD.nd rfl (.inl rfl) (pe_op op_mod (pe_ix ix_list (pv 0) pe_int (fun _ _ => rfl)) (pv 1)))
        (pss_cons (ps_asg (pe_op op_fdiv (pe_ix ix_list (pv 0) pe_int (fun _ _ => rfl)) (pv 1)) (pg_sub (pv 0) pe_int set_list))
        (pss_one (ps_ret (pv 2))))) pss_nil)
      (pss_cons (ps_asg (pe_op op_mod (pe_op op_add (pe_op op_mul (pe_ix ix_list (pv 0) pe_int (fun _ _ => rfl)) pe_int) pe_int) pe_int) (pg_sub (pv 0) pe_int set_list))
      (pss_one (ps_ret (pe_op op_mod (pe_op op_fdiv (pe_ix ix_list (pv 0) pe_int (fun _ _ => rfl)) pe_int) (pv 1))))), ?_⟩
    have hS : SqL K H f [.int g, .int m] := SqL.of hf
    refine ⟨_, rfl, f, _, _, _, rfl, rfl, hS, atI_nat (j := 0) rfl, _, _, rfl, rfl, _, rfl, ?_⟩
    refine ite2 (fun c => ?_) (fun c => ?_)
    · refine ⟨_, rfl, f, _, _, _, rfl, rfl, hS, atI_nat (j := 0) rfl, _, rfl, _, _, rfl, rfl, h0, ?_⟩
      refine ⟨_, rfl, f, _, _, _, rfl, rfl, hS, atI_nat (j := 0) rfl, _, rfl, _, _, rfl, rfl, ⟨h0, h1⟩, ?_⟩
      refine ⟨_, rfl, f, _, _, 0, rfl, rfl, hf, rfl, _, rfl, ?_⟩
      exact q _ _ _ (Int.emod_nonneg _ (by omega)) (Int.emod_lt_of_pos _ h0)
    · refine ⟨_, rfl, f, _, _, _, rfl, rfl, hS, atI_nat (j := 1) rfl, _, _, rfl, rfl, .inr ⟨by decide, by decide⟩, _, _, rfl, rfl, _, _, rfl, rfl, (by show (0 : Int) < 2147483647; decide), ?_⟩
      refine ⟨_, rfl, f, _, _, 1, rfl, rfl, hf, rfl, ?_⟩
      refine ⟨_, rfl, f, _, _, _, rfl, rfl, SqL.of upd_same, atI_nat (j := 1) rfl, _, _, rfl, rfl, ⟨by decide, by decide⟩, _, rfl, _, _, rfl, rfl, h0, ?_⟩
      exact q _ _ _ (Int.emod_nonneg _ (by omega)) (Int.emod_lt_of_pos _ h0)
end
end K03

namespace K03
open PySem PySem.Spec PyProof.Rows L2
section
variable {P : Program} {w : World} {K : PySem.W.Frag} {mg : Str → Option Value} {base : Heap}
def spPick : Sp := fun vs H Q _ => ∃ (f a : Addr) (g m : Int) (xs : List V), vs = [.ref f, .ref a] ∧ H f = some (.lst [.int g, .int m]) ∧ H a = some (.lst xs) ∧ a ≠ f ∧ 0 < xs.length ∧ xs.length ≤ 1000 ∧
  ∀ (x : V) (g' m' : Int), x ∈ xs → Q x (upd H f (.lst [.int g', .int m']))
theorem ok_pick {f fD : Addr} {fd fdD : FuncData} (F : Fun K "_law_pick" "_law_pick" sPick f fd) (G : FnOk P w K mg base CX0 1 fD fdD ["_law_feed", "_law_many"] spDraw) (bD : Binds K fdD ["_law_feed", "_law_many"] []) (kD : PySem.W.keepIn K (.ref fD) = true)
    (mD : mg "_law_draw" = some (.ref fD)) (ml : mg "len" = none) : FnOk P w K mg base CX0 2 f fd ["_law_feed", "_law_items"] spPick := by
  refine F.ok scP (fun vs H Q E h => ?_) (fun cdv A outer s H vs Q E hr h => ?_)
  · obtain ⟨f, a, g, m, xs, rfl, _⟩ := h
    rfl
  · obtain ⟨f, a, g, m, xs, rfl, hf, ha, ne, h0, h1, q⟩ := h
    refine ⟨_, pss_one (ps_ret (pe_ix ix_list (pv 1) (pe_call G hr rfl mD kD bD .nil pass0 (pa_cons (pv 0) (pa_cons (pe_callB call_len_seq rfl ml PySem.boot_len (pa_cons (pv 1) pa_nil)) pa_nil))) (fun _ _ => rfl))), ?_⟩
    refine ⟨_, rfl, _, rfl, _, rfl, a, _, rfl, .inl (SqL.of ha), f, g, m, _, rfl, hf, by omega, by omega, fun d g' m' d0 d1 => ?_⟩
    obtain ⟨j, rfl⟩ : ∃ j : Nat, d = (j : Int) := ⟨d.toNat, by omega⟩
    have hj : j < xs.length := by omega
    refine ⟨a, xs, _, _, rfl, rfl, SqL.of (by rw [upd_ne ne]; exact ha), atI_nat (List.getElem?_eq_getElem hj), ?_⟩
    exact q _ g' m' (List.getElem_mem hj)
def spFeed (K : PySem.W.Frag) : Sp := fun vs H Q _ => ∃ (a : Addr) (ns : List Int) (k : Nat), vs = [.ref a, .int k] ∧ SqL K H a (ns.map V.int) ∧ ns.length ≤ 63 ∧
  ∀ (l : Addr) (g m : Int), H l = none → Q (.ref l) (upd H l (.lst [.int g, .int m]))
theorem ok_feed {f : Addr} {fd : FuncData} (F : Fun K "_law_feed_of" "_law_feed_of" sFeed f fd) (ml : mg "len" = none) : FnOk P w K mg base CX0 1 f fd ["_law_script", "_law_k"] (spFeed K) := by
  refine F.ok scF (fun vs H Q E h => ?_) (fun cdv A outer s H vs Q E hr h => ?_)
  · obtain ⟨a, ns, k, rfl, _⟩ := h
    rfl
  · obtain ⟨a, ns, k, rfl, hS, hlen, q⟩ := h
    refine ⟨_, pss_cons (ps_set (i := 2) scF.nd rfl (.inl rfl) (pe_op op_add (pe_op op_mul pe_int (pv 1)) pe_int))
      (pss_cons (ps_if (pt_cmpR op_lt (pv 1) (pe_callB call_len_seq rfl ml PySem.boot_len (pa_cons (pv 0) pa_nil)) (nomark _)) (pss_one (ps_set (i := 2) scF.nd rfl (.inl rfl) (pe_ix ix_list (pv 0) (pv 1) (fun _ _ => rfl)))) pss_nil)
      (pss_cons (ps_if (pt_cmpR op_lt (pv 2) pe_int (nomark _)) (pss_one (ps_set (i := 2) scF.nd rfl (.inl rfl) (pe_op op_sub pe_int (pe_op op_mul pe_int (pv 2))))) pss_nil)
      (pss_cons (ps_set (i := 3) scF.nd rfl (.inl rfl) (pe_ifExp (pt_cmpR op_ge (pv 2) (pe_op op_pow pe_int pe_int) (nomark _)) (pv 2) pe_int))
      (pss_one (ps_ret (pe_lst (pa_cons (pv 3) (pa_cons (pe_op op_add (pe_op op_add (pe_op op_mod (pv 2) pe_int) (pe_op op_mul pe_int (pv 1))) pe_int) pa_nil)))))))), ?_⟩
    refine ⟨_, rfl, _, _, rfl, rfl, .inl ⟨by decide, by decide⟩, _, _, rfl, rfl, ?_⟩
    refine ⟨_, rfl, _, rfl, a, _, rfl, .inl hS, _, _, rfl, rfl, _, rfl, ?_⟩
    refine ite2 (fun c => ?_) (fun c => ?_)
    · have c' : (k : Int) < (((ns.map V.int).length : Nat) : Int) := of_decide_eq_true c
      rw [List.length_map] at c'
      have hk : k < ns.length := by omega
      refine ⟨_, rfl, _, rfl, a, _, _, _, rfl, rfl, hS, atI_nat (v := V.int ns[k]) (by rw [List.getElem?_map, List.getElem?_eq_getElem hk]; rfl), ?_⟩
      refine ⟨_, rfl, _, _, rfl, rfl, _, rfl, ?_⟩
      refine ite2 (fun c => ?_) (fun c => ?_)
      · refine ⟨_, rfl, _, _, rfl, rfl, .inl ⟨by decide, by decide⟩, _, _, rfl, rfl, ?_⟩
        refine ⟨_, rfl, _, _, rfl, rfl, ⟨by decide, by decide, by decide⟩, _, _, rfl, rfl, _, rfl, ?_⟩
        refine ite2 (fun c => ?_) (fun c => ?_)
        · refine ⟨_, rfl, _, rfl, _, rfl, _, _, rfl, rfl, (by show (0 : Int) < 1000003; decide), _, rfl, _, _, rfl, rfl, .inl ⟨by decide, by decide⟩, _, _, rfl, rfl, _, _, rfl, rfl, (by show 2 ≤ sizeLine; decide), fun l hl => q l _ _ hl⟩
        · refine ⟨_, rfl, _, rfl, _, _, rfl, rfl, (by show (0 : Int) < 1000003; decide), _, rfl, _, _, rfl, rfl, .inl ⟨by decide, by decide⟩, _, _, rfl, rfl, _, _, rfl, rfl, (by show 2 ≤ sizeLine; decide), fun l hl => q l _ _ hl⟩
      · refine ⟨_, rfl, _, _, rfl, rfl, ⟨by decide, by decide, by decide⟩, _, _, rfl, rfl, _, rfl, ?_⟩
        refine ite2 (fun c => ?_) (fun c => ?_)
        · refine ⟨_, rfl, _, rfl, _, rfl, _, _, rfl, rfl, (by show (0 : Int) < 1000003; decide), _, rfl, _, _, rfl, rfl, .inl ⟨by decide, by decide⟩, _, _, rfl, rfl, _, _, rfl, rfl, (by show 2 ≤ sizeLine; decide), fun l hl => q l _ _ hl⟩
        · refine ⟨_, rfl, _, rfl, _, _, rfl, rfl, (by show (0 : Int) < 1000003; decide), _, rfl, _, _, rfl, rfl, .inl ⟨by decide, by decide⟩, _, _, rfl, rfl, _, _, rfl, rfl, (by show 2 ≤ sizeLine; decide), fun l hl => q l _ _ hl⟩
    · refine ⟨_, rfl, _, _, rfl, rfl, _, rfl, ?_⟩
      refine ite2 (fun c => ?_) (fun c => ?_)
      · refine ⟨_, rfl, _, _, rfl, rfl, .inl ⟨by decide, by decide⟩, _, _, rfl, rfl, ?_⟩
        refine ⟨_, rfl, _, _, rfl, rfl, ⟨by decide, by decide, by decide⟩, _, _, rfl, rfl, _, rfl, ?_⟩
        refine ite2 (fun c => ?_) (fun c => ?_)
        · refine ⟨_, rfl, _, rfl, _, rfl, _, _, rfl, rfl, (by show (0 : Int) < 1000003; decide), _, rfl, _, _, rfl, rfl, .inl ⟨by decide, by decide⟩, _, _, rfl, rfl, _, _, rfl, rfl, (by show 2 ≤ sizeLine; decide), fun l hl => q l _ _ hl⟩
        · refine ⟨_, rfl, _, rfl, _, _, rfl, rfl, (by show (0 : Int) < 1000003; decide), _, rfl, _, _, rfl, rfl, .inl ⟨by decide, by decide⟩, _, _, rfl, rfl, _, _, rfl, rfl, (by show 2 ≤ sizeLine; decide), fun l hl => q l _ _ hl⟩
      · refine ⟨_, rfl, _, _, rfl, rfl, ⟨by decide, by decide, by decide⟩, _, _, rfl, rfl, _, rfl, ?_⟩
        refine ite2 (fun c => ?_) (fun c => ?_)
        · refine ⟨_, rfl, _, rfl, _, rfl, _, _, rfl, rfl, (by show (0 : Int) < 1000003; decide), _, rfl, _, _, rfl, rfl, .inl ⟨by decide, by decide⟩, _, _, rfl, rfl, _, _, rfl, rfl, (by show 2 ≤ sizeLine; decide), fun l hl => q l _ _ hl⟩
        · refine ⟨_, rfl, _, rfl, _, _, rfl, rfl, (by show (0 : Int) < 1000003; decide), _, rfl, _, _, rfl, rfl, .inl ⟨by decide, by decide⟩, _, _, rfl, rfl, _, _, rfl, rfl, (by show 2 ≤ sizeLine; decide), fun l hl => q l _ _ hl⟩
end
end K03

set_option Elab.async false
set_option linter.all false
set_option maxRecDepth 100000
set_option maxHeartbeats 1000000
namespace K03
open PySem PySem.Spec PyProof.Rows L2
/-! ### data of tuples alone: no store changes them -/
mutual
inductive Td (K : PySem.W.Frag) (H : Hp) : V → PyData → Prop
  | non : Td K H .non .none
  | bl (b : Bool) : Td K H (.bl b) (.bool b)
  | int (i : Int) : Td K H (.int i) (.int i)
  | str (x : Str) : Td K H (.str x) (.str x)
  | tup {a : Addr} {xs : List V} {ds : List PyData} (h : SqT K H a xs) (r : TdAll K H xs ds) : Td K H (.ref a) (.tuple ds)
inductive TdAll (K : PySem.W.Frag) (H : Hp) : List V → List PyData → Prop
  | nil : TdAll K H [] []
  | cons {v : V} {vs : List V} {d : PyData} {ds : List PyData} (h : Td K H v d) (r : TdAll K H vs ds) : TdAll K H (v :: vs) (d :: ds)
end
/-- tuples, and what is locked, stay -/
def Kp (H H' : Hp) : Prop := ∀ a o, H a = some o → (match o with | .tup _ => True | .frz _ _ => True | _ => False) → H' a = some o
theorem Kp.refl {H : Hp} : Kp H H := fun _ _ e _ => e
theorem Kp.trans {H H1 H2 : Hp} (a : Kp H H1) (b : Kp H1 H2) : Kp H H2 := fun c o e i => b c o (a c o e i) i
theorem Kp.of {H H' : Hp} (s : Same H H') : Kp H H' := fun c o e _ => s c o e
abbrev Fd (H : Hp) (f : Addr) : Prop := ∃ g m : Int, H f = some (.lst [.int g, .int m])
theorem Kp.but {f : Addr} {H H' : Hp} (hf : Fd H f) (b : But f H H') : Kp H H' := fun c o e i => b c o (fun z => by
  obtain ⟨g, m, q⟩ := hf
  rw [z, q] at e
  cases e
  exact i) e
theorem Kp.lst {H : Hp} {l : Addr} {xs ys : List V} (e : H l = some (.lst xs)) : Kp H (upd H l (.lst ys)) := fun c o q i => by
  by_cases z : c = l
  · subst z
    rw [e] at q
    cases q
    cases i
  · rw [upd_ne z]
    exact q
theorem sqt_kp {K : PySem.W.Frag} {H H' : Hp} {a : Addr} {xs : List V} (k : Kp H H') (h : SqT K H a xs) : SqT K H' a xs := by
  rcases h with (h | ⟨o, h⟩) | h
  · exact .inl (.inl (k _ _ h trivial))
  · exact .inl (.inr ⟨o, k _ _ h trivial⟩)
  · exact .inr h
mutual
theorem td_kp {K : PySem.W.Frag} {H H' : Hp} (k : Kp H H') : ∀ {d : PyData} {v : V}, Td K H v d → Td K H' v d
  | .none, _, h => by cases h; exact .non
  | .bool b, _, h => by cases h; exact .bl b
  | .int i, _, h => by cases h; exact .int i
  | .str x, _, h => by cases h; exact .str x
  | .tuple ds, _, h => by
    cases h with
    | tup a r => exact .tup (sqt_kp k a) (tds_kp k r)
  | .list _, _, h => by cases h
  | .dict _, _, h => by cases h
theorem tds_kp {K : PySem.W.Frag} {H H' : Hp} (k : Kp H H') : ∀ {ds : List PyData} {vs : List V}, TdAll K H vs ds → TdAll K H' vs ds
  | [], _, h => by cases h; exact .nil
  | d :: ds, _, h => by
    cases h with
    | cons a r => exact .cons (td_kp k a) (tds_kp k r)
end
mutual
theorem td_dp {K : PySem.W.Frag} {H : Hp} : ∀ {d : PyData} {v : V}, Td K H v d → Dp K H v d
  | .none, _, h => by cases h; exact .non
  | .bool b, _, h => by cases h; exact .bl b
  | .int i, _, h => by cases h; exact .int i
  | .str x, _, h => by cases h; exact .str x
  | .tuple ds, _, h => by
    cases h with
    | tup a r => exact .tup a (tds_dp r)
  | .list _, _, h => by cases h
  | .dict _, _, h => by cases h
theorem tds_dp {K : PySem.W.Frag} {H : Hp} : ∀ {ds : List PyData} {vs : List V}, TdAll K H vs ds → DpAll K H vs ds
  | [], _, h => by cases h; exact .nil
  | d :: ds, _, h => by
    cases h with
    | cons a r => exact .cons (td_dp a) (tds_dp r)
end
theorem TdAll.len {K : PySem.W.Frag} {H : Hp} : ∀ {vs : List V} {ds : List PyData}, TdAll K H vs ds → vs.length = ds.length
  | _, _, .nil => rfl
  | _, _, .cons _ r => congrArg Nat.succ r.len
theorem TdAll.app {K : PySem.W.Frag} {H : Hp} : ∀ {vs ws : List V} {ds es : List PyData}, TdAll K H vs ds → TdAll K H ws es → TdAll K H (vs ++ ws) (ds ++ es)
  | _, _, _, _, .nil, h => h
  | _, _, _, _, .cons a r, h => .cons a (r.app h)
theorem TdAll.get {K : PySem.W.Frag} {H : Hp} : ∀ {vs : List V} {ds : List PyData} {i : Nat} {v : V}, TdAll K H vs ds → vs[i]? = some v → ∃ d, ds[i]? = some d ∧ Td K H v d
  | _, _, _, _, .nil, h => by simp at h
  | _, _, 0, _, .cons a _, h => by
    simp at h
    subst h
    exact ⟨_, rfl, a⟩
  | _, _, i + 1, v, .cons _ r, h => by
    obtain ⟨d, e, q⟩ := r.get (i := i) (v := v) (by simpa using h)
    exact ⟨d, by simpa using e, q⟩
theorem TdAll.get' {K : PySem.W.Frag} {H : Hp} : ∀ {vs : List V} {ds : List PyData} {i : Nat} {d : PyData}, TdAll K H vs ds → ds[i]? = some d → ∃ v, vs[i]? = some v ∧ Td K H v d
  | _, _, _, _, .nil, h => by simp at h
  | _, _, 0, _, .cons a _, h => by
    simp at h
    subst h
    exact ⟨_, rfl, a⟩
  | _, _, i + 1, d, .cons _ r, h => by
    obtain ⟨v, e, q⟩ := r.get' (i := i) (d := d) (by simpa using h)
    exact ⟨v, by simpa using e, q⟩
theorem TdAll.drop {K : PySem.W.Frag} {H : Hp} : ∀ {vs : List V} {ds : List PyData} (n : Nat), TdAll K H vs ds → TdAll K H (vs.drop n) (ds.drop n)
  | _, _, 0, h => h
  | _, _, _ + 1, .nil => .nil
  | _, _, n + 1, .cons _ r => r.drop n
theorem TdAll.take {K : PySem.W.Frag} {H : Hp} : ∀ {vs : List V} {ds : List PyData} (n : Nat), TdAll K H vs ds → TdAll K H (vs.take n) (ds.take n)
  | _, _, 0, _ => .nil
  | _, _, _ + 1, .nil => .nil
  | _, _, n + 1, .cons a r => .cons a (r.take n)
/-! ### expressions over a feed, by their data -/
/-- from H0 on, whatever else is drawn and made: t has a value of data that P holds of -/
def DE (K : PySem.W.Frag) (f : Addr) (H0 : Hp) (σ : L2.St) (t : TE) (P : PyData → Prop) : Prop :=
  ∀ (H : Hp) (Q : VK), But f H0 H → Fd H f → (∀ v H' d, But f H H' → Fd H' f → Td K H' v d → P d → Q v H') → t σ H Q
def DA (K : PySem.W.Frag) (f : Addr) (H0 : Hp) (σ : L2.St) (t : TA) (P : List PyData → Prop) : Prop :=
  ∀ (H : Hp) (Q : List V → Hp → Prop), But f H0 H → Fd H f → (∀ vs H' ds, But f H H' → Fd H' f → TdAll K H' vs ds → P ds → Q vs H') → t σ H Q
/-- a new list of such data -/
def DL (K : PySem.W.Frag) (f : Addr) (H0 : Hp) (σ : L2.St) (t : TE) (P : List PyData → Prop) : Prop :=
  ∀ (H : Hp) (Q : VK), But f H0 H → Fd H f → (∀ l H' vs ds, But f H H' → Fd H' f → H l = none → l ≠ f → H' l = some (.lst vs) → TdAll K H' vs ds → P ds → Q (.ref l) H') → t σ H Q
section
variable {K : PySem.W.Frag} {f : Addr} {H0 : Hp} {σ : L2.St} {t u : TE} {ts : TA} {P P' : PyData → Prop} {R R' : List PyData → Prop}
theorem DE.imp (h : DE K f H0 σ t P) (i : ∀ d, P d → P' d) : DE K f H0 σ t P' := fun H Q b hf q => h H Q b hf fun v H' d b' hf' td p => q v H' d b' hf' td (i d p)
theorem DA.imp (h : DA K f H0 σ ts R) (i : ∀ d, R d → R' d) : DA K f H0 σ ts R' := fun H Q b hf q => h H Q b hf fun v H' d b' hf' td p => q v H' d b' hf' td (i d p)
theorem DL.imp (h : DL K f H0 σ t R) (i : ∀ d, R d → R' d) : DL K f H0 σ t R' := fun H Q b hf q => h H Q b hf fun l H' v d b' hf' a1 a2 a3 td p => q l H' v d b' hf' a1 a2 a3 td (i d p)
theorem DE.var {i : Nat} {v : V} {d : PyData} (h0 : Fd H0 f) (hv : σ[i]? = some (some v)) (hd : Td K H0 v d) : DE K f H0 σ (tVar i) (fun x => x = d) :=
  fun H Q b hf q => ⟨v, hv, q v H d But.refl hf (td_kp (Kp.but h0 b) hd) rfl⟩
theorem DE.int {i : Int} : DE K f H0 σ (tC (.int i)) (fun x => x = .int i) := fun H Q b hf q => q _ H _ But.refl hf (.int i) rfl
theorem DE.str {i : Str} : DE K f H0 σ (tC (.str i)) (fun x => x = .str i) := fun H Q b hf q => q _ H _ But.refl hf (.str i) rfl
theorem DA.nil : DA K f H0 σ tNil (fun x => x = []) := fun H Q b hf q => q _ H _ But.refl hf .nil rfl
theorem DA.cons (a : DE K f H0 σ t P) (r : DA K f H0 σ ts R) : DA K f H0 σ (tCons t ts) (fun x => ∃ d ds, x = d :: ds ∧ P d ∧ R ds) := fun H Q b hf q =>
  a H _ b hf fun v H1 d b1 hf1 td p => r H1 _ (b.trans b1) hf1 fun vs H2 ds b2 hf2 tds r' => q (v :: vs) H2 (d :: ds) (b1.trans b2) hf2 (.cons (td_kp (Kp.but hf1 b2) td) tds) ⟨d, ds, rfl, p, r'⟩
theorem Fd.new {H : Hp} {p : Addr} {o : HO} (h : Fd H f) (np : H p = none) : Fd (upd H p o) f := by
  obtain ⟨g, m, e⟩ := h
  exact ⟨g, m, same_new np _ _ e⟩
theorem but_new {H : Hp} {p : Addr} {o : HO} (np : H p = none) : But f H (upd H p o) := .of (same_new np)
theorem Fd.ne {H : Hp} {p : Addr} (h : Fd H f) (np : H p = none) : p ≠ f := fun z => by
  obtain ⟨g, m, e⟩ := h
  rw [z, e] at np
  cases np
theorem DE.tup (h : DA K f H0 σ ts R) (few : ∀ ds, R ds → ds.length ≤ 1000) : DE K f H0 σ (tTup ts) (fun x => ∃ ds, x = .tuple ds ∧ R ds) := fun H Q b hf q =>
  h H _ b hf fun vs H1 ds b1 hf1 tds r => ⟨by rw [tds.len]; exact Nat.le_of_lt (small1000 (few ds r)), fun p np =>
    q _ _ (.tuple ds) (b1.trans (but_new np)) (hf1.new np) (.tup (SqT.of upd_same) (tds_kp (Kp.of (same_new np)) tds)) ⟨ds, rfl, r⟩⟩
theorem DL.lst (h : DA K f H0 σ ts R) (few : ∀ ds, R ds → ds.length ≤ 1000) : DL K f H0 σ (tLst ts) R := fun H Q b hf q =>
  h H _ b hf fun vs H1 ds b1 hf1 tds r => ⟨by rw [tds.len]; exact Nat.le_of_lt (small1000 (few ds r)), fun p np =>
    q p _ vs ds (b1.trans (but_new np)) (hf1.new np) (by
      cases e : H p with
      | none => rfl
      | some o => exact absurd (b1 p o (fun z => hf1.ne np z) e) (by rw [np]; exact nofun)) (hf1.ne np) upd_same (tds_kp (Kp.of (same_new np)) tds) r⟩
theorem DE.draw {many : Int} (h0 : σ[0]? = some (some (.ref f))) (h1 : 0 < many) (h2 : many < 1073741824) : DE K f H0 σ (tCall spDraw [] E0 (tCons (tVar 0) (tCons (tC (V.int many)) tNil))) (fun x => ∃ k : Nat, x = .int k ∧ (k : Int) < many) := fun H Q b hf q => by
  obtain ⟨g, m, e⟩ := hf
  refine ⟨_, h0, f, g, m, many, rfl, e, h1, h2, fun d g1 m1 d0 d1 => ?_⟩
  obtain ⟨k, rfl⟩ : ∃ k : Nat, d = (k : Int) := ⟨d.toNat, by omega⟩
  exact q _ _ _ But.upd ⟨g1, m1, upd_same⟩ (.int _) ⟨k, rfl, d1⟩
theorem DE.pick (h0 : σ[0]? = some (some (.ref f))) (h : DL K f H0 σ t R) (some1 : ∀ ds, R ds → 0 < ds.length ∧ ds.length ≤ 1000) : DE K f H0 σ (tCall spPick [] E0 (tCons (tVar 0) (tCons t tNil))) (fun x => ∃ ds, R ds ∧ x ∈ ds) := fun H Q b hf q => by
  refine ⟨_, h0, ?_⟩
  refine h H _ b hf fun l H1 vs ds b1 hf1 nl lf el tds r => ?_
  obtain ⟨g, m, e⟩ := hf1
  obtain ⟨s1, s2⟩ := some1 ds r
  have hl := tds.len
  refine ⟨f, l, g, m, vs, rfl, e, el, lf, by omega, by omega, fun x g1 m1 hx => ?_⟩
  obtain ⟨i, hi⟩ := List.getElem?_of_mem hx
  obtain ⟨d, hd, td⟩ := tds.get hi
  exact q x _ d (b1.trans But.upd) ⟨g1, m1, upd_same⟩ (td_kp (Kp.lst e) td) ⟨ds, r, List.mem_of_getElem? hd⟩
/-- + - * of two ints -/
theorem DE.op0 {g : Int → Int → Int} {A B : Int → Prop} (ha : DE K f H0 σ t (fun x => ∃ i, x = .int i ∧ A i)) (hb : DE K f H0 σ u (fun x => ∃ i, x = .int i ∧ B i)) : DE K f H0 σ (tOp (rI0 fun i j => V.int (g i j)) t u) (fun x => ∃ i, x = .int i ∧ ∃ a b, i = g a b ∧ A a ∧ B b) := fun H Q b hf q =>
  ha H _ b hf fun v H1 d b1 hf1 td ⟨i, e, ai⟩ => hb H1 _ (b.trans b1) hf1 fun w H2 d2 b2 hf2 td2 ⟨j, e2, bj⟩ => by
    subst e
    subst e2
    cases td
    cases td2
    exact ⟨i, j, rfl, rfl, q _ _ _ (b1.trans b2) hf2 (.int _) ⟨_, rfl, i, j, rfl, ai, bj⟩⟩
theorem DE.eq0 (ha : DE K f H0 σ t (fun x => ∃ i : Int, x = .int i)) {k : Int} : DE K f H0 σ (tOp rEq t (tC (.int k))) (fun x => ∃ b, x = .bool b) := fun H Q b hf q =>
  ha H _ b hf fun v H1 d b1 hf1 td ⟨i, e⟩ => by
    subst e
    cases td
    exact ⟨rfl, q _ _ _ b1 hf1 (.bl _) ⟨_, rfl⟩⟩
end
end K03

set_option Elab.async false
set_option linter.all false
set_option maxRecDepth 100000
set_option maxHeartbeats 4000000
namespace K03
open PySem PySem.Spec PyProof.Rows L2
def leafD : PyData → Bool
  | .none => true
  | .bool _ => true
  | .int i => decide (-(10 ^ 60) ≤ i)
  | .str x => PyData.strOk x && decide (x.length ≤ 100)
  | _ => false
def okD : Nat → PyData → Prop
  | 0, d => leafD d = true
  | n + 1, d => leafD d = true ∨ ∃ ds, (d = .tuple ds ∨ d = .list ds) ∧ ds.length ≤ 100 ∧ ∀ x ∈ ds, okD n x
theorem okD.leaf : ∀ {n : Nat} {d : PyData}, leafD d = true → okD n d
  | 0, _, h => h
  | _ + 1, _, h => .inl h
theorem okD.up : ∀ {n : Nat} {d : PyData}, okD n d → okD (n + 1) d
  | 0, _, h => .inl h
  | n + 1, d, h => by
    rcases h with h | ⟨ds, e, l, q⟩
    · exact .inl h
    · exact .inr ⟨ds, e, l, fun x hx => (q x hx).up⟩
theorem okD.le {n m : Nat} (h : n ≤ m) {d : PyData} (k : okD n d) : okD m d := by
  induction m with
  | zero =>
    have e : n = 0 := by omega
    subst e
    exact k
  | succ m ih =>
    by_cases e : n = m + 1
    · subst e
      exact k
    · exact (ih (by omega)).up
theorem okD.tup {n : Nat} {ds : List PyData} (h : okD n (.tuple ds)) : ds.length ≤ 100 ∧ ∃ m, n = m + 1 ∧ ∀ x ∈ ds, okD m x := by
  cases n with
  | zero => cases h
  | succ n =>
    rcases h with h | ⟨ds', e, l, q⟩
    · cases h
    · rcases e with e | e
      · cases e
        exact ⟨l, n, rfl, q⟩
      · cases e
theorem layAll : ∀ {ds : List PyData} {m : Nat}, (∀ x ∈ ds, x.canLay0 = true ∧ x.depth ≤ m) → PyData.canLayAll0 ds = true ∧ PyData.depthAll ds ≤ m
  | [], m, _ => ⟨by simp [PyData.canLayAll0], by simp [PyData.depthAll]⟩
  | d :: ds, m, h => by
    have h1 := h d List.mem_cons_self
    have h2 := layAll (ds := ds) (m := m) fun x hx => h x (List.mem_cons_of_mem _ hx)
    refine ⟨by simp [PyData.canLayAll0, h1.1, h2.1], ?_⟩
    simp only [PyData.depthAll]
    exact Nat.max_le.mpr ⟨h1.2, h2.2⟩
theorem leaf_lay {d : PyData} (h : leafD d = true) : d.canLay0 = true ∧ d.depth = 0 := by
  cases d with
  | none => exact ⟨by simp [PyData.canLay0], by simp [PyData.depth]⟩
  | bool b => exact ⟨by simp [PyData.canLay0], by simp [PyData.depth]⟩
  | int i => exact ⟨by simp [PyData.canLay0], by simp [PyData.depth]⟩
  | str x =>
    have h' : (PyData.strOk x && decide (x.length ≤ 100)) = true := h
    rw [Bool.and_eq_true] at h'
    exact ⟨by simp [PyData.canLay0, h'.1], by simp [PyData.depth]⟩
  | list xs => cases h
  | tuple xs => cases h
  | dict kvs => cases h
theorem okD.lay : ∀ {n : Nat} {d : PyData}, okD n d → d.canLay0 = true ∧ d.depth ≤ n + 1
  | 0, d, h => by
    have z := leaf_lay h
    exact ⟨z.1, by omega⟩
  | n + 1, d, h => by
    rcases h with h | ⟨ds, e, l, q⟩
    · have z := leaf_lay h
      exact ⟨z.1, by omega⟩
    · have z := layAll (ds := ds) (m := n + 1) fun x hx => (q x hx).lay
      rcases e with e | e
      · subst e
        refine ⟨by simp [PyData.canLay0, z.1], ?_⟩
        simp only [PyData.depth]
        omega
      · subst e
        refine ⟨by simp [PyData.canLay0, z.1], ?_⟩
        simp only [PyData.depth]
        omega
theorem okD.shaped {n : Nat} {d : PyData} (h : okD n d) (hn : n ≤ 60) : SeqAt.shaped d = true := by
  obtain ⟨h1, h2⟩ := h.lay
  unfold SeqAt.shaped
  rw [h1, decide_eq_true (show d.depth ≤ 64 by omega)]
  rfl
theorem inV_strs {s : Str} : ∀ l : List Str, inV (.str s) (l.map V.str) = decide (s ∈ l)
  | [] => rfl
  | a :: l => by
    have ih := inV_strs (s := s) l
    by_cases e : s = a
    · subst e
      simp [inV, eqV]
    · have e1 : (a == s) = false := beq_eq_false_iff_ne.mpr fun z => e z.symm
      have e2 : (s == a) = false := beq_eq_false_iff_ne.mpr e
      unfold inV at ih ⊢
      rw [List.map_cons, List.any_cons, ih]
      simp [eqV, e1, e2, e]
structure BI (mg : Str → Option Value) : Prop where
  isi : mg "isinstance" = none
  tup : mg "tuple" = none
  lst : mg "list" = none
  bool : mg "bool" = none
  int : mg "int" = none
  str : mg "str" = none
  len : mg "len" = none
  all : mg "all" = none
theorem strs_flat (l : List Str) : (l.map V.str).all flatV = true := by
  rw [List.all_eq_true]
  intro x hx
  obtain ⟨s, _, rfl⟩ := List.mem_map.mp hx
  rfl
def SINGl : List Str := (["int", "quote", "flag", "global", "ref", "name"] : List String).map Str.ofString
def MADEl : List Str := (["int", "quote", "flag", "global", "made", "ref", "fun", "use"] : List String).map Str.ofString
def ONESl : List Str := (["do", "not", "first", "rest", "none", "cell", "get", "raise", "say"] : List String).map Str.ofString
def TWOSl : List Str := (["seq", "plus", "minus", "times", "less", "same", "put", "set"] : List String).map Str.ofString
theorem valV_s {a s : Str} {v : V} {r : List (Key × V)} : valV (((.inr a : Key), v) :: r) (.inr s) = if a = s then some v else valV r (.inr s) := by
  unfold valV
  rw [List.find?_cons]
  by_cases e : a = s
  · subst e
    simp
  · have : decide ((Sum.inr a : Key) = Sum.inr s) = false := decide_eq_false fun z => e (Sum.inr.inj z)
    dsimp only
    rw [this, if_neg e]
theorem valV_0 {s : Str} : valV ([] : List (Key × V)) (.inr s) = none := rfl
theorem isD_of {H : Hp} {p : Addr} {kvs : List (Key × V)} (e : H p = some (.dK kvs)) : IsD H p := .inl ⟨kvs, .inl e⟩
def firstN (s : Str) : Nat := if s = "fun" then 1 else if s = "use" then 2 else if s = "made" then 0 else if s ∈ SINGl then 1 else 0
def manyN (s : Str) : Int := if s = "let" then 2 else if s = "try" then 2 else if s = "if" then 3 else (if s ∈ ONESl then 1 else 0) + 2 * (if s ∈ TWOSl then 1 else 0)
section
variable {P : Program} {w : World} {K : PySem.W.Frag} {mg : Str → Option Value} {base : Heap}
abbrev sFirst : Stmt := top 19
abbrev sOnes : Stmt := top 20
abbrev sTwos : Stmt := top 21
structure Cal (P : Program) (w : World) (K : PySem.W.Frag) (mg : Str → Option Value) (base : Heap) (x : Str) (k : Nat) (f : Addr) (fd : FuncData) (ps : List Str) (ds : List Value) (sp : Sp) : Prop where
  G : FnOk P w K mg base CX0 k f fd ps sp
  m : mg x = some (.ref f)
  k : PySem.W.keepIn K (.ref f) = true
  b : Binds K fd ps ds
theorem scFirst : FnScope ["_law_head"] ["_law_head"] (defScope sFirst) := ⟨rfl, rfl, rfl, by decide +kernel, rfl, by decide +kernel, by decide +kernel⟩
theorem scOnes : FnScope [] [] (defScope sOnes) := ⟨rfl, rfl, rfl, by decide +kernel, rfl, by decide +kernel, by decide +kernel⟩
theorem scTwos : FnScope [] [] (defScope sTwos) := ⟨rfl, rfl, rfl, by decide +kernel, rfl, by decide +kernel, by decide +kernel⟩
def spFirst : Sp := fun vs H Q _ => ∃ s : Str, vs = [.str s] ∧ ∀ H', Same H H' → Q (.int (firstN s : Nat)) H'
def spStrs (l : List Str) : Sp := fun vs H Q _ => vs = [] ∧ ∀ (p : Addr) (H' : Hp), Same H H' → H' p = some (.lst (l.map V.str)) → H p = none → Q (.ref p) H'
theorem sing_in (s : Str) : inV (.str s) (SINGl.map V.str) = decide (s ∈ SINGl) := inV_strs _
theorem ok_first {f : Addr} {fd : FuncData} (F : Fun K "_law_first" "_law_first" sFirst f fd) (B : BI mg) : FnOk P w K mg base CX0 1 f fd ["_law_head"] spFirst := by
  refine F.ok scFirst (fun vs H Q E h => ?_) (fun cdv A outer s H vs Q E hr h => ?_)
  · obtain ⟨z, rfl, _⟩ := h
    rfl
  · obtain ⟨z, rfl, q⟩ := h
    have hu : (A.deeper (envOfC "_law_first" (defScope sFirst) s.heap.objs.size f cdv)).units + 1 < cLine := by
      have := hr.un
      omega
    refine ⟨_, pss_one (ps_ret (pe_dget2 hu (pe_disp (pps_cons pe_str pe_int (pps_cons pe_str pe_int (pps_cons pe_str pe_int pps_nil))) rfl rfl (by decide) (by decide)) (pv 0)
      (pe_callTy call_int1 (by rfl) B.int (by decide +kernel) (pa_cons (pe_cmpR op_in_seq (pv 0) (pe_tup (pa_cons pe_str (pa_cons pe_str (pa_cons pe_str (pa_cons pe_str (pa_cons pe_str (pa_cons pe_str pa_nil))))))) (by rfl)) pa_nil)) ⟨rfl, rfl, rfl, rfl⟩)), ?_⟩
    refine fun p np => ?_
    have hp0 : (upd H p (.dK [])) p = some (.dK []) := upd_same
    refine ⟨hp0, [((.inr "fun" : Key), V.int 1), (.inr "use", .int 2), (.inr "made", .int 0)], rfl, (by decide), ?_⟩
    have hm : mergeK [] [((.inr "fun" : Key), V.int 1), (.inr "use", .int 2), (.inr "made", .int 0)] = [((.inr "fun" : Key), V.int 1), (.inr "use", .int 2), (.inr "made", .int 0)] := by rfl
    rw [hm]
    have s2 : Same H (upd (upd H p (.dK [])) p (.dK [((.inr "fun" : Key), V.int 1), (.inr "use", .int 2), (.inr "made", .int 0)])) := fun b o e => by
      rw [upd_ne (ne_of_none e np), upd_ne (ne_of_none e np)]
      exact e
    have hp2 : (upd (upd H p (.dK [])) p (.dK [((.inr "fun" : Key), V.int 1), (.inr "use", .int 2), (.inr "made", .int 0)])) p = some (.dK [((.inr "fun" : Key), V.int 1), (.inr "use", .int 2), (.inr "made", .int 0)]) := upd_same
    generalize upd (upd H p (.dK [])) p (.dK [((.inr "fun" : Key), V.int 1), (.inr "use", .int 2), (.inr "made", .int 0)]) = H2 at s2 hp2 ⊢
    refine ⟨p, rfl, isD_of hp2, _, rfl, _, rfl, (by show 6 ≤ sizeLine; decide), fun t nt => ?_⟩
    have s3 := same_new (o := .tup (SINGl.map V.str)) nt
    refine ⟨t, SINGl.map V.str, rfl, .inr (SqT.of upd_same), rfl, strs_flat _, ?_⟩
    rw [if_neg Bool.false_ne_true, sing_in]
    refine .inr ⟨_, rfl, _, DGet.k (k := .inr z) (s3 _ _ hp2), ?_⟩
    have fin := q _ (s2.trans s3)
    unfold firstN at fin
    rw [valV_s, valV_s, valV_s, valV_0]
    by_cases e1 : z = "fun"
    · rw [if_pos e1] at fin
      rw [if_pos e1.symm]
      exact fin
    · rw [if_neg e1] at fin
      rw [if_neg fun x => e1 x.symm]
      by_cases e2 : z = "use"
      · rw [if_pos e2] at fin
        rw [if_pos e2.symm]
        exact fin
      · rw [if_neg e2] at fin
        rw [if_neg fun x => e2 x.symm]
        by_cases e3 : z = "made"
        · rw [if_pos e3] at fin
          rw [if_pos e3.symm]
          exact fin
        · rw [if_neg e3] at fin
          rw [if_neg fun x => e3 x.symm]
          by_cases e4 : z ∈ SINGl
          · rw [if_pos e4] at fin
            rw [decide_eq_true e4]
            exact fin
          · rw [if_neg e4] at fin
            rw [decide_eq_false e4]
            exact fin
theorem ok_ones {f : Addr} {fd : FuncData} (F : Fun K "_law_ones" "_law_ones" sOnes f fd) : FnOk P w K mg base CX0 1 f fd [] (spStrs ONESl) := by
  refine F.ok scOnes (fun vs H Q E h => ?_) (fun cdv A outer s H vs Q E hr h => ?_)
  · obtain ⟨rfl, _⟩ := h
    rfl
  · obtain ⟨rfl, q⟩ := h
    refine ⟨_, pss_one (ps_ret (pe_lst (pa_cons pe_str (pa_cons pe_str (pa_cons pe_str (pa_cons pe_str (pa_cons pe_str (pa_cons pe_str (pa_cons pe_str (pa_cons pe_str (pa_cons pe_str pa_nil))))))))))), ?_⟩
    exact ⟨(by show 9 ≤ sizeLine; decide), fun p np => q p _ (same_new np) upd_same np⟩
theorem ok_twos {f : Addr} {fd : FuncData} (F : Fun K "_law_twos" "_law_twos" sTwos f fd) : FnOk P w K mg base CX0 1 f fd [] (spStrs TWOSl) := by
  refine F.ok scTwos (fun vs H Q E h => ?_) (fun cdv A outer s H vs Q E hr h => ?_)
  · obtain ⟨rfl, _⟩ := h
    rfl
  · obtain ⟨rfl, q⟩ := h
    refine ⟨_, pss_one (ps_ret (pe_lst (pa_cons pe_str (pa_cons pe_str (pa_cons pe_str (pa_cons pe_str (pa_cons pe_str (pa_cons pe_str (pa_cons pe_str (pa_cons pe_str pa_nil)))))))))), ?_⟩
    exact ⟨(by show 8 ≤ sizeLine; decide), fun p np => q p _ (same_new np) upd_same np⟩
def tMany (K : PySem.W.Frag) (i : Nat) : TE := tDGet2 (tDisp [(tC (V.str "let"), tC (V.int 2)), (tC (V.str "try"), tC (V.int 2)), (tC (V.str "if"), tC (V.int 3))]) (tVar i)
  (tOp (rI0 fun i j => V.int (i + j))
    (tOp (rI CMul fun i j => V.int (i * j)) (tC (V.int 1)) (tCB (fun xs H Q => (∃ i, xs = [V.int i] ∧ Q (V.int i) H) ∨ ∃ k, xs = [V.bl k] ∧ Q (V.int (if k = true then 1 else 0)) H) (tCons (tOp (rIn K false) (tVar i) (tCall (spStrs ONESl) [] E0 tNil)) tNil)))
    (tOp (rI CMul fun i j => V.int (i * j)) (tC (V.int 2)) (tCB (fun xs H Q => (∃ i, xs = [V.int i] ∧ Q (V.int i) H) ∨ ∃ k, xs = [V.bl k] ∧ Q (V.int (if k = true then 1 else 0)) H) (tCons (tOp (rIn K false) (tVar i) (tCall (spStrs TWOSl) [] E0 tNil)) tNil))))
theorem many_ok {σ : L2.St} {H : Hp} {Q : VK} {i : Nat} {z : Str} (hi : σ[i]? = some (some (.str z))) (q : ∀ H', Same H H' → Q (.int (manyN z)) H') : tMany K i σ H Q := by
  refine fun t nt => ?_
  have ht0 : (upd H t (.dK [])) t = some (.dK []) := upd_same
  refine ⟨ht0, [((.inr "let" : Key), V.int 2), (.inr "try", .int 2), (.inr "if", .int 3)], rfl, (by decide), ?_⟩
  have hm : mergeK [] [((.inr "let" : Key), V.int 2), (.inr "try", .int 2), (.inr "if", .int 3)] = [((.inr "let" : Key), V.int 2), (.inr "try", .int 2), (.inr "if", .int 3)] := by rfl
  rw [hm]
  have s2 : Same H (upd (upd H t (.dK [])) t (.dK [((.inr "let" : Key), V.int 2), (.inr "try", .int 2), (.inr "if", .int 3)])) := fun b o e => by
    rw [upd_ne (ne_of_none e nt), upd_ne (ne_of_none e nt)]
    exact e
  have hp2 : (upd (upd H t (.dK [])) t (.dK [((.inr "let" : Key), V.int 2), (.inr "try", .int 2), (.inr "if", .int 3)])) t = some (.dK [((.inr "let" : Key), V.int 2), (.inr "try", .int 2), (.inr "if", .int 3)]) := upd_same
  generalize upd (upd H t (.dK [])) t (.dK [((.inr "let" : Key), V.int 2), (.inr "try", .int 2), (.inr "if", .int 3)]) = H2 at s2 hp2 ⊢
  refine ⟨t, rfl, isD_of hp2, _, hi, _, hi, rfl, fun p1 H3 s3 h3 _ => ⟨p1, _, rfl, .inl (SqL.of h3), rfl, strs_flat _, ?_⟩⟩
  rw [if_neg Bool.false_ne_true, inV_strs]
  refine .inr ⟨_, rfl, ?_⟩
  have last : ∀ (a b : Int) (H5 : Hp), Same H3 H5 → (if z ∈ ONESl then (1 : Int) else 0) = a → (if z ∈ TWOSl then (1 : Int) else 0) = b → ∃ o, DGet H5 t (.str z) o ∧ Q (o.getD (.int (1 * a + 2 * b))) H5 := fun a b H5 s5 ea eb => by
    refine ⟨_, DGet.k (k := .inr z) (s5 _ _ (s3 _ _ hp2)), ?_⟩
    have fin := q _ (s2.trans (s3.trans s5))
    unfold manyN at fin
    rw [valV_s, valV_s, valV_s, valV_0]
    by_cases e1 : z = "let"
    · rw [if_pos e1] at fin
      rw [if_pos e1.symm]
      exact fin
    · rw [if_neg e1] at fin
      rw [if_neg fun x => e1 x.symm]
      by_cases e2 : z = "try"
      · rw [if_pos e2] at fin
        rw [if_pos e2.symm]
        exact fin
      · rw [if_neg e2] at fin
        rw [if_neg fun x => e2 x.symm]
        by_cases e3 : z = "if"
        · rw [if_pos e3] at fin
          rw [if_pos e3.symm]
          exact fin
        · rw [if_neg e3, ea, eb] at fin
          rw [if_neg fun x => e3 x.symm, Int.one_mul]
          exact fin
  by_cases h1 : z ∈ ONESl
  · rw [decide_eq_true h1]
    refine ⟨_, _, rfl, rfl, .inl ⟨by decide, by decide⟩, _, hi, rfl, fun p2 H5 s5 h5 _ => ⟨p2, _, rfl, .inl (SqL.of h5), rfl, strs_flat _, ?_⟩⟩
    rw [if_neg Bool.false_ne_true, inV_strs]
    refine .inr ⟨_, rfl, ?_⟩
    by_cases h2 : z ∈ TWOSl
    · rw [decide_eq_true h2]
      exact ⟨_, _, rfl, rfl, .inl ⟨by decide, by decide⟩, _, _, rfl, rfl, last _ _ H5 s5 (if_pos h1) (if_pos h2)⟩
    · rw [decide_eq_false h2]
      exact ⟨_, _, rfl, rfl, .inl ⟨by decide, by decide⟩, _, _, rfl, rfl, last _ _ H5 s5 (if_pos h1) (if_neg h2)⟩
  · rw [decide_eq_false h1]
    refine ⟨_, _, rfl, rfl, .inl ⟨by decide, by decide⟩, _, hi, rfl, fun p2 H5 s5 h5 _ => ⟨p2, _, rfl, .inl (SqL.of h5), rfl, strs_flat _, ?_⟩⟩
    rw [if_neg Bool.false_ne_true, inV_strs]
    refine .inr ⟨_, rfl, ?_⟩
    by_cases h2 : z ∈ TWOSl
    · rw [decide_eq_true h2]
      exact ⟨_, _, rfl, rfl, .inl ⟨by decide, by decide⟩, _, _, rfl, rfl, last _ _ H5 s5 (if_neg h1) (if_pos h2)⟩
    · rw [decide_eq_false h2]
      exact ⟨_, _, rfl, rfl, .inl ⟨by decide, by decide⟩, _, _, rfl, rfl, last _ _ H5 s5 (if_neg h1) (if_neg h2)⟩
end
end K03

set_option Elab.async false
set_option linter.all false
set_option maxRecDepth 100000
set_option maxHeartbeats 1000000
namespace K03
open PySem PySem.Spec PyProof.Rows L2
/-! ### comprehensions over a feed, by their data -/
def rTupOf (K : PySem.W.Frag) : List V → Hp → VK → Prop := fun xs H Q => ∃ p ys, xs = [V.ref p] ∧ ((SqL K H p ys ∧ ∀ (l : Addr), H l = none → Q (V.ref l) (upd H l (.tup ys))) ∨ SqT K H p ys ∧ Q (V.ref p) H)
section
variable {K : PySem.W.Frag} {f : Addr} {H0 : Hp} {σ : L2.St} {t u : TE} {ts : TA} {P P' : PyData → Prop} {R R' : List PyData → Prop}
theorem but_none {H H' : Hp} {p : Addr} (b : But f H H') (hf : Fd H' f) (np : H' p = none) : H p = none := by
  cases e : H p with
  | none => rfl
  | some o =>
    rw [b p o (fun z => hf.ne np z) e] at np
    cases np
theorem DE.tupOf (h : DL K f H0 σ t R) : DE K f H0 σ (tCB (rTupOf K) (tCons t tNil)) (fun x => ∃ ds, x = .tuple ds ∧ R ds) := fun H Q b hf q =>
  h H _ b hf fun l H1 vs ds b1 hf1 nl lf el tds r => ⟨l, vs, rfl, .inl ⟨SqL.of el, fun p np =>
    q _ _ (.tuple ds) (b1.trans (but_new np)) (hf1.new np) (.tup (SqT.of upd_same) (tds_kp (Kp.of (same_new np)) tds)) ⟨ds, rfl, r⟩⟩⟩
theorem kp_D {H H3 : Hp} {D : Addr} {acc : List V} {v : V} (e : H3 D = some (.lst acc)) (k : Kp H H3) : Kp H (upd H3 D (.lst (acc ++ [v]))) := k.trans (Kp.lst e)
/-- one turn more -/
theorem DL.turn {D : Addr} {H H1 : Hp} {acc : List V} {ds : List PyData} {v : V} {d : PyData} (hf : Fd H f) (Df : D ≠ f) (eD : H D = some (.lst acc)) (tds : TdAll K H acc ds) (b1 : But f H H1) (hf1 : Fd H1 f) (td : Td K H1 v d) :
    H1 D = some (.lst acc) ∧ Fd (upd H1 D (.lst (acc ++ [v]))) f ∧ TdAll K (upd H1 D (.lst (acc ++ [v]))) (acc ++ [v]) (ds ++ [d]) := by
  have eD1 := b1 _ _ Df eD
  obtain ⟨g, m, e⟩ := hf1
  refine ⟨eD1, ⟨g, m, by rw [upd_ne Df.symm]; exact e⟩, ?_⟩
  exact (tds_kp ((Kp.but hf b1).trans (Kp.lst eD1)) tds).app (.cons (td_kp (Kp.lst eD1) td) .nil)
/-- [e for _ in range(n)] -/
theorem DL.comp {j len : Nat} {tr te : TE} (hlen : len ≤ 900) (hr : DE K f H0 σ tr (fun x => ∃ k : Nat, x = .int k ∧ k ≤ len)) (he : ∀ v, DE K f H0 ((wipe σ [j]).set j (some v)) te P) (hw : ∀ v, wipe ((wipe σ [j]).set j (some v)) [j] = wipe σ [j]) :
    DL K f H0 σ (tLc (iRng1 (tCons tr tNil)) (gName j) tYes te [j]) (fun ds => ds.length ≤ len ∧ ∀ d ∈ ds, P d) := fun H Q b hf q => by
  refine hr H _ b hf fun v H1 d b1 hf1 td ⟨k, e, kl⟩ => ?_
  subst e
  cases td
  refine ⟨_, rfl, by omega, by omega, fun D nD => ?_⟩
  have Df := hf1.ne nD
  refine lc_range (lo := 0) (n := ((k : Nat) : Int).toNat) (fun i H2 => ∃ acc ds, H2 D = some (.lst acc) ∧ Fd H2 f ∧ (∀ c o, c ≠ f → H1 c = some o → H2 c = some o) ∧ TdAll K H2 acc ds ∧ ds.length = i ∧ ∀ d ∈ ds, P d)
    ⟨[], [], upd_same, hf1.new nD, fun c o _ e => same_new nD _ _ e, .nil, rfl, fun d hd => by cases hd⟩ ?_ ?_
  · rintro i H2 hi ⟨acc, ds, eD, hf2, kp, tds, hl, hP⟩
    refine ⟨hw _, ?_⟩
    dsimp only [tYes]
    refine iteT ?_
    refine he _ H2 _ (b.trans (b1.trans kp)) hf2 fun x H3 d b3 hf3 td p => ?_
    obtain ⟨e1, e2, e3⟩ := DL.turn hf2 Df eD tds b3 hf3 td
    refine ⟨acc, e1, small1000 (by have := tds.len; omega), acc ++ [x], ds ++ [d], upd_same, e2, fun c o cf e => ?_, e3, by rw [List.length_append, hl]; rfl, fun y hy => ?_⟩
    · rw [upd_ne (ne_of_none e nD)]
      exact b3 c o cf (kp c o cf e)
    · rcases List.mem_append.mp hy with hy | hy
      · exact hP y hy
      · rw [List.mem_singleton.mp hy]
        exact p
  · rintro H2 ⟨acc, ds, eD, hf2, kp, tds, hl, hP⟩
    exact q D H2 acc ds (b1.trans kp) hf2 (but_none b1 hf1 nD) Df eD tds ⟨by omega, hP⟩
/-- [e for x in l], l a list of data that stands -/
theorem DL.map {i j : Nat} {l : Addr} {vs : List V} {es : List PyData} {te : TE} {Pz : PyData → PyData → Prop} (h0 : Fd H0 f) (hv : σ[i]? = some (some (.ref l))) (el : H0 l = some (.lst vs)) (lf : l ≠ f) (tes : TdAll K H0 vs es) (few : es.length ≤ 900)
    (he : ∀ v d, d ∈ es → Td K H0 v d → DE K f H0 ((wipe σ [j]).set j (some v)) te (Pz d)) (hw : ∀ v, wipe ((wipe σ [j]).set j (some v)) [j] = wipe σ [j]) :
    DL K f H0 σ (tLc (iList K (tVar i)) (gName j) tYes te [j]) (fun ds => ds.length = es.length ∧ ∀ d ∈ ds, ∃ e ∈ es, Pz e d) := fun H Q b hf q => by
  have elH : H l = some (.lst vs) := b _ _ lf el
  refine ⟨_, hv, l, rfl, ⟨vs, SqL.of elH⟩, fun D nD => ?_⟩
  have Df := hf.ne nD
  have lD : l ≠ D := fun z => by rw [z, nD] at elH; cases elH
  refine lc_list (K := K) (a := l) (xs := vs) (fun k H2 => ∃ acc ds, H2 D = some (.lst acc) ∧ Fd H2 f ∧ (∀ c o, c ≠ f → H c = some o → H2 c = some o) ∧ TdAll K H2 acc ds ∧ ds.length = k ∧ ∀ d ∈ ds, ∃ e ∈ es, Pz e d)
    ⟨[], [], upd_same, hf.new nD, fun c o _ e => same_new nD _ _ e, .nil, rfl, fun d hd => by cases hd⟩ (fun k H2 _ ⟨_, _, _, _, kp, _⟩ => SqL.of (kp _ _ lf elH)) ?_ ?_
  · rintro k x H2 hx ⟨acc, ds, eD, hf2, kp, tds, hl, hP⟩
    obtain ⟨e, he1, hte⟩ := tes.get hx
    have hk : k < vs.length := (List.getElem?_eq_some_iff.mp hx).1
    have hvl := tes.len
    refine ⟨hw _, ?_⟩
    dsimp only [tYes]
    refine iteT ?_
    refine he x e (List.mem_of_getElem? he1) hte H2 _ (b.trans kp) hf2 fun y H3 d b3 hf3 td p => ?_
    obtain ⟨e1, e2, e3⟩ := DL.turn hf2 Df eD tds b3 hf3 td
    refine ⟨acc, e1, small1000 (by have := tds.len; omega), acc ++ [y], ds ++ [d], upd_same, e2, fun c o cf e => ?_, e3, by rw [List.length_append, hl]; rfl, fun z hz => ?_⟩
    · rw [upd_ne (ne_of_none e nD)]
      exact b3 c o cf (kp c o cf e)
    · rcases List.mem_append.mp hz with hz | hz
      · exact hP z hz
      · rw [List.mem_singleton.mp hz]
        exact ⟨e, List.mem_of_getElem? he1, p⟩
  · rintro H2 ⟨acc, ds, eD, hf2, kp, tds, hl, hP⟩
    exact q D H2 acc ds kp hf2 nD Df eD tds ⟨by rw [hl]; exact tes.len, hP⟩
theorem seq_asg {te : TE} {g : TG} {u : TS} {D : Ends} {σ : L2.St} {H : Hp} (h : te σ H fun x H1 => g x σ H1 fun σ2 H2 => u D σ2 H2) : tSeq (tAsg te g) u D σ H := h
theorem ret_ {te : TE} {D : Ends} {σ : L2.St} {H : Hp} (h : te σ H D.rt) : tRet te D σ H := h
/-- a def of the feed alone -/
def spD (K : PySem.W.Frag) (P : PyData → Prop) : Sp := fun vs H Q _ => ∃ f : Addr, vs = [.ref f] ∧ Fd H f ∧ ∀ v H' d, But f H H' → Fd H' f → Td K H' v d → P d → Q v H'
theorem DE.call {E0' : XK} (h0 : σ[0]? = some (some (.ref f))) : DE K f H0 σ (tCall (spD K P) [] E0' (tCons (tVar 0) tNil)) P := fun H Q b hf q => ⟨_, h0, f, rfl, hf, q⟩
end
/-! ### drawn trees -/
/-- a tree of depth n at most, as data -/
def WT : Nat → PyData → Prop
  | 0, _ => False
  | n + 1, d => ∃ (s : Str) (ms pre kids : List PyData), d = .tuple [.str s, .tuple ms, .tuple (pre ++ kids)] ∧ (leafD (.str s) = true ∧ (s ∈ SINGl → kids = [])) ∧ pre.length = firstN s ∧ (∀ x ∈ pre, leafD x = true) ∧ kids.length ≤ 8 ∧ (∀ x ∈ kids, WT n x) ∧ ms.length ≤ 8 ∧ ∀ m ∈ ms, okD 2 m
theorem firstN_le (s : Str) : firstN s ≤ 2 := by
  unfold firstN
  repeat' split
  all_goals omega
theorem WT.up : ∀ {n : Nat} {d : PyData}, WT n d → WT (n + 1) d
  | n + 1, d, ⟨s, ms, pre, kids, e, h1, h2, h3, h4, h5, h6, h7⟩ => ⟨s, ms, pre, kids, e, h1, h2, h3, h4, fun x hx => (h5 x hx).up, h6, h7⟩
theorem WT.le {n m : Nat} (h : n ≤ m) {d : PyData} (k : WT n d) : WT m d := by
  induction m with
  | zero =>
    have e : n = 0 := by omega
    subst e
    exact k
  | succ m ih =>
    by_cases e : n = m + 1
    · subst e
      exact k
    · exact (ih (by omega)).up
theorem okD.tuple {n : Nat} {ds : List PyData} (l : ds.length ≤ 100) (h : ∀ x ∈ ds, okD n x) : okD (n + 1) (.tuple ds) := .inr ⟨ds, .inl rfl, l, h⟩
theorem WT.ok : ∀ {n : Nat} {d : PyData}, WT n d → okD (2 * n + 2) d
  | n + 1, d, ⟨s, ms, pre, kids, e, h1, h2, h3, h4, h5, h6, h7⟩ => by
    subst e
    have f2 := firstN_le s
    refine okD.tuple (n := 2 * n + 3) (by show 3 ≤ 100; decide) fun x hx => ?_
    simp only [List.mem_cons, List.not_mem_nil, or_false] at hx
    rcases hx with rfl | rfl | rfl
    · exact okD.leaf h1.1
    · exact okD.tuple (n := 2 * n + 2) (by omega) fun m hm => (h7 m hm).le (by omega)
    · refine okD.tuple (n := 2 * n + 2) (by rw [List.length_append]; omega) fun x hx => ?_
      rcases List.mem_append.mp hx with hx | hx
      · exact okD.leaf (h3 x hx)
      · exact (h5 x hx).ok.le (by omega)
end K03

set_option Elab.async false
set_option linter.all false
set_option maxRecDepth 100000
set_option maxHeartbeats 1000000
namespace K03
open PySem PySem.Spec PyProof.Rows L2
theorem leafG {i : Int} (h : -100 ≤ i) : leafD (.int i) = true := by
  show decide (-(10 ^ 60) ≤ i) = true
  have z : (100 : Int) ≤ 10 ^ 60 := by decide
  exact decide_eq_true (by omega)
theorem leafI (k : Nat) : leafD (.int (k : Int)) = true := leafG (by omega)
section
variable {P : Program} {w : World} {K : PySem.W.Frag} {mg : Str → Option Value} {base : Heap}
abbrev sMk : Stmt := top 24
abbrev sLit : Stmt := top 22
theorem scMk : FnScope ["_law_feed", "_law_path", "_law_turn"] ["_law_feed"] (defScope sMk) := ⟨rfl, rfl, rfl, by decide +kernel, rfl, by decide +kernel, by decide +kernel⟩
theorem scLit : FnScope ["_law_feed", "_law_word", "_law_some_here"] ["_law_feed"] (defScope sLit) := ⟨rfl, rfl, rfl, by decide +kernel, rfl, by decide +kernel, by decide +kernel⟩
abbrev MT : PyData → Prop := okD 2
theorem DA.one {f : Addr} {H0 : Hp} {σ : L2.St} {t : TE} {P : PyData → Prop} (h : DE K f H0 σ t P) : DA K f H0 σ (tCons t tNil) (fun x => ∃ d, x = [d] ∧ P d) := (DA.cons h .nil).imp fun x ⟨d, ds, e, p, e2⟩ => ⟨d, by rw [e, e2], p⟩
theorem DA.two {f : Addr} {H0 : Hp} {σ : L2.St} {t u : TE} {P R : PyData → Prop} (h : DE K f H0 σ t P) (h2 : DE K f H0 σ u R) : DA K f H0 σ (tCons t (tCons u tNil)) (fun x => ∃ a b, x = [a, b] ∧ P a ∧ R b) := (DA.cons h (.one h2)).imp fun x ⟨d, ds, e, p, b, e2, r⟩ => ⟨d, b, by rw [e, e2], p, r⟩
theorem DA.three {f : Addr} {H0 : Hp} {σ : L2.St} {t u v : TE} {P R S : PyData → Prop} (h : DE K f H0 σ t P) (h2 : DE K f H0 σ u R) (h3 : DE K f H0 σ v S) : DA K f H0 σ (tCons t (tCons u (tCons v tNil))) (fun x => ∃ a b c, x = [a, b, c] ∧ P a ∧ R b ∧ S c) :=
  (DA.cons h (.two h2 h3)).imp fun x ⟨d, ds, e, p, b, c, e2, r⟩ => ⟨d, b, c, by rw [e, e2], p, r⟩
theorem DE.tup0 {f : Addr} {H0 : Hp} {σ : L2.St} : DE K f H0 σ (tTup tNil) (fun x => x = .tuple []) := (DE.tup .nil (fun ds e => by rw [e]; decide)).imp fun x ⟨ds, e, e2⟩ => by rw [e, e2]
theorem DE.tup1 {f : Addr} {H0 : Hp} {σ : L2.St} {t : TE} {P : PyData → Prop} (h : DE K f H0 σ t P) : DE K f H0 σ (tTup (tCons t tNil)) (fun x => ∃ d, x = .tuple [d] ∧ P d) :=
  (DE.tup (.one h) (fun ds ⟨d, e, _⟩ => by rw [e]; show 1 ≤ 1000; decide)).imp fun x ⟨ds, e, d, e2, p⟩ => ⟨d, by rw [e, e2], p⟩
theorem DE.tup2 {f : Addr} {H0 : Hp} {σ : L2.St} {t u : TE} {P R : PyData → Prop} (h : DE K f H0 σ t P) (h2 : DE K f H0 σ u R) : DE K f H0 σ (tTup (tCons t (tCons u tNil))) (fun x => ∃ a b, x = .tuple [a, b] ∧ P a ∧ R b) :=
  (DE.tup (.two h h2) (fun ds ⟨a, b, e, _⟩ => by rw [e]; show 2 ≤ 1000; decide)).imp fun x ⟨ds, e, a, b, e2, p⟩ => ⟨a, b, by rw [e, e2], p⟩
theorem DE.tup3 {f : Addr} {H0 : Hp} {σ : L2.St} {t u v : TE} {P R S : PyData → Prop} (h : DE K f H0 σ t P) (h2 : DE K f H0 σ u R) (h3 : DE K f H0 σ v S) : DE K f H0 σ (tTup (tCons t (tCons u (tCons v tNil)))) (fun x => ∃ a b c, x = .tuple [a, b, c] ∧ P a ∧ R b ∧ S c) :=
  (DE.tup (.three h h2 h3) (fun ds ⟨a, b, c, e, _⟩ => by rw [e]; show 3 ≤ 1000; decide)).imp fun x ⟨ds, e, a, b, c, e2, p⟩ => ⟨a, b, c, by rw [e, e2], p⟩
/-- a leaf of the trees -/
theorem WT.leaf {s : Str} {x : PyData} {ms : List PyData} (hs : leafD (.str s) = true) (h1 : firstN s = 1) (hx : leafD x = true) (hm : ms.length ≤ 8 ∧ ∀ m ∈ ms, okD 2 m) : WT 1 (.tuple [.str s, .tuple ms, .tuple [x]]) :=
  ⟨s, ms, [x], [], rfl, ⟨hs, fun _ => rfl⟩, by rw [h1]; rfl, fun y hy => by rw [List.mem_singleton.mp hy]; exact hx, Nat.zero_le _, fun y hy => (by cases hy), hm.1, hm.2⟩
theorem WT.bare {s : Str} {ms : List PyData} (hs : leafD (.str s) = true) (h0 : firstN s = 0) (hm : ms.length ≤ 8 ∧ ∀ m ∈ ms, okD 2 m) : WT 1 (.tuple [.str s, .tuple ms, .tuple []]) :=
  ⟨s, ms, [], [], rfl, ⟨hs, fun _ => rfl⟩, by rw [h0]; rfl, fun y hy => (by cases hy), Nat.zero_le _, fun y hy => (by cases hy), hm.1, hm.2⟩
theorem no_marks : ([] : List PyData).length ≤ 8 ∧ ∀ m ∈ ([] : List PyData), okD 2 m := ⟨Nat.zero_le _, fun m hm => by cases hm⟩
theorem DE.draw' {f : Addr} {H0 : Hp} {σ : L2.St} {many : Int} (h0 : σ[0]? = some (some (.ref f))) (h1 : 0 < many) (h2 : many < 1073741824) : DE K f H0 σ (tCall spDraw [] E0 (tCons (tVar 0) (tCons (tC (V.int many)) tNil))) (fun x => ∃ i, x = .int i ∧ 0 ≤ i) :=
  (DE.draw h0 h1 h2).imp fun x ⟨k, e, _⟩ => ⟨k, e, by omega⟩
theorem ok_mk {f fD fP : Addr} {fd dD dP : FuncData} (F : Fun K "_law_mark" "_law_mark" sMk f fd) (B : BI mg) (mr : mg "range" = none) (CD : Cal P w K mg base "_law_draw" 1 fD dD ["_law_feed", "_law_many"] [] spDraw)
    (CP : Cal P w K mg base "_law_pick" 2 fP dP ["_law_feed", "_law_items"] [] spPick) : FnOk P w K mg base CX0 3 f fd ["_law_feed"] (spD K MT) := by
  refine F.ok scMk (fun vs H Q E h => ?_) (fun cdv A outer s H vs Q E hr h => ?_)
  · obtain ⟨f, rfl, _⟩ := h
    rfl
  · obtain ⟨f, rfl, hf, q⟩ := h
    have hr1 : Room 1 _ := hr.mono (by decide)
    refine ⟨_, pss_cons (ps_set (i := 1) scMk.nd rfl (.inl rfl) (pe_callTy call_tuple_of (by rfl) B.tup (by decide +kernel) (pa_cons
          (pe_lc (own := [("_law_turn", 2)]) (g := gName 2) (tt := tYes) rfl scMk.nd (pi_range1 rfl mr (pa_cons (pe_call CD.G hr1 rfl CD.m CD.k CD.b .nil pass0 (pa_cons (pv 0) (pa_cons pe_int pa_nil))) pa_nil)) (blkOk_by (N := ["_law_feed", "_law_path", "_law_turn"]) (sc := defScope sMk) (by decide +kernel))
            (fun _ _ _ _ _ => pg_name (i := 2) scMk.nd rfl (Or.inl rfl)) (fun _ _ _ _ _ => pts_nil) (fun _ _ _ _ _ => pe_call CD.G hr1 rfl CD.m CD.k CD.b .nil pass0 (pa_cons (pv 0) (pa_cons pe_int pa_nil)))) pa_nil)))
      (pss_one (ps_ret (pe_tup (pa_cons (pe_call CP.G hr rfl CP.m CP.k CP.b .nil pass0 (pa_cons (pv 0) (pa_cons (pe_lst (pa_cons pe_str (pa_cons pe_str (pa_cons pe_str pa_nil)))) pa_nil))) (pa_cons (pe_call CD.G hr1 rfl CD.m CD.k CD.b .nil pass0 (pa_cons (pv 0) (pa_cons pe_int pa_nil))) (pa_cons (pv 1) pa_nil)))))), ?_⟩
    refine seq_asg ((DE.tupOf (DL.comp (P := fun d => ∃ k : Nat, d = .int k) (len := 4) (by decide) ((DE.draw rfl (by decide) (by decide)).imp fun d ⟨k, e, l⟩ => ⟨k, e, by omega⟩) (fun v => (DE.draw rfl (by decide) (by decide)).imp fun d ⟨k, e, _⟩ => ⟨k, e⟩) (fun _ => rfl))) H _ But.refl hf fun v1 H1 d1 b1 hf1 td1 p1 => ?_)
    obtain ⟨ds, e1, l1, hd⟩ := p1
    subst e1
    refine ret_ ((DE.tup3 (DE.pick (R := fun x => x = [.str "or", .str "w", .str "zzzzzzzz"]) rfl ((DL.lst (DA.three .str .str .str) (fun ds ⟨a, b, c, e, _⟩ => by rw [e]; show 3 ≤ 1000; decide)).imp fun x ⟨a, b, c, e, e1, e2, e3⟩ => by rw [e, e1, e2, e3]) (fun ds e => by rw [e]; decide)) (DE.draw rfl (by decide) (by decide)) (DE.var hf1 rfl td1)) H1 _ But.refl hf1 fun v2 H2 d2 b2 hf2 td2 p2 => ?_)
    obtain ⟨a, b, c, e, ⟨xs, ex, ha⟩, ⟨k, eb, _⟩, ec⟩ := p2
    subst ex eb ec e
    refine q _ _ _ (b1.trans b2) hf2 td2 (okD.tuple (by show 3 ≤ 100; decide) fun x hx => ?_)
    simp only [List.mem_cons, List.not_mem_nil, or_false] at hx ha
    rcases hx with rfl | rfl | rfl
    · rcases ha with rfl | rfl | rfl <;> exact okD.leaf (by decide +kernel)
    · exact okD.leaf (leafI k)
    · refine okD.tuple (n := 0) (by omega) fun y hy => ?_
      obtain ⟨z, rfl⟩ := hd y hy
      exact okD.leaf (leafI z)
end
end K03

set_option Elab.async false
set_option linter.all false
set_option maxRecDepth 100000
set_option maxHeartbeats 2000000
namespace K03
open PySem PySem.Spec PyProof.Rows L2
section
variable {P : Program} {w : World} {K : PySem.W.Frag} {mg : Str → Option Value} {base : Heap}
theorem DL.cat {f : Addr} {H0 : Hp} {σ : L2.St} {i : Nat} {l : Addr} {vs : List V} {ds : List PyData} {t : TE} {R : List PyData → Prop} (h0 : Fd H0 f) (hv : σ[i]? = some (some (.ref l))) (el : H0 l = some (.lst vs)) (lf : l ≠ f) (tds : TdAll K H0 vs ds) (few : ds.length ≤ 400)
    (h : DL K f H0 σ t R) (fewR : ∀ r, R r → r.length ≤ 400) : DL K f H0 σ (tOp rCat (tVar i) t) (fun x => ∃ r, x = ds ++ r ∧ R r) := fun H Q b hf q => by
  refine ⟨_, hv, h H _ b hf fun p H1 ws es b1 hf1 np pf ep tes r => ?_⟩
  have e1 : H1 l = some (.lst vs) := b1 _ _ lf (b _ _ lf el)
  have s1 := tds.len
  have s2 := tes.len
  have s3 := fewR es r
  refine ⟨l, p, vs, ws, rfl, rfl, e1, ep, Nat.le_of_lt (small1000 (by omega)), fun p2 n2 => ?_⟩
  exact q p2 _ (vs ++ ws) (ds ++ es) (b1.trans (but_new n2)) (hf1.new n2) (but_none b1 hf1 n2) (hf1.ne n2) upd_same (tds_kp (Kp.of (same_new n2)) ((tds_kp (Kp.but h0 (b.trans b1)) tds).app tes)) ⟨es, rfl, r⟩
theorem DE.item {f : Addr} {H0 : Hp} {σ : L2.St} {i j : Nat} {l : Addr} {vs : List V} {ds : List PyData} {d : PyData} (h0 : Fd H0 f) (hv : σ[i]? = some (some (.ref l))) (el : H0 l = some (.lst vs)) (lf : l ≠ f) (tds : TdAll K H0 vs ds) (hj : ds[j]? = some d) :
    DE K f H0 σ (tOp (rIxL K) (tVar i) (tC (.int (j : Int)))) (fun x => x = d) := fun H Q b hf q => by
  obtain ⟨v, ev, td⟩ := tds.get' hj
  exact ⟨_, hv, l, vs, _, v, rfl, rfl, SqL.of (b _ _ lf el), atI_nat ev, q v H d But.refl hf (td_kp (Kp.but h0 b) td) rfl⟩
theorem WTx {P : PyData → Prop} {s : Str} (hs : leafD (.str s) = true) (h1 : firstN s = 1) {x : PyData} (h : ∃ a b c, x = .tuple [a, b, c] ∧ a = .str s ∧ b = .tuple [] ∧ ∃ d, c = .tuple [d] ∧ leafD d = true) : WT 1 x := by
  obtain ⟨a, b, c, e, e1, e2, d, e3, hd⟩ := h
  subst e1 e2 e3 e
  exact WT.leaf hs h1 hd no_marks
theorem ok_lit {f fD fP : Addr} {fd dD dP : FuncData} (F : Fun K "_law_literal" "_law_literal" sLit f fd) (B : BI mg) (CD : Cal P w K mg base "_law_draw" 1 fD dD ["_law_feed", "_law_many"] [] spDraw)
    (CP : Cal P w K mg base "_law_pick" 2 fP dP ["_law_feed", "_law_items"] [] spPick) : FnOk P w K mg base CX0 3 f fd ["_law_feed"] (spD K (WT 1)) := by
  refine F.ok scLit (fun vs H Q E h => ?_) (fun cdv A outer s H vs Q E hr h => ?_)
  · obtain ⟨f, rfl, _⟩ := h
    rfl
  · obtain ⟨f, rfl, hf, q⟩ := h
    have hr1 : Room 1 _ := hr.mono (by decide)
    refine ⟨_, pss_cons (ps_set (i := 1) scLit.nd rfl (.inl rfl) (pe_call CP.G hr rfl CP.m CP.k CP.b .nil pass0 (pa_cons (pv 0) (pa_cons (pe_lst (pa_cons pe_str (pa_cons pe_str (pa_cons pe_str (pa_cons pe_str (pa_cons pe_str pa_nil)))))) pa_nil))))
      (pss_cons (ps_set (i := 2) scLit.nd rfl (.inl rfl) (pe_lst (pa_cons (pe_tup (pa_cons pe_str (pa_cons (pe_tup pa_nil) (pa_cons (pe_tup (pa_cons (pe_op op_sub (pe_call CD.G hr1 rfl CD.m CD.k CD.b .nil pass0 (pa_cons (pv 0) (pa_cons pe_int pa_nil))) pe_int) pa_nil)) pa_nil))))
        (pa_cons (pe_tup (pa_cons pe_str (pa_cons (pe_tup pa_nil) (pa_cons (pe_tup (pa_cons (pe_cmpR op_eq (pe_call CD.G hr1 rfl CD.m CD.k CD.b .nil pass0 (pa_cons (pv 0) (pa_cons pe_int pa_nil))) pe_int (nomark _)) pa_nil)) pa_nil))))
        (pa_cons (pe_tup (pa_cons pe_str (pa_cons (pe_tup pa_nil) (pa_cons (pe_tup (pa_cons (pv 1) pa_nil)) pa_nil)))) pa_nil)))))
      (pss_one (ps_ret (pe_call CP.G hr rfl CP.m CP.k CP.b .nil pass0 (pa_cons (pv 0) (pa_cons (pe_op op_cat (pv 2) (pe_lst (pa_cons (pe_tup (pa_cons pe_str (pa_cons (pe_tup pa_nil) (pa_cons (pe_tup (pa_cons pe_str pa_nil)) pa_nil))))
        (pa_cons (pe_ix ix_list (pv 2) pe_int (fun _ _ => rfl)) pa_nil)))) pa_nil)))))), ?_⟩
    refine seq_asg ((DE.pick (K := K) (R := fun x => x = [.str "red", .str "a", .str "kind", .str "empt", .str "zzzzzzzz"]) rfl ((DL.lst (DA.cons .str (DA.cons .str (.three .str .str .str))) (fun ds ⟨_, _, e, _, _, _, e2, _, _, _, _, e3, _⟩ => by rw [e, e2, e3]; show 5 ≤ 1000; decide)).imp fun x ⟨_, _, e, e1, _, _, e2, e3, _, _, _, e4, e5, e6, e7⟩ => by rw [e, e1, e2, e3, e4, e5, e6, e7]) (fun ds e => by rw [e]; decide)) H _ But.refl hf fun v1 H1 d1 b1 hf1 td1 p1 => ?_)
    obtain ⟨xs, ex, h1⟩ := p1
    have l1 : leafD d1 = true := by
      subst ex
      simp only [List.mem_cons, List.not_mem_nil, or_false] at h1
      rcases h1 with rfl | rfl | rfl | rfl | rfl <;> decide +kernel
    refine seq_asg ((DL.lst (K := K) (DA.three (DE.tup3 .str DE.tup0 (DE.tup1 (DE.op0 (DE.draw' rfl (by decide) (by decide)) (DE.int.imp fun x e => ⟨2, e, rfl⟩)))) (DE.tup3 .str DE.tup0 (DE.tup1 (DE.eq0 ((DE.draw' rfl (by decide) (by decide)).imp fun x ⟨i, e, _⟩ => ⟨i, e⟩)))) (DE.tup3 .str DE.tup0 (DE.tup1 (DE.var hf1 rfl td1)))) (fun ds ⟨a, b, c, e, _⟩ => by rw [e]; show 3 ≤ 1000; decide)) H1 _ But.refl hf1 fun l2 H2 vs2 ds2 b2 hf2 n2 l2f e2 tds2 p2 => ?_)
    obtain ⟨a, b, c, ea, ha, hb, hc⟩ := p2
    subst ea
    have wa : WT 1 a := WTx (P := fun _ => True) (s := "int") (by decide +kernel) (by decide +kernel) (by
      obtain ⟨x, y, z, e, e1, e2, d, e3, i, e4, p, r, e5, e6, e7⟩ := ha
      exact ⟨x, y, z, e, e1, e2, d, e3, by rw [e4]; exact leafG (by omega)⟩)
    have wb : WT 1 b := WTx (P := fun _ => True) (s := "flag") (by decide +kernel) (by decide +kernel) (by
      obtain ⟨x, y, z, e, e1, e2, d, e3, i, e4⟩ := hb
      exact ⟨x, y, z, e, e1, e2, d, e3, by rw [e4]; rfl⟩)
    have wc : WT 1 c := WTx (P := fun _ => True) (s := "quote") (by decide +kernel) (by decide +kernel) (by
      obtain ⟨x, y, z, e, e1, e2, d, e3, e4⟩ := hc
      exact ⟨x, y, z, e, e1, e2, d, e3, by rw [e4]; exact l1⟩)
    refine ret_ ((DE.pick rfl (DL.cat hf2 rfl e2 l2f tds2 (by show 3 ≤ 400; decide) (DL.lst (DA.two (DE.tup3 .str DE.tup0 (DE.tup1 .str)) (DE.item (j := 0) hf2 rfl e2 l2f tds2 rfl)) (fun ds ⟨a, b, e, _⟩ => by rw [e]; show 2 ≤ 1000; decide)) (fun ds ⟨a, b, e, _⟩ => by rw [e]; show 2 ≤ 400; decide))
      (fun ds ⟨r, e, x, y, e2, _⟩ => by rw [e, e2]; show 0 < 5 ∧ 5 ≤ 1000; decide)) H2 _ But.refl hf2 fun v3 H3 d3 b3 hf3 td3 p3 => ?_)
    obtain ⟨xs, ⟨r, er, x, y, exy, hx, hy⟩, hm⟩ := p3
    refine q _ _ _ (b1.trans (b2.trans b3)) hf3 td3 ?_
    subst er exy hy
    simp only [List.cons_append, List.nil_append, List.mem_cons, List.not_mem_nil, or_false] at hm
    rcases hm with rfl | rfl | rfl | rfl | rfl
    · exact wa
    · exact wb
    · exact wc
    · refine WTx (P := fun _ => True) (s := "global") (by decide +kernel) (by decide +kernel) ?_
      obtain ⟨x, y, z, e, e1, e2, d, e3, e4⟩ := hx
      exact ⟨x, y, z, e, e1, e2, d, e3, by rw [e4]; decide +kernel⟩
    · exact wa
end
end K03

set_option Elab.async false
set_option linter.all false
set_option maxRecDepth 100000
set_option maxHeartbeats 2000000
namespace K03
open PySem PySem.Spec PyProof.Rows L2
abbrev nIT : List Str := ["_law_feed", "_law_deep", "_law_form", "_law_ink", "_law_turn", "_law_some_here", "_law_items", "_law_heads", "_law_item", "_law_many", "_law_kids", "_law_head"]
abbrev sIT : Stmt := top 23
theorem scIT : FnScope nIT ["_law_feed", "_law_deep"] (defScope sIT) := ⟨rfl, rfl, rfl, by decide +kernel, rfl, by decide +kernel, by decide +kernel⟩
abbrev tDr (many : Int) : TE := tCall spDraw [] E0 (tCons (tVar 0) (tCons (tC (V.int many)) tNil))
def HD5 : List Str := (["let", "try", "if", "list", "call"] : List String).map Str.ofString
def HDl : List Str := (ONESl ++ TWOSl) ++ HD5
theorem hd_ok : ∀ s ∈ HDl, leafD (.str s) = true ∧ firstN s = 0 ∧ 0 ≤ manyN s ∧ manyN s ≤ 4 := by decide +kernel
theorem but_of {f : Addr} {H H' : Hp} (s : Same H H') : But f H H' := fun b o _ e => s b o e
theorem Fd.same {f : Addr} {H H' : Hp} (s : Same H H') (h : Fd H f) : Fd H' f := by
  obtain ⟨g, m, e⟩ := h
  exact ⟨g, m, s _ _ e⟩
theorem tds_strs {K : PySem.W.Frag} {H : Hp} : ∀ {ss : List Str} {vs : List V}, TdAll K H vs (ss.map PyData.str) → vs = ss.map V.str
  | [], _, h => by cases h; rfl
  | s :: ss, _, h => by
    cases h with
    | cons a r =>
      cases a
      rw [tds_strs r]
      rfl
theorem strs_tds {K : PySem.W.Frag} {H : Hp} : ∀ (ss : List Str), TdAll K H (ss.map V.str) (ss.map PyData.str)
  | [] => .nil
  | s :: ss => .cons (.str s) (strs_tds ss)
def spIT (K : PySem.W.Frag) (n : Nat) : Sp := fun vs H Q _ => ∃ (f : Addr) (d : Nat), vs = [.ref f, .int d] ∧ d < n ∧ Fd H f ∧ ∀ v H' t, But f H H' → Fd H' f → Td K H' v t → WT (2 * d + 1) t → Q v H'
def tKid (K : PySem.W.Frag) (n : Nat) : TE := tCall (spIT K n) [] E0 (tCons (tVar 0) (tCons (tOp (rI0 fun i j => V.int (i - j)) (tVar 1) (tC (V.int 1))) tNil))
def tKids (K : PySem.W.Frag) (n : Nat) (tr : TE) : TE := tLc (iRng1 (tCons tr tNil)) (gName 4) tYes (tKid K n) [4]
def tInkG (K : PySem.W.Frag) : TE := tLc (iRng1 (tCons (tOp (rI CMul fun i j => V.int (i * j)) (tDr 3) (tCB (fun xs H Q => (∃ i, xs = [V.int i] ∧ Q (V.int i) H) ∨ ∃ k, xs = [V.bl k] ∧ Q (V.int (if k = true then 1 else 0)) H) (tCons (tOp rEq (tDr 2) (tC (V.int 0))) tNil))) tNil)) (gName 4) tYes (tCall (spD K MT) [] E0 (tCons (tVar 0) tNil)) [4]
def tNd (s : Str) (ti tk : TE) : TE := tTup (tCons (tC (V.str s)) (tCons ti (tCons tk tNil)))
def tsA (K : PySem.W.Frag) : TS := tSeq (tAsg (tLst (tCons (tCall (spD K (WT 1)) [] E0 (tCons (tVar 0) tNil)) (tCons (tNd "name" (tVar 3) (tTup (tCons (tDr 4) tNil))) (tCons (tNd "ref" (tTup tNil) (tTup (tCons (tOp (rI0 fun i j => V.int (i + j)) (tC (V.int 1)) (tDr 9)) tNil))) tNil)))) (gName 5))
  (tRet (tCall spPick [] E0 (tCons (tVar 0) (tCons (tOp rCat (tVar 5) (tLst (tCons (tNd "global" (tTup tNil) (tTup (tCons (tC (V.str "fact")) tNil))) (tCons (tNd "list" (tVar 3) (tTup tNil)) (tCons (tNd "made" (tTup tNil) (tTup tNil)) tNil))))) tNil))))
def tsF (K : PySem.W.Frag) (n : Nat) : TS := tRet (tNd "fun" (tVar 3) (tTup (tCons (tDr 5) (tCons (tKid K n) tNil))))
def tsU (K : PySem.W.Frag) (n : Nat) : TS := tSeq (tAsg (tDr 4) (gName 9)) (tSeq (tAsg (tCB (rTupOf K) (tCons (tKids K n (tVar 9)) tNil)) (gName 10))
  (tRet (tNd "use" (tVar 3) (tOp (rCatA K) (tTup (tCons (tCall spPick [] E0 (tCons (tVar 0) (tCons (tLst (tCons (tC (V.str "or")) (tCons (tC (V.str "w")) (tCons (tC (V.str "for")) tNil)))) tNil))) (tCons (tOp (rI0 fun i j => V.int (i + j)) (tVar 9) (tDr 2)) tNil))) (tVar 10)))))
def tsT (K : PySem.W.Frag) (n : Nat) : TS := tRet (tTup (tCons (tVar 11) (tCons (tVar 3) (tCons (tCB (rTupOf K) (tCons (tKids K n (tVar 9)) tNil)) tNil))))
def tsE (K : PySem.W.Frag) (n : Nat) : TS := tSeq (tAsg (tCall spPick [] E0 (tCons (tVar 0) (tCons (tOp rCat (tOp rCat (tCall (spStrs ONESl) [] E0 tNil) (tCall (spStrs TWOSl) [] E0 tNil)) (tLst (tCons (tC (V.str "let")) (tCons (tC (V.str "try")) (tCons (tC (V.str "if")) (tCons (tC (V.str "list")) (tCons (tC (V.str "call")) tNil))))))) tNil))) (gName 11))
  (tSeq (tAsg (tMany K 11) (gName 9)) (tSeq (tAsg (tIf (tTest (tOp (rI0 fun i j => V.bl (decide (j < i))) (tVar 9) (tC (V.int 0)))) (tVar 9) (tOp (rI0 fun i j => V.int (i + j)) (tC (V.int 1)) (tDr 4))) (gName 9)) (tsT K n)))
def tMapI (K : PySem.W.Frag) : TE := tLc (iList K (tVar 6)) (gName 8) tYes (tIf (tTest (tOp (rIn K false) (tOp (rIxT K) (tVar 8) (tC (V.int 0))) (tVar 7))) (tVar 8) (tNd "fun" (tVar 3) (tTup (tCons (tC (V.int 1)) (tCons (tVar 8) tNil))))) [8]
def tsM (K : PySem.W.Frag) (n : Nat) : TS := tSeq (tAsg (tKids K n (tDr 4)) (gName 6)) (tSeq (tAsg (tTup (tCons (tC (V.str "int")) (tCons (tC (V.str "quote")) (tCons (tC (V.str "flag")) (tCons (tC (V.str "global")) (tCons (tC (V.str "made")) (tCons (tC (V.str "ref")) (tCons (tC (V.str "fun")) (tCons (tC (V.str "use")) tNil))))))))) (gName 7))
  (tRet (tNd "made" (tTup tNil) (tCB (rTupOf K) (tCons (tMapI K) tNil)))))
def tsIT (K : PySem.W.Frag) (n : Nat) : TS := tSeq (tAsg (tDr 14) (gName 2)) (tSeq (tAsg (tCB (rTupOf K) (tCons (tInkG K) tNil)) (gName 3))
  (tSeq (tIfS (tOr (tTest (tOp (rI0 fun i j => V.bl (decide (i < j))) (tVar 1) (tC (V.int 1)))) (tTest (tOp (rI0 fun i j => V.bl (decide (i < j))) (tVar 2) (tC (V.int 3))))) (tsA K) tNext)
  (tSeq (tIfS (tTest (tOp rEq (tVar 2) (tC (V.int 3)))) (tsM K n) tNext)
  (tSeq (tIfS (tTest (tOp (rI0 fun i j => V.bl (decide (i < j))) (tVar 2) (tC (V.int 6)))) (tsU K n) tNext)
  (tSeq (tIfS (tTest (tOp rEq (tVar 2) (tC (V.int 6)))) (tsF K n) tNext) (tsE K n))))))

section
variable {P : Program} {w : World} {K : PySem.W.Frag} {mg : Str → Option Value} {base : Heap}
theorem DE.catA {f : Addr} {H0 : Hp} {σ : L2.St} {t u : TE} {R S : List PyData → Prop} (h : DE K f H0 σ t (fun x => ∃ ds, x = .tuple ds ∧ R ds)) (h2 : DE K f H0 σ u (fun x => ∃ ds, x = .tuple ds ∧ S ds)) (fr : ∀ r, R r → r.length ≤ 400) (fs : ∀ r, S r → r.length ≤ 400) :
    DE K f H0 σ (tOp (rCatA K) t u) (fun x => ∃ a b, x = .tuple (a ++ b) ∧ R a ∧ S b) := fun H Q b hf q =>
  h H _ b hf fun v H1 d b1 hf1 td ⟨ds, e, r⟩ => h2 H1 _ (b.trans b1) hf1 fun v2 H2 d2 b2 hf2 td2 ⟨es, e2, s⟩ => by
    subst e e2
    have td := td_kp (Kp.but hf1 b2) td
    cases td with
    | tup ha ra =>
      cases td2 with
      | tup hb rb =>
        have l1 := ra.len
        have l2 := rb.len
        have f1 := fr ds r
        have f2 := fs es s
        refine ⟨_, _, _, _, rfl, rfl, ha, hb, Nat.le_of_lt (small1000 (by omega)), fun z => ?_, fun _ z => ?_, fun _ _ p np => ?_⟩
        · subst z
          have : ds = [] := List.length_eq_zero_iff.mp l1.symm
          subst this
          exact q _ _ _ (b1.trans b2) hf2 (.tup hb rb) ⟨[], es, rfl, r, s⟩
        · subst z
          have : es = [] := List.length_eq_zero_iff.mp l2.symm
          subst this
          exact q _ _ _ (b1.trans b2) hf2 (.tup ha ra) ⟨ds, [], by rw [List.append_nil], r, s⟩
        · exact q _ _ _ (b1.trans (b2.trans (but_new np))) (hf2.new np) (.tup (SqT.of upd_same) (tds_kp (Kp.of (same_new np)) (ra.app rb))) ⟨ds, es, rfl, r, s⟩
theorem f_fun : firstN "fun" = 1 := by decide +kernel
theorem f_use : firstN "use" = 2 := by decide +kernel
/-- a child, one less deep -/
theorem kid_ok {n d : Nat} {f : Addr} {H0 : Hp} {σ : L2.St} (h0 : σ[0]? = some (some (.ref f))) (h1 : σ[1]? = some (some (.int (d : Int)))) (hd : 0 < d) (hn : d ≤ n) : DE K f H0 σ (tKid K n) (WT (2 * (d - 1) + 1)) := fun H Q b hf q => by
  refine ⟨_, h0, _, h1, _, _, rfl, rfl, f, d - 1, ?_, by omega, hf, q⟩
  show [V.ref f, V.int ((d : Int) - 1)] ++ [] = _
  rw [show ((d : Int) - 1) = ((d - 1 : Nat) : Int) by omega]
  rfl
theorem ink_many {f : Addr} {H0 : Hp} {σ : L2.St} (h0 : σ[0]? = some (some (.ref f))) :
    DE K f H0 σ (tOp (rI CMul fun i j => V.int (i * j)) (tDr 3) (tCB (fun xs H Q => (∃ i, xs = [V.int i] ∧ Q (V.int i) H) ∨ ∃ k, xs = [V.bl k] ∧ Q (V.int (if k = true then 1 else 0)) H) (tCons (tOp rEq (tDr 2) (tC (V.int 0))) tNil))) (fun x => ∃ k : Nat, x = .int k ∧ k ≤ 4) := fun H Q b hf q => by
  refine DE.draw (K := K) h0 (by decide) (by decide) H _ b hf fun v H1 d b1 hf1 td ⟨k, e, kl⟩ => ?_
  subst e
  cases td
  refine DE.draw (K := K) h0 (by decide) (by decide) H1 _ (b.trans b1) hf1 fun v H2 d b2 hf2 td ⟨k2, e, _⟩ => ?_
  subst e
  cases td
  refine ⟨rfl, .inr ⟨_, rfl, ?_⟩⟩
  by_cases e : V.int ((k2 : Nat) : Int) = V.int 0
  · rw [decide_eq_true e]
    refine ⟨_, _, rfl, rfl, .inr ⟨by decide, by decide⟩, ?_⟩
    rw [if_pos rfl]
    dsimp only
    rw [Int.mul_one]
    exact q _ _ _ (b1.trans b2) hf2 (.int _) ⟨k, rfl, by omega⟩
  · rw [decide_eq_false e]
    refine ⟨_, _, rfl, rfl, .inr ⟨by decide, by decide⟩, ?_⟩
    rw [if_neg Bool.false_ne_true]
    dsimp only
    rw [Int.mul_zero]
    exact q _ _ _ (b1.trans b2) hf2 (.int _) ⟨0, rfl, by omega⟩
theorem sing_first : ∀ s ∈ SINGl, firstN s = 1 := by decide +kernel
/-- an inner node -/
theorem WT.node {n : Nat} {s : Str} {ms pre kids : List PyData} (hs : leafD (.str s) = true) (h1 : pre.length = firstN s) (hp : ∀ x ∈ pre, leafD x = true) (hk : kids.length ≤ 8) (hw : ∀ x ∈ kids, WT n x) (hm : ms.length ≤ 8 ∧ ∀ m ∈ ms, okD 2 m) (hS : s ∈ SINGl → kids = [] := by intro h; exact absurd h (by decide +kernel)) : WT (n + 1) (.tuple [.str s, .tuple ms, .tuple (pre ++ kids)]) :=
  ⟨s, ms, pre, kids, rfl, ⟨hs, hS⟩, h1, hp, hk, hw, hm.1, hm.2⟩
variable {D : Ends} {f : Addr} {n d fm : Nat} {H : Hp} {vi : V} {ms : List PyData} {x4 x5 x6 x7 x8 x9 x10 x11 : Option V}
theorem tsA_ok (hf : Fd H f) (ti : Td K H vi (.tuple ms)) (hm : ms.length ≤ 8 ∧ ∀ m ∈ ms, okD 2 m) (fin : ∀ v H' t, But f H H' → Fd H' f → Td K H' v t → WT (2 * d + 1) t → D.rt v H') :
    tsA K D [some (.ref f), some (.int d), some (.int fm), some vi, x4, x5, x6, x7, x8, x9, x10, x11] H := by
  refine seq_asg ((DL.lst (DA.three (DE.call (K := K) (P := WT 1) rfl) (DE.tup3 .str (DE.var hf rfl ti) (DE.tup1 (DE.draw' rfl (by decide) (by decide)))) (DE.tup3 .str DE.tup0 (DE.tup1 (DE.op0 (DE.int.imp fun x e => ⟨1, e, rfl⟩) (DE.draw' rfl (by decide) (by decide)))))) (fun ds ⟨a, b, c, e, _⟩ => by rw [e]; show 3 ≤ 1000; decide)) H _ But.refl hf fun l H1 vs ds b1 hf1 n1 lf e1 tds p1 => ?_)
  obtain ⟨a, b, c, ea, ha, hb, hc⟩ := p1
  subst ea
  have ti1 := td_kp (Kp.but hf b1) ti
  refine ret_ ((DE.pick rfl (DL.cat hf1 rfl e1 lf tds (by show 3 ≤ 400; decide) (DL.lst (DA.three (DE.tup3 .str DE.tup0 (DE.tup1 .str)) (DE.tup3 .str (DE.var hf1 rfl ti1) DE.tup0) (DE.tup3 .str DE.tup0 DE.tup0)) (fun ds ⟨a, b, c, e, _⟩ => by rw [e]; show 3 ≤ 1000; decide)) (fun ds ⟨a, b, c, e, _⟩ => by rw [e]; show 3 ≤ 400; decide))
    (fun ds ⟨r, e, x, y, z, e2, _⟩ => by rw [e, e2]; show 0 < 6 ∧ 6 ≤ 1000; decide)) H1 _ But.refl hf1 fun v H2 t b2 hf2 td p2 => ?_)
  obtain ⟨xs, ⟨r, er, x, y, z, exy, hx, hy, hz⟩, hmm⟩ := p2
  refine fin v H2 t (b1.trans b2) hf2 td (WT.le (n := 1) (by omega) ?_)
  subst er exy
  simp only [List.cons_append, List.nil_append, List.mem_cons, List.not_mem_nil, or_false] at hmm
  rcases hmm with rfl | rfl | rfl | rfl | rfl | rfl
  · exact ha
  · obtain ⟨p, q, r, e, rfl, rfl, i, rfl, j, rfl, hj⟩ := hb
    subst e
    exact WT.leaf (by decide +kernel) (by decide +kernel) (leafG (by omega)) hm
  · obtain ⟨p, q, r, e, rfl, rfl, i, rfl, j, rfl, a1, b1', hj, h1, h2⟩ := hc
    subst e
    exact WT.leaf (by decide +kernel) (by decide +kernel) (leafG (by omega)) no_marks
  · obtain ⟨p, q, r, e, rfl, rfl, i, rfl, rfl⟩ := hx
    subst e
    exact WT.leaf (by decide +kernel) (by decide +kernel) (by decide +kernel) no_marks
  · obtain ⟨p, q, r, e, rfl, rfl, rfl⟩ := hy
    subst e
    exact WT.bare (by decide +kernel) (by decide +kernel) hm
  · obtain ⟨p, q, r, e, rfl, rfl, rfl⟩ := hz
    subst e
    exact WT.bare (by decide +kernel) (by decide +kernel) no_marks
theorem tsF_ok (hf : Fd H f) (ti : Td K H vi (.tuple ms)) (hm : ms.length ≤ 8 ∧ ∀ m ∈ ms, okD 2 m) (hd : 0 < d) (hn : d ≤ n) (fin : ∀ v H' t, But f H H' → Fd H' f → Td K H' v t → WT (2 * d + 1) t → D.rt v H') :
    tsF K n D [some (.ref f), some (.int d), some (.int fm), some vi, x4, x5, x6, x7, x8, x9, x10, x11] H := by
  refine ret_ ((DE.tup3 .str (DE.var hf rfl ti) (DE.tup2 (DE.draw' rfl (by decide) (by decide)) (kid_ok rfl rfl hd hn))) H _ But.refl hf fun v H2 t b2 hf2 td p2 => ?_)
  obtain ⟨p, q, r, e, rfl, rfl, a, b, rfl, ⟨i, rfl, hi⟩, hb⟩ := p2
  subst e
  refine fin v H2 _ b2 hf2 td (WT.le (n := 2 * (d - 1) + 1 + 1) (by omega) (WT.node (pre := [.int i]) (kids := [b]) (by decide +kernel) (by rw [f_fun]; rfl) (fun x hx => ?_) (by show 1 ≤ 8; decide) (fun x hx => ?_) hm))
  · rw [List.mem_singleton.mp hx]
    exact leafG (by omega)
  · rw [List.mem_singleton.mp hx]
    exact hb
theorem kids_ok (hf : Fd H f) {σ : L2.St} {tr : TE} (h0 : σ[0]? = some (some (.ref f))) (hd : 0 < d) (hn : d ≤ n) (hr : DE K f H σ tr (fun x => ∃ k : Nat, x = .int k ∧ k ≤ 4)) (w0 : ∀ v, ((wipe σ [4]).set 4 (some v))[0]? = some (some (.ref f))) (w1 : ∀ v, ((wipe σ [4]).set 4 (some v))[1]? = some (some (.int (d : Int))))
    (hw : ∀ v, wipe ((wipe σ [4]).set 4 (some v)) [4] = wipe σ [4]) : DL K f H σ (tKids K n tr) (fun ds => ds.length ≤ 4 ∧ ∀ x ∈ ds, WT (2 * (d - 1) + 1) x) :=
  DL.comp (by decide) hr (fun v => kid_ok (w0 v) (w1 v) hd hn) hw
theorem tsU_ok (hf : Fd H f) (ti : Td K H vi (.tuple ms)) (hm : ms.length ≤ 8 ∧ ∀ m ∈ ms, okD 2 m) (hd : 0 < d) (hn : d ≤ n) (fin : ∀ v H' t, But f H H' → Fd H' f → Td K H' v t → WT (2 * d + 1) t → D.rt v H') :
    tsU K n D [some (.ref f), some (.int d), some (.int fm), some vi, x4, x5, x6, x7, x8, x9, x10, x11] H := by
  refine seq_asg (DE.draw (K := K) rfl (by decide) (by decide) H _ But.refl hf fun v1 H1 d1 b1 hf1 td1 ⟨k, ek, kl⟩ => ?_)
  subst ek
  cases td1
  have ti1 := td_kp (Kp.but hf b1) ti
  refine seq_asg ((DE.tupOf (kids_ok hf1 rfl hd hn ((DE.var hf1 rfl (.int _)).imp fun x e => ⟨k, e, by omega⟩) (fun _ => rfl) (fun _ => rfl) (fun _ => rfl))) H1 _ But.refl hf1 fun v2 H2 d2 b2 hf2 td2 p2 => ?_)
  obtain ⟨kids, ed, kl2, kw⟩ := p2
  subst ed
  have ti2 := td_kp (Kp.but hf1 b2) ti1
  refine ret_ ((DE.tup3 .str (DE.var hf2 rfl ti2) (DE.catA (S := fun z => z = kids) (DE.tup (DA.two (DE.pick (K := K) (R := fun x => x = [.str "or", .str "w", .str "for"]) rfl ((DL.lst (DA.three .str .str .str) (fun ds ⟨a, b, c, e, _⟩ => by rw [e]; show 3 ≤ 1000; decide)).imp fun x ⟨a, b, c, e, e1, e2, e3⟩ => by rw [e, e1, e2, e3]) (fun ds e => by rw [e]; decide)) (DE.op0 ((DE.var (d := .int (k : Int)) hf2 rfl (.int _)).imp fun x e => ⟨(k : Int), e, rfl⟩) (DE.draw' rfl (by decide) (by decide)))) (fun ds ⟨a, b, e, _⟩ => by rw [e]; show 2 ≤ 1000; decide))
    ((DE.var hf2 rfl td2).imp fun x e => ⟨kids, e, rfl⟩) (fun r ⟨a, b, e, _⟩ => by rw [e]; show 2 ≤ 400; decide) (fun r e => by rw [e]; omega))) H2 _ But.refl hf2 fun v3 H3 t b3 hf3 td3 p3 => ?_)
  obtain ⟨p, q, r, e, rfl, rfl, a, b, rfl, ⟨x, y, rfl, ⟨xs, rfl, hx⟩, i, rfl, i1, i2, rfl, rfl, hi⟩, rfl⟩ := p3
  subst e
  refine fin v3 H3 _ (b1.trans (b2.trans b3)) hf3 td3 (WT.le (n := 2 * (d - 1) + 1 + 1) (by omega) (WT.node (pre := [x, .int _]) (by decide +kernel) (by rw [f_use]; rfl) (fun z hz => ?_) (by omega) kw hm))
  simp only [List.mem_cons, List.not_mem_nil, or_false] at hz hx
  rcases hz with rfl | rfl
  · rcases hx with rfl | rfl | rfl <;> decide +kernel
  · exact leafG (by omega)
end
end K03

set_option Elab.async false
set_option linter.all false
set_option maxRecDepth 100000
set_option maxHeartbeats 2000000
namespace K03
open PySem PySem.Spec PyProof.Rows L2
section
variable {P : Program} {w : World} {K : PySem.W.Frag} {mg : Str → Option Value} {base : Heap}
theorem DL.strs {f : Addr} {H0 : Hp} {σ : L2.St} {l : List Str} {E0' : XK} : DL K f H0 σ (tCall (spStrs l) [] E0' tNil) (fun x => x = l.map PyData.str) :=
  fun H Q b hf q => ⟨rfl, fun p H' s hp np => q p H' (l.map V.str) (l.map PyData.str) (but_of s) (hf.same s) np (hf.ne np) hp (strs_tds l) rfl⟩
theorem DL.cat2 {f : Addr} {H0 : Hp} {σ : L2.St} {t u : TE} {R S : List PyData → Prop} (h : DL K f H0 σ t R) (h2 : DL K f H0 σ u S) (fr : ∀ r, R r → r.length ≤ 400) (fs : ∀ r, S r → r.length ≤ 400) : DL K f H0 σ (tOp rCat t u) (fun x => ∃ r s, x = r ++ s ∧ R r ∧ S s) := fun H Q b hf q =>
  h H _ b hf fun l H1 vs ds b1 hf1 n1 lf el tds r => h2 H1 _ (b.trans b1) hf1 fun p H2 ws es b2 hf2 np pf ep tes s => by
    have s1 := tds.len
    have s2 := tes.len
    have s3 := fr ds r
    have s4 := fs es s
    refine ⟨l, p, vs, ws, rfl, rfl, b2 _ _ lf el, ep, Nat.le_of_lt (small1000 (by omega)), fun p2 n2 => ?_⟩
    exact q p2 _ (vs ++ ws) (ds ++ es) (b1.trans (b2.trans (but_new n2))) (hf2.new n2) (but_none b1 hf1 (but_none b2 hf2 n2)) (hf2.ne n2) upd_same (tds_kp (Kp.of (same_new n2)) ((tds_kp (Kp.but hf1 b2) tds).app tes)) ⟨ds, es, rfl, r, s⟩
theorem DE.many {f : Addr} {H0 : Hp} {σ : L2.St} {i : Nat} {z : Str} (hi : σ[i]? = some (some (.str z))) : DE K f H0 σ (tMany K i) (fun x => x = .int (manyN z)) := fun H Q b hf q =>
  many_ok hi fun H' s => q _ H' _ (but_of s) (hf.same s) (.int _) rfl
variable {D : Ends} {f : Addr} {n d fm : Nat} {H : Hp} {vi : V} {ms : List PyData} {x4 x5 x6 x7 x8 x9 x10 x11 : Option V}
theorem tsM_ok (hf : Fd H f) (ti : Td K H vi (.tuple ms)) (hm : ms.length ≤ 8 ∧ ∀ m ∈ ms, okD 2 m) (hd : 0 < d) (hn : d ≤ n) (fin : ∀ v H' t, But f H H' → Fd H' f → Td K H' v t → WT (2 * d + 1) t → D.rt v H') :
    tsM K n D [some (.ref f), some (.int d), some (.int fm), some vi, x4, x5, x6, x7, x8, x9, x10, x11] H := by
  refine seq_asg ((kids_ok hf rfl hd hn ((DE.draw rfl (by decide) (by decide)).imp fun x ⟨k, e, l⟩ => ⟨k, e, by omega⟩) (fun _ => rfl) (fun _ => rfl) (fun _ => rfl)) H _ But.refl hf fun l H1 vs ds b1 hf1 n1 lf e1 tds p1 => ?_)
  obtain ⟨kl, kw⟩ := p1
  refine seq_asg ⟨(by show 8 ≤ sizeLine; decide), fun th nh => ?_⟩
  have s2 : Same H1 (upd H1 th (.tup (MADEl.map V.str))) := same_new nh
  have hth : (upd H1 th (.tup (MADEl.map V.str))) th = some (.tup (MADEl.map V.str)) := upd_same
  have hf2 := hf1.new (o := .tup (MADEl.map V.str)) nh
  show gName 7 (.ref th) _ (upd H1 th (.tup (MADEl.map V.str))) _
  generalize upd H1 th (.tup (MADEl.map V.str)) = H2 at s2 hth hf2 ⊢
  have e2 := s2 _ _ e1
  have tds2 := tds_kp (Kp.of s2) tds
  have ti2 := td_kp ((Kp.but hf b1).trans (Kp.of s2)) ti
  have tth : Td K H2 (.ref th) (.tuple (MADEl.map PyData.str)) := .tup (SqT.of hth) (strs_tds _)
  refine ret_ ((DE.tup3 .str .tup0 (DE.tupOf (DL.map (i := 6) (j := 8) (Pz := fun _ t => WT (2 * d) t) hf2 rfl e2 lf tds2 (by omega) (fun v t ht td => ?_) (fun _ => rfl)))) H2 _ But.refl hf2 fun v3 H3 t b3 hf3 td3 p3 => ?_)
  · intro Hx Q bx hfx q
    have wt := kw t ht
    have tdx := td_kp (Kp.but hf2 bx) td
    obtain ⟨s, ms', pre, ks, rfl⟩ : ∃ s ms' pre ks, t = .tuple [.str s, .tuple ms', .tuple (pre ++ ks)] := by
      obtain ⟨s, a, b, c, e, _⟩ := wt
      exact ⟨s, a, b, c, e⟩
    cases tdx with
    | tup hs hr =>
      cases hr with
      | cons r1 r2 =>
        cases r1
        refine ⟨_, rfl, _, _, _, _, rfl, rfl, hs, atI_nat (j := 0) rfl, _, rfl, th, MADEl.map V.str, rfl, .inr (sqt_kp (Kp.but hf2 bx) (SqT.of hth)), rfl, strs_flat _, _, rfl, ?_⟩
        refine ite2 (fun c => ?_) (fun c => ?_)
        · exact ⟨_, rfl, q _ _ _ But.refl hfx (td_kp (Kp.but hf2 bx) td) (wt.le (by omega))⟩
        · refine (DE.tup3 .str (DE.var hf2 rfl ti2) (DE.tup2 .int (DE.var hf2 rfl td))) Hx _ bx hfx fun v4 H4 t4 b4 hf4 td4 p4 => ?_
          obtain ⟨p, q', r, e, rfl, rfl, a, b, rfl, rfl, rfl⟩ := p4
          subst e
          refine q v4 H4 _ b4 hf4 td4 (WT.le (n := 2 * (d - 1) + 1 + 1) (by omega) (WT.node (pre := [.int 1]) (kids := [_]) (by decide +kernel) (by rw [f_fun]; rfl) (fun x hx => ?_) (by show 1 ≤ 8; decide) (fun x hx => ?_) hm))
          · rw [List.mem_singleton.mp hx]
            exact leafG (by decide)
          · rw [List.mem_singleton.mp hx]
            exact wt
  · obtain ⟨p, q, r, e, rfl, rfl, es, rfl, he, hw⟩ := p3
    subst e
    refine fin v3 H3 _ (b1.trans ((but_of s2).trans b3)) hf3 td3 (WT.node (n := 2 * d) (s := "made") (pre := []) (kids := es) (by decide +kernel) (by decide +kernel) (fun x hx => by cases hx) (by omega) (fun x hx => ?_) no_marks)
    obtain ⟨_, _, z⟩ := hw x hx
    exact z
theorem tsE_ok (hf : Fd H f) (ti : Td K H vi (.tuple ms)) (hm : ms.length ≤ 8 ∧ ∀ m ∈ ms, okD 2 m) (hd : 0 < d) (hn : d ≤ n) (fin : ∀ v H' t, But f H H' → Fd H' f → Td K H' v t → WT (2 * d + 1) t → D.rt v H') :
    tsE K n D [some (.ref f), some (.int d), some (.int fm), some vi, x4, x5, x6, x7, x8, x9, x10, x11] H := by
  refine seq_asg ((DE.pick (K := K) (R := fun x => x = HDl.map PyData.str) rfl ((DL.cat2 (DL.cat2 DL.strs DL.strs (fun r e => by rw [e]; decide +kernel) (fun r e => by rw [e]; decide +kernel)) (DL.lst (DA.cons .str (DA.cons .str (.three .str .str .str))) (fun ds ⟨_, _, e, _, _, _, e2, _, _, _, _, e3, _⟩ => by rw [e, e2, e3]; show 5 ≤ 1000; decide))
    (fun r ⟨a, b, e, e1, e2⟩ => by rw [e, e1, e2]; decide +kernel) (fun ds ⟨_, _, e, _, _, _, e2, _, _, _, _, e3, _⟩ => by rw [e, e2, e3]; show 5 ≤ 400; decide)).imp fun x ⟨r, s, e, ⟨a, b, e1, e2, e3⟩, _, _, f1, f2, _, _, f3, f4, _, _, _, f5, f6, f7, f8⟩ => by
      rw [e, e1, e2, e3, f1, f2, f3, f4, f5, f6, f7, f8]
      rfl) (fun ds e => by rw [e]; decide +kernel)) H _ But.refl hf fun v1 H1 d1 b1 hf1 td1 p1 => ?_)
  obtain ⟨xs, rfl, hx⟩ := p1
  obtain ⟨z, hz, rfl⟩ := List.mem_map.mp hx
  cases td1
  obtain ⟨z1, z2, z3, z4⟩ := hd_ok z hz
  have ti1 := td_kp (Kp.but hf b1) ti
  refine seq_asg (DE.many (K := K) (z := z) rfl H1 _ But.refl hf1 fun v2 H2 d2 b2 hf2 td2 p2 => ?_)
  subst p2
  cases td2
  have ti2 := td_kp (Kp.but hf1 b2) ti1
  -- the number of children
  have key : ∀ (k : Nat) (Hk : Hp), k ≤ 4 → But f H Hk → Fd Hk f → Td K Hk vi (.tuple ms) → tsT K n D [some (.ref f), some (.int d), some (.int fm), some vi, x4, x5, x6, x7, x8, some (.int k), x10, some (.str z)] Hk := fun k Hk kl bk hfk tik => by
    refine ret_ ((DE.tup3 (DE.var hfk rfl (.str z)) (DE.var hfk rfl tik) (DE.tupOf (kids_ok hfk rfl hd hn ((DE.var hfk rfl (.int _)).imp fun x e => ⟨k, e, kl⟩) (fun _ => rfl) (fun _ => rfl) (fun _ => rfl)))) Hk _ But.refl hfk fun v3 H3 t b3 hf3 td3 p3 => ?_)
    obtain ⟨p, q, r, e, rfl, rfl, es, rfl, he, hw⟩ := p3
    subst e
    exact fin v3 H3 _ (bk.trans b3) hf3 td3 (WT.le (n := 2 * (d - 1) + 1 + 1) (by omega) (WT.node (pre := []) (kids := es) z1 (by rw [z2]; rfl) (fun x hx => by cases hx) (by omega) hw hm (fun h => by have := sing_first z h; omega)))
  refine seq_asg ?_
  refine ⟨_, rfl, _, _, rfl, rfl, _, rfl, ?_⟩
  refine ite2 (fun c => ?_) (fun c => ?_)
  · obtain ⟨k, hk⟩ : ∃ k : Nat, manyN z = (k : Int) := ⟨(manyN z).toNat, by omega⟩
    refine ⟨_, rfl, ?_⟩
    rw [hk] at z4 ⊢
    exact key k H2 (by omega) (b1.trans b2) hf2 ti2
  · refine DE.draw (K := K) rfl (by decide) (by decide) H2 _ But.refl hf2 fun v3 H3 d3 b3 hf3 td3 ⟨k, e, kl⟩ => ?_
    subst e
    cases td3
    refine ⟨_, _, rfl, rfl, ?_⟩
    have e7 : (1 : Int) + (k : Int) = ((1 + k : Nat) : Int) := by omega
    dsimp only
    rw [e7]
    exact key (1 + k) H3 (by omega) (b1.trans (b2.trans b3)) hf3 (td_kp (Kp.but hf2 b3) ti2)
theorem tsIT_ok (hf : Fd H f) (hn : d ≤ n) (fin : ∀ v H' t, But f H H' → Fd H' f → Td K H' v t → WT (2 * d + 1) t → D.rt v H') :
    tsIT K n D [some (.ref f), some (.int d), none, none, none, none, none, none, none, none, none, none] H := by
  refine seq_asg (DE.draw (K := K) rfl (by decide) (by decide) H _ But.refl hf fun v1 H1 d1 b1 hf1 td1 ⟨fm, e, _⟩ => ?_)
  subst e
  cases td1
  refine seq_asg ((DE.tupOf (DL.comp (len := 4) (P := okD 2) (by decide) (ink_many rfl) (fun v => DE.call rfl) (fun _ => rfl))) H1 _ But.refl hf1 fun vi H2 d2 b2 hf2 ti p2 => ?_)
  obtain ⟨ms, rfl, l1, hd2⟩ := p2
  have hm : ms.length ≤ 8 ∧ ∀ m ∈ ms, okD 2 m := ⟨by omega, hd2⟩
  have fin' : ∀ v H' t, But f H2 H' → Fd H' f → Td K H' v t → WT (2 * d + 1) t → D.rt v H' := fun v H' t b' h' t' w' => fin v H' t (b1.trans (b2.trans b')) h' t' w'
  refine ⟨_, rfl, _, _, rfl, rfl, _, rfl, ?_⟩
  refine ite2 (fun c => ?_) (fun c => ?_)
  · exact tsA_ok hf2 ti hm fin'
  · have hd : 0 < d := by
      have z : ¬ ((d : Int) < 1) := fun x => c (decide_eq_true x)
      omega
    refine ⟨_, rfl, _, _, rfl, rfl, _, rfl, ?_⟩
    refine ite2 (fun c2 => ?_) (fun c2 => ?_)
    · exact tsA_ok hf2 ti hm fin'
    · refine ⟨_, rfl, rfl, _, rfl, ?_⟩
      refine ite2 (fun c3' => ?_) (fun c3' => ?_)
      · exact tsM_ok hf2 ti hm hd hn fin'
      · refine ⟨_, rfl, _, _, rfl, rfl, _, rfl, ?_⟩
        refine ite2 (fun c4 => ?_) (fun c4 => ?_)
        · exact tsU_ok hf2 ti hm hd hn fin'
        · refine ⟨_, rfl, rfl, _, rfl, ?_⟩
          refine ite2 (fun c5 => ?_) (fun c5 => ?_)
          · exact tsF_ok hf2 ti hm hd hn fin'
          · exact tsE_ok hf2 ti hm hd hn fin'
theorem ok_it_step {n : Nat} {f fD fP fM fL fO fT : Addr} {fd dD dP dM dL dO dT : FuncData} (F : Fun K "_law_inked_tree" "_law_inked_tree" sIT f fd) (B : BI mg) (mr : mg "range" = none) (bS : Binds K fd ["_law_feed", "_law_deep"] []) (mS : mg "_law_inked_tree" = some (.ref f))
    (CD : Cal P w K mg base "_law_draw" 1 fD dD ["_law_feed", "_law_many"] [] spDraw) (CP : Cal P w K mg base "_law_pick" 2 fP dP ["_law_feed", "_law_items"] [] spPick)
    (CM : Cal P w K mg base "_law_mark" 3 fM dM ["_law_feed"] [] (spD K MT)) (CL : Cal P w K mg base "_law_literal" 3 fL dL ["_law_feed"] [] (spD K (WT 1)))
    (CO : Cal P w K mg base "_law_ones" 1 fO dO [] [] (spStrs ONESl)) (CT : Cal P w K mg base "_law_twos" 1 fT dT [] [] (spStrs TWOSl))
    (G : FnOk P w K mg base CX0 (n + 3) f fd ["_law_feed", "_law_deep"] (spIT K n)) : FnOk P w K mg base CX0 (n + 4) f fd ["_law_feed", "_law_deep"] (spIT K (n + 1)) := by
  refine F.ok scIT (fun vs H Q E h => ?_) (fun cdv A outer s H vs Q E hr h => ?_)
  · obtain ⟨f, d, rfl, _⟩ := h
    rfl
  · obtain ⟨fe, d, rfl, hdn, hf, q⟩ := h
    have hr1 : Room 1 _ := hr.mono (by omega)
    have hr2 : Room 2 _ := hr.mono (by omega)
    have hr3 : Room 3 _ := hr.mono (by omega)
    have hu : (A.deeper (envOfC "_law_inked_tree" (defScope sIT) s.heap.objs.size f cdv)).units + 1 < cLine := by
      have := hr1.un
      omega
    refine ⟨_, pss_cons (ps_set (i := 2) scIT.nd rfl (.inl rfl) (pe_call CD.G hr1 rfl CD.m CD.k CD.b .nil pass0 (pa_cons (pv 0) (pa_cons pe_int pa_nil))))
      (pss_cons (ps_set (i := 3) scIT.nd rfl (.inr rfl) (pe_callTy call_tuple_of (by rfl) B.tup (by decide +kernel) (pa_cons
          (pe_lc (own := [("_law_turn", 4)]) (g := gName 4) (tt := tYes) rfl scIT.nd (pi_range1 rfl mr (pa_cons (pe_op op_mul (pe_call CD.G hr1 rfl CD.m CD.k CD.b .nil pass0 (pa_cons (pv 0) (pa_cons pe_int pa_nil)))
              (pe_callTy call_int1 (by rfl) B.int (by decide +kernel) (pa_cons (pe_cmpR op_eq (pe_call CD.G hr1 rfl CD.m CD.k CD.b .nil pass0 (pa_cons (pv 0) (pa_cons pe_int pa_nil))) pe_int (nomark _)) pa_nil))) pa_nil)) (blkOk_by (N := nIT) (sc := defScope sIT) (by decide +kernel))
            (fun _ _ _ _ _ => pg_name (i := 4) scIT.nd rfl (Or.inl rfl)) (fun _ _ _ _ _ => pts_nil) (fun _ _ _ _ _ => pe_call CM.G hr3 rfl CM.m CM.k CM.b .nil pass0 (pa_cons (pv 0) pa_nil))) pa_nil)))
      (pss_cons (ps_if (PW.pt (pw_or (pt_cmpR op_lt (pv 1) pe_int (nomark _)) (pw_or1 (pt_cmpR op_lt (pv 2) pe_int (nomark _)))))
        (pss_cons (ps_set (i := 5) scIT.nd rfl (.inl rfl) (pe_lst (pa_cons (pe_call CL.G hr3 rfl CL.m CL.k CL.b .nil pass0 (pa_cons (pv 0) pa_nil))
          (pa_cons (pe_tup (pa_cons pe_str (pa_cons (pv 3) (pa_cons (pe_tup (pa_cons (pe_call CD.G hr1 rfl CD.m CD.k CD.b .nil pass0 (pa_cons (pv 0) (pa_cons pe_int pa_nil))) pa_nil)) pa_nil))))
          (pa_cons (pe_tup (pa_cons pe_str (pa_cons (pe_tup pa_nil) (pa_cons (pe_tup (pa_cons (pe_op op_add pe_int (pe_call CD.G hr1 rfl CD.m CD.k CD.b .nil pass0 (pa_cons (pv 0) (pa_cons pe_int pa_nil)))) pa_nil)) pa_nil)))) pa_nil)))))
        (pss_one (ps_ret (pe_call CP.G hr2 rfl CP.m CP.k CP.b .nil pass0 (pa_cons (pv 0) (pa_cons (pe_op op_cat (pv 5) (pe_lst (pa_cons (pe_tup (pa_cons pe_str (pa_cons (pe_tup pa_nil) (pa_cons (pe_tup (pa_cons pe_str pa_nil)) pa_nil))))
          (pa_cons (pe_tup (pa_cons pe_str (pa_cons (pv 3) (pa_cons (pe_tup pa_nil) pa_nil)))) (pa_cons (pe_tup (pa_cons pe_str (pa_cons (pe_tup pa_nil) (pa_cons (pe_tup pa_nil) pa_nil)))) pa_nil))))) pa_nil)))))) pss_nil)
      (pss_cons (ps_if (pt_cmpR op_eq (pv 2) pe_int (nomark _))
        (pss_cons (ps_setLc (i := 6) (own := [("_law_turn", 4)]) (g := gName 4) (tt := tYes) rfl scIT.nd rfl rfl (sw_true rfl rfl rfl (by decide +kernel)) (pi_range1 rfl mr (pa_cons (pe_call CD.G hr1 rfl CD.m CD.k CD.b .nil pass0 (pa_cons (pv 0) (pa_cons pe_int pa_nil))) pa_nil)) (blkOk_by (N := nIT) (sc := defScope sIT) (by decide +kernel))
            (fun _ _ _ _ _ => pg_name (i := 4) scIT.nd rfl (Or.inl rfl)) (fun _ _ _ _ _ => pts_nil) (fun _ _ _ _ _ => pe_call G hr rfl mS F.kp bS .nil pass0 (pa_cons (pv 0) (pa_cons (pe_op op_sub (pv 1) pe_int) pa_nil))))
        (pss_cons (ps_set (i := 7) scIT.nd rfl (.inr rfl) (pe_tup (pa_cons pe_str (pa_cons pe_str (pa_cons pe_str (pa_cons pe_str (pa_cons pe_str (pa_cons pe_str (pa_cons pe_str (pa_cons pe_str pa_nil))))))))))
        (pss_one (ps_ret (pe_tup (pa_cons pe_str (pa_cons (pe_tup pa_nil) (pa_cons (pe_callTy call_tuple_of (by rfl) B.tup (by decide +kernel) (pa_cons
          (pe_lc (own := [("_law_item", 8)]) (g := gName 8) (tt := tYes) rfl scIT.nd (pi_list (pv 6)) (blkOk_by (N := nIT) (sc := defScope sIT) (by decide +kernel))
            (fun _ _ _ _ _ => pg_name (i := 8) scIT.nd rfl (Or.inl rfl)) (fun _ _ _ _ _ => pts_nil)
            (fun _ _ _ _ _ => pe_ifExp (pt_cmpR (r := rIn K false) op_in_seq (pe_ix (r := rIxT K) ix_tup (pv 8) pe_int (fun _ _ => rfl)) (pv 7) (by rfl)) (pv 8) (pe_tup (pa_cons pe_str (pa_cons (pv 3) (pa_cons (pe_tup (pa_cons pe_int (pa_cons (pv 8) pa_nil))) pa_nil)))))) pa_nil)) pa_nil)))))))) pss_nil)
      (pss_cons (ps_if (pt_cmpR op_lt (pv 2) pe_int (nomark _))
        (pss_cons (ps_set (i := 9) scIT.nd rfl (.inl rfl) (pe_call CD.G hr1 rfl CD.m CD.k CD.b .nil pass0 (pa_cons (pv 0) (pa_cons pe_int pa_nil))))
        (pss_cons (ps_set (i := 10) scIT.nd rfl (.inl rfl) (pe_callTy call_tuple_of (by rfl) B.tup (by decide +kernel) (pa_cons
          (pe_lc (own := [("_law_turn", 4)]) (g := gName 4) (tt := tYes) rfl scIT.nd (pi_range1 rfl mr (pa_cons (pv 9) pa_nil)) (blkOk_by (N := nIT) (sc := defScope sIT) (by decide +kernel))
            (fun _ _ _ _ _ => pg_name (i := 4) scIT.nd rfl (Or.inl rfl)) (fun _ _ _ _ _ => pts_nil) (fun _ _ _ _ _ => pe_call G hr rfl mS F.kp bS .nil pass0 (pa_cons (pv 0) (pa_cons (pe_op op_sub (pv 1) pe_int) pa_nil)))) pa_nil)))
        (pss_one (ps_ret (pe_tup (pa_cons pe_str (pa_cons (pv 3) (pa_cons (pe_op op_catA (pe_tup (pa_cons (pe_call CP.G hr2 rfl CP.m CP.k CP.b .nil pass0 (pa_cons (pv 0) (pa_cons (pe_lst (pa_cons pe_str (pa_cons pe_str (pa_cons pe_str pa_nil)))) pa_nil)))
          (pa_cons (pe_op op_add (pv 9) (pe_call CD.G hr1 rfl CD.m CD.k CD.b .nil pass0 (pa_cons (pv 0) (pa_cons pe_int pa_nil)))) pa_nil))) (pv 10)) pa_nil)))))))) pss_nil)
      (pss_cons (ps_if (pt_cmpR op_eq (pv 2) pe_int (nomark _))
        (pss_one (ps_ret (pe_tup (pa_cons pe_str (pa_cons (pv 3) (pa_cons (pe_tup (pa_cons (pe_call CD.G hr1 rfl CD.m CD.k CD.b .nil pass0 (pa_cons (pv 0) (pa_cons pe_int pa_nil)))
          (pa_cons (pe_call G hr rfl mS F.kp bS .nil pass0 (pa_cons (pv 0) (pa_cons (pe_op op_sub (pv 1) pe_int) pa_nil))) pa_nil))) pa_nil)))))) pss_nil)
      (pss_cons (ps_set (i := 11) scIT.nd rfl (.inl rfl) (pe_call CP.G hr2 rfl CP.m CP.k CP.b .nil pass0 (pa_cons (pv 0) (pa_cons (pe_op op_cat (pe_op op_cat (pe_call0 CO.G hr1 rfl CO.m CO.k CO.b .nil pass0) (pe_call0 CT.G hr1 rfl CT.m CT.k CT.b .nil pass0))
          (pe_lst (pa_cons pe_str (pa_cons pe_str (pa_cons pe_str (pa_cons pe_str (pa_cons pe_str pa_nil))))))) pa_nil))))
      (pss_cons (ps_set (i := 9) scIT.nd rfl (.inl rfl) (pe_dget2 hu (pe_disp (pps_cons pe_str pe_int (pps_cons pe_str pe_int (pps_cons pe_str pe_int pps_nil))) rfl rfl (by decide) (by decide)) (pv 11)
        (pe_op op_add (pe_op op_mul pe_int (pe_callTy call_int1 (by rfl) B.int (by decide +kernel) (pa_cons (pe_cmpR op_in_seq (pv 11) (pe_call0 CO.G hr1 rfl CO.m CO.k CO.b .nil pass0) (by rfl)) pa_nil)))
          (pe_op op_mul pe_int (pe_callTy call_int1 (by rfl) B.int (by decide +kernel) (pa_cons (pe_cmpR op_in_seq (pv 11) (pe_call0 CT.G hr1 rfl CT.m CT.k CT.b .nil pass0) (by rfl)) pa_nil)))) ⟨rfl, rfl, rfl, rfl⟩))
      (pss_cons (ps_set (i := 9) scIT.nd rfl (.inl rfl) (pe_ifExp (pt_cmpR op_gt (pv 9) pe_int (nomark _)) (pv 9) (pe_op op_add pe_int (pe_call CD.G hr1 rfl CD.m CD.k CD.b .nil pass0 (pa_cons (pv 0) (pa_cons pe_int pa_nil))))))
      (pss_one (ps_ret (pe_tup (pa_cons (pv 11) (pa_cons (pv 3) (pa_cons (pe_callTy call_tuple_of (by rfl) B.tup (by decide +kernel) (pa_cons
          (pe_lc (own := [("_law_turn", 4)]) (g := gName 4) (tt := tYes) rfl scIT.nd (pi_range1 rfl mr (pa_cons (pv 9) pa_nil)) (blkOk_by (N := nIT) (sc := defScope sIT) (by decide +kernel))
            (fun _ _ _ _ _ => pg_name (i := 4) scIT.nd rfl (Or.inl rfl)) (fun _ _ _ _ _ => pts_nil) (fun _ _ _ _ _ => pe_call G hr rfl mS F.kp bS .nil pass0 (pa_cons (pv 0) (pa_cons (pe_op op_sub (pv 1) pe_int) pa_nil)))) pa_nil)) pa_nil)))))))))))))), ?_⟩
    show tsIT K n _ [some (.ref fe), some (.int d), none, none, none, none, none, none, none, none, none, none] H
    exact tsIT_ok hf (by omega) q
theorem it_none {f : Addr} {fd : FuncData} : FnOk P w K mg base CX0 3 f fd ["_law_feed", "_law_deep"] (spIT K 0) := by
  have no : ∀ vs H Q E, ¬ spIT K 0 vs H Q E := fun vs H Q E h => by
    obtain ⟨f, d, _, h1, _⟩ := h
    omega
  exact ⟨fun vs H Q E h => absurd h (no vs H Q E), fun A outer s H args us vs Q E _ _ _ _ h => absurd h (no vs H Q E)⟩
theorem ok_it {f fD fP fM fL fO fT : Addr} {fd dD dP dM dL dO dT : FuncData} (F : Fun K "_law_inked_tree" "_law_inked_tree" sIT f fd) (B : BI mg) (mr : mg "range" = none) (bS : Binds K fd ["_law_feed", "_law_deep"] []) (mS : mg "_law_inked_tree" = some (.ref f))
    (CD : Cal P w K mg base "_law_draw" 1 fD dD ["_law_feed", "_law_many"] [] spDraw) (CP : Cal P w K mg base "_law_pick" 2 fP dP ["_law_feed", "_law_items"] [] spPick)
    (CM : Cal P w K mg base "_law_mark" 3 fM dM ["_law_feed"] [] (spD K MT)) (CL : Cal P w K mg base "_law_literal" 3 fL dL ["_law_feed"] [] (spD K (WT 1)))
    (CO : Cal P w K mg base "_law_ones" 1 fO dO [] [] (spStrs ONESl)) (CT : Cal P w K mg base "_law_twos" 1 fT dT [] [] (spStrs TWOSl)) : ∀ n : Nat, FnOk P w K mg base CX0 (n + 3) f fd ["_law_feed", "_law_deep"] (spIT K n)
  | 0 => it_none
  | n + 1 => ok_it_step F B mr bS mS CD CP CM CL CO CT (ok_it F B mr bS mS CD CP CM CL CO CT n)
end
end K03

set_option Elab.async false
set_option linter.all false
set_option maxRecDepth 100000
set_option maxHeartbeats 2000000
namespace K03
open PySem PySem.Spec PyProof.Rows L2
theorem cut_drop {xs : List V} (k : Nat) : cutV xs (some (k : Int)) none = xs.drop k := by
  unfold cutV
  rw [HT.sIx_nat, HT.sIx_none]
  by_cases h : k ≤ xs.length
  · rw [Nat.min_eq_left h]
    exact List.take_of_length_le (by rw [List.length_drop]; exact Nat.le_refl _)
  · have h' : xs.length ≤ k := by omega
    rw [Nat.min_eq_right h', List.drop_of_length_le (Nat.le_refl _), List.drop_of_length_le h']
    simp
theorem cut_take {xs : List V} (k : Nat) : cutV xs none (some (k : Int)) = xs.take k := by
  unfold cutV
  rw [HT.sIx_none, HT.sIx_nat]
  by_cases h : k ≤ xs.length
  · rw [Nat.min_eq_left h]
    simp
  · have h' : xs.length ≤ k := by omega
    rw [Nat.min_eq_right h', List.take_of_length_le h']
    simp
theorem cut_whole {xs : List V} {lo hi : Option Int} (h : HT.sIx xs.length 0 lo = 0 ∧ HT.sIx xs.length xs.length hi = xs.length) : cutV xs lo hi = xs := by
  unfold cutV
  rw [h.1, h.2]
  simp
theorem td_tup {K : PySem.W.Frag} {H : Hp} {v : V} {ds : List PyData} (h : Td K H v (.tuple ds)) : ∃ a xs, v = .ref a ∧ SqT K H a xs ∧ TdAll K H xs ds := by
  cases h with
  | tup a r => exact ⟨_, _, rfl, a, r⟩
/-! ### expressions that only make something new, by the datum that they have -/
def PV (K : PySem.W.Frag) (H0 : Hp) (σ : L2.St) (t : TE) (d : PyData) : Prop := ∀ (H : Hp) (Q : VK), Kp H0 H → (∀ v H', Same H H' → Td K H' v d → Q v H') → t σ H Q
def PVs (K : PySem.W.Frag) (H0 : Hp) (σ : L2.St) (t : TA) (ds : List PyData) : Prop := ∀ (H : Hp) (Q : List V → Hp → Prop), Kp H0 H → (∀ vs H', Same H H' → TdAll K H' vs ds → Q vs H') → t σ H Q
section
variable {K : PySem.W.Frag} {H0 : Hp} {σ : L2.St} {t u : TE} {ts : TA} {d e : PyData} {ds es : List PyData}
theorem PV.var {i : Nat} {v : V} (hv : σ[i]? = some (some v)) (hd : Td K H0 v d) : PV K H0 σ (tVar i) d := fun H Q k q => ⟨v, hv, q v H (Same.refl _) (td_kp k hd)⟩
theorem PV.int {i : Int} : PV K H0 σ (tC (.int i)) (.int i) := fun H Q k q => q _ H (Same.refl _) (.int i)
theorem PV.str {i : Str} : PV K H0 σ (tC (.str i)) (.str i) := fun H Q k q => q _ H (Same.refl _) (.str i)
theorem PVs.nil : PVs K H0 σ tNil [] := fun H Q k q => q _ H (Same.refl _) .nil
theorem PVs.cons (a : PV K H0 σ t d) (r : PVs K H0 σ ts ds) : PVs K H0 σ (tCons t ts) (d :: ds) := fun H Q k q =>
  a H _ k fun v H1 s1 td => r H1 _ (k.trans (Kp.of s1)) fun vs H2 s2 tds => q (v :: vs) H2 (s1.trans s2) (.cons (td_kp (Kp.of s2) td) tds)
theorem PV.tup (h : PVs K H0 σ ts ds) (few : ds.length ≤ 1000) : PV K H0 σ (tTup ts) (.tuple ds) := fun H Q k q =>
  h H _ k fun vs H1 s1 tds => ⟨by rw [tds.len]; exact Nat.le_of_lt (small1000 few), fun p np => q _ _ (s1.trans (same_new np)) (.tup (SqT.of upd_same) (tds_kp (Kp.of (same_new np)) tds))⟩
theorem PV.ix {i : Nat} (ha : PV K H0 σ t (.tuple ds)) (hb : PV K H0 σ u (.int (i : Int))) (hi : ds[i]? = some e) : PV K H0 σ (tOp (rIxT K) t u) e := fun H Q k q =>
  ha H _ k fun v H1 s1 td => hb H1 _ (k.trans (Kp.of s1)) fun w H2 s2 td2 => by
    obtain ⟨a, xs, rfl, hs, hr⟩ := td_tup (td_kp (Kp.of s2) td)
    cases td2
    obtain ⟨x, ex, tx⟩ := hr.get' hi
    exact ⟨a, xs, _, x, rfl, rfl, hs, atI_nat ex, q x H2 (s1.trans s2) tx⟩
theorem PV.op0 {g : Int → Int → Int} {i j : Int} (ha : PV K H0 σ t (.int i)) (hb : PV K H0 σ u (.int j)) : PV K H0 σ (tOp (rI0 fun i j => V.int (g i j)) t u) (.int (g i j)) := fun H Q k q =>
  ha H _ k fun v H1 s1 td => hb H1 _ (k.trans (Kp.of s1)) fun w H2 s2 td2 => by
    cases td
    cases td2
    exact ⟨i, j, rfl, rfl, q _ _ (s1.trans s2) (.int _)⟩
theorem sl_out {a : Addr} {xs : List V} {lo hi : Option Int} {H : Hp} {Q : VK} {zs : List PyData} (hs : SqT K H a xs) (hr : TdAll K H (cutV xs lo hi) zs) (q : ∀ v H', Same H H' → Td K H' v (.tuple zs) → Q v H') : rSlA K (.ref a) lo hi H Q := by
  refine ⟨a, xs, rfl, hs, fun h => ?_, fun _ p np => ?_⟩
  · rw [cut_whole h] at hr
    exact q _ H (Same.refl _) (.tup hs hr)
  · exact q _ _ (same_new np) (.tup (SqT.of upd_same) (tds_kp (Kp.of (same_new np)) hr))
theorem PV.hi {i : Nat} (ha : PV K H0 σ t (.tuple ds)) (hb : PV K H0 σ u (.int (i : Int))) : PV K H0 σ (tSl (rSlA K) t tNoPart (tPart u)) (.tuple (ds.take i)) := fun H Q k q =>
  ha H _ k fun v H1 s1 td => hb H1 _ (k.trans (Kp.of s1)) fun w H2 s2 td2 => by
    obtain ⟨a, xs, rfl, hs, hr⟩ := td_tup (td_kp (Kp.of s2) td)
    cases td2
    exact ⟨_, rfl, sl_out hs (by rw [cut_take]; exact hr.take i) fun v H3 s3 td3 => q v H3 (s1.trans (s2.trans s3)) td3⟩
theorem PV.lo {i : Nat} (ha : PV K H0 σ t (.tuple ds)) (hb : PV K H0 σ u (.int (i : Int))) : PV K H0 σ (tSl (rSlA K) t (tPart u) tNoPart) (.tuple (ds.drop i)) := fun H Q k q =>
  ha H _ k fun v H1 s1 td => hb H1 _ (k.trans (Kp.of s1)) fun w H2 s2 td2 => by
    obtain ⟨a, xs, rfl, hs, hr⟩ := td_tup (td_kp (Kp.of s2) td)
    cases td2
    exact ⟨_, rfl, sl_out hs (by rw [cut_drop]; exact hr.drop i) fun v H3 s3 td3 => q v H3 (s1.trans (s2.trans s3)) td3⟩
theorem PV.cat (ha : PV K H0 σ t (.tuple ds)) (hb : PV K H0 σ u (.tuple es)) (few : ds.length + es.length ≤ 1000) : PV K H0 σ (tOp (rCatA K) t u) (.tuple (ds ++ es)) := fun H Q k q =>
  ha H _ k fun v H1 s1 td => hb H1 _ (k.trans (Kp.of s1)) fun w H2 s2 td2 => by
    obtain ⟨a, xs, rfl, hs, hr⟩ := td_tup (td_kp (Kp.of s2) td)
    obtain ⟨b, ys, rfl, hs2, hr2⟩ := td_tup td2
    have l1 := hr.len
    have l2 := hr2.len
    refine ⟨a, b, xs, ys, rfl, rfl, hs, hs2, Nat.le_of_lt (small1000 (by omega)), fun z => ?_, fun _ z => ?_, fun _ _ p np => ?_⟩
    · subst z
      have z : ds = [] := List.length_eq_zero_iff.mp l1.symm
      subst z
      exact q _ _ (s1.trans s2) (.tup hs2 hr2)
    · subst z
      have z : es = [] := List.length_eq_zero_iff.mp l2.symm
      subst z
      exact q _ _ (s1.trans s2) (by rw [List.append_nil]; exact .tup hs hr)
    · exact q _ _ (s1.trans (s2.trans (same_new np))) (.tup (SqT.of upd_same) (tds_kp (Kp.of (same_new np)) (hr.app hr2)))
end
/-! ### trees as data -/
def isTup : PyData → Bool
  | .tuple _ => true
  | _ => false
def its : PyData → List PyData
  | .tuple [_, _, .tuple ds] => ds
  | _ => []
def fOf : PyData → Nat
  | .tuple [.str s, _, _] => firstN s
  | _ => 0
def kidsOf (d : PyData) : List PyData := (its d).drop (fOf d)
def inkOf : PyData → List PyData
  | .tuple [_, .tuple ms, _] => ms
  | _ => []
def getD : PyData → List Nat → Option PyData
  | t, [] => some t
  | t, i :: p => match (its t)[i]? with
    | some d => getD d p
    | none => none
def putD : PyData → List Nat → PyData → PyData
  | _, [], o => o
  | .tuple [h, k, .tuple ds], i :: p, o => match ds[i]? with
    | some d => .tuple [h, k, .tuple (ds.set i (putD d p o))]
    | none => .tuple [h, k, .tuple ds]
  | t, _ :: _, _ => t
def bareD : Nat → PyData → PyData
  | 0, t => t
  | n + 1, .tuple [h, _, .tuple ds] => .tuple [h, .tuple [], .tuple (ds.map fun x => if isTup x = true then bareD n x else x)]
  | _ + 1, t => t
def pathD (p : List Nat) : PyData := .tuple (p.map fun i : Nat => PyData.int (i : Int))
theorem its_at {t d : PyData} {i : Nat} (h : (its t)[i]? = some d) : ∃ a b ds, t = .tuple [a, b, .tuple ds] ∧ ds[i]? = some d := by
  unfold its at h
  split at h
  · exact ⟨_, _, _, rfl, h⟩
  · simp at h
theorem WT.shape {n : Nat} {d : PyData} (h : WT (n + 1) d) : ∃ (s : Str) (ms pre kids : List PyData), d = .tuple [.str s, .tuple ms, .tuple (pre ++ kids)] ∧ its d = pre ++ kids ∧ fOf d = pre.length ∧ kidsOf d = kids ∧ inkOf d = ms ∧ (∀ x ∈ pre, isTup x = false) ∧ (∀ x ∈ kids, WT n x) ∧ kids.length ≤ 8 ∧ pre.length ≤ 2 ∧ pre.length = firstN s := by
  obtain ⟨s, ms, pre, kids, e, h1, h2, h3, h4, h5, h6, h7⟩ := h
  subst e
  have f : fOf (.tuple [.str s, .tuple ms, .tuple (pre ++ kids)]) = pre.length := h2.symm
  refine ⟨s, ms, pre, kids, rfl, rfl, f, ?_, rfl, fun x hx => ?_, h5, h4, by rw [h2]; exact firstN_le s, h2⟩
  · unfold kidsOf
    rw [f]
    show (pre ++ kids).drop pre.length = kids
    rw [List.drop_left]
  · have z := h3 x hx
    cases x <;> first | rfl | (simp [leafD] at z)
theorem WT.sing {n : Nat} {s : Str} {ms pre kids : List PyData} (h : WT (n + 1) (.tuple [.str s, .tuple ms, .tuple (pre ++ kids)])) (hf : pre.length = firstN s) : s ∈ SINGl → kids = [] := by
  obtain ⟨s', ms', pre', kids', e, h1, h2, _⟩ := h
  simp only [PyData.tuple.injEq, List.cons.injEq, PyData.str.injEq, and_true] at e
  obtain ⟨e1, e2, e3⟩ := e
  subst e1
  intro hs
  have z := h1.2 hs
  subst z
  have hl := congrArg List.length e3
  rw [List.length_append, List.length_append] at hl
  exact List.length_eq_zero_iff.mp (by simp only [List.length_nil] at hl; omega)
theorem WT.isTup {n : Nat} {d : PyData} (h : WT n d) : isTup d = true := by
  cases n with
  | zero => exact False.elim h
  | succ n =>
    obtain ⟨s, ms, pre, kids, e, _⟩ := h
    subst e
    rfl
section
variable {P : Program} {w : World} {K : PySem.W.Frag} {mg : Str → Option Value} {base : Heap}
abbrev sSub : Stmt := top 3
abbrev sWith : Stmt := top 4
theorem scSub : FnScope ["tree", "path", "at"] ["tree", "path"] (defScope sSub) := ⟨rfl, rfl, rfl, by decide +kernel, rfl, by decide +kernel, by decide +kernel⟩
theorem scWith : FnScope ["tree", "path", "other", "above", "at"] ["tree", "path", "other"] (defScope sWith) := ⟨rfl, rfl, rfl, by decide +kernel, rfl, by decide +kernel, by decide +kernel⟩
def spSub (K : PySem.W.Frag) : Sp := fun vs H Q _ => ∃ (v vp : V) (t r : PyData) (p : List Nat), vs = [v, vp] ∧ Td K H v t ∧ Td K H vp (pathD p) ∧ getD t p = some r ∧ ∀ v' H', Same H H' → Td K H' v' r → Q v' H'
theorem ok_sub {f : Addr} {fd : FuncData} (F : Fun K "subtree" "subtree" sSub f fd) : FnOk P w K mg base CX0 1 f fd ["tree", "path"] (spSub K) := by
  refine F.ok scSub (fun vs H Q E h => ?_) (fun cdv A outer s H vs Q E hr h => ?_)
  · obtain ⟨v, vp, t, r, p, rfl, _⟩ := h
    rfl
  · obtain ⟨v, vp, t, r, p, rfl, tv, tp, hg, q⟩ := h
    obtain ⟨a, xs, rfl, hs, hx⟩ := td_tup tp
    refine ⟨_, pss_cons (ps_for PassesOwn.never rfl (pi_tup (pv 1)) (pg_name (i := 2) scSub.nd rfl (.inl rfl)) (pss_one (ps_set (i := 0) scSub.nd rfl (.inl rfl) (pe_ix ix_tup (pe_ix ix_tup (pv 0) pe_int (fun _ _ => rfl)) (pv 2) (fun _ _ => rfl))))) (pss_one (ps_ret (pv 0))), ?_⟩
    refine ⟨_, rfl, a, rfl, ⟨xs, hs⟩, ?_⟩
    refine for_tup (K := K) (a := a) (xs := xs) (fun i σ H' => Same H H' ∧ ∃ z v' d, σ = [some v', some (.ref a), z] ∧ Td K H' v' d ∧ getD d (p.drop i) = some r) ⟨Same.refl _, none, v, t, rfl, tv, hg⟩ (fun i σ H' _ h => sqt_kp (Kp.of h.1) hs) ?_ ?_
    · rintro i x σ H' hxi ⟨s1, z, v', d, rfl, td, hd⟩
      obtain ⟨e, he, te⟩ := hx.get hxi
      rw [List.getElem?_map] at he
      obtain ⟨k, hk, rfl⟩ := Option.map_eq_some_iff.mp he
      cases te
      have hp : p.drop i = k :: p.drop (i + 1) := by
        have lt := (List.getElem?_eq_some_iff.mp hk).1
        rw [List.drop_eq_getElem_cons lt, (List.getElem?_eq_some_iff.mp hk).2]
      rw [hp] at hd
      unfold getD at hd
      split at hd
      · rename_i d' hd'
        obtain ⟨h1, h2, ds, rfl, hds⟩ := its_at hd'
        refine (PV.ix (PV.ix (i := 2) (PV.var (i := 0) rfl td) PV.int rfl) (PV.var (i := 2) (d := .int (k : Int)) rfl (.int _)) hds) H' _ Kp.refl fun v2 H2 s2 td2 => ?_
        exact ⟨s1.trans s2, _, v2, d', rfl, td2, hd⟩
      · cases hd
    · rintro σ H' ⟨s1, z, v', d, rfl, td, hd⟩
      have hl := hx.len
      rw [List.length_map] at hl
      rw [List.drop_of_length_le (by omega)] at hd
      obtain rfl := Option.some.inj hd
      exact ⟨_, rfl, q _ _ s1 td⟩
end
end K03

set_option Elab.async false
set_option linter.all false
set_option maxRecDepth 100000
set_option maxHeartbeats 2000000
namespace K03
open PySem PySem.Spec PyProof.Rows L2
def tyD : PyData → String
  | .none => "NoneType"
  | .bool _ => "bool"
  | .int _ => "int"
  | .str _ => "str"
  | .list _ => "list"
  | .tuple _ => "tuple"
  | .dict _ => "NoneType"
theorem ty_of {K : PySem.W.Frag} {H : Hp} {v : V} {d : PyData} (h : Dp K H v d) : TyX K H v (.type (tyD d)) := by
  cases h with
  | non => exact .base .non
  | bl b => exact .base (.bl b)
  | int i => exact .base (.int i)
  | str x => exact .base (.str x)
  | lst a b =>
    rcases a with (a | ⟨o, a⟩) | ⟨o, its, n, hk, hc, _⟩
    · exact .base (.lst a)
    · exact .base (.frz a)
    · exact .kList hk hc
  | tup a b =>
    rcases a with (a | ⟨o, a⟩) | ⟨o, its, n, hk, hc, _⟩
    · exact .base (.tup a)
    · exact .fTuple a
    · exact .kTuple hk hc
def isD (T : String) (d : PyData) : Bool := (kitB (tyD d) T).getD false
theorem kit_is {K : PySem.W.Frag} {T : String} {d : PyData} (hT : ∀ t ∈ ["NoneType", "bool", "int", "str", "list", "tuple"], (kitB t T).isSome = true) : PySem.W.kitOne K (.type (tyD d)) (.type T) = some (isD T d) := by
  have m : tyD d ∈ ["NoneType", "bool", "int", "str", "list", "tuple"] := by
    cases d <;> simp [tyD]
  have h := hT _ m
  unfold isD
  cases e : kitB (tyD d) T with
  | none =>
    rw [e] at h
    cases h
  | some b => exact kit_ty e
theorem is_tup (d : PyData) : isD "tuple" d = isTup d := by cases d <;> (simp only [isD, tyD, isTup]; decide +kernel)
theorem k_tup {K : PySem.W.Frag} {d : PyData} : PySem.W.kitOne K (.type (tyD d)) (.type "tuple") = some (isTup d) := by rw [← is_tup]; exact kit_is (by decide +kernel)
theorem itT {c : Bool} {A B : Prop} (hc : c = true) (h : A) : if c = true then A else B := by
  rw [hc]
  exact iteT h
theorem itF {c : Bool} {A B : Prop} (hc : c = false) (h : B) : if c = true then A else B := by
  rw [hc]
  exact iteF h
theorem eqv_nil (ds : List PyData) : PyData.eqv (.tuple ds) (.tuple []) = ds.isEmpty := by
  cases ds <;> simp [PyData.eqv, PyData.eqvAll]
theorem set_parts {α : Type} {l : List α} {i : Nat} {x : α} (h : i < l.length) : (l.take i ++ [x]) ++ l.drop (i + 1) = l.set i x := by
  rw [List.set_eq_take_append_cons_drop, if_pos h, List.append_assoc]
  rfl
/-- no row along the path is long -/
def widP : PyData → List Nat → Prop
  | _, [] => True
  | t, i :: p => (its t).length ≤ 100 ∧ ∀ d, (its t)[i]? = some d → widP d p
theorem path_sh (p : List Nat) (h : p.length ≤ 100) : SeqAt.shaped (pathD p) = true := by
  refine okD.shaped (n := 1) (okD.tuple (n := 0) (by rw [List.length_map]; exact h) fun x hx => ?_) (by decide)
  obtain ⟨i, _, rfl⟩ := List.mem_map.mp hx
  exact okD.leaf (leafI i)
theorem nil_sh : SeqAt.shaped (.tuple []) = true := okD.shaped (n := 1) (okD.tuple (n := 0) (Nat.zero_le _) fun x hx => by cases hx) (by decide)
theorem pathD_drop (i : Nat) (p : List Nat) : .tuple (((i :: p).map fun i : Nat => PyData.int (i : Int)).drop 1) = pathD p := rfl
section
variable {P : Program} {w : World} {K : PySem.W.Frag} {mg : Str → Option Value} {base : Heap}
def spWith (K : PySem.W.Frag) (n : Nat) : Sp := fun vs H Q _ => ∃ (v vp vo : V) (t r o : PyData) (p : List Nat), vs = [v, vp, vo] ∧ Td K H v t ∧ Td K H vp (pathD p) ∧ Td K H vo o ∧ p.length < n ∧ p.length ≤ 50 ∧ getD t p = some r ∧ widP t p ∧
  ∀ v' H', Same H H' → Td K H' v' (putD t p o) → Q v' H'
theorem get_step {t r : PyData} {i : Nat} {p : List Nat} (h : getD t (i :: p) = some r) : ∃ a b ds d, t = .tuple [a, b, .tuple ds] ∧ ds[i]? = some d ∧ getD d p = some r := by
  unfold getD at h
  split at h
  · rename_i d hd
    obtain ⟨a, b, ds, e, hds⟩ := its_at hd
    exact ⟨a, b, ds, d, e, hds, h⟩
  · cases h
theorem put_step {a b d o : PyData} {ds : List PyData} {i : Nat} {p : List Nat} (h : ds[i]? = some d) : putD (.tuple [a, b, .tuple ds]) (i :: p) o = .tuple [a, b, .tuple (ds.set i (putD d p o))] := by
  rw [putD.eq_2]
  rw [h]
theorem tds3 {K : PySem.W.Frag} {H : Hp} {xs : List V} {a b c : PyData} (h : TdAll K H xs [a, b, c]) : ∃ x y z, xs = [x, y, z] ∧ Td K H x a ∧ Td K H y b ∧ Td K H z c := by
  cases h with
  | cons h1 h =>
    cases h with
    | cons h2 h =>
      cases h with
      | cons h3 h =>
        cases h
        exact ⟨_, _, _, rfl, h1, h2, h3⟩
end
end K03

set_option Elab.async false
set_option linter.all false
set_option maxRecDepth 100000
set_option maxHeartbeats 2000000
namespace K03
open PySem PySem.Spec PyProof.Rows L2
/-! ### del xs[a:] -/
theorem zip_take {α : Type} {a n : Nat} : ∀ (xs : List α) (j : Nat), j + xs.length = n → j ≤ a →
    ((xs.zipIdx j).filterMap fun p : α × Nat => if (decide ((a : Int) ≤ (p.2 : Int)) && decide ((p.2 : Int) < (n : Int)) && (((p.2 : Int) - (a : Int)) % 1 == 0)) = true then none else some p.1) = xs.take (a - j)
  | [], j, _, _ => by simp
  | x :: xs, j, hn, hj => by
    rw [List.zipIdx_cons, List.filterMap_cons]
    by_cases h : j = a
    · subst h
      have e : (decide ((j : Int) ≤ (j : Int)) && decide ((j : Int) < (n : Int)) && (((j : Int) - (j : Int)) % 1 == 0)) = true := by
        have : j < n := by rw [← hn]; simp
        simp [this]
      dsimp only
      rw [if_pos e]
      have rest : ∀ (ys : List α) (k : Nat), k + ys.length = n → j ≤ k → ((ys.zipIdx k).filterMap fun p : α × Nat => if (decide ((j : Int) ≤ (p.2 : Int)) && decide ((p.2 : Int) < (n : Int)) && (((p.2 : Int) - (j : Int)) % 1 == 0)) = true then none else some p.1) = [] := by
        intro ys
        induction ys with
        | nil => intro k _ _; simp
        | cons y ys ih =>
          intro k hk jk
          rw [List.zipIdx_cons, List.filterMap_cons]
          have e : (decide ((j : Int) ≤ (k : Int)) && decide ((k : Int) < (n : Int)) && (((k : Int) - (j : Int)) % 1 == 0)) = true := by
            have h1 : k < n := by rw [← hk]; simp
            have h2 : ((k : Int) - (j : Int)) % 1 = 0 := Int.emod_one _
            simp [h1, h2, jk]
          dsimp only
          rw [if_pos e]
          exact ih (k + 1) (by rw [← hk]; simp; omega) (by omega)
      rw [rest xs (j + 1) (by rw [← hn]; simp; omega) (by omega)]
      simp
    · have e : ¬ (decide ((a : Int) ≤ (j : Int)) && decide ((j : Int) < (n : Int)) && (((j : Int) - (a : Int)) % 1 == 0)) = true := by
        have : ¬ (a : Int) ≤ (j : Int) := by omega
        simp [this]
      dsimp only
      rw [if_neg e]
      dsimp only
      rw [zip_take xs (j + 1) (by rw [← hn]; simp; omega) (by omega)]
      obtain ⟨m, hm⟩ : ∃ m, a - j = m + 1 := ⟨a - j - 1, by omega⟩
      have hm2 : a - (j + 1) = m := by omega
      rw [hm, hm2, List.take_succ_cons]
section
variable {prog : Program} {w : World} {A : Around} {E : Value → Shared → Prop} {s : Shared}
theorem bounds_tail {a n : Nat} (ha : a ≤ n) : sliceBounds (some (a : Int)) none none n = ((a : Int), (n : Int), 1) := by
  simp only [sliceBounds, Option.getD_none]
  have h1 : ¬ ((a : Int) < 0) := by omega
  simp only [h1, if_false, show (1 : Int) > 0 by decide, if_true]
  congr 1
  omega
theorem delItem_tail {l sl : Addr} {items : Array Value} {n : Nat} {vl vu : Value} {a : Nat} {Q : Unit → Shared → Prop}
    (e : s.heap.get? l = some { cls := .type "list", data := .seq items n }) (hs : s.heap.IsSliceOf sl vl vu .none) (pl : IsPart vl (some (a : Int))) (pu : IsPart vu none) (ha : a ≤ items.size)
    (hsz : items.size ≤ sizeLine) (h : Q () { s with heap := s.heap.update l (Obj.mapSeq fun xs => (xs.toList.zipIdx.filterMap fun p : Value × Nat => if (decide ((a : Int) ≤ (p.2 : Int)) && decide ((p.2 : Int) < (items.size : Int)) && (((p.2 : Int) - (a : Int)) % 1 == 0)) = true then none else some p.1).toArray) }) :
    wpAny (model prog w) A (delItem (.ref l) (.ref sl)) Q E s := by
  have hl : s.heap.IsList l items := PySem.IsL.isList e
  obtain ⟨os, hos, hcs, hds⟩ := id hs
  have hTs : s.TypeIs (.ref sl) "slice" := ⟨os, hos, hcs⟩
  have hstep : ¬ ((rawPart none == rawInt 0) = true) := Bool.false_ne_true
  have hz' : ((fun xs : Array Value => (xs.toList.zipIdx.filterMap fun p : Value × Nat => if (decide ((a : Int) ≤ (p.2 : Int)) && decide ((p.2 : Int) < (items.size : Int)) && (((p.2 : Int) - (a : Int)) % 1 == 0)) = true then none else some p.1).toArray) items).size ≤ sizeLine + 1 := by
    show (List.toArray _).size ≤ _
    rw [List.size_toArray, zip_take items.toList 0 (by simp) (Nat.zero_le _), List.length_take]
    have := Array.length_toList (xs := items)
    omega
  unfold delItem
  refine wpAny_holding ?_
  refine wpAny_bind (wpAny_sequenceKey hl.typeIs (by decide) ?_)
  refine wpAny_bind (wpAny_callSpecial?_slot (name := Str.ofString "__delitem__") hl.typeIs PySem.F.slot_list_delitem
    (wpAny_call_entry PySem.F.slot_list_delitem hl.typeIs PySem.F.entry_list_delitem ?_ (PySem.F.args_list_delitem_2 _ _)))
  show wpAny _ _ (Builtin.List.listSubscript? (.ref sl) >>= _) _ _ s
  refine wpAny_bind ?_
  unfold Builtin.List.listSubscript?
  refine wpAny_bind (wpAny_specialOf hTs slice_no_index ?_)
  simp only [Option.isNone_none, if_true]
  refine wpAny_pure ?_
  show wpAny _ _ (typeOf (.ref sl) >>= _) _ _ s
  refine wpAny_bind (wpAny_typeOf hTs ?_)
  first
    | rw [if_neg (by decide)]
    | refine PySem.W.KFB.if_not (by decide) ?_
  rw [listSliceParts_eq]
  refine wpAny_bind (wpAny_bind (wpAny_field hos hds (x := .none) rfl (wpAny_bind (wpAny_listPart .none ?_))))
  rw [if_neg hstep]
  refine wpAny_bind (wpAny_field hos hds (x := vl) rfl (wpAny_bind (wpAny_listPart pl ?_)))
  refine wpAny_bind (wpAny_field hos hds (x := vu) rfl (wpAny_bind (wpAny_listPart pu (wpAny_pure ?_))))
  unfold Builtin.List.listItems
  refine wpAny_bind (wpAny_bind (wpAny_seqItems e rfl (wpAny_pure ?_)))
  refine wpAny_bind (wpAny_of_eq ((sliceIndices_raw (some (a : Int)) none none items.size (by simp)).trans (congrArg (pure : Int × Int × Int → Sem (Int × Int × Int)) (bounds_tail ha))) ?_)
  refine wpAny_bind (wpAny_rule ?_)
  show wpAny _ _ (updateSeq l (fun xs => (xs.toList.zipIdx.filterMap fun p : Value × Nat => if (decide ((a : Int) ≤ (p.2 : Int)) && decide ((p.2 : Int) < (items.size : Int)) && (((p.2 : Int) - (a : Int)) % 1 == 0)) = true then none else some p.1).toArray) >>= _) _ _ s
  refine wpAny_bind (wpAny_updateSeq (hz := hsz) (_hz' := hz') e rfl ?_)
  refine wpAny_bind (wpAny_letGo ?_)
  exact wpAny_pure ⟨.none, rfl, wpAny_pure h⟩
end
section
variable {X : Cx} {o : Expr} {lo : Option Expr} {to : TE} {tl : TO} {p2 tpos pos : Pos}
/-- del xs[a:] -/
def tDelT (to : TE) (tl : TO) : TS := fun D σ H => to σ H fun x H1 => tl σ H1 fun c H2 => ∃ (l : Addr) (xs : List V) (a : Nat), x = .ref l ∧ c = some (a : Int) ∧ H2 l = some (.lst xs) ∧ a ≤ xs.length ∧ D.nx σ (upd H2 l (.lst (xs.take a)))
theorem ps_delT (ho : PE X o to) (hl : PO X lo tl) : PS X (.Delete [.Subscript o (.Slice lo none none p2) tpos] pos) (tDelT to tl) := by
  refine ⟨fun pins s σ H D I h => ?_⟩
  refine wpAny_Delete (wpAny_deleteEach_cons (wpAny_delete_Subscript (thn (ho.run pins s σ H _ I h) fun u s1 ⟨x, H1, I1, rx, q1⟩ => ?_)))
  refine wpAny_Slice (thn (hl.run pins s1 σ H1 _ I1 q1) fun vl s2 ⟨l, H2, I2, pl, q2⟩ => ?_)
  refine thn (po_none.run pins s2 σ H2 (fun o H3 => o = none ∧ H3 = H2) I2 ⟨rfl, rfl⟩) fun vu s3 ⟨u3, H3, I3, pu, eu, e3⟩ => ?_
  subst eu e3
  rw [evalPart_none]
  refine wpAny_pure ?_
  obtain ⟨la, xs, a, ex, el, hH, ha, q3⟩ := q2
  subst ex
  subst el
  cases (show u = Value.ref la from rx)
  have I4 : Inv X pins σ H3 { s3 with heap := s3.heap.push { cls := .type "slice", data := .fields #[vl, vu, .none] } } := I3.kept (t' := s3.toks) fun b ob q => Heap.get?_push_of_some _ q
  obtain ⟨z, its, n, r, hln, e⟩ := I4.lstM hH
  have ll : its.length = xs.length := r.length.symm
  refine delItem_tail (a := a) e (Heap.IsSliceOf.new ..) pl pu (by rw [List.size_toArray, ll]; exact ha) (by rw [List.size_toArray, ll]; omega) ?_
  refine wpAny_deleteEach_nil ⟨σ, _, I4.lset (its' := its.take a) (t' := s3.toks) hH e ?_ (r.take a) ?_, q3⟩
  · show (List.toArray _) = (its.take a).toArray
    rw [List.size_toArray, zip_take its 0 (by simp) (Nat.zero_le _), Nat.sub_zero]
  · rw [List.length_take]
    omega
end
end K03

set_option Elab.async false
set_option linter.all false
set_option maxRecDepth 100000
set_option maxHeartbeats 2000000
namespace K03
open PySem PySem.Spec PyProof.Rows L2
/-! ### t[::-1], t a tuple -/
theorem adjust_rev (n : Nat) : Builtin.Slice.sliceAdjust none none (-1) (n : Int) = ((n : Int) - 1, -1) := by
  unfold Builtin.Slice.sliceAdjust
  have h1 : ((-1 : Int) < 0) := by decide
  first
    | (simp only [h1, if_true]; done)
    | (simp only [h1, if_true]; rfl)
    | rfl
theorem places_rev (n : Nat) : Builtin.Slice.slicePlaces ((n : Int) - 1) (-1) (-1) = n := by
  unfold Builtin.Slice.slicePlaces
  have h1 : ¬ ((-1 : Int) > 0) := by decide
  simp only [h1, if_false]
  by_cases h : (n : Int) - 1 > -1
  · rw [if_pos h]
    have : ((n : Int) - 1 - -1 - 1) / (- -1) = (n : Int) - 1 := by
      rw [show (- -1 : Int) = 1 by decide, Int.ediv_one]
      omega
    rw [this]
    omega
  · rw [if_neg h]
    omega
section
variable {prog : Program} {w : World} {A : Around} {E : Value → Shared → Prop} {s : Shared}
theorem sliceApplied_rev {sl : Addr} {vl vu vs : Value} {n : Nat} {Q : Int × Int × Nat → Shared → Prop} (hs : s.heap.IsSliceOf sl vl vu vs) (pl : IsPart vl none) (pu : IsPart vu none) (ps : IsPart vs (some (-1)))
    (h : Q ((n : Int) - 1, -1, n) s) : wpAny (model prog w) A (Builtin.Slice.sliceApplied (.ref sl) (pure (n : Int))) Q E s := by
  obtain ⟨os, hos, hcs, hds⟩ := id hs
  unfold Builtin.Slice.sliceApplied Builtin.Slice.sliceFields
  refine wpAny_bind (wpAny_bind (wpAny_field hos hds (x := vl) rfl (wpAny_bind (wpAny_field hos hds (x := vu) rfl (wpAny_bind (wpAny_field hos hds (x := vs) rfl (wpAny_pure ?_)))))))
  refine wpAny_bind (HT.slicePart_ ps ?_)
  show wpAny _ _ (if ((-1 : Int) == 0) = true then _ else _) _ _ s
  rw [if_neg (by decide)]
  refine wpAny_bind (HT.slicePart_ pl (wpAny_bind (HT.slicePart_ pu (wpAny_bind (wpAny_pure ?_)))))
  show wpAny _ _ (match Builtin.Slice.sliceAdjust none none (-1) (n : Int) with | (lo, hi) => pure (lo, (-1 : Int), Builtin.Slice.slicePlaces lo hi (-1))) _ _ s
  rw [adjust_rev n]
  show wpAny _ _ (pure ((n : Int) - 1, (-1 : Int), Builtin.Slice.slicePlaces ((n : Int) - 1) (-1) (-1))) _ _ s
  rw [places_rev]
  exact wpAny_pure h
theorem pick_rev (xs : Array Value) : ((List.range xs.size).filterMap fun (m : Nat) => xs[((xs.size : Int) - 1 + (m : Int) * -1).toNat]?).toArray = xs.toList.reverse.toArray := by
  have e : ((List.range xs.size).filterMap fun (m : Nat) => xs[((xs.size : Int) - 1 + (m : Int) * -1).toNat]?) = ((List.range xs.size).map fun k => xs.size - 1 - k).filterMap (xs[·]?) := by
    rw [List.filterMap_map]
    congr 1
    funext m
    show xs[_]? = xs[xs.size - 1 - m]?
    have : ((xs.size : Int) - 1 + (m : Int) * -1).toNat = xs.size - 1 - m := by omega
    rw [this]
  rw [e, PySem.W.krv_range, List.filterMap_reverse, PySem.W.krv_all]
theorem getItem_tuple_rev {t sl : Addr} {items : Array Value} {vl vu vs : Value} {Q : Value → Shared → Prop} (ht : IsTup s.heap t items) (hs : s.heap.IsSliceOf sl vl vu vs) (pl : IsPart vl none) (pu : IsPart vu none) (ps : IsPart vs (some (-1)))
    (h : Q (.ref s.heap.objs.size) { s with heap := s.heap.push { cls := .type "tuple", data := .seq items.toList.reverse.toArray } })
    (hsz : items.size ≤ sizeLine) : wpAny (model prog w) A (getItem (.ref t) (.ref sl)) Q E s := by
  have htake : sizeOk (.seq items.toList.reverse.toArray) := by
    show items.toList.reverse.toArray.size ≤ sizeLine
    rw [List.size_toArray, List.length_reverse, Array.length_toList]
    exact hsz
  obtain ⟨os, hos, hcs, hds⟩ := id hs
  have hTs : s.TypeIs (.ref sl) "slice" := ⟨os, hos, hcs⟩
  unfold getItem
  try with_reducible refine wpAny_holding ?_
  first | refine wpAny_bind (wpAny_pure ?_) | skip
  refine wpAny_bind (wpAny_sequenceKey ht.typeIs (by decide) ?_)
  refine wpAny_bind (wpAny_callSpecial?_slot (name := Str.ofString "__getitem__") ht.typeIs PyProof.Rows.slot_tuple_getitem
    (wpAny_call_entry PyProof.Rows.slot_tuple_getitem ht.typeIs entry_tuple_getitem ?_ (args_tuple_getitem _ _)))
  show wpAny _ _ (Builtin.Tuple.tupleItemsOf (.ref t) >>= _) _ _ s
  refine wpAny_bind (tupleItemsOf_ ht ?_)
  refine wpAny_bind (wpAny_typeOf hTs ?_)
  rw [if_pos (by decide)]
  refine wpAny_bind (sliceApplied_rev hs pl pu ps ?_)
  have hno : ¬ ((((items.size : Int) - 1 == 0) && ((-1 : Int) == 1) && (items.size == items.size)) = true) := by
    intro q
    rw [Bool.and_eq_true, Bool.and_eq_true] at q
    exact absurd q.1.2 (by decide)
  show wpAny _ _ (if ((((items.size : Int) - 1 == 0) && ((-1 : Int) == 1) && (items.size == items.size)) = true) then _ else _) _ _ s
  rw [if_neg hno, pick_rev]
  first
    | exact wpAny_bind (m := Builtin.Tuple.tupleExact _) (wpAny_newObj_type (wpAny_pure ⟨_, rfl, wpAny_pure h⟩) htake)
    | exact wpAny_bind (m := Builtin.Tuple.tupleExact _) (wpAny_newObj_type (wpAny_bind (wpAny_pure (wpAny_pure ⟨_, rfl, wpAny_pure h⟩))) htake)
    | exact wpAny_bind (wpAny_bind (m := Builtin.Tuple.tupleExact _) (wpAny_newObj_type (wpAny_pure (wpAny_pure ⟨_, rfl, wpAny_pure h⟩)) htake))
    | exact wpAny_bind (wpAny_bind (m := Builtin.Tuple.tupleExact _) (wpAny_newObj_type (wpAny_pure ⟨_, rfl, wpAny_pure h⟩) htake))
end
section
variable {X : Cx}
def tRevT (K : PySem.W.Frag) (te : TE) : TE := fun σ H Q => te σ H fun x H1 => ∃ a xs, x = .ref a ∧ SqT K H1 a xs ∧ ∀ p, H1 p = none → Q (.ref p) (upd H1 p (.tup xs.reverse))
theorem pe_revT {e : Expr} {te : TE} {k : Nat} {p1 p2 p3 pos : Pos} (he : PE X e te) : PE X (.Subscript e (.Slice none none (some (.UnaryOp .USub (.Constant (.int 1) k p1) p2)) p3) pos) (tRevT X.K te) := by
  refine ⟨fun pins s σ H Q I h => ?_⟩
  refine Subscript_ (thn (he.run pins s σ H _ I h) fun v s1 ⟨x, H1, I1, r1, q1⟩ => ?_)
  obtain ⟨a, xs, ex, hx, q⟩ := q1
  subst ex
  cases r1
  have hst : PO X (some (.UnaryOp .USub (.Constant (.int 1) k p1) p2)) (tPart (tUn (rU fun i => .int (-i)) (tC (.int 1)))) := po_some (pe_un un_neg pe_int)
  refine wpAny_Slice (thn (po_none.run pins s1 σ H1 (fun o H2 => o = none ∧ H2 = H1) I1 ⟨rfl, rfl⟩) fun vl s2 ⟨l, H2, I2, pl, el, e2⟩ => ?_)
  subst el e2
  refine thn (po_none.run pins s2 σ H2 (fun o H3 => o = none ∧ H3 = H2) I2 ⟨rfl, rfl⟩) fun vu s3 ⟨u, H3, I3, pu, eu, e3⟩ => ?_
  subst eu e3
  refine thn (hst.run pins s3 σ H3 (fun o H4 => o = some (-1) ∧ H4 = H3) I3 ⟨1, rfl, -1, rfl, rfl, rfl⟩) fun vs s4 ⟨o, H4, I4, ps, eo, e4⟩ => ?_
  subst eo e4
  have I5 : Inv X pins σ H4 { s4 with heap := s4.heap.push { cls := .type "slice", data := .fields #[vl, vu, vs] } } := I4.kept (t' := s4.toks) fun b ob q => Heap.get?_push_of_some _ q
  obtain ⟨its, r, ht, hz⟩ := I5.tuple hx
  have hlen := r.length
  show wpAny (model X.prog X.w) X.A (subscriptTail e (.Slice none none (some (.UnaryOp .USub (.Constant (.int 1) k p1) p2)) p3) (.ref a) (.ref s4.heap.objs.size)) (EP X pins σ Q) X.xe { s4 with heap := s4.heap.push { cls := .type "slice", data := .fields #[vl, vu, vs] } }
  refine tail_any (ops := [.ref a, .ref s4.heap.objs.size]) ht.typeIs (PyProof.Rows.slot_tuple_getitem.lookup) ?_ (by with_unfolding_all rfl)
  refine getItem_tuple_rev ht (Heap.IsSliceOf.new _ vl vu vs) pl pu ps ?_ (by rw [List.size_toArray, ← hlen]; exact hz)
  refine ⟨.ref _, _, I5.laid (t' := s4.toks) (o := .tup xs.reverse) (fun b ob q => Heap.get?_push_of_some _ q) (Nat.le_refl _) ?_, rfl, q _ (I5.hok.fresh (Nat.le_refl _))⟩
  exact ⟨by rw [List.length_reverse]; exact hz, _, r.reverse, IsTup.new _ _⟩
end
end K03

set_option Elab.async false
set_option linter.all false
set_option maxRecDepth 100000
set_option maxHeartbeats 2000000
namespace K03
open PySem PySem.Spec PyProof.Rows L2
theorem seq_ {a b : TS} {D : Ends} {σ : L2.St} {H : Hp} (h : a { D with nx := b D } σ H) : tSeq a b D σ H := h
theorem ta_one {te : TE} {σ : L2.St} {H : Hp} {Q : List V → Hp → Prop} (h : te σ H fun x H2 => Q [x] H2) : tCons te tNil σ H Q := h
theorem drop_ {te : TE} {D : Ends} {σ : L2.St} {H : Hp} (h : te σ H fun _ H' => D.nx σ H') : tDrop te D σ H := h
theorem for_rev {K : PySem.W.Frag} {a : Addr} {xs : List V} {g : TG} {tb : TS} {D : Ends} {σ : L2.St} {H : Hp} (Pv : Nat → L2.St → Hp → Prop) (h0 : Pv 0 σ H) (hl : ∀ i σ H, i ≤ xs.length → Pv i σ H → SqL K H a xs)
    (hs : ∀ i x σ H, i < xs.length → xs[xs.length - 1 - i]? = some x → Pv i σ H → g x σ H fun σ2 H2 => tb { D with nx := Pv (i + 1), ct := Pv (i + 1), bk := D.nx } σ2 H2) (hd : ∀ σ H, Pv xs.length σ H → D.nx σ H) :
    ∃ W : Nat → Nat → L2.St → Hp → Prop, (∃ m, W 0 m σ H) ∧ ∀ i m σ H, W i m σ H →
      ((Itv K a xs.length).stop i H ∧ D.nx σ H) ∨ ((Itv K a xs.length).go i H ∧ ∃ N : L2.St → Hp → Prop, (∀ σ' H', N σ' H' → ∃ m', m' < m ∧ W (i + 1) m' σ' H') ∧ ∀ x H', (Itv K a xs.length).yld i H x H' → g x σ H' fun σ2 H2 => tb { D with nx := N, ct := N, bk := D.nx } σ2 H2) := by
  refine ⟨fun i m σ H => m = xs.length - i ∧ i ≤ xs.length ∧ Pv i σ H, ⟨xs.length, by simp, Nat.zero_le _, h0⟩, ?_⟩
  rintro i m σ H ⟨rfl, hi, p⟩
  have q := hl i σ H hi p
  by_cases hlt : i < xs.length
  · refine .inr ⟨⟨hlt, xs, xs[xs.length - 1 - i], q, by rw [List.getElem?_eq_getElem]⟩, Pv (i + 1), fun σ' H' p' => ⟨xs.length - (i + 1), by omega, rfl, hlt, p'⟩, fun x H' y => ?_⟩
    obtain ⟨e, y⟩ := y
    subst e
    exact hs i x σ _ hlt (y xs q) p
  · have e : i = xs.length := by omega
    subst e
    exact .inl ⟨Nat.le_refl _, hd σ H p⟩
/-! ### put_below -/
def setD : PyData → Nat → PyData → PyData
  | .tuple [a, b, .tuple ds], i, o => .tuple [a, b, .tuple (ds.set i o)]
  | t, _, _ => t
abbrev Trl := List (PyData × Nat)
def pairP (e : PyData × Nat) : PyData := .tuple [e.1, .int (e.2 : Int)]
def putB (ps : Trl) (o : PyData) : PyData := ps.foldr (fun e o => setD e.1 e.2 o) o
def okP (e : PyData × Nat) : Prop := ∃ a b ds, e.1 = .tuple [a, b, .tuple ds] ∧ ds.length ≤ 100 ∧ e.2 < ds.length
section
variable {P : Program} {w : World} {K : PySem.W.Frag} {mg : Str → Option Value} {base : Heap}
abbrev sBelow : Stmt := top 5
theorem scBelow : FnScope ["above", "tree", "head", "ink", "items", "at"] ["above", "tree"] (defScope sBelow) := ⟨rfl, rfl, rfl, by decide +kernel, rfl, by decide +kernel, by decide +kernel⟩
def spBelow (K : PySem.W.Frag) : Sp := fun vs H Q _ => ∃ (l : Addr) (v : V) (xs : List V) (ps : Trl) (o : PyData), vs = [.ref l, v] ∧ H l = some (.lst xs) ∧ TdAll K H xs (ps.map pairP) ∧ Td K H v o ∧ (∀ e ∈ ps, okP e) ∧
  ∀ v' H', Same H H' → Td K H' v' (putB ps o) → Q v' H'
theorem tds2 {H : Hp} {xs : List V} {a b : PyData} (h : TdAll K H xs [a, b]) : ∃ x y, xs = [x, y] ∧ Td K H x a ∧ Td K H y b := by
  cases h with
  | cons h1 h =>
    cases h with
    | cons h2 h =>
      cases h
      exact ⟨_, _, rfl, h1, h2⟩
theorem ok_below {f : Addr} {fd : FuncData} (F : Fun K "put_below" "put_below" sBelow f fd) (mr : mg "reversed" = none) : FnOk P w K mg base CX0 1 f fd ["above", "tree"] (spBelow K) := by
  refine F.ok scBelow (fun vs H Q E h => ?_) (fun cdv A outer s H vs Q E hr h => ?_)
  · obtain ⟨l, v, xs, ps, o, rfl, _⟩ := h
    rfl
  · obtain ⟨l, v, xs, ps, o, rfl, hl, hx, to, okp, q⟩ := h
    have lx := hx.len
    rw [List.length_map] at lx
    refine ⟨_, pss_cons (ps_for PassesOwn.never rfl (pi_reversed (by rfl) mr (pa_cons (pv 0) pa_nil))
        (pg_tup rfl (pgs_cons (pg_tup rfl (pgs_cons (pg_name (i := 2) scBelow.nd rfl (.inl rfl)) (pgs_cons (pg_name (i := 3) scBelow.nd rfl (.inl rfl)) (pgs_cons (pg_name (i := 4) scBelow.nd rfl (.inl rfl)) pgs_nil)))) (pgs_cons (pg_name (i := 5) scBelow.nd rfl (.inl rfl)) pgs_nil)))
        (pss_one (ps_set (i := 1) scBelow.nd rfl (.inl rfl) (pe_tup (pa_cons (pv 2) (pa_cons (pv 3) (pa_cons (pe_op op_catA (pe_op op_catA (pe_slice sl_tupA (pv 4) po_none (po_some (pv 5))) (pe_tup (pa_cons (pv 1) pa_nil))) (pe_slice sl_tupA (pv 4) (po_some (pe_op op_add (pv 5) pe_int)) po_none)) pa_nil)))))))
      (pss_one (ps_ret (pv 1))), ?_⟩
    refine ⟨_, rfl, l, xs, rfl, SqL.of hl, ?_⟩
    refine for_rev (K := K) (a := l) (xs := xs) (fun i σ H' => Same H H' ∧ ∃ v' z2 z3 z4 z5, σ = [some (.ref l), some v', z2, z3, z4, z5] ∧ Td K H' v' (putB (ps.drop (xs.length - i)) o))
      ⟨Same.refl _, v, none, none, none, none, rfl, by rw [Nat.sub_zero, List.drop_of_length_le (by omega)]; exact to⟩ (fun i σ H' _ h => SqL.of (h.1 _ _ hl)) ?_ ?_
    · rintro i x σ H' hi hxi ⟨s1, v', z2, z3, z4, z5, rfl, td⟩
      obtain ⟨e, he, te⟩ := hx.get hxi
      rw [List.getElem?_map] at he
      obtain ⟨⟨t, k⟩, hk, rfl⟩ := Option.map_eq_some_iff.mp he
      obtain ⟨ha, hb, ds, e1, hds, hlt⟩ := okp _ (List.mem_of_getElem? hk)
      dsimp only at e1 hlt
      subst e1
      have te' := td_kp (Kp.of s1) te
      obtain ⟨a1, ys, rfl, sy, ry⟩ := td_tup te'
      obtain ⟨yt, yk, rfl, ty, tk⟩ := tds2 ry
      cases tk
      obtain ⟨a2, zs, rfl, sz, rz⟩ := td_tup ty
      obtain ⟨x1, x2, x3, rfl, t1, t2, t3⟩ := tds3 rz
      refine ⟨a1, _, rfl, sy, rfl, _, _, rfl, ⟨a2, _, rfl, sz, rfl, x1, _, rfl, x2, _, rfl, x3, _, rfl, rfl, _, _, rfl, rfl, ?_⟩⟩
      refine (PV.tup (PVs.cons (PV.var rfl t1) (PVs.cons (PV.var rfl t2) (PVs.cons (PV.cat (PV.cat (PV.hi (i := k) (PV.var rfl t3) (PV.var rfl (.int _))) (PV.tup (PVs.cons (PV.var rfl td) .nil) (by show 1 ≤ 1000; decide)) (by
        rw [List.length_take]
        show min k ds.length + 1 ≤ 1000
        omega)) (PV.lo (i := k + 1) (PV.var rfl t3) (PV.op0 (g := fun i j => i + j) (j := 1) (PV.var (d := .int (k : Int)) rfl (.int _)) PV.int)) (by
        rw [List.length_append, List.length_take, List.length_drop]
        show min k ds.length + 1 + (ds.length - (k + 1)) ≤ 1000
        omega)) .nil))) (by show 3 ≤ 1000; decide)) H' _ Kp.refl fun v4 H4 s4 t4 => ?_
      rw [set_parts hlt] at t4
      refine ⟨s1.trans s4, v4, _, _, _, _, rfl, ?_⟩
      have hcut : ps.drop (xs.length - (i + 1)) = (.tuple [ha, hb, .tuple ds], k) :: ps.drop (xs.length - i) := by
        have lt := (List.getElem?_eq_some_iff.mp hk).1
        have e2 : xs.length - (i + 1) = xs.length - 1 - i := by omega
        rw [e2, List.drop_eq_getElem_cons lt, (List.getElem?_eq_some_iff.mp hk).2]
        congr 2
        omega
      rw [hcut]
      exact t4
    · rintro σ H' ⟨s1, v', z2, z3, z4, z5, rfl, td⟩
      rw [Nat.sub_self, List.drop_zero] at td
      exact ⟨_, rfl, q _ _ s1 td⟩
end
end K03

set_option Elab.async false
set_option linter.all false
set_option maxRecDepth 100000
set_option maxHeartbeats 2000000
namespace K03
open PySem PySem.Spec PyProof.Rows L2
def trail : PyData → List Nat → Trl
  | _, [] => []
  | t, i :: p => (t, i) :: (match (its t)[i]? with
    | some d => trail d p
    | none => [])
theorem trail_cons {t d : PyData} {i : Nat} {p : List Nat} (e : (its t)[i]? = some d) : trail t (i :: p) = (t, i) :: trail d p := by
  conv => lhs; unfold trail
  rw [e]
theorem trail_put : ∀ {p : List Nat} {t r o : PyData}, getD t p = some r → putB (trail t p) o = putD t p o
  | [], t, r, o, _ => by
    cases t <;> simp [trail, putB, putD]
  | i :: p, t, r, o, h => by
    obtain ⟨a, b, ds, d, rfl, hds, hg⟩ := get_step h
    have e : (its (.tuple [a, b, .tuple ds]))[i]? = some d := hds
    rw [put_step hds, ← trail_put (o := o) hg, trail_cons e]
    rfl
theorem trail_ok : ∀ {p : List Nat} {t r : PyData}, getD t p = some r → widP t p → ∀ e ∈ trail t p, okP e
  | [], _, _, _, _, e, he => by
    simp [trail] at he
  | i :: p, t, r, h, hw, e, he => by
    obtain ⟨a, b, ds, d, rfl, hds, hg⟩ := get_step h
    have e1 : (its (.tuple [a, b, .tuple ds]))[i]? = some d := hds
    rw [trail_cons e1] at he
    rcases List.mem_cons.mp he with z | z
    · subst z
      exact ⟨a, b, ds, rfl, hw.1, (List.getElem?_eq_some_iff.mp hds).1⟩
    · exact trail_ok hg (hw.2 d e1) e z
theorem trail_len : ∀ {p : List Nat} {t : PyData}, (trail t p).length ≤ p.length
  | [], _ => Nat.le_refl _
  | i :: p, t => by
    unfold trail
    split
    · have := trail_len (p := p) (t := by assumption)
      simp only [List.length_cons]
      omega
    · simp
section
variable {P : Program} {w : World} {K : PySem.W.Frag} {mg : Str → Option Value} {base : Heap}
theorem ok_with {f fB : Addr} {fd dB : FuncData} (F : Fun K "with_subtree" "with_subtree" sWith f fd) (CB : Cal P w K mg base "put_below" 1 fB dB ["above", "tree"] [] (spBelow K)) (n : Nat) : FnOk P w K mg base CX0 2 f fd ["tree", "path", "other"] (spWith K n) := by
  refine F.ok scWith (fun vs H Q E h => ?_) (fun cdv A outer s H vs Q E hr h => ?_)
  · obtain ⟨v, vp, vo, t, r, o, p, rfl, _⟩ := h
    rfl
  · obtain ⟨v, vp, vo, t, r, o, p, rfl, tv, tp, to, _, hp5, hg, hw, q⟩ := h
    obtain ⟨ap, xp, rfl, sp, rp⟩ := td_tup tp
    have lp := rp.len
    rw [List.length_map] at lp
    refine ⟨_, pss_cons (ps_set (i := 3) scWith.nd rfl (.inl rfl) (pe_lst pa_nil))
      (pss_cons (ps_for PassesOwn.never rfl (pi_tup (pv 1)) (pg_name (i := 4) scWith.nd rfl (.inl rfl))
        (pss_cons (ps_expr (pe_bm PySem.F.plainAttrs_list PySem.F.slot_list_append PySem.F.type_list_append mt_append (pv 3) (pa_cons (pe_tup (pa_cons (pv 0) (pa_cons (pv 4) pa_nil))) pa_nil)))
        (pss_one (ps_set (i := 0) scWith.nd rfl (.inl rfl) (pe_ix ix_tup (pe_ix ix_tup (pv 0) pe_int (fun _ _ => rfl)) (pv 4) (fun _ _ => rfl))))))
      (pss_one (ps_ret (pe_call CB.G hr rfl CB.m CB.k CB.b .nil pass0 (pa_cons (pv 3) (pa_cons (pv 2) pa_nil)))))), ?_⟩
    refine ⟨Nat.zero_le _, fun l nl => ?_⟩
    have s0 : Same H (upd H l (.lst [])) := same_new nl
    have el : (upd H l (.lst [])) l = some (.lst []) := upd_same
    dsimp only [gName, List.set]
    generalize upd H l (.lst []) = H0 at s0 el ⊢
    refine ⟨_, rfl, ap, rfl, ⟨xp, sqt_kp (Kp.of s0) sp⟩, ?_⟩
    refine for_tup (K := K) (a := ap) (xs := xp) (fun i σ H' => Same H H' ∧ ∃ (z : Option V) (v' : V) (d : PyData) (acc : List V) (dn : Trl), σ = [some v', some (.ref ap), some vo, some (.ref l), z] ∧ Td K H' v' d ∧ getD d (p.drop i) = some r ∧
        H' l = some (.lst acc) ∧ TdAll K H' acc (dn.map pairP) ∧ dn.length = i ∧ trail t p = dn ++ trail d (p.drop i))
      ⟨s0, none, v, t, [], [], rfl, td_kp (Kp.of s0) tv, hg, el, .nil, rfl, rfl⟩ (fun i σ H' _ h => sqt_kp (Kp.of h.1) sp) ?_ ?_
    · rintro i x σ H' hxi ⟨s1, z, v', d, acc, dn, rfl, td, hd, hl, ta, ln, htr⟩
      obtain ⟨e, he, te⟩ := rp.get hxi
      rw [List.getElem?_map] at he
      obtain ⟨k, hk, rfl⟩ := Option.map_eq_some_iff.mp he
      cases te
      have li := (List.getElem?_eq_some_iff.mp hk).1
      have hp : p.drop i = k :: p.drop (i + 1) := by
        rw [List.drop_eq_getElem_cons li, (List.getElem?_eq_some_iff.mp hk).2]
      rw [hp] at hd htr
      obtain ⟨h1, h2, ds, d', rfl, hds, hd'⟩ := get_step hd
      have e1 : (its (.tuple [h1, h2, .tuple ds]))[k]? = some d' := hds
      refine drop_ ⟨_, rfl, .inl ⟨rfl, _, SqL.of hl⟩, ta_one ?_⟩
      refine (PV.tup (PVs.cons (PV.var (i := 0) rfl td) (PVs.cons (PV.var (i := 4) (d := .int (k : Int)) rfl (.int _)) .nil)) (by show 2 ≤ 1000; decide)) H' _ Kp.refl fun v2 H2 s2 t2 => ?_
      have la := ta.len
      rw [List.length_map] at la
      refine ⟨l, acc, _, rfl, rfl, s2 _ _ hl, small1000 (by omega), ?_⟩
      have k2 : Kp H' (upd H2 l (.lst (acc ++ [v2]))) := (Kp.of s2).trans (Kp.lst (s2 _ _ hl))
      have k3 : Kp H2 (upd H2 l (.lst (acc ++ [v2]))) := Kp.lst (s2 _ _ hl)
      have s3 : Same H (upd H2 l (.lst (acc ++ [v2]))) := fun b ob e => by
        have hb : b ≠ l := fun z => by rw [z, nl] at e; cases e
        rw [upd_ne hb]
        exact s2 _ _ (s1 _ _ e)
      have hl3 : (upd H2 l (.lst (acc ++ [v2]))) l = some (.lst (acc ++ [v2])) := upd_same
      generalize upd H2 l (.lst (acc ++ [v2])) = H3 at k2 k3 s3 hl3 ⊢
      refine (PV.ix (PV.ix (i := 2) (PV.var (i := 0) rfl (td_kp k2 td)) PV.int rfl) (PV.var (i := 4) (d := .int (k : Int)) rfl (.int _)) hds) H3 _ Kp.refl fun v4 H4 s4 t4 => ?_
      refine ⟨s3.trans s4, _, v4, d', acc ++ [v2], dn ++ [(.tuple [h1, h2, .tuple ds], k)], rfl, t4, hd', s4 _ _ hl3, ?_, ?_, ?_⟩
      · rw [List.map_append]
        exact (tds_kp (k2.trans (Kp.of s4)) ta).app (.cons (td_kp (k3.trans (Kp.of s4)) t2) .nil)
      · rw [List.length_append, ln]
        rfl
      · rw [htr, List.append_assoc, trail_cons e1]
        rfl
    · rintro σ H' ⟨s1, z, v', d, acc, dn, rfl, td, hd, hl, ta, ln, htr⟩
      rw [List.drop_of_length_le (by omega)] at hd htr
      have e : trail t p = dn := by
        rw [htr]
        simp [trail]
      refine ⟨_, rfl, _, rfl, l, vo, acc, dn, o, rfl, hl, ta, td_kp (Kp.of s1) to, by rw [← e]; exact trail_ok hg hw, fun v5 H5 s5 t5 => ?_⟩
      refine q v5 H5 (s1.trans s5) ?_
      rw [← trail_put hg, e]
      exact t5
end
end K03

set_option Elab.async false
set_option linter.all false
set_option maxRecDepth 100000
set_option maxHeartbeats 2000000
namespace K03
open PySem PySem.Spec PyProof.Rows L2 LamX NdefX
/-! ### a lambda with parameters that captures nothing, handed on -/
structure LF where
  qual : Str
  params : Arguments
  body : Expr
  scope : Scope
  c : Addr
abbrev LF.fd (F : LF) (pm ctv : Value) : FuncData := PySem.W.kla_fn "<lambda>" F.qual F.params F.body F.scope [] pm (.ref F.c) ctv
abbrev LF.nf (F : LF) : NF := ⟨"<lambda>", F.qual, F.params, [], F.scope, [], F.c⟩
/-- the object at f is this lambda -/
def LFnO (f : Addr) (F : LF) : HO := .ext fun h => ∃ (od : Option Addr) (sl : Array (Option Value)) (pm ctv : Value), h.get? f = some (⟨.type "function", od, .func (F.fd pm ctv), sl⟩ : Obj)
theorem lfnO_at {P : Program} {w : World} {H : Hp} {h : Heap} {f : Addr} {F : LF} (hok : HOk P w H h) (e : H f = some (LFnO f F)) : ∃ (od : Option Addr) (sl : Array (Option Value)) (pm ctv : Value), h.get? f = some (⟨.type "function", od, .func (F.fd pm ctv), sl⟩ : Obj) := by
  obtain ⟨z, _, _⟩ := hok f _ e
  exact z
section
variable {X : Cx} {pins : List (Addr × Obj)} {σ : L2.St} {H : Hp} {s : Shared}
theorem inv_lfn {F : LF} {o : Obj} {t' : Nat} {pm ctv : Value} (I : Inv X pins σ H s) (ho : o = { cls := .type "function", data := .func (F.fd pm ctv) }) :
    Inv X pins σ (upd H s.heap.objs.size (LFnO s.heap.objs.size F)) { s with heap := s.heap.push o, toks := t' } := by
  subst ho
  refine I.laid (a := s.heap.objs.size) (fun b u e => Heap.get?_push_of_some _ e) (Nat.le_refl _) ?_
  have e : (s.heap.push ({ cls := .type "function", data := .func (F.fd pm ctv) } : Obj)).get? s.heap.objs.size = some ({ cls := .type "function", data := .func (F.fd pm ctv) } : Obj) := Heap.get?_push_size _ rfl
  exact ⟨⟨_, _, pm, ctv, e⟩, ⟨_, e⟩, fun h1 h2 ⟨od, sl, p, t, z⟩ st => ⟨od, sl, p, t, st _ z⟩⟩
theorem lam_make3 {c P : Addr} {q : Str} {params : Arguments} {body : Expr} {scope : Scope} {pos : Pos} {E : Value → Shared → Prop} {Q : Value → Shared → Prop} (I : Inv X pins σ H s) (TB : TabB X.base X.mg c P) (hcode : X.env.code = .ref c)
    (hq : X.env.qual ++ "<lambda>" = q) (hT : TabS H P q) (hdef : defaultsOf params X.env = ([], [])) (hfree : ∀ y ∈ scope.names, y.2 ≠ .free)
    (h : ∀ (f c' : Addr) (H1 : Hp) (s' : Shared), Inv X pins σ H1 s' → ExtN H H1 → (∀ b, H1 b = Option.none → H b = Option.none) → TabS H1 P q → H f = none → H1 f = some (LFnO f ⟨q, params, body, scope, c'⟩) → H1 c' = some (CodeO c' q) → Q (.ref f) s') :
    wpAny (model X.prog X.w) X.A (eval (.Lambda params body scope pos) X.env) Q E s := by
  subst hq
  obtain ⟨ps, hP, ht, ha⟩ := id hT
  have hcl : cloFrom X.env.cells scope.names [] = [] := by
    have : ∀ (l : List (Str × NameKind)) (acc : List (Str × Addr)), (∀ y ∈ l, y.2 ≠ .free) → cloFrom X.env.cells l acc = acc := by
      intro l
      induction l with
      | nil => intro acc _; rfl
      | cons y l ih =>
        intro acc hy
        obtain ⟨y1, y2⟩ := y
        have h1 := hy (y1, y2) List.mem_cons_self
        cases y2 <;> first | exact absurd rfl h1 | exact ih acc fun z hz => hy z (List.mem_cons_of_mem _ hz)
    exact this _ _ hfree
  have hclo : closureFor scope X.env = pure [] := by
    have z := closure_ok (scope := scope) (env := X.env) (fun y hy e => absurd e (hfree y hy))
    rw [hcl] at z
    exact z
  refine PySem.W.kla_eval hdef ?_
  have bP : s.heap.BuiltinsAt X.mg P := TB.bm.keeps I.bk
  have hP' : s.heap.get? P = some { cls := .none, data := .fields ps } := I.hok P _ hP
  cases hc : codeAmong pos ps.toList with
  | none =>
    refine PySem.W.kla_makeFunction (mg := X.mg) (c := c) (P := P) (ps := ps) hclo I.ok.glob (I.mod.glob.keeps I.bk) hcode (TB.code.keeps I.bk) hP' ht hc TB.gP bP fun c' ctv h' tk hx hge hlt hrec htb => ?_
    obtain ⟨c2, oc, vs, t, e2, hoc, hd, hv⟩ := hrec
    cases e2
    have nC : H c' = none := I.hok.fresh hge
    have I1 := inv_table (t' := tk) (more := #[rawInt pos.line, rawInt pos.col, .ref c']) (h' := h') I hP (fun b o hb e => hx b o hb e) htb hge ⟨oc, vs, t, hoc, hd, hv⟩
    have hE : ExtN H (upd (upd H P (.tbl (ps ++ #[rawInt pos.line, rawInt pos.col, .ref c']))) c' (CodeO c' (X.env.qual ++ "<lambda>"))) := fun b o e n => by
      rw [upd_ne (ne_of_none e nC), upd_ne (fun z => n ps (Option.some.inj (e.symm.trans (by rw [z]; exact hP))))]
      exact e
    have eL : (ps ++ #[rawInt pos.line, rawInt pos.col, .ref c']).toList = ps.toList ++ [rawInt pos.line, rawInt pos.col, .ref c'] := by simp
    have T1 : TabS (upd (upd H P (.tbl (ps ++ #[rawInt pos.line, rawInt pos.col, .ref c']))) c' (CodeO c' (X.env.qual ++ "<lambda>"))) P (X.env.qual ++ "<lambda>") := by
      refine ⟨_, by rw [upd_ne (ne_of_none hP nC), upd_same], by rw [eL]; exact PySem.TriplesOk_snoc _ _ _ _ ht, fun p' cv hcv => ?_⟩
      rw [eL] at hcv
      rcases among_app _ ht hcv with z | z
      · obtain ⟨c0, e1, e2⟩ := ha p' cv z
        exact ⟨c0, e1, hE _ _ e2 codeO_ne⟩
      · exact ⟨c', z, upd_same⟩
    have nF := I1.hok.fresh (Nat.le_refl _)
    have I2 := inv_lfn (F := ⟨X.env.qual ++ "<lambda>", params, body, scope, c'⟩) (t' := tk) (pm := (X.mg "__name__").getD .none) (ctv := ctv) I1 rfl
    refine h h'.objs.size c' _ _ I2 (fun b o e n => ?_) (fun b e => upd_none (upd_none (upd_none e))) (T1.ext fun b o e => ?_) (I.hok.fresh (Nat.le_trans hge (Nat.le_of_lt hlt))) upd_same ?_
    · have e1 := hE b o e n
      exact (upd_ne (ne_of_none e1 nF)).trans e1
    · exact (upd_ne (ne_of_none e nF)).trans e
    · exact (upd_ne (Nat.ne_of_lt hlt)).trans upd_same
  | some cv =>
    obtain ⟨c', e, hco⟩ := ha pos cv hc
    subst e
    refine PySem.W.kla_makeFunctionHit (mg := X.mg) (c := c) (P := P) (ps := ps) hclo I.ok.glob (I.mod.glob.keeps I.bk) hcode (TB.code.keeps I.bk) hP' ht hc bP fun ctv h' tk hx hsz => ?_
    have I1 : Inv X pins σ H { s with heap := h', toks := tk } := I.kept hx
    have nF : H h'.objs.size = none := I1.hok.fresh (Nat.le_refl _)
    have I2 := inv_lfn (F := ⟨X.env.qual ++ "<lambda>", params, body, scope, c'⟩) (t' := tk) (pm := (X.mg "__name__").getD .none) (ctv := ctv) I1 rfl
    refine h h'.objs.size c' _ _ I2 (fun b o e n => ?_) (fun b e => upd_none e) (hT.ext fun b o e => ?_) nF upd_same ?_
    · exact (upd_ne (ne_of_none e nF)).trans e
    · exact (upd_ne (ne_of_none e nF)).trans e
    · exact (upd_ne (ne_of_none hco nF)).trans hco
def tLamb (P : Addr) (q : Str) (mk : Addr → LF) : TE := fun σ H Q => TabS H P q ∧ ∀ (f c' : Addr) (H1 : Hp), ExtN H H1 → (∀ b, H1 b = Option.none → H b = Option.none) → TabS H1 P q → H f = none → H1 f = some (LFnO f (mk c')) → H1 c' = some (CodeO c' q) → Q (.ref f) H1
theorem pe_lamb {c P : Addr} {q : Str} {params : Arguments} {body : Expr} {scope : Scope} {pos : Pos} (TB : TabB X.base X.mg c P) (hcode : X.env.code = .ref c) (hq : X.env.qual ++ "<lambda>" = q) (hdef : defaultsOf params X.env = ([], [])) (hfree : ∀ y ∈ scope.names, y.2 ≠ .free) :
    PE X (.Lambda params body scope pos) (tLamb P q fun c' => ⟨q, params, body, scope, c'⟩) := by
  refine ⟨fun pins s σ H Q I h => ?_⟩
  obtain ⟨hT, h⟩ := h
  exact lam_make3 I TB hcode hq hT hdef hfree fun f c' H1 s' I1 eN nn T1 f0 f1 c1 => ⟨.ref f, H1, I1, (show L2.RelV (V.ref f) (Value.ref f) from rfl), h f c' H1 eN nn T1 f0 f1 c1⟩
end
/-! ### its promise -/
structure LOk (P : Program) (w : World) (K : PySem.W.Frag) (mg : Str → Option Value) (base : Heap) (CX : CXT) (k : Nat) (f : Addr) (F : LF) (ps : List Str) (sp : Sp) : Prop where
  len : ∀ vs H Q E, sp vs H Q E → vs.length = ps.length
  run : ∀ (A : Around) (outer : List Env) (s : Shared) (H : Hp) (us : List Value) (vs : List V) (Q : VK) (E : XK), Room k A → Env0 P w K mg base A outer s H → H f = some (LFnO f F) → H F.c = some (CodeO F.c F.qual) →
    Vals vs us → sp vs H Q E → codeAny (model P w) A (.call (.ref f) ⟨us, []⟩) (CR CX outer P w H s Q E) s
section
variable {CX : CXT} {P : Program} {w : World} {K : PySem.W.Frag} {mg : Str → Option Value} {base : Heap} {N ps : List Str} {F : LF} {f : Addr} {k j : Nat} {sp : Sp}
theorem cells_no {h : Heap} {H : Hp} : CellsAt [] [] [] h H := ⟨rfl, (fun y c e => by simp at e), (fun x y c e => by simp at e), (fun i y e => by simp at e)⟩
theorem lok_of (S : NScope N ps [] F.scope) (hb : ∀ (pm ctv : Value) (us : List Value), us.length = ps.length → bindArgs (F.fd pm ctv) ⟨us, []⟩ = pure (ps.zip us)) (len : ∀ vs H Q E, sp vs H Q E → vs.length = ps.length)
    (hbody : ∀ (A : Around) (outer : List Env) (s : Shared) (H : Hp) (vs : List V) (Q : VK) (E : XK), Room k (A.deeper (envF F.nf f s.heap.objs.size)) → sp vs H Q E →
      ∃ t, PE (ncx CX P w K mg base N F.nf f A outer s H E) F.body t ∧ t (startF N vs []) H Q) :
    LOk P w K mg base CX (k + 1) f F ps sp := by
  refine ⟨len, fun A outer s H us vs Q E hr e0 hf hc r hsp => ?_⟩
  have hl := len _ _ _ _ hsp
  have lim : s.heap.NoLimit := e0.mod.nolimit.keeps fun b o e => (e0.bs b o e).1
  obtain ⟨od, sl, pm, ctv, ho⟩ := lfnO_at e0.hok hf
  refine PySem.W.kla_callFunE hr.depth ho rfl S.co S.gen rfl (codeO_at e0.hok hc) ?_
  rw [hb pm ctv us (by rw [← r.length]; exact hl)]
  refine wpAny_pure (wpAny_newFunctionEnv S.nocell (fun ⟨n, _⟩ hy => S.par n (List.of_mem_zip hy).1) (fun h₁ hns hsb => ⟨lim.fresh _ hsb, ?_⟩) S.kind)
  show codeAny _ _ (.expr F.body (envF F.nf f s.heap.objs.size)) _ _
  have kp : ∀ b o, s.heap.get? b = some o → h₁.get? b = some o := fun b o e => hsb.extBut b o (Nat.ne_of_lt (Heap.lt_size e)) (Heap.get?_push_of_some _ e)
  obtain ⟨t, ht, hq⟩ := hbody A outer s H vs Q E (hr.deeper _) hsp
  have I : Inv (ncx CX P w K mg base N F.nf f A outer s H E) [] (startF N vs []) H { s with heap := h₁, toks := s.toks + (ps.zip us).length } := inv_startN S hr.hd e0 hl r cells_no hns kp
  refine PySem.W.kla_codeExpr (wpAny_mono (ht.run [] _ (startF N vs []) H _ I hq) (fun v s' hs => ?_) fun e s' hs => hs)
  obtain ⟨x, H', J, rv, q⟩ := hs
  exact ⟨x, H', J.os, J.bare, J.base, J.hok, rv, q⟩
end
section
variable {X : Cx} {pins : List (Addr × Obj)} {σ : L2.St} {H : Hp} {s : Shared}
theorem lfnAt_of {f : Addr} {F : LF} (I : Inv X pins σ H s) (e : H f = some (LFnO f F)) : PySem.W.FnAt f s.heap := by
  obtain ⟨od, sl, pm, ctv, ho⟩ := lfnO_at I.hok e
  exact ⟨_, od, _, sl, ho⟩
end
/-- f(..), f a name that holds a lambda; it keeps a promise -/
def tCallLm (P : Program) (w : World) (K : PySem.W.Frag) (mg : Str → Option Value) (base : Heap) (k i : Nat) (t : TA) : TE := fun σ H Q => ∃ (f : Addr) (F : LF) (ps : List Str) (sp : Sp), LOk P w K mg base CX0 k f F ps sp ∧ σ[i]? = some (some (.ref f)) ∧ H f = some (LFnO f F) ∧
  t σ H fun vs H1 => H1 f = some (LFnO f F) ∧ H1 F.c = some (CodeO F.c F.qual) ∧ sp vs H1 Q E0
section
variable {X : Cx} {i j k : Nat} {x : Str} {t : TA} {e : Expr} {es : List Expr} {p pos : Pos}
theorem pe_callLm (hr : Room j X.A) (hk : k ≤ j) (hx : Passes CX0 X E0) (hN : X.N[i]? = some x) (hv : Vis X.env.scope x) (ha : PA X (e :: es) t)
    (hd : (x == ("__debug__" : Str)) = false := by decide) (hcd : (x == ("__classdict__" : Str)) = false := by decide)
    (he : starEach (e :: es) X.env = (false, eval e X.env) :: starEach es X.env := by rfl) (hpl : (backTo pos (starEach es X.env)).any (·.1) = false := by rfl) :
    PE X (.Call (.Name x p) (e :: es) [] pos) (tCallLm X.prog X.w X.K X.mg X.base k i t) := by
  refine ⟨fun pins s σ H Q I h => ?_⟩
  obtain ⟨f, F, ps, sp, Fn, hs, hf, ht⟩ := h
  refine wpAny_Call_Name_kw (thn ((pe_var (pos := p) hN hv hd hcd).run pins s σ H (fun v H1 => v = .ref f ∧ H1 = H) I ⟨.ref f, hs, rfl, rfl⟩) fun u s1 ⟨v, H1, I1, r1, q1⟩ => ?_)
  obtain ⟨ev, eH⟩ := q1
  subst ev
  rw [eH] at I1
  obtain rfl : u = Value.ref f := r1
  refine PySem.W.callWith_F (first := []) (lfnAt_of I1 hf) (thn (ha.run pos pins s1 σ H _ I1 ht) fun us s2 ⟨vs, H2, I2, r, h1, h2, q⟩ => ⟨lfnAt_of I2 h1, ?_⟩) he hpl
  show wpAny _ _ (call (.ref f) us) _ _ _
  refine wpAny_call (codeAny_mono (Fn.run X.A X.stack s2 H2 us vs Q E0 (hr.mono hk) I2.env0 h1 h2 r q) fun r s' hq => ?_)
  cases r with
  | error e => exact hx pins σ H2 s2 e s' I2 hq
  | ok fl =>
    cases fl with
    | ret u => exact I2.after hq
    | next => exact False.elim hq
    | brk => exact False.elim hq
    | cont => exact False.elim hq
end
end K03

set_option Elab.async false
set_option linter.all false
set_option maxRecDepth 100000
set_option maxHeartbeats 2000000
namespace K03
open PySem PySem.Spec PyProof.Rows L2
/-- a tuple of the written part -/
def KT (K : PySem.W.Frag) (a : Addr) (xs : List V) : Prop := ∃ (o : Obj) (its : Array Value) (n : Nat), K.lookup a = some o ∧ o.cls = .type "tuple" ∧ o.data = .seq its n ∧ its.size ≤ sizeLine ∧ Vals xs its.toList
theorem KT.sq {K : PySem.W.Frag} {H : Hp} {a : Addr} {xs : List V} (h : KT K a xs) : SqT K H a xs := .inr h
/-! ### tables of the written part: texts to numbers -/
inductive Ents : List DictEntry → List (Str × Int) → Prop
  | nil : Ents [] []
  | cons {e : DictEntry} {es : List DictEntry} {k : Str} {i : Int} {T : List (Str × Int)} (hk : ∃ t, e.key = .str k t) (hv : ∃ t, e.val = .int i t) (r : Ents es T) : Ents (e :: es) ((k, i) :: T)
theorem Ents.find {z : Str} : ∀ {es : List DictEntry} {T : List (Str × Int)}, Ents es T →
    (∃ i t e, T.lookup z = some i ∧ es.find? (fun e => e.key.isStr z) = some e ∧ e.val = .int i t) ∨ (T.lookup z = none ∧ es.find? (fun e => e.key.isStr z) = none ∧ es.any (·.refKey) = false)
  | _, _, .nil => .inr ⟨rfl, rfl, rfl⟩
  | _, _, .cons (e := e) (k := k) ⟨t, hk⟩ ⟨t2, hv⟩ r => by
    by_cases h : z = k
    · subst h
      refine .inl ⟨_, t2, e, by simp [List.lookup], ?_, hv⟩
      rw [List.find?_cons, hk]
      simp [Value.isStr]
    · have h1 : (z == k) = false := beq_eq_false_iff_ne.mpr h
      have h2 : e.key.isStr z = false := by
        rw [hk]
        simp [Value.isStr]
        exact fun q => h q.symm
      rcases r.find (z := z) with ⟨i, t', e', a, b, c⟩ | ⟨a, b, c⟩
      · exact .inl ⟨i, t', e', by simp [List.lookup, h1, a], by rw [List.find?_cons, h2]; exact b, c⟩
      · refine .inr ⟨by simp [List.lookup, h1, a], by rw [List.find?_cons, h2]; exact b, ?_⟩
        rw [List.any_cons, c, Bool.or_false]
        unfold DictEntry.refKey
        rw [hk]
structure Tab (K : PySem.W.Frag) (w : World) (a : Addr) (es : Array DictEntry) (n : Nat) (T : List (Str × Int)) : Prop where
  kd : KDict K w a es n
  en : Ents es.toList T
theorem Tab.get {K : PySem.W.Frag} {w : World} {a : Addr} {es : Array DictEntry} {n : Nat} {T : List (Str × Int)} (h : Tab K w a es n T) (z : Str) :
    (∃ i t, T.lookup z = some i ∧ PySem.W.nsIn K a z = some (some (.int i t))) ∨ (T.lookup z = none ∧ PySem.W.nsIn K a z = some none) := by
  rcases h.en.find (z := z) with ⟨i, t, e, h1, h2, h3⟩ | ⟨h1, h2, h3⟩
  · refine .inl ⟨i, t, h1, ?_⟩
    unfold PySem.W.nsIn
    rw [h.kd.at_]
    dsimp only
    rw [h2]
    dsimp only
    rw [h3]
  · refine .inr ⟨h1, ?_⟩
    unfold PySem.W.nsIn
    rw [h.kd.at_]
    dsimp only
    rw [h2]
    dsimp only
    rw [if_neg (by rw [h3]; exact Bool.false_ne_true)]
/-- d.get(y, x) of a written dict -/
def tKGet (K : PySem.W.Frag) (d : Addr) (to ty tx : TE) : TE := fun σ H Q => to σ H fun x H1 => x = .ref d ∧ ty σ H1 fun y H2 => tx σ H2 fun z H3 => ∃ (k : Str) (r : Option Value), y = .str k ∧ PySem.W.nsIn K d k = some r ∧
  (∀ u, r = some u → ∃ v, RelV v u ∧ Q v H3) ∧ (r = none → Q z H3)
theorem pe_kget2 {X : Cx} {o e f : Expr} {apos cpos : Pos} {to ty tx : TE} {d : Addr} {es : Array DictEntry} {n : Nat} (D : KDict X.K X.w d es n) (ho : PE X o to) (he : PE X e ty) (hf : PE X f tx) (m : M2 X o "get" apos e f cpos) :
    PE X (.Call (.Attribute o "get" apos) [e, f] [] cpos) (tKGet X.K d to ty tx) := by
  refine ⟨fun pins s σ H Q I h => ?_⟩
  refine wpAny_Call_method m.base m.few m.line PySem.F.plainAttrs_dict PySem.F.slot_dict_get PySem.F.type_dict_get (thn (ho.run pins s σ H _ I h) fun u s1 ⟨x, H1, I1, rx, ex, q1⟩ => ?_)
  subst ex
  obtain rfl : u = Value.ref d := rx
  refine ⟨kd_type D I1, fun b q => ?_, ?_⟩
  · cases q
    exact ⟨_, I1.kIn _ _ D.at_, rfl⟩
  rw [m.trees]
  refine Calls.callWith_builtin rfl (Calls.evalArgs_plain (Calls.spliced_cons (thn (he.run pins s1 σ H1 _ I1 q1) fun iv s2 ⟨y, H2, I2, ry, q2⟩ =>
    Calls.spliced_cons (thn (hf.run pins s2 σ H2 _ I2 q2) fun fv s3 ⟨z, H3, I3, rz, k, r, ey, en, q3, q4⟩ => Calls.spliced_nil ?_))))
  subst ey
  obtain ⟨t, rfl⟩ := ry
  refine call_meetsIn PySem.F.slot_dict_get (kd_type D I3) PySem.F.entry_dict_get (PySem.F.args_dict_get_3 _ _ _) (meets_dict_get_default _ d (PySem.strKind_is X.prog X.w k t) D.low fv) ⟨_, PySem.W.mapOf_K (prog := X.prog) I3.kIn D.at_ D.lit, ?_⟩
  rw [PySem.W.find_K D.at_ en]
  cases r with
  | some u =>
    obtain ⟨v, rv, qv⟩ := q3 u rfl
    exact ⟨v, H3, I3.tok _, rv, qv⟩
  | none => exact ⟨z, H3, I3.tok _, rz, q4 rfl⟩
def FTl : List (Str × Int) := ([("fun", 1), ("use", 2)] : List (String × Int)).map fun p => (Str.ofString p.1, p.2)
theorem ft_look (z : Str) : (FTl.lookup z = some 1 ∧ z = "fun") ∨ (FTl.lookup z = some 2 ∧ z = "use" ∧ z ≠ "fun") ∨ (FTl.lookup z = none ∧ z ≠ "fun" ∧ z ≠ "use") := by
  have e : FTl = [(Str.ofString "fun", 1), (Str.ofString "use", 2)] := rfl
  rw [e]
  by_cases h1 : z = "fun"
  · subst h1
    exact .inl ⟨by decide +kernel, rfl⟩
  · have b1 : (z == ("fun" : Str)) = false := beq_eq_false_iff_ne.mpr h1
    by_cases h2 : z = "use"
    · subst h2
      exact .inr (.inl ⟨by decide +kernel, rfl, h1⟩)
    · have b2 : (z == ("use" : Str)) = false := beq_eq_false_iff_ne.mpr h2
      exact .inr (.inr ⟨by simp [List.lookup, b1, b2], h1, h2⟩)
theorem Tab.dct {K : PySem.W.Frag} {w : World} {a : Addr} {es : Array DictEntry} {n : Nat} {T : List (Str × Int)} {z : Str} {i : Int} {t : Tok} (h : Tab K w a es n T) (e : PySem.W.nsIn K a z = some (some (.int i t))) : KDct K w a z (.int i) := ⟨es, n, _, h.kd.at_, h.kd.lit, e, ⟨t, rfl⟩⟩
/-- the trees of a node's items -/
def kidsL {α : Type} (s : Str) (l : List α) : List α := if s ∈ SINGl then [] else if s = "fun" then l.drop 1 else if s = "use" then l.drop 2 else l
theorem kidsL_len {α : Type} {s : Str} {l : List α} : (kidsL s l).length ≤ l.length := by
  unfold kidsL
  split
  · exact Nat.zero_le _
  · split
    · rw [List.length_drop]
      exact Nat.sub_le _ _
    · split
      · rw [List.length_drop]
        exact Nat.sub_le _ _
      · exact Nat.le_refl _
theorem tds_kids {K : PySem.W.Frag} {H : Hp} {s : Str} {vs : List V} {ds : List PyData} (h : TdAll K H vs ds) : TdAll K H (kidsL s vs) (kidsL s ds) := by
  unfold kidsL
  by_cases h1 : s ∈ SINGl
  · rw [if_pos h1, if_pos h1]
    exact .nil
  · rw [if_neg h1, if_neg h1]
    by_cases h2 : s = "fun"
    · rw [if_pos h2, if_pos h2]
      exact h.drop 1
    · rw [if_neg h2, if_neg h2]
      by_cases h3 : s = "use"
      · rw [if_pos h3, if_pos h3]
        exact h.drop 2
      · rw [if_neg h3, if_neg h3]
        exact h
theorem kidsL_WT {s : Str} {pre kids : List PyData} (hp : pre.length = firstN s) (hs : s ∈ SINGl → kids = []) : kidsL s (pre ++ kids) = kids := by
  unfold kidsL
  by_cases h1 : s ∈ SINGl
  · rw [if_pos h1, hs h1]
  · rw [if_neg h1]
    by_cases h2 : s = "fun"
    · rw [if_pos h2]
      have e : firstN s = 1 := by rw [h2]; decide +kernel
      rw [← e, ← hp, List.drop_left]
    · rw [if_neg h2]
      by_cases h3 : s = "use"
      · rw [if_pos h3]
        have e : firstN s = 2 := by rw [h3]; decide +kernel
        rw [← e, ← hp, List.drop_left]
      · rw [if_neg h3]
        have e : firstN s = 0 := by
          unfold firstN
          rw [if_neg h2, if_neg h3, if_neg h1]
          split <;> rfl
        have : pre = [] := List.length_eq_zero_iff.mp (by omega)
        rw [this]
        rfl
/-- the written parts that these need -/
structure CT (K : PySem.W.Frag) (w : World) (mg : Str → Option Value) (aG aF : Addr) (eF : Array DictEntry) (nF : Nat) : Prop where
  si : mg "SINGLE" = some (.ref aG)
  ki : KT K aG (SINGl.map V.str)
  ft : mg "FIRST_TREE" = some (.ref aF)
  tf : Tab K w aF eF nF FTl
section
variable {P : Program} {w : World} {K : PySem.W.Frag} {mg : Str → Option Value} {base : Heap}
abbrev sTrees : Stmt := top 10
abbrev sGath : Stmt := top 11
abbrev sWithT : Stmt := top 12
theorem scTrees : FnScope ["node", "head", "_", "items", "first"] ["node"] (defScope sTrees) := ⟨rfl, rfl, rfl, by decide +kernel, rfl, by decide +kernel, by decide +kernel⟩
theorem scGath : FnScope ["node", "done", "cut", "trees"] ["node", "done"] (defScope sGath) := ⟨rfl, rfl, rfl, by decide +kernel, rfl, by decide +kernel, by decide +kernel⟩
theorem scWithT : FnScope ["node", "trees", "head", "ink", "items"] ["node", "trees"] (defScope sWithT) := ⟨rfl, rfl, rfl, by decide +kernel, rfl, by decide +kernel, by decide +kernel⟩
def spTrees (K : PySem.W.Frag) : Sp := fun vs H Q _ => ∃ (v : V) (s : Str) (ink : PyData) (ds : List PyData), vs = [v] ∧ Td K H v (.tuple [.str s, ink, .tuple ds]) ∧ ∀ v' H', Same H H' → Td K H' v' (.tuple (kidsL s ds)) → Q v' H'
theorem str_test {s z : Str} {A B : Prop} (h1 : s = z → A) (h2 : s ≠ z → B) : if decide (V.str s = V.str z) = true then A else B := by
  by_cases e : s = z
  · exact itT (by rw [e]; exact decide_eq_true rfl) (h1 e)
  · exact itF (decide_eq_false fun q => e (V.str.inj q)) (h2 e)
theorem ok_trees {f aG aF : Addr} {fd : FuncData} {eF : Array DictEntry} {nF : Nat} (F : Fun K "trees_of" "trees_of" sTrees f fd) (C : CT K w mg aG aF eF nF) : FnOk P w K mg base CX0 1 f fd ["node"] (spTrees K) := by
  refine F.ok scTrees (fun vs H Q E h => ?_) (fun cdv A outer s H vs Q E hr h => ?_)
  · obtain ⟨v, z, ink, ds, rfl, _⟩ := h
    rfl
  · obtain ⟨v, z, ink, ds, rfl, tv, q⟩ := h
    obtain ⟨t, xs, rfl, hs, hr⟩ := td_tup tv
    obtain ⟨x, y, u, rfl, tx, ty, tu⟩ := tds3 hr
    cases tx
    obtain ⟨a, ys, rfl, sy, ry⟩ := td_tup tu
    refine ⟨_, pss_cons (ps_asg (pv 0) (pg_tup rfl (pgs_cons (pg_name (i := 1) scTrees.nd rfl (.inl rfl)) (pgs_cons (pg_name (i := 2) scTrees.nd rfl (.inl rfl)) (pgs_cons (pg_name (i := 3) scTrees.nd rfl (.inl rfl)) pgs_nil)))))
      (pss_cons (ps_if (pt_cmpR op_in_seq (pv 1) (pe_glob (v := .ref aG) rfl C.si rfl) (by rfl)) (pss_one (ps_ret (pe_tup pa_nil))) pss_nil)
      (pss_cons (ps_set (i := 4) scTrees.nd rfl (.inl rfl) (pe_kget2 C.tf.kd (pe_glob (v := .ref aF) rfl C.ft rfl) (pv 1) pe_int ⟨rfl, rfl, rfl, rfl⟩))
      (pss_one (ps_ret (pe_ifExp (pt_truth (pv 4) (by intro _; rfl)) (pe_slice sl_tupA (pv 3) (po_some (pv 4)) po_none) (pv 3)))))), ?_⟩
    refine ⟨_, rfl, t, _, rfl, hs, rfl, _, _, rfl, _, _, rfl, _, _, rfl, rfl, ?_⟩
    refine ⟨_, rfl, aG, _, rfl, .inr C.ki.sq, rfl, strs_flat _, _, rfl, ?_⟩
    show if inV (.str z) (SINGl.map V.str) = true then _ else _
    rw [inV_strs]
    have fin : ∀ v' H' (es : List PyData), Same H H' → es = kidsL z ds → Td K H' v' (.tuple es) → Q v' H' := fun v' H' es s' e hb => by
      subst e
      exact q v' H' s' hb
    refine ite2 (fun c => ?_) (fun c => ?_)
    · refine ⟨Nat.zero_le _, fun p np => fin _ _ [] (same_new np) ?_ (.tup (SqT.of upd_same) .nil)⟩
      unfold kidsL
      rw [if_pos (of_decide_eq_true c)]
    · have n1 : ¬ z ∈ SINGl := fun h => c (decide_eq_true h)
      rcases C.tf.get z with ⟨i, tk, g1, g2⟩ | ⟨g1, g2⟩
      · refine ⟨rfl, _, rfl, z, _, rfl, g2, fun u hu => ?_, fun hu => (nomatch hu)⟩
        cases hu
        refine ⟨.int i, ⟨_, rfl⟩, ?_⟩
        have td3 : ∀ k : Nat, kidsL z ds = ds.drop k → ∀ v' H', Same H H' → Td K H' v' (.tuple (ds.drop k)) → Q v' H' := fun k e v' H' s' t' => fin v' H' _ s' e.symm t'
        rcases ft_look z with ⟨e1, m1⟩ | ⟨e1, m1, m2⟩ | ⟨e1, _⟩
        · rw [g1] at e1
          cases e1
          refine ⟨_, rfl, _, rfl, iteT ?_⟩
          refine (PV.lo (i := 1) (PV.var (i := 3) rfl tu) (PV.var (i := 4) (d := .int 1) rfl (.int 1))) H _ Kp.refl (td3 1 ?_)
          unfold kidsL
          rw [if_neg n1, if_pos m1]
        · rw [g1] at e1
          cases e1
          refine ⟨_, rfl, _, rfl, iteT ?_⟩
          refine (PV.lo (i := 2) (PV.var (i := 3) rfl tu) (PV.var (i := 4) (d := .int 2) rfl (.int 2))) H _ Kp.refl (td3 2 ?_)
          unfold kidsL
          rw [if_neg n1, if_neg m2, if_pos m1]
        · rw [g1] at e1
          cases e1
      · refine ⟨rfl, _, rfl, z, _, rfl, g2, fun u hu => (nomatch hu), fun _ => ?_⟩
        rcases ft_look z with ⟨e1, m1⟩ | ⟨e1, m1, m2⟩ | ⟨e1, m1, m2⟩
        · rw [g1] at e1
          cases e1
        · rw [g1] at e1
          cases e1
        · refine ⟨_, rfl, _, rfl, iteF ?_⟩
          refine ⟨_, rfl, fin _ H _ (Same.refl _) ?_ tu⟩
          unfold kidsL
          rw [if_neg n1, if_neg m1, if_neg m2]
end
end K03

set_option Elab.async false
set_option linter.all false
set_option maxRecDepth 100000
set_option maxHeartbeats 2000000
namespace K03
open PySem PySem.Spec PyProof.Rows L2
section
variable {P : Program} {w : World} {K : PySem.W.Frag} {mg : Str → Option Value} {base : Heap}
theorem cat_ok {H : Hp} {Q : VK} {va vb : V} {ds es : List PyData} (ha : Td K H va (.tuple ds)) (hb : Td K H vb (.tuple es)) (few : ds.length + es.length ≤ 1000) (q : ∀ v H', Same H H' → Td K H' v (.tuple (ds ++ es)) → Q v H') : rCatA K va vb H Q := by
  obtain ⟨a, xs, rfl, hs, hr⟩ := td_tup ha
  obtain ⟨b, ys, rfl, hs2, hr2⟩ := td_tup hb
  have l1 := hr.len
  have l2 := hr2.len
  refine ⟨a, b, xs, ys, rfl, rfl, hs, hs2, Nat.le_of_lt (small1000 (by omega)), fun z => ?_, fun _ z => ?_, fun _ _ p np => ?_⟩
  · subst z
    have z : ds = [] := List.length_eq_zero_iff.mp l1.symm
    subst z
    exact q _ _ (Same.refl _) (.tup hs2 hr2)
  · subst z
    have z : es = [] := List.length_eq_zero_iff.mp l2.symm
    subst z
    exact q _ _ (Same.refl _) (by rw [List.append_nil]; exact .tup hs hr)
  · exact q _ _ (same_new np) (.tup (SqT.of upd_same) (tds_kp (Kp.of (same_new np)) (hr.app hr2)))
theorem tup3_ok {H : Hp} {Q : VK} {x y z : V} {a b c : PyData} (hx : Td K H x a) (hy : Td K H y b) (hz : Td K H z c) (q : ∀ v H', Same H H' → Td K H' v (.tuple [a, b, c]) → Q v H') : [x, y, z].length ≤ sizeLine ∧ ∀ p, H p = none → Q (.ref p) (upd H p (.tup [x, y, z])) :=
  ⟨(by show 3 ≤ sizeLine; decide), fun p np => q _ _ (same_new np) (.tup (SqT.of upd_same) (.cons (td_kp (Kp.of (same_new np)) hx) (.cons (td_kp (Kp.of (same_new np)) hy) (.cons (td_kp (Kp.of (same_new np)) hz) .nil))))⟩
def spWithT (K : PySem.W.Frag) : Sp := fun vs H Q _ => ∃ (v : V) (l : Addr) (ys : List V) (h k : PyData) (ds es : List PyData), vs = [v, .ref l] ∧ Td K H v (.tuple [h, k, .tuple ds]) ∧ H l = some (.lst ys) ∧ TdAll K H ys es ∧ es.length ≤ ds.length ∧ ds.length ≤ 100 ∧
  ∀ v' H', Same H H' → Td K H' v' (.tuple [h, k, .tuple (ds.take (ds.length - es.length) ++ es)]) → Q v' H'
theorem ok_witht {f : Addr} {fd : FuncData} (F : Fun K "with_trees" "with_trees" sWithT f fd) (B : BI mg) : FnOk P w K mg base CX0 1 f fd ["node", "trees"] (spWithT K) := by
  refine F.ok scWithT (fun vs H Q E h => ?_) (fun cdv A outer s H vs Q E hr h => ?_)
  · obtain ⟨v, l, ys, h, k, ds, es, rfl, _⟩ := h
    rfl
  · obtain ⟨v, l, ys, h, k, ds, es, rfl, tv, hl, hy, hle, h100, q⟩ := h
    obtain ⟨t, xs, rfl, hs, hr2⟩ := td_tup tv
    obtain ⟨x, y, u, rfl, tx, ty, tu⟩ := tds3 hr2
    obtain ⟨a, zs, rfl, sz, rz⟩ := td_tup tu
    have lz := rz.len
    have ly := hy.len
    refine ⟨_, pss_cons (ps_asg (pv 0) (pg_tup rfl (pgs_cons (pg_name (i := 2) scWithT.nd rfl (.inl rfl)) (pgs_cons (pg_name (i := 3) scWithT.nd rfl (.inl rfl)) (pgs_cons (pg_name (i := 4) scWithT.nd rfl (.inl rfl)) pgs_nil)))))
      (pss_one (ps_ret (pe_tup (pa_cons (pv 2) (pa_cons (pv 3) (pa_cons (pe_op op_catA
        (pe_slice sl_tupA (pv 4) po_none (po_some (pe_op op_sub (pe_callB call_len_seq (by rfl) B.len PySem.boot_len (pa_cons (pv 4) pa_nil)) (pe_callB call_len_seq (by rfl) B.len PySem.boot_len (pa_cons (pv 1) pa_nil)))))
        (pe_callTy call_tuple_of (by rfl) B.tup (by decide +kernel) (pa_cons (pv 1) pa_nil))) pa_nil)))))), ?_⟩
    refine ⟨_, rfl, t, _, rfl, hs, rfl, _, _, rfl, _, _, rfl, _, _, rfl, rfl, ?_⟩
    refine ⟨_, rfl, _, rfl, ?_⟩
    refine ⟨_, rfl, _, rfl, a, zs, rfl, .inr sz, _, rfl, l, ys, rfl, .inl (SqL.of hl), _, _, rfl, rfl, ?_⟩
    have e1 : ((zs.length : Nat) : Int) - ((ys.length : Nat) : Int) = ((ds.length - es.length : Nat) : Int) := by omega
    refine ⟨_, rfl, ?_⟩
    dsimp only
    rw [e1]
    refine sl_out (zs := ds.take (ds.length - es.length)) sz (by rw [cut_take]; exact rz.take _) fun v1 H1 s1 t1 => ?_
    refine ⟨_, rfl, l, ys, rfl, .inl ⟨SqL.of (s1 _ _ hl), fun p np => ?_⟩⟩
    have s2 : Same H1 (upd H1 p (.tup ys)) := same_new np
    have t2 : Td K (upd H1 p (.tup ys)) (.ref p) (.tuple es) := .tup (SqT.of upd_same) (tds_kp (Kp.of (s1.trans s2)) hy)
    generalize upd H1 p (.tup ys) = H2 at s2 t2 ⊢
    refine cat_ok (td_kp (Kp.of s2) t1) t2 (by rw [List.length_take]; omega) fun v3 H3 s3 t3 => ?_
    have s03 := s1.trans (s2.trans s3)
    exact tup3_ok (td_kp (Kp.of s03) tx) (td_kp (Kp.of s03) ty) t3 fun v4 H4 s4 t4 => q v4 H4 (s03.trans s4) t4
def spGath (K : PySem.W.Frag) : Sp := fun vs H Q _ => ∃ (v : V) (l : Addr) (xs : List V) (s : Str) (k : PyData) (ds as bs : List PyData), vs = [v, .ref l] ∧ Td K H v (.tuple [.str s, k, .tuple ds]) ∧ H l = some (.lst xs) ∧ TdAll K H xs (as ++ bs) ∧ bs.length = (kidsL s ds).length ∧ ds.length ≤ 100 ∧ xs.length ≤ sizeLine ∧
  ∀ v' H', But l H H' → H' l = some (.lst (xs.take as.length)) → Td K H' v' (.tuple [.str s, k, .tuple (ds.take (ds.length - bs.length) ++ bs)]) → Q v' H'
theorem ok_gath {f fT fW : Addr} {fd dT dW : FuncData} (F : Fun K "gathered" "gathered" sGath f fd) (B : BI mg) (CTr : Cal P w K mg base "trees_of" 1 fT dT ["node"] [] (spTrees K)) (CW : Cal P w K mg base "with_trees" 1 fW dW ["node", "trees"] [] (spWithT K)) :
    FnOk P w K mg base CX0 2 f fd ["node", "done"] (spGath K) := by
  refine F.ok scGath (fun vs H Q E h => ?_) (fun cdv A outer s H vs Q E hr h => ?_)
  · obtain ⟨v, l, xs, z, k, ds, as, bs, rfl, _⟩ := h
    rfl
  · obtain ⟨v, l, xs, z, k, ds, as, bs, rfl, tv, hl, hx, hb, h100, hsz, q⟩ := h
    have lx := hx.len
    rw [List.length_append] at lx
    refine ⟨_, pss_cons (ps_set (i := 2) scGath.nd rfl (.inl rfl) (pe_op op_sub (pe_callB call_len_seq (by rfl) B.len PySem.boot_len (pa_cons (pv 1) pa_nil)) (pe_callB call_len_seq (by rfl) B.len PySem.boot_len (pa_cons (pe_call CTr.G hr rfl CTr.m CTr.k CTr.b .nil pass0 (pa_cons (pv 0) pa_nil)) pa_nil))))
      (pss_cons (ps_set (i := 3) scGath.nd rfl (.inl rfl) (pe_slice sl_list (pv 1) (po_some (pv 2)) po_none))
      (pss_cons (ps_delT (pv 1) (po_some (pv 2)))
      (pss_one (ps_ret (pe_call CW.G hr rfl CW.m CW.k CW.b .nil pass0 (pa_cons (pv 0) (pa_cons (pv 3) pa_nil))))))), ?_⟩
    refine ⟨_, rfl, l, xs, rfl, .inl (SqL.of hl), _, rfl, v, z, k, ds, rfl, tv, fun v1 H1 s1 t1 => ?_⟩
    obtain ⟨a1, ys, rfl, sy, ry⟩ := td_tup t1
    have ly := ry.len
    refine ⟨a1, ys, rfl, .inr sy, _, _, rfl, rfl, ?_⟩
    have e1 : ((xs.length : Nat) : Int) - ((ys.length : Nat) : Int) = ((as.length : Nat) : Int) := by omega
    dsimp only [gName, List.set]
    rw [e1]
    have hl1 := s1 _ _ hl
    refine ⟨_, rfl, _, rfl, _, rfl, l, xs, rfl, SqL.of hl1, fun p np => ?_⟩
    rw [cut_drop]
    have s2 : Same H1 (upd H1 p (.lst (xs.drop as.length))) := same_new np
    have hp2 : (upd H1 p (.lst (xs.drop as.length))) p = some (.lst (xs.drop as.length)) := upd_same
    have hl2 := s2 _ _ hl1
    have npl : p ≠ l := fun z => by rw [z, hl1] at np; cases np
    dsimp only [gName, List.set]
    generalize upd H1 p (.lst (xs.drop as.length)) = H2 at s2 hp2 hl2 ⊢
    have s02 := s1.trans s2
    refine ⟨_, rfl, _, rfl, _, rfl, l, xs, as.length, rfl, rfl, hl2, by omega, ?_⟩
    have b3 : But l H2 (upd H2 l (.lst (xs.take as.length))) := But.upd
    have k3 : Kp H2 (upd H2 l (.lst (xs.take as.length))) := Kp.lst hl2
    have hl3 : (upd H2 l (.lst (xs.take as.length))) l = some (.lst (xs.take as.length)) := upd_same
    have hp3 : (upd H2 l (.lst (xs.take as.length))) p = some (.lst (xs.drop as.length)) := by rw [upd_ne npl]; exact hp2
    dsimp only
    generalize upd H2 l (.lst (xs.take as.length)) = H3 at b3 k3 hl3 hp3 ⊢
    have k03 : Kp H H3 := (Kp.of s02).trans k3
    have hd : TdAll K H3 (xs.drop as.length) bs := by
      have z := (tds_kp k03 hx).drop as.length
      rw [List.drop_left] at z
      exact z
    refine ⟨_, rfl, _, rfl, v, p, _, .str z, k, ds, bs, rfl, td_kp k03 tv, hp3, hd, by rw [hb]; exact kidsL_len, h100, fun v4 H4 s4 t4 => ?_⟩
    exact q v4 H4 ((But.of s02).trans (b3.trans (But.of s4))) (s4 _ _ hl3) t4
end
end K03

set_option Elab.async false
set_option linter.all false
set_option maxRecDepth 100000
set_option maxHeartbeats 2000000
namespace K03
open PySem PySem.Spec PyProof.Rows L2
/-! ### the stack of a tree that is changed throughout -/
def szT : Nat → PyData → Nat
  | 0, _ => 0
  | n + 1, t => 1 + ((kidsOf t).map (szT n)).sum
theorem szT_pos {n : Nat} {t : PyData} (h : WT n t) : 0 < szT n t := by
  cases n with
  | zero => exact False.elim h
  | succ n =>
    unfold szT
    omega
theorem szT_le : ∀ {n : Nat} {t : PyData}, WT n t → szT n t ≤ 9 ^ n
  | 0, _, h => False.elim h
  | n + 1, t, h => by
    obtain ⟨s, ms, pre, kids, rfl, _, _, e, _, _, hk, hl, _⟩ := h.shape
    unfold szT
    rw [e]
    have : ∀ (l : List PyData), (∀ x ∈ l, WT n x) → (l.map (szT n)).sum ≤ l.length * 9 ^ n := by
      intro l
      induction l with
      | nil => intro _; simp
      | cons a l ih =>
        intro hh
        have h1 := szT_le (hh a List.mem_cons_self)
        have h2 := ih fun x hx => hh x (List.mem_cons_of_mem _ hx)
        simp only [List.map_cons, List.sum_cons, List.length_cons, Nat.add_mul]
        omega
    have h2 := this kids hk
    have h3 : kids.length * 9 ^ n ≤ 8 * 9 ^ n := Nat.mul_le_mul_right _ hl
    have h4 : 0 < 9 ^ n := Nat.pow_pos (by decide)
    rw [Nat.pow_succ]
    omega
theorem bare_eq' {n : Nat} {s : Str} {ms pre kids : List PyData} (hp : ∀ x ∈ pre, isTup x = false) (hk : ∀ x ∈ kids, WT n x) :
    bareD (n + 1) (.tuple [.str s, .tuple ms, .tuple (pre ++ kids)]) = .tuple [.str s, .tuple [], .tuple (pre ++ kids.map (bareD n))] := by
  unfold bareD
  rw [List.map_append]
  have e1 : (pre.map fun x => if isTup x = true then bareD n x else x) = pre := by
    conv => rhs; rw [← List.map_id pre]
    refine List.map_congr_left fun x hx => ?_
    rw [if_neg (by rw [hp x hx]; exact Bool.false_ne_true)]
    rfl
  have e2 : (kids.map fun x => if isTup x = true then bareD n x else x) = kids.map (bareD n) := List.map_congr_left fun x hx => if_pos (hk x hx).isTup
  rw [e1, e2]
abbrev Ent := PyData × Nat × Bool
def entD (e : Ent) : PyData := .tuple [e.1, .bool e.2.2]
/-- a node without ink whose trees are waiting -/
def OT (d : PyData) (k : Nat) : Prop := ∃ (s : Str) (pre kids : List PyData), d = .tuple [.str s, .tuple [], .tuple (pre ++ kids)] ∧ pre.length = firstN s ∧ (s ∈ SINGl → kids = []) ∧ kids.length = k ∧ k ≤ 8 ∧ pre.length ≤ 2
def closeD : PyData → List PyData → PyData
  | .tuple [h, k, .tuple ds], bs => .tuple [h, k, .tuple (ds.take (ds.length - bs.length) ++ bs)]
  | t, _ => t
/-- the top is the first -/
def runE : List Ent → List PyData → List PyData
  | [], dn => dn
  | (d, n, false) :: st, dn => runE st (dn ++ [bareD n d])
  | (d, k, true) :: st, dn => runE st (dn.take (dn.length - k) ++ [closeD d (dn.drop (dn.length - k))])
def okE : List Ent → Nat → Prop
  | [], _ => True
  | (d, n, false) :: st, m => WT n d ∧ okE st (m + 1)
  | (d, k, true) :: st, m => OT d k ∧ k ≤ m ∧ okE st (m - k + 1)
def msE : List Ent → Nat
  | [] => 0
  | (d, n, false) :: st => 2 * szT n d + msE st
  | (_, _, true) :: st => 1 + msE st
theorem run_kids (n : Nat) : ∀ (ks : List PyData) (st : List Ent) (dn : List PyData), runE (ks.map (fun x => (x, n, false)) ++ st) dn = runE st (dn ++ ks.map (bareD n))
  | [], st, dn => by simp
  | k :: ks, st, dn => by
    show runE (ks.map (fun x => (x, n, false)) ++ st) (dn ++ [bareD n k]) = _
    rw [run_kids n ks st]
    simp
theorem ok_kids' (n : Nat) : ∀ (ks : List PyData) (st : List Ent) (m : Nat), (∀ x ∈ ks, WT n x) → okE st (m + ks.length) → okE (ks.map (fun x => (x, n, false)) ++ st) m
  | [], st, m, _, h => h
  | k :: ks, st, m, hk, h => by
    refine ⟨hk k List.mem_cons_self, ok_kids' n ks st (m + 1) (fun x hx => hk x (List.mem_cons_of_mem _ hx)) ?_⟩
    have e : m + 1 + ks.length = m + (k :: ks).length := by simp; omega
    rw [e]
    exact h
theorem ms_kids (n : Nat) : ∀ (ks : List PyData) (st : List Ent), msE (ks.map (fun x => (x, n, false)) ++ st) = 2 * (ks.map (szT n)).sum + msE st
  | [], st => by simp
  | k :: ks, st => by
    show 2 * szT n k + msE (ks.map (fun x => (x, n, false)) ++ st) = _
    rw [ms_kids n ks st]
    simp only [List.map_cons, List.sum_cons]
    omega
theorem ms_len : ∀ {es : List Ent} {m : Nat}, okE es m → es.length ≤ msE es
  | [], _, _ => Nat.le_refl _
  | (d, n, false) :: st, m, h => by
    have := szT_pos h.1
    have := ms_len h.2
    show st.length + 1 ≤ 2 * szT n d + msE st
    omega
  | (d, k, true) :: st, m, h => by
    have := ms_len h.2.2
    show st.length + 1 ≤ 1 + msE st
    omega
/-- a node is opened -/
theorem open_run {n : Nat} {s : Str} {ms pre kids : List PyData} {st : List Ent} {dn : List PyData} (hp : ∀ x ∈ pre, isTup x = false) (hk : ∀ x ∈ kids, WT n x) :
    runE (kids.map (fun x => (x, n, false)) ++ (.tuple [.str s, .tuple [], .tuple (pre ++ kids)], kids.length, true) :: st) dn = runE ((.tuple [.str s, .tuple ms, .tuple (pre ++ kids)], n + 1, false) :: st) dn := by
  rw [run_kids]
  show runE st ((dn ++ kids.map (bareD n)).take ((dn ++ kids.map (bareD n)).length - kids.length) ++ [closeD _ ((dn ++ kids.map (bareD n)).drop ((dn ++ kids.map (bareD n)).length - kids.length))]) = runE st (dn ++ [bareD (n + 1) _])
  have e : (dn ++ kids.map (bareD n)).length - kids.length = dn.length := by simp
  rw [e, List.take_left, List.drop_left, bare_eq' hp hk]
  have e2 : closeD (.tuple [.str s, .tuple [], .tuple (pre ++ kids)]) (kids.map (bareD n)) = .tuple [.str s, .tuple [], .tuple (pre ++ kids.map (bareD n))] := by
    have : (pre ++ kids).length - (kids.map (bareD n)).length = pre.length := by simp
    show PyData.tuple [.str s, .tuple [], .tuple ((pre ++ kids).take ((pre ++ kids).length - (kids.map (bareD n)).length) ++ kids.map (bareD n))] = _
    rw [this, List.take_left]
  rw [e2]
end K03

set_option Elab.async false
set_option linter.all false
set_option maxRecDepth 100000
set_option maxHeartbeats 2000000
namespace K03
open PySem PySem.Spec PyProof.Rows L2 LamX NdefX
theorem tdu {K : PySem.W.Frag} {H : Hp} {vs : List V} {ds : List PyData} {d : PyData} (h : TdAll K H vs (ds ++ [d])) : ∃ us u, vs = us ++ [u] ∧ TdAll K H us ds ∧ Td K H u d := by
  induction ds generalizing vs with
  | nil =>
    cases h with
    | cons a b =>
      cases b
      exact ⟨[], _, rfl, .nil, a⟩
  | cons x ds ih =>
    cases h with
    | cons a b =>
      obtain ⟨us, u, rfl, c, e⟩ := ih b
      exact ⟨_ :: us, u, rfl, .cons a c, e⟩
theorem tds_rev {K : PySem.W.Frag} {H : Hp} : ∀ {vs : List V} {ds : List PyData}, TdAll K H vs ds → TdAll K H vs.reverse ds.reverse
  | _, _, .nil => .nil
  | _, _, .cons a r => by
    rw [List.reverse_cons, List.reverse_cons]
    exact (tds_rev r).app (.cons a .nil)
theorem nx_P {nx : L2.St → Hp → Prop} {rt : VK} {bk ct : L2.St → Hp → Prop} {σ : L2.St} {H : Hp} {t : TS} (h : t ⟨nx, rt, bk, ct⟩ σ H) : t ⟨nx, rt, bk, ct⟩ σ H := h
section
variable {P : Program} {w : World} {K : PySem.W.Frag} {mg : Str → Option Value} {base : Heap}
abbrev sChg : Stmt := top 9
theorem scChg : FnScope ["tree", "change", "done", "waiting", "node", "is_open", "inner"] ["tree", "change"] (defScope sChg) := ⟨rfl, rfl, rfl, by decide +kernel, rfl, by decide +kernel, by decide +kernel⟩
/-- what the handed lambda does with a node -/
def spStrip (K : PySem.W.Frag) : Sp := fun vs H Q _ => ∃ (v : V) (h k ds : PyData), vs = [v] ∧ Td K H v (.tuple [h, k, ds]) ∧ ∀ v' H', Same H H' → Td K H' v' (.tuple [h, .tuple [], ds]) → Q v' H'
def spChg (P : Program) (w : World) (K : PySem.W.Frag) (mg : Str → Option Value) (base : Heap) (n : Nat) : Sp := fun vs H Q _ => ∃ (v : V) (t : PyData) (f : Addr) (F : LF), vs = [v, .ref f] ∧ Td K H v t ∧ WT n t ∧ H f = some (LFnO f F) ∧ H F.c = some (CodeO F.c F.qual) ∧
  LOk P w K mg base CX0 1 f F ["node"] (spStrip K) ∧ ∀ v' H', Same H H' → Td K H' v' (bareD n t) → Q v' H'
theorem ok_chg {f fT fG : Addr} {fd dT dG : FuncData} (F : Fun K "changed_throughout" "changed_throughout" sChg f fd) (B : BI mg) (CTr : Cal P w K mg base "trees_of" 1 fT dT ["node"] [] (spTrees K)) (CG : Cal P w K mg base "gathered" 2 fG dG ["node", "done"] [] (spGath K)) {n : Nat} (hn : n ≤ 7) :
    FnOk P w K mg base CX0 3 f fd ["tree", "change"] (spChg P w K mg base n) := by
  refine F.ok scChg (fun vs H Q E h => ?_) (fun cdv A outer s H vs Q E hr h => ?_)
  · obtain ⟨v, t, g, G, rfl, _⟩ := h
    rfl
  · obtain ⟨v, t, g, G, rfl, tv, wt, hg, hc, lk, q⟩ := h
    have hr1 : Room 1 _ := hr.mono (by decide)
    have hT : 2 * szT n t ≤ 9565938 := by
      have h1 := szT_le wt
      have h2 : 9 ^ n ≤ 9 ^ 7 := Nat.pow_le_pow_right (by decide) hn
      have h3 : (9 : Nat) ^ 7 = 4782969 := by decide
      omega
    have hS : 9565938 + 200 ≤ sizeLine := by decide
    refine ⟨_, pss_cons (ps_set (i := 2) scChg.nd rfl (.inl rfl) (pe_lst pa_nil))
      (pss_cons (ps_set (i := 3) scChg.nd rfl (.inl rfl) (pe_lst (pa_cons (pe_tup (pa_cons (pv 0) (pa_cons pe_bl pa_nil))) pa_nil)))
      (pss_cons (ps_while PassesOwn.never (pt_truth (pv 3) (by intro _; rfl))
        (pss_cons (ps_asg (pe_bm0 PySem.F.plainAttrs_list PySem.F.slot_list_pop PySem.F.type_list_pop mt_pop (pv 3)) (pg_tup rfl (pgs_cons (pg_name (i := 4) scChg.nd rfl (.inl rfl)) (pgs_cons (pg_name (i := 5) scChg.nd rfl (.inl rfl)) pgs_nil))))
        (pss_one (ps_if (pt_truth (pv 5) (by intro _; rfl))
          (pss_one (ps_expr (pe_bm PySem.F.plainAttrs_list PySem.F.slot_list_append PySem.F.type_list_append mt_append (pv 2) (pa_cons (pe_call CG.G hr rfl CG.m CG.k CG.b .nil pass0 (pa_cons (pv 4) (pa_cons (pv 2) pa_nil))) pa_nil))))
          (pss_cons (ps_expr (pe_bm PySem.F.plainAttrs_list PySem.F.slot_list_append PySem.F.type_list_append mt_append (pv 3) (pa_cons (pe_tup (pa_cons (pe_callLm (k := 1) (i := 1) hr1 (Nat.le_refl _) pass0 rfl (.inl rfl) (pa_cons (pv 4) pa_nil)) (pa_cons pe_bl pa_nil))) pa_nil)))
          (pss_one (ps_expr (pe_bm PySem.F.plainAttrs_list PySem.F.slot_list_extend PySem.F.type_list_extend mt_extend (pv 3) (pa_cons
            (pe_lc (own := [("inner", 6)]) (g := gName 6) (tt := tYes) rfl scChg.nd (pi_tup (pe_revT (pe_call CTr.G hr1 rfl CTr.m CTr.k CTr.b .nil pass0 (pa_cons (pv 4) pa_nil)))) (blkOk_by (N := ["tree", "change", "done", "waiting", "node", "is_open", "inner"]) (sc := defScope sChg) (by decide +kernel))
              (fun _ _ _ _ _ => pg_name (i := 6) scChg.nd rfl (Or.inl rfl)) (fun _ _ _ _ _ => pts_nil) (fun _ _ _ _ _ => pe_tup (pa_cons (pv 6) (pa_cons pe_bl pa_nil)))) pa_nil)))))))))
      (pss_one (ps_ret (pe_ix ix_list (pv 2) pe_int (fun _ _ => rfl)))))), ?_⟩
    refine ⟨Nat.zero_le _, fun ld nd => ?_⟩
    have sA : Same H (upd H ld (.lst [])) := same_new nd
    have eA : (upd H ld (.lst [])) ld = some (.lst []) := upd_same
    dsimp only [gName, List.set]
    generalize upd H ld (.lst []) = HA at sA eA ⊢
    refine ⟨_, rfl, (by show 2 ≤ sizeLine; decide), fun p0 np0 => ?_⟩
    have sB : Same HA (upd HA p0 (.tup [v, .bl false])) := same_new np0
    have tB : Td K (upd HA p0 (.tup [v, .bl false])) (.ref p0) (entD (t, n, false)) := .tup (SqT.of upd_same) (.cons (td_kp (Kp.of (sA.trans sB)) tv) (.cons (.bl false) .nil))
    generalize upd HA p0 (.tup [v, .bl false]) = HB at sB tB ⊢
    refine ⟨(by show 1 ≤ sizeLine; decide), fun lw nw => ?_⟩
    have sC : Same HB (upd HB lw (.lst [.ref p0])) := same_new nw
    have eC : (upd HB lw (.lst [.ref p0])) lw = some (.lst [.ref p0]) := upd_same
    have eBd := sB _ _ eA
    have eCd := sC _ _ eBd
    have nwd : lw ≠ ld := fun z => by rw [z, eBd] at nw; cases nw
    have nwH : H lw = none := by
      cases z : H lw with
      | none => rfl
      | some o =>
        have := sB _ _ (sA _ _ z)
        rw [nw] at this
        cases this
    have tC := td_kp (Kp.of sC) tB
    have sHC : Same H (upd HB lw (.lst [.ref p0])) := sA.trans (sB.trans sC)
    dsimp only [gName, List.set]
    generalize upd HB lw (.lst [.ref p0]) = HC at sC eC eCd tC sHC ⊢
    have keep : ∀ {G G' : Hp}, Same H G → But lw G G' → Same H G' := fun {G G'} a b c o e => b c o (fun z => by rw [z, nwH] at e; cases e) (a c o e)
    have keepd : ∀ {G G' : Hp}, Same H G → But ld G G' → Same H G' := fun {G G'} a b c o e => b c o (fun z => by rw [z, nd] at e; cases e) (a c o e)
    refine ⟨fun m σ H1 => ∃ (es : List Ent) (dn : List PyData) (ws ys : List V) (z4 z5 z6 : Option V), m = msE es ∧ okE es dn.length ∧ runE es dn = [bareD n t] ∧ dn.length + msE es ≤ 2 * szT n t ∧ H1 lw = some (.lst ws) ∧ TdAll K H1 ws (es.reverse.map entD) ∧ H1 ld = some (.lst ys) ∧ TdAll K H1 ys dn ∧ Same H H1 ∧
      σ = [some v, some (.ref g), some (.ref ld), some (.ref lw), z4, z5, z6], ?_, ?_⟩
    · exact ⟨_, [(t, n, false)], [], [.ref p0], [], none, none, none, rfl, ⟨wt, True.intro⟩, rfl, (by show 0 + (2 * szT n t + 0) ≤ _; omega), eC, .cons tC .nil, eCd, .nil, sHC, rfl⟩
    · rintro m σ H1 ⟨es, dn, ws, ys, z4, z5, z6, rfl, hok, hrun, hle, hw, tw, hy, ty, s1, rfl⟩
      refine ⟨_, rfl, !ws.isEmpty, .inl ⟨ws, SqL.of hw, rfl⟩, ?_⟩
      cases es with
      | nil =>
        have e : dn = [bareD n t] := hrun
        subst e
        cases tw
        refine iteF ?_
        cases ty with
        | @cons y ys' _ _ t1 r =>
          cases r
          dsimp only
          exact ret_ ⟨_, rfl, ld, _, 0, y, rfl, rfl, SqL.of hy, atI_nat (j := 0) rfl, q y H1 s1 t1⟩
      | cons e st =>
        rw [List.reverse_cons, List.map_append] at tw
        obtain ⟨us, u, rfl, tus, tu⟩ := tdu tw
        refine itT (by simp) ?_
        refine ⟨fun σ' H' => ∃ m', m' < msE (e :: st) ∧ ∃ (es : List Ent) (dn : List PyData) (ws ys : List V) (z4 z5 z6 : Option V), m' = msE es ∧ okE es dn.length ∧ runE es dn = [bareD n t] ∧ dn.length + msE es ≤ 2 * szT n t ∧ H' lw = some (.lst ws) ∧ TdAll K H' ws (es.reverse.map entD) ∧ H' ld = some (.lst ys) ∧ TdAll K H' ys dn ∧ Same H H' ∧
          σ' = [some v, some (.ref g), some (.ref ld), some (.ref lw), z4, z5, z6], fun _ _ h => h, ?_⟩
        refine ⟨_, rfl, .inl ⟨rfl, _, SqL.of hw⟩, lw, _, u, rfl, rfl, hw, by simp, ?_⟩
        rw [List.dropLast_concat]
        have b2 : But lw H1 (upd H1 lw (.lst us)) := But.upd
        have k2 : Kp H1 (upd H1 lw (.lst us)) := Kp.lst hw
        have hw2 : (upd H1 lw (.lst us)) lw = some (.lst us) := upd_same
        have hy2 : (upd H1 lw (.lst us)) ld = some (.lst ys) := by rw [upd_ne (Ne.symm nwd)]; exact hy
        have s2 := keep s1 b2
        have tus2 := tds_kp k2 tus
        have tu2 := td_kp k2 tu
        have ty2 := tds_kp k2 ty
        clear tus tu ty
        generalize upd H1 lw (.lst us) = H2 at b2 k2 hw2 hy2 s2 tus2 tu2 ty2 ⊢
        have lus := tus2.len
        rw [List.length_map, List.length_reverse] at lus
        have lys := ty2.len
        have hmsl := ms_len hok
        simp only [List.length_cons] at hmsl
        obtain ⟨d, j, op⟩ := e
        obtain ⟨au, xu, rfl, su, ru⟩ := td_tup tu2
        obtain ⟨ud, ub, rfl, tud, tub⟩ := tds2 ru
        cases tub
        refine ⟨au, _, rfl, su, rfl, _, _, rfl, _, _, rfl, rfl, ?_⟩
        dsimp only [gName, List.set]
        refine ⟨_, rfl, op, rfl, ?_⟩
        cases op with
        | true =>
          refine iteT ?_
          obtain ⟨ho, hj, hst⟩ := hok
          obtain ⟨z, pre, kids, rfl, hf, hz, hlk, h8, hp2⟩ := ho
          have hkl : (kidsL z (pre ++ kids)).length = j := by rw [kidsL_WT hf hz]; exact hlk
          refine drop_ ⟨_, rfl, .inl ⟨rfl, _, SqL.of hy2⟩, ta_one ?_⟩
          refine ⟨_, rfl, _, rfl, ud, ld, ys, z, .tuple [], pre ++ kids, dn.take (dn.length - j), dn.drop (dn.length - j), rfl, tud, hy2, by rw [List.take_append_drop]; exact ty2, by rw [List.length_drop, hkl]; omega, by rw [List.length_append]; omega, by rw [lys]; omega, fun v3 H3 b3 hy3 t3 => ?_⟩
          have hty : (dn.take (dn.length - j)).length = dn.length - j := by rw [List.length_take]; omega
          rw [hty] at hy3
          have k3 : Kp H2 H3 := fun c o e i => b3 c o (fun z => by rw [z, hy2] at e; cases e; exact i) e
          have s3 := keepd s2 b3
          have hw3 := b3 lw _ nwd hw2
          refine ⟨ld, ys.take (dn.length - j), v3, rfl, rfl, hy3, (by rw [List.length_take]; omega), ?_⟩
          have b4 : But ld H3 (upd H3 ld (.lst (ys.take (dn.length - j) ++ [v3]))) := But.upd
          have k4 : Kp H3 (upd H3 ld (.lst (ys.take (dn.length - j) ++ [v3]))) := Kp.lst hy3
          refine ⟨msE st, (by show msE st < 1 + msE st; omega), st, dn.take (dn.length - j) ++ [closeD (.tuple [.str z, .tuple [], .tuple (pre ++ kids)]) (dn.drop (dn.length - j))], us, _, _, _, _, rfl, ?_, hrun, ?_, b4 lw _ nwd hw3, tds_kp (k3.trans k4) tus2, upd_same, ?_, keepd s3 b4, rfl⟩
          · rw [List.length_append, hty]
            exact hst
          · rw [List.length_append, hty]
            have e1 : msE ((.tuple [.str z, .tuple [], .tuple (pre ++ kids)], j, true) :: st) = 1 + msE st := rfl
            show dn.length - j + 1 + msE st ≤ _
            omega
          · exact (tds_kp (k3.trans k4) (ty2.take _)).app (.cons (td_kp k4 t3) .nil)
        | false =>
          refine iteF ?_
          obtain ⟨wd, hst⟩ := hok
          cases j with
          | zero => exact False.elim wd
          | succ j =>
            obtain ⟨z, ms, pre, kids, rfl, g1, g2, g3, g4, hp, hk, hkl, hp2, hf⟩ := wd.shape
            have hz : z ∈ SINGl → kids = [] := WT.sing wd hf
            have e1 : szT (j + 1) (.tuple [.str z, .tuple ms, .tuple (pre ++ kids)]) = 1 + (kids.map (szT j)).sum := by
              show 1 + ((kidsOf _).map (szT j)).sum = _
              rw [g3]
            have e2 : msE ((.tuple [.str z, .tuple ms, .tuple (pre ++ kids)], j + 1, false) :: st) = 2 * szT (j + 1) (.tuple [.str z, .tuple ms, .tuple (pre ++ kids)]) + msE st := rfl
            refine nx_P (seq_ (drop_ ⟨_, rfl, .inl ⟨rfl, _, SqL.of hw2⟩, ta_one ?_⟩))
            refine ⟨g, G, _, _, lk, rfl, s2 _ _ hg, _, rfl, s2 _ _ hg, s2 _ _ hc, ⟨ud, .str z, .tuple ms, .tuple (pre ++ kids), rfl, tud, fun v3 H3 s3 t3 => ?_⟩⟩
            refine ⟨(by show 2 ≤ sizeLine; decide), fun p3 np3 => ?_⟩
            have s4 : Same H3 (upd H3 p3 (.tup [v3, .bl true])) := same_new np3
            have t4 : Td K (upd H3 p3 (.tup [v3, .bl true])) (.ref p3) (entD (.tuple [.str z, .tuple [], .tuple (pre ++ kids)], kids.length, true)) := .tup (SqT.of upd_same) (.cons (td_kp (Kp.of s4) t3) (.cons (.bl true) .nil))
            generalize upd H3 p3 (.tup [v3, .bl true]) = H4 at s4 t4 ⊢
            have s24 := s3.trans s4
            have hw4 := s24 _ _ hw2
            refine ⟨lw, us, _, rfl, rfl, hw4, (by omega), ?_⟩
            have b5 : But lw H4 (upd H4 lw (.lst (us ++ [.ref p3]))) := But.upd
            have k5 : Kp H4 (upd H4 lw (.lst (us ++ [.ref p3]))) := Kp.lst hw4
            have hw5 : (upd H4 lw (.lst (us ++ [.ref p3]))) lw = some (.lst (us ++ [.ref p3])) := upd_same
            have hy5 : (upd H4 lw (.lst (us ++ [.ref p3]))) ld = some (.lst ys) := by rw [upd_ne (Ne.symm nwd)]; exact s24 _ _ hy2
            have sH5 : Same H (upd H4 lw (.lst (us ++ [.ref p3]))) := keep (s2.trans s24) b5
            have k25 : Kp H2 (upd H4 lw (.lst (us ++ [.ref p3]))) := (Kp.of s24).trans k5
            have tw5 : TdAll K (upd H4 lw (.lst (us ++ [.ref p3]))) (us ++ [.ref p3]) (st.reverse.map entD ++ [entD (.tuple [.str z, .tuple [], .tuple (pre ++ kids)], kids.length, true)]) := (tds_kp k25 tus2).app (.cons (td_kp k5 t4) .nil)
            generalize upd H4 lw (.lst (us ++ [.ref p3])) = H5 at b5 k5 hw5 hy5 sH5 k25 tw5 ⊢
            dsimp only
            refine drop_ ⟨_, rfl, .inl ⟨rfl, _, SqL.of hw5⟩, ta_one ?_⟩
            refine ⟨_, rfl, ud, z, .tuple ms, pre ++ kids, rfl, td_kp k25 tud, fun v6 H6 s6 t6 => ?_⟩
            rw [kidsL_WT hf hz] at t6
            obtain ⟨a6, x6, rfl, sq6, r6⟩ := td_tup t6
            refine ⟨a6, x6, rfl, sq6, fun p7 np7 => ?_⟩
            have s7 : Same H6 (upd H6 p7 (.tup x6.reverse)) := same_new np7
            have sq7 : SqT K (upd H6 p7 (.tup x6.reverse)) p7 x6.reverse := SqT.of upd_same
            have r7 : TdAll K (upd H6 p7 (.tup x6.reverse)) x6.reverse kids.reverse := tds_rev (tds_kp (Kp.of s7) r6)
            generalize upd H6 p7 (.tup x6.reverse) = H7 at s7 sq7 r7 ⊢
            have s57 := s6.trans s7
            have l7 := r7.len
            rw [List.length_reverse, List.length_reverse] at l7
            refine ⟨p7, rfl, ⟨_, sq7⟩, fun D nD => ?_⟩
            have nwD : D ≠ lw := fun z => by rw [z, s57 _ _ hw5] at nD; cases nD
            have ndD : D ≠ ld := fun z => by rw [z, s57 _ _ hy5] at nD; cases nD
            refine lc_tup (K := K) (a := p7) (xs := x6.reverse) (fun i H8 => Same H7 H8 ∧ ∃ acc, H8 D = some (.lst acc) ∧ TdAll K H8 acc ((kids.reverse.take i).map fun x => entD (x, j, false))) ⟨same_new nD, [], upd_same, .nil⟩ (fun i H8 _ p => sqt_kp (Kp.of p.1) sq7) ?_ ?_
            · rintro i x H8 hx ⟨s8, acc, eD, tds⟩
              obtain ⟨c, hcc, tc⟩ := r7.get hx
              have li := (List.getElem?_eq_some_iff.mp hx).1
              rw [List.length_reverse] at li
              refine ⟨rfl, ?_⟩
              dsimp only [tYes]
              refine iteT ?_
              refine ⟨_, rfl, (by show 2 ≤ sizeLine; decide), fun p9 np9 => ?_⟩
              have s9 : Same H8 (upd H8 p9 (.tup [x, .bl false])) := same_new np9
              have t9 : Td K (upd H8 p9 (.tup [x, .bl false])) (.ref p9) (entD (c, j, false)) := .tup (SqT.of upd_same) (.cons (td_kp (Kp.of (s8.trans s9)) tc) (.cons (.bl false) .nil))
              generalize upd H8 p9 (.tup [x, .bl false]) = H9 at s9 t9 ⊢
              have ln : acc.length ≤ i := by
                rw [tds.len, List.length_map, List.length_take]
                exact Nat.min_le_left _ _
              have eD9 := s9 _ _ eD
              refine ⟨acc, eD9, small1000 (by omega), fun b o e => ?_, acc ++ [.ref p9], upd_same, ?_⟩
              · have hb : b ≠ D := fun z => by rw [z, nD] at e; cases e
                rw [upd_ne hb]
                exact s9 _ _ (s8 _ _ e)
              · have kk : Kp H9 (upd H9 D (.lst (acc ++ [.ref p9]))) := Kp.lst eD9
                rw [List.take_add_one, hcc, List.map_append]
                exact (tds_kp ((Kp.of s9).trans kk) tds).app (.cons (td_kp kk t9) .nil)
            · rintro H8 ⟨s8, acc, eD, tds⟩
              rw [List.length_reverse, List.take_of_length_le (by rw [List.length_reverse]; omega)] at tds
              have s58 := s57.trans s8
              have hw8 := s58 _ _ hw5
              have lacc := tds.len
              rw [List.length_map, List.length_reverse] at lacc
              refine ⟨lw, D, us ++ [.ref p3], acc, rfl, rfl, hw8, eD, (by rw [List.length_append]; simp only [List.length_cons, List.length_nil] at *; omega), ?_⟩
              have b10 : But lw H8 (upd H8 lw (.lst (us ++ [.ref p3] ++ acc))) := But.upd
              have k10 : Kp H8 (upd H8 lw (.lst (us ++ [.ref p3] ++ acc))) := Kp.lst hw8
              refine ⟨_, ?_, kids.map (fun x => (x, j, false)) ++ (.tuple [.str z, .tuple [], .tuple (pre ++ kids)], kids.length, true) :: st, dn, _, ys, _, _, _, rfl, ?_, ?_, ?_, upd_same, ?_, ?_, tds_kp ((k25.trans (Kp.of s58)).trans k10) ty2, keep (sH5.trans s58) b10, rfl⟩
              · rw [ms_kids, e2, e1]
                show 2 * (kids.map (szT j)).sum + (1 + msE st) < _
                omega
              · refine ok_kids' j kids _ _ hk ⟨⟨z, pre, kids, rfl, hf, hz, rfl, hkl, hp2⟩, by omega, ?_⟩
                have : dn.length + kids.length - kids.length + 1 = dn.length + 1 := by omega
                rw [this]
                exact hst
              · rw [open_run (ms := ms) hp hk]
                exact hrun
              · rw [ms_kids]
                rw [e2, e1] at hle
                show dn.length + (2 * (kids.map (szT j)).sum + (1 + msE st)) ≤ _
                omega
              · have e5 : (kids.map (fun x => (x, j, false)) ++ (.tuple [.str z, .tuple [], .tuple (pre ++ kids)], kids.length, true) :: st : List Ent).reverse.map entD = (st.reverse.map entD ++ [entD (.tuple [.str z, .tuple [], .tuple (pre ++ kids)], kids.length, true)]) ++ kids.reverse.map fun x => entD (x, j, false) := by
                  rw [List.reverse_append, List.reverse_cons, List.map_append, List.map_append, ← List.map_reverse, List.map_map]
                  rfl
                rw [e5]
                exact (tds_kp ((Kp.of s58).trans k10) tw5).app (tds_kp k10 tds)
              · rw [upd_ne (Ne.symm nwd)]
                exact s58 _ _ hy5
end
end K03

set_option Elab.async false
set_option linter.all false
set_option maxRecDepth 100000
set_option maxHeartbeats 2000000
namespace K03
open PySem PySem.Spec PyProof.Rows L2 LamX NdefX
abbrev sBared : Stmt := top 8
theorem scBared : FnScope ["tree"] ["tree"] (defScope sBared) := ⟨rfl, rfl, rfl, by decide +kernel, rfl, by decide +kernel, by decide +kernel⟩
def lamE : Expr := match defBody sBared with
  | [.Return (some (.Call _ [_, e] _ _)) _] => e
  | _ => .Constant .none 0 ⟨0, 0, 0, 0⟩
def lamA : Arguments := match lamE with
  | .Lambda a _ _ _ => a
  | _ => ⟨[], [], none, [], [], none, []⟩
def lamB : Expr := match lamE with
  | .Lambda _ b _ _ => b
  | e => e
def lamS : Scope := match lamE with
  | .Lambda _ _ s _ => s
  | _ => default
def qB : Str := "bared.<locals>.<lambda>"
def lamF (c : Addr) : LF := ⟨qB, lamA, lamB, lamS, c⟩
section
variable {P : Program} {w : World} {K : PySem.W.Frag} {mg : Str → Option Value} {base : Heap}
theorem lam_scope : NScope ["node"] ["node"] [] lamS := nscope_by (by decide +kernel)
theorem lam_free : ∀ y ∈ lamS.names, y.2 ≠ .free := by decide +kernel
theorem ok_lam {f c : Addr} : LOk P w K mg base CX0 1 f (lamF c) ["node"] (spStrip K) := by
  refine lok_of (N := ["node"]) lam_scope (fun pm ctv us hl => match us, hl with | [_], _ => rfl) (fun vs H Q E h => ?_) (fun A outer s H vs Q E hr h => ?_)
  · obtain ⟨v, _, _, _, rfl, _⟩ := h
    rfl
  · obtain ⟨v, h, k, ds, rfl, tv, q⟩ := h
    refine ⟨_, (show PE _ lamB _ from pe_tup (pa_cons (pe_ix ix_tup (pv 0) pe_int (fun _ _ => rfl)) (pa_cons (pe_tup pa_nil) (pa_cons (pe_ix ix_tup (pv 0) pe_int (fun _ _ => rfl)) pa_nil)))), ?_⟩
    exact (PV.tup (PVs.cons (PV.ix (i := 0) (PV.var (i := 0) rfl tv) PV.int rfl) (PVs.cons (PV.tup PVs.nil (by decide)) (PVs.cons (PV.ix (i := 2) (PV.var (i := 0) rfl tv) PV.int rfl) .nil))) (by show 3 ≤ 1000; decide)) H _ Kp.refl fun v' H' s' t' => q v' H' s' t'
def spBared (K : PySem.W.Frag) (PB : Addr) (n : Nat) : Sp := fun vs H Q _ => ∃ (v : V) (t : PyData), vs = [v] ∧ Td K H v t ∧ WT n t ∧ TabS H PB qB ∧ ∀ v' H', ExtN H H' → (∀ b, H' b = none → H b = none) → TabS H' PB qB → Td K H' v' (bareD n t) → Q v' H'
theorem Kp.ext {H H' : Hp} (e : ExtN H H') : Kp H H' := fun a o h i => e a o h fun ps z => by
  subst z
  exact i
theorem ok_bared {f fC cB PB : Addr} {dC : FuncData} {oc kV doc pm ct : Value} {od an : Option Addr} {osl : Array (Option Value)} (lk : K.lookup f = some ⟨oc, od, .func (PySem.W.fnOf "bared" "bared" (defArgs sBared) (defBody sBared) (defScope sBared) .none kV doc pm an (.ref cB) ct), osl⟩)
    (hcd : PySem.W.codeIn K (.ref cB) "bared" = true) (TB : TabB base mg cB PB) {n : Nat} (CC : Cal P w K mg base "changed_throughout" 3 fC dC ["tree", "change"] [] (spChg P w K mg base n)) :
    FnOk P w K mg base CX0 4 f (PySem.W.fnOf "bared" "bared" (defArgs sBared) (defBody sBared) (defScope sBared) .none kV doc pm an (.ref cB) ct) ["tree"] (spBared K PB n) := by
  have len : ∀ vs H Q E, spBared K PB n vs H Q E → vs.length = (["tree"] : List Str).length := fun vs H Q E h => by
    obtain ⟨v, t, rfl, _⟩ := h
    rfl
  refine fn_of lk hcd scBared len fun A outer s H vs Q E hr h => ?_
  obtain ⟨v, t, rfl, tv, wt, hT, q⟩ := h
  have main : ∃ tt, PSs (cxOf CX0 P w K mg base ["tree"] "bared" (defScope sBared) f (.ref cB) A outer s H E).nox (defBody sBared) tt ∧ tt { nx := fun _ H' => Q .non H', rt := Q } (start ["tree"] [v]) H := by
    refine ⟨_, pss_one (ps_ret (pe_call CC.G hr rfl CC.m CC.k CC.b .nil pass0 (pa_cons (pv 0) (pa_cons (pe_lamb (c := cB) (P := PB) (q := qB) (params := lamA) (body := lamB) (scope := lamS) TB rfl rfl rfl lam_free) pa_nil)))), ?_⟩
    refine ⟨_, rfl, hT, fun g c' H1 e1 n1 T1 g0 g1 c1 => ?_⟩
    refine ⟨v, t, g, lamF c', rfl, td_kp (Kp.ext e1) tv, wt, g1, c1, ok_lam, fun v' H' s' t' => ?_⟩
    refine q v' H' (e1.trans (ExtN.of s')) (fun b hb => n1 b ?_) (T1.ext s') t'
    cases z : H1 b with
    | none => rfl
    | some o =>
      rw [s' _ _ z] at hb
      cases hb
  obtain ⟨tt, h1, h2⟩ := main
  exact ⟨tt, h1.nox, h2⟩
end
end K03

set_option Elab.async false
set_option linter.all false
set_option maxRecDepth 100000
set_option maxHeartbeats 2000000
namespace K03
open PySem PySem.Spec PyProof.Rows L2
section
variable {P : Program} {w : World} {K : PySem.W.Frag} {mg : Str → Option Value} {base : Heap}
abbrev sPut : Stmt := top 26
abbrev sBare : Stmt := top 27
theorem scPut : FnScope ["_law_tree", "_law_path", "_law_other", "_law_items"] ["_law_tree", "_law_path", "_law_other"] (defScope sPut) := ⟨rfl, rfl, rfl, by decide +kernel, rfl, by decide +kernel, by decide +kernel⟩
theorem scBare : FnScope ["_law_tree", "_law_first_here", "_law_kid"] ["_law_tree"] (defScope sBare) := ⟨rfl, rfl, rfl, by decide +kernel, rfl, by decide +kernel, by decide +kernel⟩
theorem nx_ {nx : L2.St → Hp → Prop} {rt : VK} {bk ct : L2.St → Hp → Prop} {σ : L2.St} {H : Hp} (h : nx σ H) : tNext ⟨nx, rt, bk, ct⟩ σ H := h
/-! ### the law's put -/
theorem ok_put_step {n : Nat} {f : Addr} {fd : FuncData} (F : Fun K "_law_put" "_law_put" sPut f fd) (B : BI mg) (bS : Binds K fd ["_law_tree", "_law_path", "_law_other"] []) (mS : mg "_law_put" = some (.ref f))
    (G : FnOk P w K mg base CX0 n f fd ["_law_tree", "_law_path", "_law_other"] (spWith K n)) : FnOk P w K mg base CX0 (n + 1) f fd ["_law_tree", "_law_path", "_law_other"] (spWith K (n + 1)) := by
  refine F.ok scPut (fun vs H Q E h => ?_) (fun cdv A outer s H vs Q E hr h => ?_)
  · obtain ⟨v, vp, vo, t, r, o, p, rfl, _⟩ := h
    rfl
  · obtain ⟨v, vp, vo, t, r, o, p, rfl, tv, tp, to, hp, hp5, hg, hw, q⟩ := h
    have hu : (A.deeper (envOfC "_law_put" (defScope sPut) s.heap.objs.size f cdv)).units + 64 < cLine := by
      have := hr.un
      omega
    refine ⟨_, pss_cons (ps_if (pt_cmpR (op_eqD hu) (pv 1) (pe_tup pa_nil) (nomark _)) (pss_one (ps_ret (pv 2))) pss_nil)
      (pss_cons (ps_set (i := 3) scPut.nd rfl (.inl rfl) (pe_callTy call_list_of (by rfl) B.lst (by decide +kernel) (pa_cons (pe_ix ix_tup (pv 0) pe_int (fun _ _ => rfl)) pa_nil)))
      (pss_cons (ps_asg (pe_call G hr rfl mS F.kp bS .nil pass0 (pa_cons (pe_ix ix_list (pv 3) (pe_ix ix_tup (pv 1) pe_int (fun _ _ => rfl)) (fun _ _ => rfl)) (pa_cons (pe_slice sl_tupA (pv 1) (po_some pe_int) po_none) (pa_cons (pv 2) pa_nil)))) (pg_sub (pv 3) (pe_ix ix_tup (pv 1) pe_int (fun _ _ => rfl)) set_list))
      (pss_one (ps_ret (pe_tup (pa_cons (pe_ix ix_tup (pv 0) pe_int (fun _ _ => rfl)) (pa_cons (pe_ix ix_tup (pv 0) pe_int (fun _ _ => rfl)) (pa_cons (pe_callTy call_tuple_of (by rfl) B.tup (by decide +kernel) (pa_cons (pv 3) pa_nil)) pa_nil)))))))), ?_⟩
    refine ⟨_, rfl, Nat.zero_le _, fun pe ne => ?_⟩
    have s0 : Same H (upd H pe (.tup [])) := same_new ne
    have he : (upd H pe (.tup [])) pe = some (.tup []) := upd_same
    generalize upd H pe (.tup []) = H0 at s0 he ⊢
    have tp0 := td_kp (Kp.of s0) tp
    have tv0 := td_kp (Kp.of s0) tv
    have to0 := td_kp (Kp.of s0) to
    refine ⟨pathD p, .tuple [], td_dp tp0, .tup (SqT.of he) .nil, path_sh p (by omega), nil_sh, _, rfl, ?_⟩
    unfold pathD
    rw [eqv_nil]
    cases p with
    | nil => exact itT rfl ⟨_, rfl, q _ _ s0 to0⟩
    | cons i p =>
      refine itF rfl ?_
      obtain ⟨ha, hb, ds, d, rfl, hds, hg2⟩ := get_step hg
      have lt := (List.getElem?_eq_some_iff.mp hds).1
      obtain ⟨hw1, hw2⟩ := hw
      have hw1 : ds.length ≤ 100 := hw1
      refine nx_ (seq_asg ?_)
      refine (PVs.cons (PV.ix (i := 2) (PV.var rfl tv0) PV.int rfl) .nil) H0 _ Kp.refl fun vs1 H1 s1 t1 => ?_
      obtain ⟨x1, rfl, u1⟩ : ∃ x, vs1 = [x] ∧ Td K H1 x (.tuple ds) := by
        cases t1 with
        | cons a r =>
          cases r
          exact ⟨_, rfl, a⟩
      obtain ⟨a1, xs, rfl, sx, rx⟩ := td_tup u1
      refine ⟨a1, xs, rfl, .inr sx, fun l nl => ?_⟩
      have s2 : Same H1 (upd H1 l (.lst xs)) := same_new nl
      have el : (upd H1 l (.lst xs)) l = some (.lst xs) := upd_same
      show gName 3 (.ref l) _ (upd H1 l (.lst xs)) _
      generalize upd H1 l (.lst xs) = H2 at s2 el ⊢
      have rx2 := tds_kp (Kp.of s2) rx
      have tp2 := td_kp ((Kp.of s1).trans (Kp.of s2)) tp0
      have to2 := td_kp ((Kp.of s1).trans (Kp.of s2)) to0
      have tv2 := td_kp ((Kp.of s1).trans (Kp.of s2)) tv0
      have lx : xs.length = ds.length := rx.len
      obtain ⟨x, ex, tx⟩ := rx2.get' hds
      refine ⟨_, rfl, ?_⟩
      refine (PV.ix (i := 0) (e := .int (i : Int)) (PV.var (i := 1) rfl tp2) PV.int rfl) H2 _ Kp.refl fun v3 H3 s3 t3 => ?_
      cases t3
      refine ⟨l, xs, _, x, rfl, rfl, SqL.of (s3 _ _ el), atI_nat ex, ?_⟩
      refine (PVs.cons (PV.lo (i := 1) (PV.var (i := 1) rfl (td_kp (Kp.of s3) tp2)) PV.int) (PVs.cons (PV.var (i := 2) rfl (td_kp (Kp.of s3) to2)) .nil)) H3 _ Kp.refl fun vs4 H4 s4 t4 => ?_
      obtain ⟨y1, y2, rfl, w1, w2⟩ : ∃ a b, vs4 = [a, b] ∧ Td K H4 a (pathD p) ∧ Td K H4 b o := by
        cases t4 with
        | cons a r =>
          cases r with
          | cons b r =>
            cases r
            exact ⟨_, _, rfl, a, b⟩
      refine ⟨x, y1, y2, d, r, o, p, rfl, td_kp ((Kp.of s3).trans (Kp.of s4)) tx, w1, w2, by have := hp; simp only [List.length_cons] at this; omega, by have := hp5; simp only [List.length_cons] at this; omega, hg2, hw2 d hds, fun v5 H5 s5 t5 => ?_⟩
      have k5 := (Kp.of s3).trans ((Kp.of s4).trans (Kp.of s5))
      have el5 := s5 _ _ (s4 _ _ (s3 _ _ el))
      refine ⟨_, rfl, ?_⟩
      refine (PV.ix (i := 0) (e := .int (i : Int)) (PV.var (i := 1) rfl (td_kp k5 tp2)) PV.int rfl) H5 _ Kp.refl fun v6 H6 s6 t6 => ?_
      cases t6
      have el6 := s6 _ _ el5
      refine ⟨l, xs, _, i, rfl, rfl, el6, by unfold ixN; rw [if_pos (by omega), if_pos (by omega)]; rfl, ?_⟩
      have k7 : Kp H6 (upd H6 l (.lst (xs.set i v5))) := Kp.lst el6
      have s7 : Same H (upd H6 l (.lst (xs.set i v5))) := fun b u e => by
        have e1 := s1 _ _ (s0 _ _ e)
        have hb : b ≠ l := fun z => by
          rw [z, nl] at e1
          cases e1
        rw [upd_ne hb]
        exact s6 _ _ (s5 _ _ (s4 _ _ (s3 _ _ (s2 _ _ e1))))
      have el7 : (upd H6 l (.lst (xs.set i v5))) l = some (.lst (xs.set i v5)) := upd_same
      have all7 : TdAll K (upd H6 l (.lst (xs.set i v5))) (xs.set i v5) (ds.set i (putD d p o)) := by
        have r6 := tds_kp ((k5.trans (Kp.of s6)).trans k7) rx2
        have t7 := td_kp ((Kp.of s6).trans k7) t5
        have z := ((r6.take i).app (.cons t7 .nil)).app (r6.drop (i + 1))
        rw [set_parts (show i < xs.length by omega), set_parts lt] at z
        exact z
      have kk := (k5.trans (Kp.of s6)).trans k7
      generalize upd H6 l (.lst (xs.set i v5)) = H7 at k7 s7 el7 all7 kk ⊢
      dsimp only
      refine ret_ ?_
      refine (PV.ix (i := 0) (e := ha) (PV.var (i := 0) rfl (td_kp kk tv2)) PV.int rfl) H7 _ Kp.refl fun v8 H8 s8 t8 => ?_
      refine (PV.ix (i := 1) (e := hb) (PV.var rfl (td_kp (kk.trans (Kp.of s8)) tv2)) PV.int rfl) H8 _ Kp.refl fun v9 H9 s9 t9 => ?_
      refine ⟨_, rfl, l, _, rfl, .inl ⟨SqL.of (s9 _ _ (s8 _ _ el7)), fun pt npt => ?_⟩⟩
      have k10 : Kp H9 (upd H9 pt (.tup (xs.set i v5))) := Kp.of (same_new npt)
      have s10 : Same H9 (upd H9 pt (.tup (xs.set i v5))) := same_new npt
      have tt : Td K (upd H9 pt (.tup (xs.set i v5))) (.ref pt) (.tuple (ds.set i (putD d p o))) := .tup (SqT.of upd_same) (tds_kp (((Kp.of s8).trans (Kp.of s9)).trans k10) all7)
      generalize upd H9 pt (.tup (xs.set i v5)) = H10 at k10 s10 tt ⊢
      refine ⟨(by show 3 ≤ sizeLine; decide), fun pz npz => ?_⟩
      refine q _ _ (s7.trans (s8.trans (s9.trans (s10.trans (same_new npz))))) ?_
      rw [put_step hds]
      exact .tup (SqT.of upd_same) (tds_kp (Kp.of (same_new npz)) (.cons (td_kp ((Kp.of s9).trans k10) t8) (.cons (td_kp k10 t9) (.cons tt .nil))))
theorem put_none {f : Addr} {fd : FuncData} : FnOk P w K mg base CX0 0 f fd ["_law_tree", "_law_path", "_law_other"] (spWith K 0) := by
  have no : ∀ vs H Q E, ¬ spWith K 0 vs H Q E := fun vs H Q E h => by
    obtain ⟨_, _, _, _, _, _, _, _, _, _, _, z, _⟩ := h
    omega
  exact ⟨fun vs H Q E h => absurd h (no vs H Q E), fun A outer s H args us vs Q E _ _ _ _ h => absurd h (no vs H Q E)⟩
theorem ok_put {f : Addr} {fd : FuncData} (F : Fun K "_law_put" "_law_put" sPut f fd) (B : BI mg) (bS : Binds K fd ["_law_tree", "_law_path", "_law_other"] []) (mS : mg "_law_put" = some (.ref f)) : ∀ n : Nat, FnOk P w K mg base CX0 n f fd ["_law_tree", "_law_path", "_law_other"] (spWith K n)
  | 0 => put_none
  | n + 1 => ok_put_step F B bS mS (ok_put F B bS mS n)
end
end K03

set_option Elab.async false
set_option linter.all false
set_option maxRecDepth 100000
set_option maxHeartbeats 2000000
namespace K03
open PySem PySem.Spec PyProof.Rows L2
section
variable {P : Program} {w : World} {K : PySem.W.Frag} {mg : Str → Option Value} {base : Heap}
/-- tuple([e for x in t]) -/
theorem PV.mapT {H0 : Hp} {σ : L2.St} {ta te : TE} {j : Nat} {ds : List PyData} {g : PyData → PyData} (ha : PV K H0 σ ta (.tuple ds)) (few : ds.length ≤ 400) (he : ∀ v d H1, Kp H0 H1 → d ∈ ds → Td K H1 v d → PV K H1 ((wipe σ [j]).set j (some v)) te (g d))
    (hw : ∀ v, wipe ((wipe σ [j]).set j (some v)) [j] = wipe σ [j]) : PV K H0 σ (tCB (rTupOf K) (tCons (tLc (iTup K ta) (gName j) tYes te [j]) tNil)) (.tuple (ds.map g)) := fun H Q k q => by
  refine ha H _ k fun v H1 s1 td => ?_
  obtain ⟨a, xs, rfl, hs, hr⟩ := td_tup td
  have hl := hr.len
  refine ⟨a, rfl, ⟨xs, hs⟩, fun D nD => ?_⟩
  refine lc_tup (K := K) (a := a) (xs := xs) (fun i H2 => Same H1 H2 ∧ ∃ acc, H2 D = some (.lst acc) ∧ TdAll K H2 acc ((ds.take i).map g)) ⟨same_new nD, [], upd_same, .nil⟩ (fun i H2 _ p => sqt_kp (Kp.of p.1) hs) ?_ ?_
  · rintro i x H2 hx ⟨s2, acc, eD, tds⟩
    obtain ⟨d, hd, td⟩ := hr.get hx
    refine ⟨hw _, ?_⟩
    dsimp only [tYes]
    refine iteT ?_
    refine he x d H2 (k.trans (Kp.of (s1.trans s2))) (List.mem_of_getElem? hd) (td_kp (Kp.of s2) td) H2 _ Kp.refl fun y H3 s3 ty => ?_
    have eD3 := s3 _ _ eD
    have ln : acc.length ≤ i := by
      rw [tds.len, List.length_map, List.length_take]
      exact Nat.min_le_left _ _
    have li := (List.getElem?_eq_some_iff.mp hx).1
    refine ⟨acc, eD3, small1000 (by omega), fun b o e => ?_, acc ++ [y], upd_same, ?_⟩
    · have hb : b ≠ D := fun z => by rw [z, nD] at e; cases e
      rw [upd_ne hb]
      exact s3 _ _ (s2 _ _ e)
    · have kk : Kp H3 (upd H3 D (.lst (acc ++ [y]))) := Kp.lst eD3
      rw [List.take_add_one, hd, List.map_append]
      exact (tds_kp ((Kp.of s3).trans kk) tds).app (.cons (td_kp kk ty) .nil)
  · rintro H2 ⟨s2, acc, eD, tds⟩
    rw [List.take_of_length_le (by omega)] at tds
    refine ⟨D, acc, rfl, .inl ⟨SqL.of eD, fun p np => ?_⟩⟩
    exact q _ _ (s1.trans (s2.trans (same_new np))) (.tup (SqT.of upd_same) (tds_kp (Kp.of (same_new np)) tds))
def spBare (K : PySem.W.Frag) (n : Nat) : Sp := fun vs H Q _ => ∃ (v : V) (t : PyData), vs = [v] ∧ Td K H v t ∧ WT n t ∧ ∀ v' H', Same H H' → Td K H' v' (bareD n t) → Q v' H'
theorem bare_eq {n : Nat} {s : Str} {ms pre kids : List PyData} (hp : ∀ x ∈ pre, isTup x = false) (hk : ∀ x ∈ kids, WT n x) :
    bareD (n + 1) (.tuple [.str s, .tuple ms, .tuple (pre ++ kids)]) = .tuple [.str s, .tuple [], .tuple (pre ++ kids.map (bareD n))] := by
  unfold bareD
  rw [List.map_append]
  have e1 : (pre.map fun x => if isTup x = true then bareD n x else x) = pre := by
    conv => rhs; rw [← List.map_id pre]
    refine List.map_congr_left fun x hx => ?_
    rw [if_neg (by rw [hp x hx]; exact Bool.false_ne_true)]
    rfl
  have e2 : (kids.map fun x => if isTup x = true then bareD n x else x) = kids.map (bareD n) := List.map_congr_left fun x hx => if_pos (hk x hx).isTup
  rw [e1, e2]
theorem bare_none {f : Addr} {fd : FuncData} {x : Str} {k : Nat} : FnOk P w K mg base CX0 k f fd [x] (spBare K 0) := by
  have no : ∀ vs H Q E, ¬ spBare K 0 vs H Q E := fun vs H Q E h => by
    obtain ⟨_, _, _, _, z, _⟩ := h
    exact z
  exact ⟨fun vs H Q E h => absurd h (no vs H Q E), fun A outer s H args us vs Q E _ _ _ _ h => absurd h (no vs H Q E)⟩
theorem ok_bare_step {n : Nat} {f fF : Addr} {fd dF : FuncData} (F : Fun K "_law_bare" "_law_bare" sBare f fd) (B : BI mg) (bS : Binds K fd ["_law_tree"] []) (mS : mg "_law_bare" = some (.ref f)) (CF : Cal P w K mg base "_law_first" 1 fF dF ["_law_head"] [] spFirst)
    (G : FnOk P w K mg base CX0 (n + 1) f fd ["_law_tree"] (spBare K n)) : FnOk P w K mg base CX0 (n + 2) f fd ["_law_tree"] (spBare K (n + 1)) := by
  refine F.ok scBare (fun vs H Q E h => ?_) (fun cdv A outer s H vs Q E hr h => ?_)
  · obtain ⟨v, t, rfl, _⟩ := h
    rfl
  · obtain ⟨v, t, rfl, tv, wt, q⟩ := h
    obtain ⟨sh, ms, pre, kids, rfl, e1, e2, e3, e4, hp, hk, hl, hl2, hf⟩ := wt.shape
    have hr1 : Room 1 _ := hr.mono (by omega)
    rw [bare_eq hp hk] at q
    refine ⟨_, pss_cons (ps_set (i := 1) scBare.nd rfl (.inl rfl) (pe_call CF.G hr1 rfl CF.m CF.k CF.b .nil pass0 (pa_cons (pe_ix ix_tup (pv 0) pe_int (fun _ _ => rfl)) pa_nil)))
      (pss_one (ps_ret (pe_tup (pa_cons (pe_ix ix_tup (pv 0) pe_int (fun _ _ => rfl)) (pa_cons (pe_tup pa_nil) (pa_cons (pe_op op_catA (pe_slice sl_tupA (pe_ix ix_tup (pv 0) pe_int (fun _ _ => rfl)) po_none (po_some (pv 1)))
        (pe_callTy call_tuple_of (by rfl) B.tup (by decide +kernel) (pa_cons (pe_lc (own := [("_law_kid", 2)]) (g := gName 2) (tt := tYes) rfl scBare.nd (pi_tup (pe_slice sl_tupA (pe_ix ix_tup (pv 0) pe_int (fun _ _ => rfl)) (po_some (pv 1)) po_none)) (blkOk_by (N := ["_law_tree", "_law_first_here", "_law_kid"]) (sc := defScope sBare) (by decide +kernel))
            (fun _ _ _ _ _ => pg_name (i := 2) scBare.nd rfl (Or.inl rfl)) (fun _ _ _ _ _ => pts_nil) (fun _ _ _ _ _ => pe_call G hr rfl mS F.kp bS .nil pass0 (pa_cons (pv 2) pa_nil))) pa_nil))) pa_nil)))))), ?_⟩
    refine seq_asg ?_
    refine (PVs.cons (PV.ix (i := 0) (e := .str sh) (PV.var (i := 0) rfl tv) PV.int rfl) .nil) H _ Kp.refl fun vs1 H1 s1 t1 => ?_
    obtain rfl : vs1 = [.str sh] := by
      cases t1 with
      | cons a r =>
        cases r
        cases a
        rfl
    refine ⟨sh, rfl, fun H2 s2 => ?_⟩
    have tv2 := td_kp (Kp.of (s1.trans s2)) tv
    have c2 : PV K H2 [some v, some (.int ((firstN sh : Nat) : Int)), none] (tVar 1) (.int ((firstN sh : Nat) : Int)) := PV.var rfl (.int _)
    refine ret_ ((PV.tup (PVs.cons (PV.ix (i := 0) (e := .str sh) (PV.var (i := 0) rfl tv2) PV.int rfl) (PVs.cons (PV.tup .nil (Nat.zero_le _)) (PVs.cons (PV.cat (PV.hi (i := firstN sh) (PV.ix (i := 2) (PV.var (i := 0) rfl tv2) PV.int rfl) c2)
      (PV.mapT (g := bareD n) (PV.lo (i := firstN sh) (PV.ix (i := 2) (PV.var (i := 0) rfl tv2) PV.int rfl) c2) (by rw [← hf, List.drop_left]; omega) (fun x d Hx kx hd td => ?_) (fun _ => rfl)) (by
        rw [← hf, List.take_left, List.drop_left, List.length_map]
        omega)) .nil))) (by show 3 ≤ 1000; decide)) H2 _ Kp.refl fun v3 H3 s3 t3 => ?_)
    · rw [← hf, List.drop_left] at hd
      exact fun Hy Qy ky qy => ⟨_, rfl, x, d, rfl, td_kp ky td, hk d hd, fun v' H' s' t' => qy v' H' s' t'⟩
    · rw [← hf, List.take_left, List.drop_left] at t3
      exact q v3 H3 (s1.trans (s2.trans s3)) t3
theorem ok_bare {f fF : Addr} {fd dF : FuncData} (F : Fun K "_law_bare" "_law_bare" sBare f fd) (B : BI mg) (bS : Binds K fd ["_law_tree"] []) (mS : mg "_law_bare" = some (.ref f)) (CF : Cal P w K mg base "_law_first" 1 fF dF ["_law_head"] [] spFirst) : ∀ n : Nat, FnOk P w K mg base CX0 (n + 1) f fd ["_law_tree"] (spBare K n)
  | 0 => bare_none
  | n + 1 => ok_bare_step F B bS mS CF (ok_bare F B bS mS CF n)
end
end K03

set_option Elab.async false
set_option linter.all false
set_option maxRecDepth 100000
set_option maxHeartbeats 2000000
namespace K03
open PySem PySem.Spec PyProof.Rows L2
/-! ### enumerate(tuple) -/
def Iet (K : PySem.W.Frag) (a : Addr) : It :=
  ⟨fun i H => ∃ (xs : List V) (x : V), SqT K H a xs ∧ xs[i]? = some x, fun i H v H' => ∃ T x, v = .ref T ∧ H T = none ∧ H' = upd H T (.tup [.int (i : Nat), x]) ∧ ∀ xs, SqT K H a xs → xs[i]? = some x, fun i H => ∃ xs : List V, SqT K H a xs ∧ xs.length ≤ i⟩
theorem turn_enumT {P : Program} {w : World} {K : PySem.W.Frag} {elts : List Expr} {kk : Nat} {tpos : Pos} (a e it : Addr) :
    Turn P w K (.Tuple elts kk tpos) (Iet K a) [e, it] e (fun i h => (∃ old, IsEnum h e it ((i : Nat) : Int) old) ∧ h.IsTupleIter it a i ∧ e ≠ it) where
  mem := by simp
  obj := fun i h st b hb => by
    obtain ⟨⟨old, he⟩, ⟨o, ho, hc, hd⟩, _⟩ := st
    have e' : b = e ∨ b = it := by simpa using hb
    rcases e' with z | z
    · rw [z]; exact ⟨_, he, fun v q => nomatch q⟩
    · rw [z]; exact ⟨o, ho, fun v q => by rw [hd] at q; cases q⟩
  keep := fun i h h' st k => let ⟨⟨old, he⟩, hi, hne⟩ := st; ⟨⟨old, k e (by simp) _ he⟩, hi.at fun o q => k it (by simp) o q, hne⟩
  item := by
    intro X hP hw hK hc i pins s σ H E I hf st hg
    subst hP hw hK
    obtain ⟨⟨old, he⟩, hit, hne⟩ := st
    obtain ⟨xs, x, hq, hx⟩ := hg
    obtain ⟨its, rv, p, hz⟩ := I.tuple hq
    obtain ⟨u, hu, ru⟩ := rv.get hx
    have hel : e < s.heap.objs.size := Heap.lt_size he
    have hil : it < s.heap.objs.size := by obtain ⟨_, q, _⟩ := hit; exact Heap.lt_size q
    have pt : s.heap.IsTuple a its.toArray := p
    have hai : a ≠ it := fun z => by
      obtain ⟨o1, q1, c1, _⟩ := hit
      obtain ⟨o2, q2, c2, _⟩ := pt
      rw [z, q1] at q2
      cases q2
      rw [c1] at c2
      exact absurd c2 (by decide)
    have hae : e ≠ a := fun z => by
      obtain ⟨o2, q2, c2, _⟩ := pt
      rw [← z, he] at q2
      cases q2
      have c3 : Value.type "enumerate" = Value.type "tuple" := c2
      exact absurd c3 (by decide)
    have hlt : i < its.toArray.size := by
      have := (List.getElem?_eq_some_iff.mp hu).1
      simpa using this
    refine wpAny_pyNext_enum_itemD (Draws.tuple (prog := X.prog) (w := X.w) (A := X.A.in1) (I.ok.hd hc) it a hai its.toArray) he ⟨hit, pt⟩ hlt hne (by simp [hne, hae]) fun x' h' tk hx' ho hit' hT hsz hk => ?_
    obtain rfl : x' = u := by
      have : its.toArray[i]? = some x' := hx'
      simp at this
      rw [hu] at this
      exact (Option.some.inj this).symm
    refine ⟨_, rfl, wpAny_letOwnedTupleGo_enum (s := { s with heap := h', toks := tk + 1 }) ho fun h'' he' sb => ?_⟩
    have hT2 : h''.get? s.heap.objs.size = some { cls := .type "tuple", data := .seq #[.int i tk, x'] } := (sb.2 _ (Nat.ne_of_gt hel)).trans hT
    have new : ObjOk X.prog X.w (upd H s.heap.objs.size (.tup [.int (i : Nat), x])) h'' s.heap.objs.size (.tup [.int (i : Nat), x]) :=
      ⟨by show 2 ≤ sizeLine; decide, [.int i tk, x'], .cons ⟨_, rfl⟩ (.cons ru .nil), ⟨_, hT2, rfl, _, rfl⟩⟩
    have I1 : Inv X pins σ (upd H s.heap.objs.size (.tup [.int (i : Nat), x])) { s with heap := h'', toks := tk + 1 } :=
      I.turnedNew (ch := [e, it]) (fun b ob hb q => (sb.2 b (fun z => hb (by simp [z]))).trans (hk b ob (fun z => hb (by simp [z])) (fun z => hb (by simp [z])) q)) hf (Nat.le_refl _) new
    refine ⟨.ref s.heap.objs.size, _, I1, rfl, ⟨_, x, rfl, I.hok.fresh (Nat.le_refl _), rfl, fun ys hy => by rw [I.tuple_inj hy hq]; exact hx⟩, ⟨⟨x', ?_⟩, hit'.1.at fun o q => (sb.2 it (Ne.symm hne)).trans q, hne⟩, fun b hb => ?_⟩
    · have e1 : ((i + 1 : Nat) : Int) = (i : Int) + 1 := by omega
      rw [e1]; exact he'
    · have hb' : b < s.heap.objs.size := by
        have e' : b = e ∨ b = it := by simpa using hb
        rcases e' with z | z
        · rw [z]; exact hel
        · rw [z]; exact hil
      rw [upd_ne (Nat.ne_of_lt hb')]
      exact (hf b hb).1
  done := by
    intro X hP hw hK hc i pins s σ H E I hf st hg
    subst hP hw hK
    obtain ⟨⟨old, he⟩, hit, hne⟩ := st
    obtain ⟨xs, hq, hx⟩ := hg
    obtain ⟨its, rv, p, hz⟩ := I.tuple hq
    obtain ⟨f0, f1, f2, f3, f4, f5⟩ := hf it (by simp)
    have hl := rv.length
    have pt : s.heap.IsTuple a its.toArray := p
    -- the end is looked at where the index stands
    unfold pyNext
    have hT : s.TypeIs (.ref e) "enumerate" := ⟨_, he, rfl⟩
    refine wpAny_bind (wpAny_attempt (wpAny_callSpecial?_slot (name := Str.ofString "__next__") hT F.slot_enumerate_next
      (wpAny_call_entry F.slot_enumerate_next hT F.entry_enumerate_next ?_ (F.args_enumerate_next_1 _))))
    show wpAny _ _ (field (.ref e) 2 >>= _) _ _ _
    refine wpAny_bind (wpAny_field he rfl (x := .ref it) rfl ?_)
    refine wpAny_bind (wpAny_nextOf_tuple_end (show X.A.in1.handled = none from I.ok.hd hc) hit pt (by simp; omega) fun h' x he' hx' => ?_)
    obtain ⟨o, ho, hcc⟩ := hx'
    refine wpAny_bind (wpAny_isInstance (T := "StopIteration") (b := true) ⟨o, ho, hcc⟩ isSubtype_stop ?_)
    exact wpAny_pure ⟨rfl, I.turned (t' := s.toks) (fun b o hb q => he' b o hb q) f0 f1 f3 f4 f5⟩
  self := fun A i s Q E st h => let ⟨⟨_, he⟩, _⟩ := st; wpAny_pyIter_enum he h
theorem meets_enumerate1 {v : Value} {o : Obj} {H : Heap → Prop} (B : Begins v o H) :
    Meets (Builtin.«enumerate.__new__» ⟨[.type "enumerate", v], []⟩) (fun _ R s => H s.heap ∧
      R (.ok (.ret (.ref (s.heap.push o).objs.size))) { s with heap := (s.heap.push o).push { cls := .type "enumerate", data := .fields #[.none, .bool false, .ref s.heap.objs.size, rawInt 0, .none, .none] } }) :=
  .of_wp fun prog w A R s h => by
    obtain ⟨hp, g, d, tk, os⟩ := s
    obtain ⟨h1, h⟩ := h
    have hsub := sub_enumerate
    have q1 : ∀ {A' : Around} {E : Value → Shared → Prop} {Q : Value → Shared → Prop}, Q (.ref hp.objs.size) ⟨hp.push o, g, d, tk, os⟩ → wpAny (model prog w) A' (pyIter v) Q E ⟨hp, g, d, tk, os⟩ :=
      fun q => B.iter prog w _ _ ⟨hp, g, d, tk, os⟩ _ h1 q
    wp_walk using q1
    refine wpAny_stack_any fun st => wpAny_pure ?_
    split
    · rename_i c _ _ _ _ _
      cases (c == Value.type "enumerate")
      · wp_walk using q1
        exact ⟨_, rfl, h⟩
      · wp_walk using q1
        exact ⟨_, rfl, h⟩
    · wp_walk using q1
      exact ⟨_, rfl, h⟩
theorem call_enum1 {prog : Program} {w : World} {A : Around} {E : Value → Shared → Prop} {s : Shared} {v : Value} {o : Obj} {H : Heap → Prop} {Q : Value → Shared → Prop} (B : Begins v o H) (h1 : H s.heap)
    (h : ∀ h', IsEnum h' (s.heap.objs.size + 1) s.heap.objs.size 0 .none → h'.get? s.heap.objs.size = some o → h'.objs.size = s.heap.objs.size + 2 →
      (∀ b o, s.heap.get? b = some o → h'.get? b = some o) → Q (.ref (s.heap.objs.size + 1)) { s with heap := h' }) :
    wpAny (model prog w) A (call (.type "enumerate") [v]) Q E s := by
  refine callType_new PySem.F.called_enumerate (by decide) (PySem.F.typeCall_enumerate_1 _) (PySem.F.newCall_enumerate_1 _) (fun obj => PySem.F.args_object_init_2 obj _) PySem.F.entry_enumerate_new
    (meets_enumerate1 B) ⟨h1, ?_⟩
  have hz : (s.heap.push o).objs.size = s.heap.objs.size + 1 := Heap.size_push ..
  show _ ∧ _
  rw [hz]
  have he : IsEnum ((s.heap.push o).push { cls := .type "enumerate", data := .fields #[.none, .bool false, .ref s.heap.objs.size, rawInt 0, .none, .none] }) (s.heap.objs.size + 1) s.heap.objs.size 0 .none := by
    have := Heap.get?_push_size (s.heap.push o) (o := { cls := .type "enumerate", data := .fields #[.none, .bool false, .ref s.heap.objs.size, rawInt 0, .none, .none] }) rfl
    rw [hz] at this
    exact this
  refine ⟨⟨_, he, rfl⟩, h _ he (Heap.get?_push_of_some _ (Heap.get?_push_size _ B.free)) (by rw [Heap.size_push, hz]) fun b o x => Heap.get?_push_of_some _ (Heap.get?_push_of_some _ x)⟩
def iEnumT (K : PySem.W.Frag) (ta : TA) : TI := fun σ H R => ta σ H fun vs H1 => ∃ a xs, vs = [.ref a] ∧ SqT K H1 a xs ∧ R (Iet K a) H1
theorem pi_enumT {X : Cx} {e : Expr} {ta : TA} {p pos tpos : Pos} {elts : List Expr} {kk : Nat} (hg : Gl X "enumerate") (hm : X.mg "enumerate" = none) (ha : PA X [e] ta) (hs : starEach [e] X.env = [(false, eval e X.env)] := by rfl) :
    PI X (.Tuple elts kk tpos) (.Call (.Name "enumerate" p) [e] [] pos) (iEnumT X.K ta) := by
  refine ⟨fun pins s σ H R I h => ?_⟩
  refine Call_ (ld_blt I hg hm boot_enumerate (PyProof.Rows.callWith_type1 (thn (ha.run pos pins s σ H _ I h) fun us s1 ⟨vs, H1, I1, r1, q1⟩ => ?_) hs rfl))
  obtain ⟨a, xs, ex, hq, q⟩ := q1
  subst ex
  cases r1 with
  | cons r rr =>
    cases rr
    cases r
    obtain ⟨its, rv, p', hz⟩ := I1.tuple hq
    refine call_enum1 (begins_tuple a its.toArray) p' fun h' he ho hsz hk => wpAny_pyIter_enum he ?_
    have I2 : Inv X pins σ H1 { s1 with heap := h' } := I1.kept (t' := s1.toks) hk
    refine ⟨s1.heap.objs.size + 1, [s1.heap.objs.size + 1, s1.heap.objs.size], _, _, H1, rfl, I2, turn_enumT a (s1.heap.objs.size + 1) s1.heap.objs.size, ⟨⟨.none, he⟩, ⟨_, ho, rfl, rfl⟩, Nat.succ_ne_self _⟩, fun b hb => ?_, q⟩
    have e' : b = s1.heap.objs.size + 1 ∨ b = s1.heap.objs.size := by simpa using hb
    have hle : s1.heap.objs.size ≤ b := by
      rcases e' with z | z
      · rw [z]; exact Nat.le_add_right _ _
      · rw [z]; exact Nat.le_refl _
    exact I1.fpOk hle (I1.hok.fresh hle)
theorem walk_enumT {K : PySem.W.Frag} {a : Addr} {xs : List V} : Walk (Iet K a) xs.length (fun H => SqT K H a xs) (YPair (fun i => some (.int (i : Nat))) (fun i => xs[i]?)) := by
  refine ⟨fun i _ hi q => ⟨xs, xs[i], q, by simp [hi]⟩, fun _ q => ⟨xs, q, Nat.le_refl _⟩, fun i H v H' _ q y => ?_⟩
  obtain ⟨T, x, h1, h2, h3, h4⟩ := y
  exact ⟨T, .int (i : Nat), x, h1, h2, h3, rfl, h4 xs q⟩
end K03

set_option Elab.async false
set_option linter.all false
set_option maxRecDepth 100000
set_option maxHeartbeats 2000000
namespace K03
open PySem PySem.Spec PyProof.Rows L2
/-! ### all nodes, in preorder -/
def pairD (e : List Nat × PyData) : PyData := .tuple [pathD e.1, e.2]
def allD : Nat → PyData → List Nat → List (List Nat × PyData)
  | 0, _, _ => []
  | n + 1, t, p => (p, t) :: ((kidsOf t).zipIdx (fOf t)).flatMap fun e => allD n e.1 (p ++ [e.2])
theorem fm_len {α β : Type} {l : List α} {f : α → List β} {c : Nat} (h : ∀ x ∈ l, (f x).length ≤ c) : (l.flatMap f).length ≤ l.length * c := by
  induction l with
  | nil => simp
  | cons a l ih =>
    rw [List.flatMap_cons, List.length_append, List.length_cons, Nat.add_mul]
    have h1 := h a List.mem_cons_self
    have h2 := ih fun x hx => h x (List.mem_cons_of_mem _ hx)
    omega
theorem zi_mem {l : List PyData} {k : Nat} {e : PyData × Nat} (h : e ∈ l.zipIdx k) : e.1 ∈ l := by
  obtain ⟨i, hi⟩ := List.getElem?_of_mem h
  rw [List.getElem?_zipIdx] at hi
  obtain ⟨d, hd, rfl⟩ := Option.map_eq_some_iff.mp hi
  exact List.mem_of_getElem? hd
theorem WT.kids {n : Nat} {t : PyData} (h : WT (n + 1) t) : (∀ x ∈ kidsOf t, WT n x) ∧ (kidsOf t).length ≤ 8 := by
  obtain ⟨s, ms, pre, kids, e, _, _, k, _, _, hk, hl, _⟩ := h.shape
  rw [k]
  exact ⟨hk, hl⟩
theorem all_len : ∀ {n : Nat} {t : PyData} {p : List Nat}, WT n t → (allD n t p).length ≤ 9 ^ n
  | 0, _, _, h => False.elim h
  | n + 1, t, p, h => by
    obtain ⟨hk, hl⟩ := h.kids
    unfold allD
    rw [List.length_cons]
    have z := fm_len (l := (kidsOf t).zipIdx (fOf t)) (f := fun e => allD n e.1 (p ++ [e.2])) (c := 9 ^ n) fun e he => all_len (hk e.1 (zi_mem he))
    rw [List.length_zipIdx] at z
    have z2 : (kidsOf t).length * 9 ^ n ≤ 8 * 9 ^ n := Nat.mul_le_mul_right _ hl
    have z3 : 0 < 9 ^ n := Nat.pow_pos (by decide)
    rw [Nat.pow_succ]
    omega
theorem pow_small {n : Nat} (h : n ≤ 7) : 9 ^ n ≤ sizeLine := Nat.le_trans (Nat.pow_le_pow_right (by decide) h) (by show 9 ^ 7 ≤ sizeLine; decide)
theorem path_app {p : List Nat} {i j : Nat} : .tuple ((p.map fun i : Nat => PyData.int (i : Int)) ++ [.int ((i : Int) + (j : Int))]) = pathD (p ++ [i + j]) := by
  unfold pathD
  rw [List.map_append]
  rfl
theorem for_enumT {K : PySem.W.Frag} {ta : TA} {g : TG} {tb : TS} {D : Ends} {σ : L2.St} {H : Hp} (h : ta σ H fun vs H1 => ∃ a xs, vs = [.ref a] ∧ SqT K H1 a xs ∧ tFor (fun _ H2 R => R (Iet K a) H2) g tb D σ H1) : tFor (iEnumT K ta) g tb D σ H := h
section
variable {P : Program} {w : World} {K : PySem.W.Frag} {mg : Str → Option Value} {base : Heap}
abbrev sAll : Stmt := top 25
theorem scAll : FnScope ["_law_tree", "_law_path", "_law_found", "_law_first_here", "_law_at", "_law_kid"] ["_law_tree", "_law_path"] (defScope sAll) := ⟨rfl, rfl, rfl, by decide +kernel, rfl, by decide +kernel, by decide +kernel⟩
def spAll (K : PySem.W.Frag) (n : Nat) : Sp := fun vs H Q _ => ∃ (v vp : V) (t : PyData) (p : List Nat), vs = [v, vp] ∧ Td K H v t ∧ Td K H vp (pathD p) ∧ WT n t ∧ n ≤ 7 ∧ p.length + n ≤ 50 ∧
  ∀ l H' ws, Same H H' → H l = none → H' l = some (.lst ws) → TdAll K H' ws ((allD n t p).map pairD) → Q (.ref l) H'
theorem all_none {f : Addr} {fd : FuncData} {k : Nat} : FnOk P w K mg base CX0 k f fd ["_law_tree", "_law_path"] (spAll K 0) := by
  have no : ∀ vs H Q E, ¬ spAll K 0 vs H Q E := fun vs H Q E h => by
    obtain ⟨_, _, _, _, _, _, _, z, _⟩ := h
    exact z
  exact ⟨fun vs H Q E h => absurd h (no vs H Q E), fun A outer s H args us vs Q E _ _ _ _ h => absurd h (no vs H Q E)⟩
theorem ok_all_step {n : Nat} {f fF : Addr} {fd dF : FuncData} (F : Fun K "_law_all" "_law_all" sAll f fd) (mE : mg "enumerate" = none) (bS : Binds K fd ["_law_tree", "_law_path"] []) (mS : mg "_law_all" = some (.ref f)) (CF : Cal P w K mg base "_law_first" 1 fF dF ["_law_head"] [] spFirst)
    (G : FnOk P w K mg base CX0 (n + 1) f fd ["_law_tree", "_law_path"] (spAll K n)) : FnOk P w K mg base CX0 (n + 2) f fd ["_law_tree", "_law_path"] (spAll K (n + 1)) := by
  refine F.ok scAll (fun vs H Q E h => ?_) (fun cdv A outer s H vs Q E hr h => ?_)
  · obtain ⟨v, vp, t, p, rfl, _⟩ := h
    rfl
  · obtain ⟨v, vp, t, p, rfl, tv, tp, wt, hn, hpl, q⟩ := h
    have hk := wt.kids
    have hlen := all_len (p := p) wt
    have hsm : 9 ^ (n + 1) ≤ sizeLine := pow_small hn
    obtain ⟨sh, ms, pre, kids, rfl, e1, e2, e3, e4, hp, hk, hl, hl2, hf⟩ := wt.shape
    have hr1 : Room 1 _ := hr.mono (by omega)
    refine ⟨_, pss_cons (ps_par (i := 2) (j := 3) rfl scAll.nd rfl rfl (by decide) rfl rfl (pa_cons (pe_lst (pa_cons (pe_tup (pa_cons (pv 1) (pa_cons (pv 0) pa_nil))) pa_nil)) (pa_cons (pe_call CF.G hr1 rfl CF.m CF.k CF.b .nil pass0 (pa_cons (pe_ix ix_tup (pv 0) pe_int (fun _ _ => rfl)) pa_nil)) pa_nil)) rfl)
      (pss_cons (ps_for PassesOwn.never rfl (pi_enumT (by rfl) mE (pa_cons (pe_slice sl_tupA (pe_ix ix_tup (pv 0) pe_int (fun _ _ => rfl)) (po_some (pv 3)) po_none) pa_nil))
        (pg_tup rfl (pgs_cons (pg_name (i := 4) scAll.nd rfl (.inl rfl)) (pgs_cons (pg_name (i := 5) scAll.nd rfl (.inl rfl)) pgs_nil)))
        (pss_one (ps_expr (pe_bm PySem.F.plainAttrs_list PySem.F.slot_list_extend PySem.F.type_list_extend mt_extend (pv 2) (pa_cons (pe_call G hr rfl mS F.kp bS .nil pass0 (pa_cons (pv 5) (pa_cons (pe_op op_catA (pv 1) (pe_tup (pa_cons (pe_op op_add (pv 3) (pv 4)) pa_nil))) pa_nil))) pa_nil)))))
      (pss_one (ps_ret (pv 2)))), ?_⟩
    refine ⟨_, rfl, _, rfl, (by show 2 ≤ sizeLine; decide), fun pr nr => ?_⟩
    have s0 : Same H (upd H pr (.tup [vp, v])) := same_new nr
    have er : (upd H pr (.tup [vp, v])) pr = some (.tup [vp, v]) := upd_same
    generalize upd H pr (.tup [vp, v]) = H0 at s0 er ⊢
    refine ⟨(by show 1 ≤ sizeLine; decide), fun l nl => ?_⟩
    have s1 : Same H0 (upd H0 l (.lst [.ref pr])) := same_new nl
    have el : (upd H0 l (.lst [.ref pr])) l = some (.lst [.ref pr]) := upd_same
    have nlH : H l = none := by
      cases e : H l with
      | none => rfl
      | some o => rw [s0 _ _ e] at nl; cases nl
    generalize upd H0 l (.lst [.ref pr]) = H1 at s1 el ⊢
    have tv1 := td_kp (Kp.of (s0.trans s1)) tv
    show tCall spFirst [] E0 (tCons _ tNil) _ H1 _
    refine (PVs.cons (PV.ix (i := 0) (e := .str sh) (PV.var (i := 0) rfl tv1) PV.int rfl) .nil) H1 _ Kp.refl fun vs2 H2 s2 t2 => ?_
    obtain rfl : vs2 = [.str sh] := by
      cases t2 with
      | cons a r =>
        cases r
        cases a
        rfl
    refine ⟨sh, rfl, fun H3 s3 => ?_⟩
    refine ⟨_, _, rfl, ?_⟩
    dsimp only
    refine seq_ (for_enumT ?_)
    have s23 := s2.trans s3
    have tv3 := td_kp (Kp.of s23) tv1
    have el3 := s23 _ _ el
    have er3 := s23 _ _ (s1 _ _ er)
    have sH3 : Same H H3 := s0.trans (s1.trans s23)
    refine (PVs.cons (PV.lo (i := firstN sh) (PV.ix (i := 2) (PV.var (i := 0) rfl tv3) PV.int rfl) (PV.var (i := 3) (d := .int ((firstN sh : Nat) : Int)) rfl (.int _))) .nil) H3 _ Kp.refl fun vs4 H4 s4 t4 => ?_
    obtain ⟨a, xs, rfl, hs, hr2⟩ : ∃ a xs, vs4 = [.ref a] ∧ SqT K H4 a xs ∧ TdAll K H4 xs kids := by
      cases t4 with
      | cons hx r =>
        cases r
        obtain ⟨a, xs, rfl, q1, q2⟩ := td_tup hx
        rw [← hf, List.drop_left] at q2
        exact ⟨a, xs, rfl, q1, q2⟩
    refine ⟨a, xs, rfl, hs, ?_⟩
    have hx := hr2.len
    -- what is found after i turns
    have hfull : allD (n + 1) (.tuple [.str sh, .tuple ms, .tuple (pre ++ kids)]) p = (p, .tuple [.str sh, .tuple ms, .tuple (pre ++ kids)]) :: (kids.zipIdx (firstN sh)).flatMap fun e => allD n e.1 (p ++ [e.2]) := by
      show (p, _) :: _ = _
      rw [e3, e2, hf]
    refine for_it (walk_enumT (K := K) (a := a) (xs := xs)) (fun i σ H' => (∃ z4 z5, σ = [some v, some vp, some (.ref l), some (.int ((firstN sh : Nat) : Int)), z4, z5]) ∧ Same H H' ∧ Kp H4 H' ∧ ∃ acc, H' l = some (.lst acc) ∧ TdAll K H' acc (((p, (.tuple [.str sh, .tuple ms, .tuple (pre ++ kids)] : PyData)) :: ((kids.zipIdx (firstN sh)).take i).flatMap fun e => allD n e.1 (p ++ [e.2])).map pairD))
      ⟨⟨_, _, rfl⟩, sH3.trans s4, Kp.refl, [.ref pr], s4 _ _ el3, .cons (.tup (SqT.of (s4 _ _ er3)) (.cons (td_kp (Kp.of (sH3.trans s4)) tp) (.cons (td_kp (Kp.of (sH3.trans s4)) tv) .nil))) .nil⟩ (fun i σ H' _ p => sqt_kp p.2.2.1 hs) ?_ ?_
    · rintro i x σ H' H5 hi ⟨⟨z4, z5, rfl⟩, sH, kH, acc, eA, tds⟩ ⟨T, y, k, rfl, nT, rfl, hy, hkk⟩
      obtain rfl := Option.some.inj hy
      obtain ⟨d, hd, td⟩ := hr2.get hkk
      have dk := List.mem_of_getElem? hd
      have sT : Same H' (upd H' T (.tup [.int (i : Nat), k])) := same_new nT
      have eT : (upd H' T (.tup [.int (i : Nat), k])) T = some (.tup [.int (i : Nat), k]) := upd_same
      generalize upd H' T (.tup [.int (i : Nat), k]) = H5 at sT eT ⊢
      refine ⟨T, _, rfl, SqT.of eT, rfl, _, _, rfl, _, _, rfl, rfl, ?_⟩
      dsimp only [gName, List.set]
      refine drop_ ⟨_, rfl, .inl ⟨rfl, _, SqL.of (sT _ _ eA)⟩, ?_⟩
      have hz : (kids.zipIdx (firstN sh))[i]? = some (d, firstN sh + i) := by
        rw [List.getElem?_zipIdx, hd]
        rfl
      have htk : (kids.zipIdx (firstN sh)).take (i + 1) = (kids.zipIdx (firstN sh)).take i ++ [(d, firstN sh + i)] := by
        rw [List.take_add_one, hz]
        rfl
      have hcut : (((p, (.tuple [.str sh, .tuple ms, .tuple (pre ++ kids)] : PyData)) :: ((kids.zipIdx (firstN sh)).take (i + 1)).flatMap fun e => allD n e.1 (p ++ [e.2])).map pairD) = (((p, (.tuple [.str sh, .tuple ms, .tuple (pre ++ kids)] : PyData)) :: ((kids.zipIdx (firstN sh)).take i).flatMap fun e => allD n e.1 (p ++ [e.2])).map pairD) ++ (allD n d (p ++ [firstN sh + i])).map pairD := by
        rw [htk, List.flatMap_append, ← List.map_append, List.cons_append]
        simp
      have hle : (((p, (.tuple [.str sh, .tuple ms, .tuple (pre ++ kids)] : PyData)) :: ((kids.zipIdx (firstN sh)).take (i + 1)).flatMap fun e => allD n e.1 (p ++ [e.2])).map pairD).length ≤ sizeLine := by
        rw [List.length_map]
        refine Nat.le_trans ?_ (Nat.le_trans hlen hsm)
        rw [hfull, List.length_cons, List.length_cons]
        have := congrArg List.length (congrArg (List.flatMap fun e : PyData × Nat => allD n e.1 (p ++ [e.2])) (List.take_append_drop (i + 1) (kids.zipIdx (firstN sh))))
        rw [List.flatMap_append, List.length_append] at this
        omega
      have k5 := kH.trans (Kp.of sT)
      refine ta_one ?_
      refine (PVs.cons (PV.var rfl (td_kp k5 td)) (PVs.cons (PV.cat (PV.var (i := 1) rfl (td_kp (Kp.of (sH.trans sT)) tp)) (PV.tup (PVs.cons (PV.op0 (g := fun i j => i + j) (PV.var (i := 3) (d := .int ((firstN sh : Nat) : Int)) rfl (.int _)) (PV.var (i := 4) (d := .int ((i : Nat) : Int)) rfl (.int _))) .nil) (by show 1 ≤ 1000; decide)) (by
        rw [List.length_map]
        show p.length + 1 ≤ 1000
        omega)) .nil)) H5 _ Kp.refl fun vs6 H6 s6 t6 => ?_
      obtain ⟨y1, y2, rfl, w1, w2⟩ : ∃ a b, vs6 = [a, b] ∧ Td K H6 a d ∧ Td K H6 b (pathD (p ++ [firstN sh + i])) := by
        rw [path_app] at t6
        cases t6 with
        | cons a r =>
          cases r with
          | cons b r =>
            cases r
            exact ⟨_, _, rfl, a, b⟩
      refine ⟨y1, y2, d, p ++ [firstN sh + i], rfl, w1, w2, hk d dk, by omega, by rw [List.length_append]; show p.length + 1 + n ≤ 50; omega, fun l7 H7 ws s7 n7 e7 t7 => ?_⟩
      have sx := s6.trans s7
      have eA7 := sx _ _ (sT _ _ eA)
      have t8 := (tds_kp (Kp.of (sT.trans sx)) tds).app t7
      rw [← hcut] at t8
      have hl8 := t8.len
      rw [List.length_append] at hl8
      refine ⟨l, l7, acc, ws, rfl, rfl, eA7, e7, by omega, ?_⟩
      have kk : Kp H7 (upd H7 l (.lst (acc ++ ws))) := Kp.lst eA7
      refine ⟨⟨_, _, rfl⟩, fun b o e => ?_, (k5.trans (Kp.of sx)).trans kk, acc ++ ws, upd_same, tds_kp kk t8⟩
      have hb : b ≠ l := fun z => by rw [z, nlH] at e; cases e
      rw [upd_ne hb]
      exact sx _ _ (sT _ _ (sH _ _ e))
    · rintro σ H' ⟨⟨z4, z5, rfl⟩, sH, kH, acc, eA, tds⟩
      rw [List.take_of_length_le (by rw [List.length_zipIdx]; omega), ← hfull] at tds
      dsimp only
      exact ret_ ⟨_, rfl, q l H' acc sH nlH eA tds⟩
theorem ok_all {f fF : Addr} {fd dF : FuncData} (F : Fun K "_law_all" "_law_all" sAll f fd) (mE : mg "enumerate" = none) (bS : Binds K fd ["_law_tree", "_law_path"] []) (mS : mg "_law_all" = some (.ref f)) (CF : Cal P w K mg base "_law_first" 1 fF dF ["_law_head"] [] spFirst) : ∀ n : Nat, FnOk P w K mg base CX0 (n + 1) f fd ["_law_tree", "_law_path"] (spAll K n)
  | 0 => all_none
  | n + 1 => ok_all_step F mE bS mS CF (ok_all F mE bS mS CF n)
end
end K03

set_option Elab.async false
set_option linter.all false
set_option maxRecDepth 100000
set_option maxHeartbeats 2000000
namespace K03
open PySem PySem.Spec PyProof.Rows L2
/-! ### the number of nodes -/
def szD : Nat → PyData → Nat
  | 0, _ => 0
  | n + 1, t => 1 + ((kidsOf t).map (szD n)).sum
theorem fm_sz {β : Type} {f : PyData × Nat → List β} {g : PyData → Nat} (h : ∀ e, (f e).length = g e.1) : ∀ (l : List PyData) (k : Nat), ((l.zipIdx k).flatMap f).length = (l.map g).sum
  | [], _ => rfl
  | a :: l, k => by
    rw [List.zipIdx_cons, List.flatMap_cons, List.length_append, h, fm_sz h l (k + 1)]
    rfl
theorem all_sz : ∀ {n : Nat} {t : PyData} {p : List Nat}, (allD n t p).length = szD n t
  | 0, _, _ => rfl
  | n + 1, t, p => by
    unfold allD szD
    rw [List.length_cons, fm_sz (g := szD n) fun e => all_sz]
    omega
abbrev Wk := List (PyData × Nat)
def sumS (es : Wk) : Nat := (es.map fun e => szD e.2 e.1).sum
theorem sumS_app (a b : Wk) : sumS (a ++ b) = sumS a + sumS b := by
  unfold sumS
  rw [List.map_append, List.sum_append]
theorem sumS_kids (ks : List PyData) (n : Nat) : sumS (ks.map fun x => (x, n)) = (ks.map (szD n)).sum := by
  unfold sumS
  rw [List.map_map]
  rfl
theorem sz_pos {n : Nat} {t : PyData} (h : WT n t) : 0 < szD n t := by
  cases n with
  | zero => exact False.elim h
  | succ n =>
    unfold szD
    omega
theorem sumS_len : ∀ {es : Wk}, (∀ e ∈ es, WT e.2 e.1) → es.length ≤ sumS es
  | [], _ => Nat.zero_le _
  | e :: es, h => by
    have h1 := sz_pos (h e List.mem_cons_self)
    have h2 := sumS_len (es := es) fun x hx => h x (List.mem_cons_of_mem _ hx)
    have : sumS (e :: es) = szD e.2 e.1 + sumS es := by simp [sumS]
    rw [this, List.length_cons]
    omega
theorem tda_unsnoc {K : PySem.W.Frag} {H : Hp} {vs : List V} {ds : List PyData} {d : PyData} (h : TdAll K H vs (ds ++ [d])) : ∃ us u, vs = us ++ [u] ∧ TdAll K H us ds ∧ Td K H u d := by
  induction ds generalizing vs with
  | nil =>
    cases h with
    | cons a b =>
      cases b
      exact ⟨[], _, rfl, .nil, a⟩
  | cons x ds ih =>
    cases h with
    | cons a b =>
      obtain ⟨us, u, rfl, c, e⟩ := ih b
      exact ⟨_ :: us, u, rfl, .cons a c, e⟩
theorem split_last {α : Type} {l : List α} (h : l ≠ []) : ∃ i x, l = i ++ [x] := ⟨l.dropLast, l.getLast h, (List.dropLast_concat_getLast h).symm⟩
theorem filt_kids {n : Nat} {pre kids : List PyData} (hp : ∀ x ∈ pre, isTup x = false) (hk : ∀ x ∈ kids, WT n x) : (pre ++ kids).filter isTup = kids := by
  rw [List.filter_append, List.filter_eq_nil_iff.mpr (fun x hx => by rw [hp x hx]; exact Bool.false_ne_true), List.filter_eq_self.mpr fun x hx => (hk x hx).isTup]
  rfl
section
variable {P : Program} {w : World} {K : PySem.W.Frag} {mg : Str → Option Value} {base : Heap}
abbrev sCount : Stmt := top 6
theorem scCount : FnScope ["tree", "many", "waiting", "node", "item"] ["tree"] (defScope sCount) := ⟨rfl, rfl, rfl, by decide +kernel, rfl, by decide +kernel, by decide +kernel⟩
def spCount (K : PySem.W.Frag) : Sp := fun vs H Q _ => ∃ (v : V) (t : PyData) (n : Nat), vs = [v] ∧ Td K H v t ∧ WT n t ∧ n ≤ 7 ∧ ∀ H', Same H H' → Q (.int ((szD n t : Nat) : Int)) H'
theorem ok_count {f : Addr} {fd : FuncData} (F : Fun K "count" "count" sCount f fd) (B : BI mg) : FnOk P w K mg base CX0 1 f fd ["tree"] (spCount K) := by
  refine F.ok scCount (fun vs H Q E h => ?_) (fun cdv A outer s H vs Q E hr h => ?_)
  · obtain ⟨v, t, n, rfl, _⟩ := h
    rfl
  · obtain ⟨v, t, n, rfl, tv, wt, hn, q⟩ := h
    have hsm : szD n t ≤ sizeLine := by
      have := all_len (p := []) wt
      rw [all_sz] at this
      exact Nat.le_trans this (pow_small hn)
    refine ⟨_, pss_cons (ps_set (i := 1) scCount.nd rfl (.inl rfl) pe_int)
      (pss_cons (ps_set (i := 2) scCount.nd rfl (.inl rfl) (pe_lst (pa_cons (pv 0) pa_nil)))
      (pss_cons (ps_while PassesOwn.never (pt_truth (pv 2) (by intro _; rfl))
        (pss_cons (ps_set (i := 3) scCount.nd rfl (.inl rfl) (pe_bm0 PySem.F.plainAttrs_list PySem.F.slot_list_pop PySem.F.type_list_pop mt_pop (pv 2)))
        (pss_cons (ps_aug (i := 1) scCount.nd rfl (.inl rfl) pe_int ip_add)
        (pss_one (ps_expr (pe_bm PySem.F.plainAttrs_list PySem.F.slot_list_extend PySem.F.type_list_extend mt_extend (pv 2) (pa_cons
          (pe_lc (own := [("item", 4)]) (g := gName 4) rfl scCount.nd (pi_tup (pe_ix ix_tup (pv 3) pe_int (fun _ _ => rfl))) (blkOk_by (N := ["tree", "many", "waiting", "node", "item"]) (sc := defScope sCount) (by decide +kernel))
            (fun _ _ _ _ _ => pg_name (i := 4) scCount.nd rfl (Or.inl rfl)) (fun _ _ _ _ _ => pts_one (pt_val (pe_callB (id := "isinstance") (r := rIsi K) call_isi (by rfl) B.isi (by decide +kernel) (pa_cons (pv 4) (pa_cons (pe_bltn (v := .ty "tuple") (by rfl) B.tup (by decide +kernel) rfl) pa_nil))))) (fun _ _ _ _ _ => pv 4)) pa_nil)))))))
      (pss_one (ps_ret (pv 1))))), ?_⟩
    refine ⟨_, rfl, (by show 1 ≤ sizeLine; decide), fun l nl => ?_⟩
    have s0 : Same H (upd H l (.lst [v])) := same_new nl
    have el : (upd H l (.lst [v])) l = some (.lst [v]) := upd_same
    dsimp only [gName]
    generalize upd H l (.lst [v]) = H0 at s0 el ⊢
    refine ⟨fun m σ H1 => ∃ (es : Wk) (vs : List V) (k : Nat) (z3 z4 : Option V), m = sumS es ∧ (∀ e ∈ es, WT e.2 e.1) ∧ TdAll K H1 vs (es.map Prod.fst) ∧ k + sumS es = szD n t ∧ H1 l = some (.lst vs) ∧ Same H H1 ∧ σ = [some v, some (.int ((k : Nat) : Int)), some (.ref l), z3, z4], ?_, ?_⟩
    · exact ⟨_, [(t, n)], [v], 0, none, none, rfl, (fun e he => by rw [List.mem_singleton.mp he]; exact wt), .cons (td_kp (Kp.of s0) tv) .nil, by simp [sumS], el, s0, rfl⟩
    · rintro m σ H1 ⟨es, vs, k, z3, z4, rfl, hw, hd, hs, hl, s1, rfl⟩
      refine ⟨_, rfl, !vs.isEmpty, .inl ⟨vs, SqL.of hl, rfl⟩, ?_⟩
      rcases Nat.eq_zero_or_pos es.length with z | z
      · have e0 : es = [] := List.length_eq_zero_iff.mp z
        subst e0
        cases hd
        refine iteF ?_
        have : k = szD n t := hs
        subst this
        dsimp only
        refine ret_ ?_
        exact ⟨_, rfl, q H1 s1⟩
      · have ne : es ≠ [] := fun e => by
          rw [e] at z
          exact absurd z (by decide)
        obtain ⟨es, ⟨d, j⟩, rfl⟩ := split_last ne
        rw [List.map_append] at hd
        obtain ⟨us, u, rfl, hus, hu⟩ := tda_unsnoc hd
        have lus := hus.len
        rw [List.length_map] at lus
        refine itT (by simp) ?_
        refine ⟨fun σ' H' => ∃ m', m' < sumS (es ++ [(d, j)]) ∧ ∃ (es : Wk) (vs : List V) (k : Nat) (z3 z4 : Option V), m' = sumS es ∧ (∀ e ∈ es, WT e.2 e.1) ∧ TdAll K H' vs (es.map Prod.fst) ∧ k + sumS es = szD n t ∧ H' l = some (.lst vs) ∧ Same H H' ∧ σ' = [some v, some (.int ((k : Nat) : Int)), some (.ref l), z3, z4], fun _ _ h => h, ?_⟩
        refine ⟨_, rfl, .inl ⟨rfl, _, SqL.of hl⟩, l, _, u, rfl, rfl, hl, by simp, ?_⟩
        rw [List.dropLast_concat]
        have wd : WT j d := hw (d, j) (by simp)
        have s2 : Same H (upd H1 l (.lst us)) := fun b ob e => by
          have hb : b ≠ l := fun z => by rw [z, nl] at e; cases e
          rw [upd_ne hb]
          exact s1 _ _ e
        have k2 : Kp H1 (upd H1 l (.lst us)) := Kp.lst hl
        have hl2 : (upd H1 l (.lst us)) l = some (.lst us) := upd_same
        have hus2 := tds_kp k2 hus
        have hu2 := td_kp k2 hu
        clear hus hu
        generalize upd H1 l (.lst us) = H2 at s2 k2 hl2 hus2 hu2 ⊢
        cases j with
        | zero => exact False.elim wd
        | succ j =>
          have hkn := sumS_app es [(d, j + 1)]
          have e1 : sumS [(d, j + 1)] = szD (j + 1) d := by simp [sumS]
          have e2 : szD (j + 1) d = 1 + sumS ((kidsOf d).map fun x => (x, j)) := by rw [sumS_kids]; rfl
          obtain ⟨sh, ms, pre, kids, rfl, g1, g2, g3, g4, hp, hk, hkl, hl2', hf⟩ := wd.shape
          rw [g3] at e2
          refine ⟨_, rfl, _, _, rfl, rfl, ?_⟩
          dsimp only [gName, List.set]
          refine drop_ ⟨_, rfl, .inl ⟨rfl, _, SqL.of hl2⟩, ta_one ?_⟩
          refine (PV.ix (i := 2) (PV.var (i := 3) rfl hu2) PV.int rfl) H2 _ Kp.refl fun v4 H4 s4 t4 => ?_
          obtain ⟨a, xs, rfl, hsq, hr⟩ := td_tup t4
          refine ⟨a, rfl, ⟨xs, hsq⟩, fun D nD => ?_⟩
          have hxl := hr.len
          have nlD : D ≠ l := fun z => by rw [z, s4 _ _ hl2] at nD; cases nD
          refine lc_tup (K := K) (a := a) (xs := xs) (fun i H5 => Same H4 H5 ∧ ∃ acc, H5 D = some (.lst acc) ∧ TdAll K H5 acc (((pre ++ kids).take i).filter isTup)) ⟨same_new nD, [], upd_same, .nil⟩ (fun i H5 _ p => sqt_kp (Kp.of p.1) hsq) ?_ ?_
          · rintro i x H5 hx ⟨s5, acc, eD, tds⟩
            obtain ⟨c, hc, tc⟩ := hr.get hx
            have li := (List.getElem?_eq_some_iff.mp hx).1
            refine ⟨rfl, ?_⟩
            have tc5 := td_kp (Kp.of s5) tc
            refine ⟨_, rfl, x, _, _, _, _, rfl, .ty _, ty_of (td_dp tc5), k_tup, _, rfl, ?_⟩
            have hcut : ((pre ++ kids).take (i + 1)).filter isTup = ((pre ++ kids).take i).filter isTup ++ (if isTup c = true then [c] else []) := by
              rw [List.take_add_one, hc, List.filter_append]
              congr 1
              cases h : isTup c <;> simp [h]
            refine ite2 (fun cT => ?_) (fun cF => ?_)
            · rw [if_pos cT] at hcut
              refine ⟨_, rfl, acc, eD, ?_, fun b o e => ?_, acc ++ [x], upd_same, ?_⟩
              · have := tds.len
                have z1 := List.length_filter_le isTup ((pre ++ kids).take i)
                rw [List.length_take] at z1
                rw [List.length_append] at hxl
                exact small1000 (by omega)
              · have hb : b ≠ D := fun z => by rw [z, nD] at e; cases e
                rw [upd_ne hb]
                exact s5 _ _ e
              · have kk : Kp H5 (upd H5 D (.lst (acc ++ [x]))) := Kp.lst eD
                rw [hcut]
                exact (tds_kp kk tds).app (.cons (td_kp kk tc5) .nil)
            · rw [if_neg cF, List.append_nil] at hcut
              exact ⟨s5, acc, eD, by rw [hcut]; exact tds⟩
          · rintro H5 ⟨s5, acc, eD, tds⟩
            rw [List.take_of_length_le (by omega), filt_kids hp hk] at tds
            have s45 := s4.trans s5
            have hl5 := s45 _ _ hl2
            have hw2 : ∀ e ∈ es ++ kids.map fun x => (x, j), WT e.2 e.1 := fun e he => by
              rcases List.mem_append.mp he with he | he
              · exact hw e (List.mem_append_left _ he)
              · obtain ⟨x, hx, rfl⟩ := List.mem_map.mp he
                exact hk x hx
            have hlen2 := sumS_len hw2
            rw [List.length_append, List.length_map] at hlen2
            have hS2 := sumS_app es (kids.map fun x => (x, j))
            have lacc := tds.len
            refine ⟨l, D, us, acc, rfl, rfl, hl5, eD, by omega, ?_⟩
            have kk : Kp H5 (upd H5 l (.lst (us ++ acc))) := Kp.lst hl5
            refine ⟨_, ?_, es ++ kids.map fun x => (x, j), us ++ acc, k + 1, _, _, rfl, hw2, ?_, by omega, upd_same, ?_, rfl⟩
            · omega
            · rw [List.map_append, List.map_map]
              have : (Prod.fst ∘ fun x : PyData => (x, j)) = id := rfl
              rw [this, List.map_id]
              exact (tds_kp ((Kp.of s45).trans kk) hus2).app (tds_kp kk tds)
            · intro b o e
              have hb : b ≠ l := fun z => by rw [z, nl] at e; cases e
              rw [upd_ne hb]
              exact s45 _ _ (s2 _ _ e)
end
end K03

set_option Elab.async false
set_option linter.all false
set_option maxRecDepth 100000
set_option maxHeartbeats 2000000
namespace K03
open PySem PySem.Spec PyProof.Rows L2 GenW GF
abbrev sInked : Stmt := top 7
abbrev nGI : List Str := ["tree", "waiting", "path", "node", "items", "at"]
theorem gsInked : GScope nGI ["tree"] (defScope sInked) := ⟨rfl, rfl, rfl, by decide +kernel, rfl, by decide +kernel, by decide +kernel⟩
theorem ndI : nGI.Nodup := gsInked.nd
def tTruK (K : PySem.W.Frag) (ta : TE) : TT := fun σ H Q => ta σ H fun x H' => ∃ k, TruV K x H' k ∧ Q k H'
def rLenK (K : PySem.W.Frag) : List V → Hp → VK → Prop := fun xs H Q => ∃ p ys, xs = [V.ref p] ∧ (SqL K H p ys ∨ SqT K H p ys) ∧ Q (.int ys.length) H
def tInkF (K : PySem.W.Frag) : TS := tFor (iRevR (tRg1 (tCB (rLenK K) (tCons (tVar 4) tNil)))) (gName 5)
  (tIfS (tB (tCB (rIsi K) (tCons (tOp (rIxT K) (tVar 4) (tVar 5)) (tCons (tC (.ty "tuple")) tNil)))) (tDrop (tBM K "list" rAppend (tVar 1) (tCons (tTup (tCons (tOp (rCatA K) (tVar 2) (tTup (tCons (tVar 5) tNil))) (tCons (tOp (rIxT K) (tVar 4) (tVar 5)) tNil))) tNil))) tNext)
def tInkB (K : PySem.W.Frag) : TS := tSeq (tAsg (tOp (rIxT K) (tVar 3) (tC (.int 2))) (gName 4)) (tInkF K)
def tInkY (K : PySem.W.Frag) (Y : Hd) : TGn := tGIf (tTruK K (tOp (rIxT K) (tVar 3) (tC (.int 1)))) (tGThen (tGHand Y (tTup (tCons (tVar 2) (tCons (tOp (rIxT K) (tVar 3) (tC (.int 1))) tNil)))) tG0) tG0
def tInkP (K : PySem.W.Frag) : TS := tAsg (tBM0 K "list" rPop (tVar 1)) (gTup K 2 (gCons (gName 2) (gCons (gName 3) gNil)))
def tInk (K : PySem.W.Frag) (Y : Hd) : TGn := tGThen (tPlain (tAsg (tLst (tCons (tTup (tCons (tTup tNil) (tCons (tVar 0) tNil))) tNil)) (gName 1)))
  (tGThen (tGWhile (tTruK K (tVar 1)) (tGThen (tPlain (tInkP K)) (tGThen (tInkY K Y) (tPlain (tInkB K))))) tG0)
section
variable {K : PySem.W.Frag} {mg : Str → Option Value}
theorem gt_inked {P' : Program} {w' : World} {base' : Heap} {A' : Around} {outer' : List Env} {n0 : Nat} {a : Addr} {go : Obj} {X' : Cx} {pins' : List (Addr × Obj)} {Sg' : L2.St → Prop} {f : Addr} {cdv : Value} {Y : Hd} (hY : HdOk Y) (B : BI mg) (mR : mg "reversed" = none) (mr : mg "range" = none) :
    GTs ⟨P', w', K, mg, base', nGI, A', envOfC "inked" (defScope sInked) n0 f cdv, outer', n0, a, go, X', pins', Sg'⟩ Y (defBody sInked) (tInk K Y) := by
  refine gts_cons (gt_ps fun s0 H0 => ps_set (i := 1) ndI rfl (.inl rfl) (pe_lst (pa_cons (pe_tup (pa_cons (pe_tup pa_nil) (pa_cons (pv 0) pa_nil))) pa_nil))) (gts_one (gt_while (fun s0 H0 => pt_truth (pv 1) (by intro _; rfl)) ?_))
  refine gts_cons (gt_ps fun s0 H0 => ps_asg (pe_bm0 PySem.F.plainAttrs_list PySem.F.slot_list_pop PySem.F.type_list_pop mt_pop (pv 1)) (pg_tup rfl (pgs_cons (pg_name (i := 2) ndI rfl (.inl rfl)) (pgs_cons (pg_name (i := 3) ndI rfl (.inl rfl)) pgs_nil)))) ?_
  refine gts_cons (gt_if (fun s0 H0 => pt_truth (pe_ix ix_tup (pv 3) pe_int (fun _ _ => rfl)) (by intro _; rfl)) (gts_one (gt_yield hY (fun s0 H0 => pe_tup (pa_cons (pv 2) (pa_cons (pe_ix ix_tup (pv 3) pe_int (fun _ _ => rfl)) pa_nil))))) gts_nil) ?_
  exact gts_pss fun s0 H0 => pss_cons (ps_set (i := 4) ndI rfl (.inl rfl) (pe_ix ix_tup (pv 3) pe_int (fun _ _ => rfl)))
          (pss_one (ps_for PassesOwn.never rfl (pi_revR (by rfl) mR (prg_1 (by rfl) mr (pe_callB (id := "len") call_len_seq (by rfl) B.len PySem.boot_len (pa_cons (pv 4) pa_nil)))) (pg_name (i := 5) ndI rfl (.inl rfl))
            (pss_one (ps_if (pt_val (pe_callB (id := "isinstance") (r := rIsi K) call_isi (by rfl) B.isi (by decide +kernel) (pa_cons (pe_ix ix_tup (pv 4) (pv 5) (fun _ _ => rfl)) (pa_cons (pe_bltn (v := .ty "tuple") (by rfl) B.tup (by decide +kernel) rfl) pa_nil))))
              (pss_one (ps_expr (pe_bm PySem.F.plainAttrs_list PySem.F.slot_list_append PySem.F.type_list_append mt_append (pv 1) (pa_cons (pe_tup (pa_cons (pe_op op_catA (pv 2) (pe_tup (pa_cons (pv 5) pa_nil))) (pa_cons (pe_ix ix_tup (pv 4) (pv 5) (fun _ _ => rfl)) pa_nil))) pa_nil)))) pss_nil))))
/-! ### an if of a generator that hands all out -/
theorem gs_if {X : Cx} {test : Expr} {body orelse : List Stmt} {pos : Pos} {tc : TT} {tb te : TGn} (hc : PT X test tc) (hb : GSs X body tb) (he : GSs X orelse te) : GS X (.If test body orelse pos) (tGIf tc tb te) := by
  refine ⟨fun A S ip R n ys s₀ c fs K J gd lv s σ H D g hn k hI ht => ?_⟩
  obtain ⟨acc, cc, r, I⟩ := hI
  rw [exec_If]
  refine seg_bind_wrap (wpAny_standAt ?_)
  refine seg_bind_wrap ?_
  rw [g.over]
  refine wpAny_mono (hc.run _ s σ H _ I ht) (fun b s1 hs => ?_) fun x s' hx => k.exc n s₀ x s' hx
  obtain ⟨H1, I1, q⟩ := hs
  cases b with
  | true =>
    rw [if_pos rfl] at q
    exact hb.run A S ip R n ys s₀ c fs K J gd lv s1 σ H1 D g hn k ⟨acc, cc, r, I1⟩ q
  | false =>
    rw [if_neg Bool.false_ne_true] at q
    exact he.run A S ip R n ys s₀ c fs K J gd lv s1 σ H1 D g hn k ⟨acc, cc, r, I1⟩ q
abbrev Y0 : Hd := fun _ H k => k H
theorem gs_inked {P : Program} {w : World} {base : Heap} {f : Addr} {cdv : Value} {A : Around} {outer : List Env} {s : Shared} {H : Hp} {E : XK} {pn : List (Addr × Obj)} (B : BI mg) (mR : mg "reversed" = none) (mr : mg "range" = none) :
    GSs (gcxOf P w K mg base nGI "inked" (defScope sInked) f cdv A outer s H E pn) (defBody sInked) (tInk K Y0) := by
  refine gss_cons (gs_ps (ps_set (i := 1) ndI rfl (.inl rfl) (pe_lst (pa_cons (pe_tup (pa_cons (pe_tup pa_nil) (pa_cons (pv 0) pa_nil))) pa_nil)))) (gss_cons (gs_while owns_gcx (pt_truth (pv 1) (by intro _; rfl)) ?_) gss_nil)
  refine gss_cons (gs_ps (ps_asg (pe_bm0 PySem.F.plainAttrs_list PySem.F.slot_list_pop PySem.F.type_list_pop mt_pop (pv 1)) (pg_tup rfl (pgs_cons (pg_name (i := 2) ndI rfl (.inl rfl)) (pgs_cons (pg_name (i := 3) ndI rfl (.inl rfl)) pgs_nil))))) ?_
  refine gss_cons (gs_if (pt_truth (pe_ix ix_tup (pv 3) pe_int (fun _ _ => rfl)) (by intro _; rfl)) (gss_cons (gs_yield (pe_tup (pa_cons (pv 2) (pa_cons (pe_ix ix_tup (pv 3) pe_int (fun _ _ => rfl)) pa_nil)))) gss_nil) gss_nil) ?_
  exact gss_pss (pss_cons (ps_set (i := 4) ndI rfl (.inl rfl) (pe_ix ix_tup (pv 3) pe_int (fun _ _ => rfl)))
          (pss_one (ps_for owns_gcx rfl (pi_revR (by rfl) mR (prg_1 (by rfl) mr (pe_callB (id := "len") call_len_seq (by rfl) B.len PySem.boot_len (pa_cons (pv 4) pa_nil)))) (pg_name (i := 5) ndI rfl (.inl rfl))
            (pss_one (ps_if (pt_val (pe_callB (id := "isinstance") (r := rIsi K) call_isi (by rfl) B.isi (by decide +kernel) (pa_cons (pe_ix ix_tup (pv 4) (pv 5) (fun _ _ => rfl)) (pa_cons (pe_bltn (v := .ty "tuple") (by rfl) B.tup (by decide +kernel) rfl) pa_nil))))
              (pss_one (ps_expr (pe_bm PySem.F.plainAttrs_list PySem.F.slot_list_append PySem.F.type_list_append mt_append (pv 1) (pa_cons (pe_tup (pa_cons (pe_op op_catA (pv 2) (pe_tup (pa_cons (pv 5) pa_nil))) (pa_cons (pe_ix ix_tup (pv 4) (pv 5) (fun _ _ => rfl)) pa_nil))) pa_nil)))) pss_nil)))))
end
end K03

set_option Elab.async false
set_option linter.all false
set_option maxRecDepth 100000
set_option maxHeartbeats 2000000
namespace K03
open PySem PySem.Spec PyProof.Rows L2 GenW GF
/-! ### the nodes that have ink, in preorder -/
def inkP (e : List Nat × PyData) : PyData := .tuple [pathD e.1, .tuple (inkOf e.2)]
def ikD (n : Nat) (t : PyData) (p : List Nat) : List PyData := ((allD n t p).filter fun e => !(inkOf e.2).isEmpty).map inkP
theorem ik_succ (n : Nat) (t : PyData) (p : List Nat) : ikD (n + 1) t p = (if (inkOf t).isEmpty = true then [] else [inkP (p, t)]) ++ ((kidsOf t).zipIdx (fOf t)).flatMap fun e => ikD n e.1 (p ++ [e.2]) := by
  have e : allD (n + 1) t p = (p, t) :: ((kidsOf t).zipIdx (fOf t)).flatMap fun e => allD n e.1 (p ++ [e.2]) := rfl
  unfold ikD
  rw [e, List.filter_cons, List.filter_flatMap]
  cases h : (inkOf t).isEmpty <;> simp [h, List.map_flatMap]
theorem ik_len (n : Nat) (t : PyData) (p : List Nat) : (ikD n t p).length ≤ szD n t := by
  unfold ikD
  rw [List.length_map, ← all_sz (p := p)]
  exact List.length_filter_le ..
abbrev En := (List Nat × PyData) × Nat
def qE (e : En) : PyData × Nat := (e.1.2, e.2)
def ikS (es : List En) : List PyData := es.reverse.flatMap fun e => ikD e.2 e.1.2 e.1.1
def push (f n : Nat) (p : List Nat) (kids : List PyData) : List En := (kids.zipIdx f).reverse.map fun e => ((p ++ [e.2], e.1), n)
theorem ikS_push {es : List En} {f n : Nat} {p : List Nat} {kids : List PyData} : ikS (es ++ push f n p kids) = ((kids.zipIdx f).flatMap fun e => ikD n e.1 (p ++ [e.2])) ++ ikS es := by
  unfold ikS push
  rw [List.reverse_append, List.flatMap_append, ← List.map_reverse, List.reverse_reverse, List.flatMap_map]
theorem ikS_top {es : List En} {e : En} : ikS (es ++ [e]) = ikD e.2 e.1.2 e.1.1 ++ ikS es := by
  unfold ikS
  rw [List.reverse_append, List.flatMap_append]
  simp
theorem sumS_rev (l : Wk) : sumS l.reverse = sumS l := by
  unfold sumS
  induction l with
  | nil => rfl
  | cons a l ih =>
    rw [List.reverse_cons, List.map_append, List.sum_append, ih]
    simp
    omega
theorem sum_zip (n : Nat) : ∀ (l : List PyData) (k : Nat), sumS ((l.zipIdx k).map fun e => (e.1, n)) = sumS (l.map fun x => (x, n))
  | [], _ => rfl
  | a :: l, k => by
    have ih := sum_zip n l (k + 1)
    unfold sumS at ih ⊢
    rw [List.zipIdx_cons]
    simp only [List.map_cons, List.sum_cons]
    rw [ih]
theorem sum_push {f n : Nat} {p : List Nat} {kids : List PyData} : sumS ((push f n p kids).map qE) = (kids.map (szD n)).sum := by
  unfold push
  rw [List.map_map]
  show sumS ((kids.zipIdx f).reverse.map fun e => (e.1, n)) = _
  rw [List.map_reverse, sumS_rev, sum_zip, sumS_kids]
theorem push_of {n : Nat} {p : List Nat} {pre kids : List PyData} (hp : ∀ x ∈ pre, isTup x = false) (hk : ∀ x ∈ kids, WT n x) :
    (((pre ++ kids).zipIdx 0).reverse.filter fun e => isTup e.1).map (fun e : PyData × Nat => pairD (p ++ [e.2], e.1)) = (push pre.length n p kids).map fun e => pairD e.1 := by
  unfold push
  rw [List.map_map, List.filter_reverse, List.zipIdx_append, List.filter_append, List.filter_eq_nil_iff.mpr (fun x hx => by rw [hp _ (zi_mem hx)]; exact Bool.false_ne_true), List.filter_eq_self.mpr fun x hx => (hk _ (zi_mem hx)).isTup]
  rw [List.nil_append, Nat.zero_add]
  rfl
/-- what stood at H0 stays -/
def Own (H0 H H' : Hp) : Prop := ∀ b o, H0 b ≠ none → H b = some o → H' b = some o
theorem Own.of {H0 H H' : Hp} (s : Same H H') : Own H0 H H' := fun b o _ e => s b o e
theorem Own.upd {H0 H : Hp} {l : Addr} {o : HO} (n : H0 l = none) : Own H0 H (upd H l o) := fun b u h e => by
  rw [upd_ne (fun z => h (by rw [z]; exact n))]
  exact e
section
variable {K : PySem.W.Frag}
theorem ifT_ {H0 : Hp} {te : TE} {A B : TS} {D : Ends} {σ : L2.St} {H : Hp} {d : PyData} (hv : PV K H0 σ te d) (k : Kp H0 H) (q : ∀ H1, Same H H1 → if isTup d = true then A D σ H1 else B D σ H1) :
    tIfS (tB (tCB (rIsi K) (tCons te (tCons (tC (.ty "tuple")) tNil)))) A B D σ H :=
  hv H _ k fun v H1 s1 t1 => ⟨v, _, _, _, _, rfl, .ty _, ty_of (td_dp t1), k_tup, _, rfl, q H1 s1⟩
theorem forRev_ {te : TE} {g : TG} {tb : TS} {D : Ends} {σ : L2.St} {H : Hp} {a : Addr} {xs : List V} (h : te σ H fun x H1 => x = .ref a ∧ SqT K H1 a xs ∧ tFor (fun _ H2 R => R (Itc (0 + ((((xs.length : Int) - 0).toNat : Nat) : Int) - 1) (-1) ((xs.length : Int) - 0).toNat) H2) g tb D σ H1) (l : xs.length ≤ 1000)
    (mono : ∀ Q Q' : VK, (∀ v H', Q v H' → Q' v H') → te σ H Q → te σ H Q') : tFor (iRevR (tRg1 (tCB (rLenK K) (tCons te tNil)))) g tb D σ H := by
  refine mono _ _ (fun v H' ⟨e, hs, q⟩ => ?_) h
  subst e
  exact ⟨a, xs, rfl, .inr hs, _, rfl, by decide, by decide, by omega, by omega, q⟩
end
end K03

set_option Elab.async false
set_option linter.all false
set_option maxRecDepth 100000
set_option maxHeartbeats 4000000
namespace K03
open PySem PySem.Spec PyProof.Rows L2 GenW GF
theorem small9 {n k : Nat} (h : n ≤ 9 ^ 7) (hk : k ≤ 1000) : n + k < sizeLine := Nat.lt_of_le_of_lt (Nat.add_le_add h hk) (by decide)
section
variable {K : PySem.W.Frag}
/-- the items of a node go in from the last to the first -/
theorem rd_push {H0 : Hp} {v : V} {wl : Addr} {p : List Nat} {sh : Str} {ms pre kids : List PyData} {j : Nat} {vp vn : V} {D : Ends} {σ : L2.St} {H : Hp} {vs : List V} {old : List PyData} {z4 z5 : Option V}
    (eσ : σ = [some v, some (.ref wl), some vp, some vn, z4, z5]) (hw : H0 wl = none) (tp : Td K H vp (pathD p)) (tn : Td K H vn (.tuple [.str sh, .tuple ms, .tuple (pre ++ kids)])) (hl : H wl = some (.lst vs)) (ho : TdAll K H vs old)
    (hpre : ∀ x ∈ pre, isTup x = false) (hkid : ∀ x ∈ kids, WT j x) (hkl : kids.length ≤ 8) (hpl : pre.length ≤ 2) (lp : p.length ≤ 50) (lv : vs.length ≤ 9 ^ 7)
    (q : ∀ z4 z5 H' vs', Own H0 H H' → Kp H H' → H' wl = some (.lst vs') → TdAll K H' vs' (old ++ (push pre.length j p kids).map fun e => pairD e.1) → D.nx [some v, some (.ref wl), some vp, some vn, z4, z5] H') :
    tInkB K D σ H := by
  subst eσ
  unfold tInkB
  refine seq_asg ?_
  refine (PV.ix (i := 2) (PV.var (i := 3) rfl tn) PV.int rfl) H _ Kp.refl fun v2 H2 s2 t2 => ?_
  obtain ⟨a, xs, rfl, hs, hr⟩ := td_tup t2
  have hxl := hr.len
  rw [List.length_append] at hxl
  unfold tInkF
  refine forRev_ (a := a) (xs := xs) ⟨.ref a, rfl, rfl, hs, ?_⟩ (by omega) (fun Q Q' h ⟨v, e, q⟩ => ⟨v, e, h _ _ q⟩)
  have eN : ((xs.length : Int) - 0).toNat = xs.length := by omega
  have hl2 := s2 _ _ hl
  refine for_it walk_rangeC (fun i σ H' => (∃ z5, σ = [some v, some (.ref wl), some vp, some vn, some (.ref a), z5]) ∧ Own H0 H H' ∧ Kp H2 H' ∧ ∃ acc, H' wl = some (.lst acc) ∧ TdAll K H' acc (old ++ ((((pre ++ kids).zipIdx 0).reverse.take i).filter fun e => isTup e.1).map fun e : PyData × Nat => pairD (p ++ [e.2], e.1)))
    ⟨⟨_, rfl⟩, Own.of s2, Kp.refl, vs, hl2, by rw [List.take_zero, List.filter_nil, List.map_nil, List.append_nil]; exact tds_kp (Kp.of s2) ho⟩ (fun _ _ _ _ _ => trivial) ?_ ?_
  · rintro i x σ G H' hi ⟨⟨z5, rfl⟩, oH, kH, acc, eA, tds⟩ ⟨e1, e2⟩
    subst e1
    subst e2
    dsimp only
    rw [eN] at hi ⊢
    have ex : (0 + (xs.length : Int) - 1 + (i : Nat) * (-1 : Int)) = ((xs.length - 1 - i : Nat) : Int) := by omega
    rw [ex]
    show tIfS _ _ _ _ _ H'
    have hlt : xs.length - 1 - i < (pre ++ kids).length := by
      rw [List.length_append]
      omega
    have hd := List.getElem?_eq_getElem hlt
    generalize (pre ++ kids)[xs.length - 1 - i] = d at hd
    have tit : Td K H' (.ref a) (.tuple (pre ++ kids)) := .tup (sqt_kp kH hs) (tds_kp kH hr)
    have tat : Td K H' (.int ((xs.length - 1 - i : Nat) : Int)) (.int ((xs.length - 1 - i : Nat) : Int)) := .int _
    have hR : ((pre ++ kids).zipIdx 0).reverse[i]? = some (d, xs.length - 1 - i) := by
      rw [List.getElem?_reverse (by rw [List.length_zipIdx, List.length_append]; omega), List.length_zipIdx, List.getElem?_zipIdx, List.length_append, ← hxl, hd]
      simp
    have hcut : ((((pre ++ kids).zipIdx 0).reverse.take (i + 1)).filter fun e => isTup e.1).map (fun e : PyData × Nat => pairD (p ++ [e.2], e.1)) = ((((pre ++ kids).zipIdx 0).reverse.take i).filter fun e => isTup e.1).map (fun e : PyData × Nat => pairD (p ++ [e.2], e.1)) ++ (if isTup d = true then [pairD (p ++ [xs.length - 1 - i], d)] else []) := by
      rw [List.take_add_one, hR, List.filter_append, List.map_append]
      congr 1
      cases h : isTup d <;> simp [h]
    refine ifT_ (H0 := H') (PV.ix (ds := pre ++ kids) (PV.var (i := 4) rfl tit) (PV.var (i := 5) rfl tat) hd) Kp.refl fun H7 s7 => ?_
    have eA7 := s7 _ _ eA
    refine ite2 (fun c => ?_) (fun c => ?_)
    · rw [if_pos c] at hcut
      refine drop_ ⟨_, rfl, .inl ⟨rfl, _, SqL.of eA7⟩, ta_one ?_⟩
      refine (PV.tup (PVs.cons (PV.cat (PV.var (i := 2) rfl (td_kp ((Kp.of s2).trans (kH.trans (Kp.of s7))) tp)) (PV.tup (PVs.cons (PV.var (i := 5) rfl (td_kp (Kp.of s7) tat)) .nil) (by show 1 ≤ 1000; decide)) (by
        rw [List.length_map]
        show p.length + 1 ≤ 1000
        omega)) (PVs.cons (PV.ix (ds := pre ++ kids) (PV.var (i := 4) rfl (td_kp (Kp.of s7) tit)) (PV.var (i := 5) rfl (td_kp (Kp.of s7) tat)) hd) .nil)) (by show 2 ≤ 1000; decide)) H7 _ Kp.refl fun v8 H8 s8 t8 => ?_
      have eA8 := s8 _ _ eA7
      have e8 : (.tuple [.tuple ((p.map fun i : Nat => PyData.int (i : Int)) ++ [.int ((xs.length - 1 - i : Nat) : Int)]), d] : PyData) = pairD (p ++ [xs.length - 1 - i], d) := by
        unfold pairD pathD
        rw [List.map_append]
        rfl
      rw [e8] at t8
      have lacc : acc.length ≤ 9 ^ 7 + 20 := by
        have h1 := tds.len
        have h2 := ho.len
        rw [List.length_append, List.length_map] at h1
        have h3 := List.length_filter_le (fun e : PyData × Nat => isTup e.1) (((pre ++ kids).zipIdx 0).reverse.take i)
        have h4 : ((((pre ++ kids).zipIdx 0).reverse).take i).length ≤ i := by rw [List.length_take]; exact Nat.min_le_left _ _
        omega
      refine ⟨wl, acc, _, rfl, rfl, eA8, Nat.lt_of_le_of_lt lacc (by decide), ?_⟩
      have kk : Kp H8 (upd H8 wl (.lst (acc ++ [v8]))) := Kp.lst eA8
      have s78 := s7.trans s8
      refine ⟨⟨_, rfl⟩, fun b o h e => ?_, (kH.trans (Kp.of s78)).trans kk, acc ++ [v8], upd_same, ?_⟩
      · rw [upd_ne (fun z => h (by rw [z]; exact hw))]
        exact s78 _ _ (oH b o h e)
      · rw [hcut, ← List.append_assoc]
        exact (tds_kp ((Kp.of s78).trans kk) tds).app (.cons (td_kp kk t8) .nil)
    · rw [if_neg c, List.append_nil] at hcut
      refine nx_ ?_
      exact ⟨⟨_, rfl⟩, fun b o h e => s7 _ _ (oH b o h e), kH.trans (Kp.of s7), acc, eA7, by rw [hcut]; exact tds_kp (Kp.of s7) tds⟩
  · rintro σ H' ⟨⟨z5, rfl⟩, oH, kH, acc, eA, tds⟩
    rw [eN, List.take_of_length_le (by rw [List.length_reverse, List.length_zipIdx, List.length_append]; omega), push_of (n := j) hpre hkid] at tds
    exact q _ _ H' acc oH ((Kp.of s2).trans kH) eA tds
end
end K03

set_option Elab.async false
set_option linter.all false
set_option maxRecDepth 100000
set_option maxHeartbeats 4000000
namespace K03
open PySem PySem.Spec PyProof.Rows L2 GenW GF
theorem gth_ {t u : TGn} {D : GEnds} {ys : List V} {σ : L2.St} {H : Hp} (h : t { D with nx := fun ys' σ' H' => u D ys' σ' H' } ys σ H) : tGThen t u D ys σ H := h
theorem gpl_ {t : TS} {D : GEnds} {ys : List V} {σ : L2.St} {H : Hp} (h : t (D.at ys) σ H) : tPlain t D ys σ H := h
def WI (K : PySem.W.Frag) (Out : List V → Hp → Prop) (v : V) (wl : Addr) (n : Nat) (t : PyData) (m : Nat) (ys : List V) (σ : L2.St) (H : Hp) : Prop :=
  ∃ (es : List En) (vs : List V) (z2 z3 z4 z5 : Option V) (done : List PyData), m = sumS (es.map qE) ∧ m ≤ szD n t ∧ (∀ e ∈ es, WT e.2 e.1.2 ∧ e.1.1.length + e.2 ≤ 20) ∧ TdAll K H vs (es.map fun e => pairD e.1) ∧ H wl = some (.lst vs) ∧ Out ys H ∧ TdAll K H ys done ∧ done ++ ikS es = ikD n t [] ∧ σ = [some v, some (.ref wl), z2, z3, z4, z5]
def NI (K : PySem.W.Frag) (Out : List V → Hp → Prop) (v : V) (wl : Addr) (n : Nat) (t : PyData) (M : Nat) : List V → L2.St → Hp → Prop := fun ys σ H => ∃ m, m < M ∧ WI K Out v wl n t m ys σ H
section
variable {K : PySem.W.Frag}
theorem truT {H : Hp} {a : Addr} {xs : List V} (h : SqT K H a xs) : TruV K (.ref a) H (!xs.isEmpty) := .inr (.inl ⟨xs, h, rfl⟩)
theorem tru_ {H0 : Hp} {te : TE} {A B : TGn} {D : GEnds} {ys : List V} {σ : L2.St} {H : Hp} {ds : List PyData} (hv : PV K H0 σ te (.tuple ds)) (k : Kp H0 H) (q : ∀ H1, Same H H1 → if (!ds.isEmpty) = true then A D ys σ H1 else B D ys σ H1) : tGIf (tTruK K te) A B D ys σ H :=
  hv H _ k fun v H1 s1 t1 => by
    obtain ⟨a, xs, rfl, hs, hr⟩ := td_tup t1
    have e : xs.isEmpty = ds.isEmpty := by
      cases hr <;> rfl
    refine ⟨_, truT hs, ?_⟩
    rw [e]
    exact q H1 s1
/-- what the generator hands out, whatever is done with it -/
theorem rd_inked {Y : Hd} {D : GEnds} {H0 : Hp} {v : V} {t : PyData} {n : Nat} (Out : List V → Hp → Prop) (tv : Td K H0 v t) (wt : WT n t) (hn : n ≤ 7) (o0 : Out [] H0)
    (hO : ∀ ys H H', Out ys H → Own H0 H H' → Out ys H')
    (hY : ∀ ys x H k, Out ys H → TdAll K H (ys ++ [x]) ((ikD n t []).take (ys.length + 1)) → (∀ H2, Out (ys ++ [x]) H2 → Kp H H2 → (∀ b, H0 b = none → H2 b = H b) → k H2) → Y x H k)
    (hE : ∀ ys σ H, Out ys H → TdAll K H ys (ikD n t []) → D.nx ys σ H) : tInk K Y D [] (start nGI [v]) H0 := by
  have hsm : szD n t ≤ 9 ^ 7 := by
    have := all_len (p := []) wt
    rw [all_sz] at this
    exact Nat.le_trans this (Nat.pow_le_pow_right (by decide) hn)
  have hik := ik_len n t []
  unfold tInk
  refine gth_ (gpl_ ?_)
  -- the first entry
  refine ⟨Nat.zero_le _, fun pe ne => ?_⟩
  have s1 : Same H0 (upd H0 pe (.tup [])) := same_new ne
  have t1 : Td K (upd H0 pe (.tup [])) (.ref pe) (.tuple []) := .tup (SqT.of upd_same) .nil
  generalize upd H0 pe (.tup []) = H1 at s1 t1 ⊢
  refine ⟨v, rfl, (by show 2 ≤ sizeLine; decide), fun pr nr => ?_⟩
  have s2 : Same H1 (upd H1 pr (.tup [.ref pe, v])) := same_new nr
  have t2 : Td K (upd H1 pr (.tup [.ref pe, v])) (.ref pr) (pairD ([], t)) := .tup (SqT.of upd_same) (.cons (td_kp (Kp.of s2) t1) (.cons (td_kp (Kp.of (s1.trans s2)) tv) .nil))
  generalize upd H1 pr (.tup [.ref pe, v]) = H2 at s2 t2 ⊢
  refine ⟨(by show 1 ≤ sizeLine; decide), fun wl nl => ?_⟩
  have s3 : Same H2 (upd H2 wl (.lst [.ref pr])) := same_new nl
  have el : (upd H2 wl (.lst [.ref pr])) wl = some (.lst [.ref pr]) := upd_same
  have hw : H0 wl = none := by
    cases e : H0 wl with
    | none => rfl
    | some o => rw [s2 _ _ (s1 _ _ e)] at nl; cases nl
  have sA : Same H0 (upd H2 wl (.lst [.ref pr])) := s1.trans (s2.trans s3)
  have t3 := td_kp (Kp.of s3) t2
  show tGThen (tGWhile (tTruK K (tVar 1)) (tGThen (tPlain (tInkP K)) (tGThen (tInkY K Y) (tPlain (tInkB K))))) tG0 D [] [some v, some (.ref wl), none, none, none, none] (upd H2 wl (.lst [.ref pr]))
  generalize upd H2 wl (.lst [.ref pr]) = H3 at s3 el sA t3 ⊢
  refine gth_ ?_
  refine ⟨WI K Out v wl n t, ?_, ?_⟩
  · refine ⟨_, [(([], t), n)], [.ref pr], none, none, none, none, [], rfl, by simp [sumS, qE], fun e he => ?_, .cons t3 .nil, el, hO _ _ _ o0 (Own.of sA), .nil, by simp [ikS], rfl⟩
    rw [List.mem_singleton.mp he]
    exact ⟨wt, by show 0 + n ≤ 20; omega⟩
  · rintro m ys σ H ⟨es, vs, z2, z3, z4, z5, done, rfl, hm, hes, hvs, hl, ho, hdn, hdue, rfl⟩
    refine ⟨_, rfl, !vs.isEmpty, .inl ⟨vs, SqL.of hl, rfl⟩, ?_⟩
    rcases Nat.eq_zero_or_pos es.length with z | z
    · have e0 : es = [] := List.length_eq_zero_iff.mp z
      subst e0
      cases hvs
      have : done = ikD n t [] := by rw [← hdue]; simp [ikS]
      rw [this] at hdn
      exact iteF (hE ys _ H ho hdn)
    · have ne : es ≠ [] := fun e => by
        rw [e] at z
        exact absurd z (by decide)
      obtain ⟨es, ⟨⟨p, d⟩, j⟩, rfl⟩ := split_last ne
      rw [List.map_append] at hvs
      obtain ⟨us, u, rfl, hus, hu⟩ := tda_unsnoc hvs
      obtain ⟨wd, hpj⟩ := hes ((p, d), j) (by simp)
      dsimp only at wd hpj
      have lus := hus.len
      rw [List.length_map] at lus
      have hq : sumS ((es ++ [((p, d), j)]).map qE) = sumS (es.map qE) + szD j d := by
        rw [List.map_append, sumS_app]
        simp [sumS, qE]
      have hles : es.length ≤ sumS (es.map qE) := by
        have := sumS_len (es := es.map qE) fun e he => by
          obtain ⟨e', he', rfl⟩ := List.mem_map.mp he
          exact (hes e' (List.mem_append_left _ he')).1
        rwa [List.length_map] at this
      refine itT (by simp) ?_
      refine ⟨NI K Out v wl n t (sumS ((es ++ [((p, d), j)]).map qE)), fun _ _ _ h => h, ?_⟩
      refine gth_ (gpl_ ?_)
      unfold tInkP
      refine ⟨_, rfl, .inl ⟨rfl, _, SqL.of hl⟩, wl, _, u, rfl, rfl, hl, by simp, ?_⟩
      rw [List.dropLast_concat]
      have kw : Kp H (upd H wl (.lst us)) := Kp.lst hl
      have ow : Own H0 H (upd H wl (.lst us)) := Own.upd hw
      have hl2 : (upd H wl (.lst us)) wl = some (.lst us) := upd_same
      have hus := tds_kp kw hus
      have hu := td_kp kw hu
      have hdn := tds_kp kw hdn
      have ho := hO _ _ _ ho ow
      clear hvs
      generalize upd H wl (.lst us) = H4 at kw ow hl2 hus hu hdn ho ⊢
      obtain ⟨a, xs, rfl, ha, hr⟩ := td_tup hu
      obtain ⟨vp, vn, rfl, tp, tn⟩ : ∃ x y, xs = [x, y] ∧ Td K H4 x (pathD p) ∧ Td K H4 y d := by
        cases hr with
        | cons h1 h =>
          cases h with
          | cons h2 h =>
            cases h
            exact ⟨_, _, rfl, h1, h2⟩
      refine ⟨a, _, rfl, ha, rfl, _, _, rfl, _, _, rfl, rfl, ?_⟩
      cases j with
      | zero => exact False.elim wd
      | succ j =>
        obtain ⟨sh, ms, pre, kids, rfl, g1, g2, g3, g4, hp, hk, hkl, hl2', hf⟩ := wd.shape
        have hsz : szD (j + 1) (.tuple [.str sh, .tuple ms, .tuple (pre ++ kids)]) = 1 + (kids.map (szD j)).sum := by
          show 1 + ((kidsOf _).map _).sum = _
          rw [g3]
        have hik1 := ik_succ j (.tuple [.str sh, .tuple ms, .tuple (pre ++ kids)]) p
        rw [g3, g2, g4] at hik1
        rw [ikS_top] at hdue
        dsimp only at hdue
        rw [hik1] at hdue
        -- what follows, once its ink is out
        have rest : ∀ (ys' : List V) (H5 : Hp) (done' : List PyData), Out ys' H5 → Kp H4 H5 → H5 wl = some (.lst us) → TdAll K H5 ys' done' → done' ++ (((kids.zipIdx pre.length).flatMap fun e => ikD j e.1 (p ++ [e.2])) ++ ikS es) = ikD n t [] →
            tPlain (tInkB K) { nx := NI K Out v wl n t (sumS ((es ++ [((p, (.tuple [.str sh, .tuple ms, .tuple (pre ++ kids)] : PyData)), j + 1)]).map qE)), rt := D.rt, bk := D.nx, ct := NI K Out v wl n t (sumS ((es ++ [((p, (.tuple [.str sh, .tuple ms, .tuple (pre ++ kids)] : PyData)), j + 1)]).map qE)) }
              ys' [some v, some (.ref wl), some vp, some vn, z4, z5] H5 := fun ys' H5 done' o5 k5 l5 d5 due5 => by
          refine gpl_ (rd_push rfl hw (td_kp k5 tp) (td_kp k5 tn) l5 (tds_kp k5 hus) hp hk hkl hl2' (by omega) (by omega) fun z4' z5' H' vs' o' k' l' t' => ?_)
          have hnew := sum_push (f := pre.length) (n := j) (p := p) (kids := kids)
          have hnew2 : sumS ((es ++ push pre.length j p kids).map qE) = sumS (es.map qE) + (kids.map (szD j)).sum := by rw [List.map_append, sumS_app, hnew]
          refine ⟨_, ?_, es ++ push pre.length j p kids, vs', _, _, z4', z5', done', rfl, ?_, fun e he => ?_, ?_, l', hO _ _ _ o5 o', tds_kp k' d5, ?_, rfl⟩
          · omega
          · omega
          · rcases List.mem_append.mp he with he | he
            · exact hes e (List.mem_append_left _ he)
            · unfold push at he
              obtain ⟨e', he', rfl⟩ := List.mem_map.mp he
              refine ⟨hk _ (zi_mem (List.mem_reverse.mp he')), ?_⟩
              show (p ++ [e'.2]).length + j ≤ 20
              rw [List.length_append]
              show p.length + 1 + j ≤ 20
              omega
          · rw [List.map_append]
            exact t'
          · rw [ikS_push]
            exact due5
        refine gth_ (tru_ (H0 := H4) (PV.ix (i := 1) (PV.var (i := 3) rfl tn) PV.int rfl) Kp.refl fun H5 s5 => ?_)
        have ho5 := hO _ _ _ ho (Own.of s5)
        have hdn5 := tds_kp (Kp.of s5) hdn
        cases hms : ms.isEmpty with
        | true =>
          rw [hms] at hdue
          exact iteF (rest ys H5 done ho5 (Kp.of s5) (s5 _ _ hl2) hdn5 hdue)
        | false =>
          rw [hms] at hdue
          refine iteT ?_
          have lys := hdn.len
          have ldue := congrArg List.length hdue
          simp only [Bool.false_eq_true, if_false, List.length_append, List.length_singleton] at ldue
          refine gth_ ⟨Nat.lt_of_le_of_lt (show ys.length ≤ 9 ^ 7 by omega) (by decide), ?_⟩
          refine (PV.tup (PVs.cons (PV.var (i := 2) rfl (td_kp (Kp.of s5) tp)) (PVs.cons (PV.ix (i := 1) (PV.var (i := 3) rfl (td_kp (Kp.of s5) tn)) PV.int rfl) .nil)) (by show 2 ≤ 1000; decide)) H5 _ Kp.refl fun x H6 s6 t6 => ?_
          have d6 : TdAll K H6 (ys ++ [x]) (done ++ [inkP (p, .tuple [.str sh, .tuple ms, .tuple (pre ++ kids)])]) := (tds_kp (Kp.of s6) hdn5).app (.cons t6 .nil)
          have hdue' : (done ++ [inkP (p, (.tuple [.str sh, .tuple ms, .tuple (pre ++ kids)] : PyData))]) ++ (((kids.zipIdx pre.length).flatMap fun e => ikD j e.1 (p ++ [e.2])) ++ ikS es) = ikD n t [] := by
            rw [← hdue]
            simp
          refine hY ys x H6 _ (hO _ _ _ ho5 (Own.of s6)) ?_ fun H7 o7 k7 n7 => ?_
          · have : (ikD n t []).take (ys.length + 1) = done ++ [inkP (p, .tuple [.str sh, .tuple ms, .tuple (pre ++ kids)])] := by
              rw [← hdue']
              refine List.take_left' ?_
              rw [List.length_append, lys]
              rfl
            rw [this]
            exact d6
          · refine rest (ys ++ [x]) H7 _ o7 ((Kp.of (s5.trans s6)).trans k7) ?_ (tds_kp k7 d6) hdue'
            rw [n7 wl hw]
            exact s6 _ _ (s5 _ _ hl2)
end
end K03

set_option Elab.async false
set_option linter.all false
set_option maxRecDepth 100000
set_option maxHeartbeats 4000000
namespace K03
open PySem PySem.Spec PyProof.Rows L2 GenW GF
section
variable {P : Program} {w : World} {K : PySem.W.Frag} {mg : Str → Option Value} {base : Heap}
def spInk (K : PySem.W.Frag) : SpG := fun vs H cont _ => ∃ (v : V) (t : PyData) (n : Nat), vs = [v] ∧ Td K H v t ∧ WT n t ∧ n ≤ 7 ∧ ∀ ys H', Same H H' → TdAll K H' ys (ikD n t []) → cont ys H'
theorem gfn_inked {f : Addr} {fd : FuncData} (F : Fun K "inked" "inked" sInked f fd) (B : BI mg) (mR : mg "reversed" = none) (mr : mg "range" = none) : GFn P w K mg base 1 f fd ["tree"] (spInk K) := by
  obtain ⟨oc, od, kV, doc, pm, an, cdv, ct, osl, rfl, lk, hcd⟩ := F.ex
  refine gfn_of (N := nGI) lk hcd gsInked (fun vs H Q E h => ?_) fun A outer s H vs Q E pn hr h => ?_
  · obtain ⟨v, t, n, rfl, _⟩ := h
    rfl
  · obtain ⟨v, t, n, rfl, tv, wt, hn, q⟩ := h
    refine ⟨tInk K Y0, gs_inked B mR mr, ?_⟩
    refine rd_inked (fun _ G => Same H G) tv wt hn (Same.refl _) (fun ys G G' s o b ob e => o b ob (by rw [e]; exact nofun) (s b ob e)) (fun ys x G k s td c => c G s Kp.refl fun _ _ => rfl) fun ys σ G s td => q ys G s td
theorem gn_inked {f : Addr} {fd : FuncData} (F : Fun K "inked" "inked" sInked f fd) : ∃ cdv, Gn P w K "inked" "inked" (defArgs sInked) (defBody sInked) (defScope sInked) nGI ["tree"] f fd cdv := by
  obtain ⟨oc, od, kV, doc, pm, an, cdv, ct, osl, e, lk, hcd⟩ := F.ex
  exact ⟨cdv, ⟨.none, kV, doc, pm, ct, oc, an, od, osl, e, lk⟩, hcd, gsInked, fun _ _ => rfl⟩
theorem gt_inked2 {f : Addr} {cdv : Value} {Y : Hd} (G : GD) (hY : HdOk Y) (e1 : G.K = K) (e2 : G.mg = mg) (e3 : G.N = nGI) (e4 : G.env = envOfC "inked" (defScope sInked) G.n0 f cdv) (B : BI mg) (mR : mg "reversed" = none) (mr : mg "range" = none) : GTs G Y (defBody sInked) (tInk K Y) := by
  obtain ⟨P', w', K', mg', base', N', A', env', outer', n0, a, go, X', pins', Sg'⟩ := G
  dsimp only at e1 e2 e3 e4
  subst e1
  subst e2
  subst e3
  subst e4
  exact gt_inked hY B mR mr
abbrev sSome : Stmt := top 28
abbrev nSo : List Str := ["_law_tree", "_law_many", "_law_found", "_law_pair"]
theorem scSome : FnScope nSo ["_law_tree", "_law_many"] (defScope sSome) := ⟨rfl, rfl, rfl, by decide +kernel, rfl, by decide +kernel, by decide +kernel⟩
def spSome (K : PySem.W.Frag) : Sp := fun vs H Q _ => ∃ (v : V) (t : PyData) (n many : Nat), vs = [v, .int (many : Int)] ∧ Td K H v t ∧ WT n t ∧ n ≤ 7 ∧ 1 ≤ many ∧ many ≤ 900 ∧
  ∀ l H' ws, Same H H' → H l = none → H' l = some (.lst ws) → TdAll K H' ws ((ikD n t []).take many) → Q (.ref l) H'
theorem ok_some {f fG : Addr} {fd dG : FuncData} (F : Fun K "_law_some" "_law_some" sSome f fd) (B : BI mg) (mR : mg "reversed" = none) (mr : mg "range" = none) (FG : Fun K "inked" "inked" sInked fG dG) (mG : mg "inked" = some (.ref fG)) (bG : Binds K dG ["tree"] []) : FnOk P w K mg base CX0 5 f fd ["_law_tree", "_law_many"] (spSome K) := by
  obtain ⟨cdG, GN⟩ := gn_inked (P := P) (w := w) FG
  refine F.ok scSome (fun vs H Q E h => ?_) (fun cdv A outer s H vs Q E hr h => ?_)
  · obtain ⟨v, t, n, many, rfl, _⟩ := h
    rfl
  · obtain ⟨v, t, n, many, rfl, tv, wt, hn, m1, m2, q⟩ := h
    refine ⟨_, pss_cons (ps_set (i := 2) scSome.nd rfl (.inl rfl) (pe_lst pa_nil))
      (pss_cons (ps_forG (k := 1) (ip := 3) (jf := 2) (im := 1) ⟨scSome.nd, fun _ => rfl, rfl, rfl, rfl, rfl, rfl, rfl, by decide, by decide, by rfl, B.len, by decide, by decide, by decide⟩ GN hr ⟨rfl, rfl⟩ (by rfl) mG FG.kp bG (pa_cons (pv 0) pa_nil) (tb := tInk K) (fun G Y hY _ _ e1 e2 _ e3 e4 _ => gt_inked2 G hY e1 e2 e3 e4 B mR mr) (by rfl))
      (pss_one (ps_ret (pv 2)))), ?_⟩
    refine ⟨Nat.zero_le _, fun l nl => ?_⟩
    have s0 : Same H (upd H l (.lst [])) := same_new nl
    have el : (upd H l (.lst [])) l = some (.lst []) := upd_same
    dsimp only [gName]
    generalize upd H l (.lst []) = H0 at s0 el ⊢
    refine seq_ ?_
    refine ⟨_, rfl, rfl, l, (many : Int), rfl, rfl, ?_⟩
    -- the end of the loop
    have fin : ∀ (τ : L2.St) (H' : Hp) (ws : List V), Sh 3 [some v, some (.int (many : Int)), some (.ref l), none] τ → Same H H' → H' l = some (.lst ws) → TdAll K H' ws ((ikD n t []).take many) → tRet (tVar 2) { nx := fun _ H' => Q .non H', rt := Q } τ H' := fun τ H' ws sh sH e td => by
      refine ret_ ⟨_, ?_, q l H' ws sH nl e td⟩
      rw [sh.2 2 (by decide)]
      rfl
    have h0l : H0 l ≠ none := by
      rw [el]
      exact nofun
    refine rd_inked (fun ys G => G l = some (.lst ys) ∧ Same H G ∧ ys.length < many) (td_kp (Kp.of s0) tv) wt hn ⟨el, s0, by show 0 < many; omega⟩ (fun ys G G' o w => ⟨w l _ h0l o.1, fun b ob e => w b ob (by rw [s0 _ _ e]; exact nofun) (o.2.1 b ob e), o.2.2⟩) (fun ys x G k o td c => ?_) (fun ys σ G o td τ sh => ?_)
    · obtain ⟨o1, o2, o3⟩ := o
      have kk : Kp G (upd G l (.lst (ys ++ [x]))) := Kp.lst o1
      have ss : Same H (upd G l (.lst (ys ++ [x]))) := fun b ob e => by
        have hb : b ≠ l := fun z => by rw [z, nl] at e; cases e
        rw [upd_ne hb]
        exact o2 _ _ e
      refine ⟨ys, o1, by omega, fun hm τ sh => ?_, fun hm => ?_⟩
      · refine fin τ _ (ys ++ [x]) sh ss upd_same ?_
        have : ys.length + 1 = many := by omega
        rw [← this]
        exact tds_kp kk td
      · refine c _ ⟨upd_same, ss, ?_⟩ kk fun b hb => upd_ne fun z => h0l (by rw [← z]; exact hb)
        rw [List.length_append]
        show ys.length + 1 < many
        omega
    · refine fin τ G ys sh o.2.1 o.1 ?_
      rw [List.take_of_length_le (by rw [← td.len]; exact Nat.le_of_lt o.2.2)]
      exact td
end
end K03

set_option Elab.async false
set_option linter.all false
set_option maxRecDepth 100000
set_option maxHeartbeats 4000000
namespace K03
open PySem PySem.Spec PyProof.Rows L2
/-! ### a comprehension over zip of two lists or two tuples of one length -/
theorem lc_zipG {J : It} {xs ys : List V} {g : TG} {tt : TT} {te : TE} {vs : List Nat} {σ : L2.St} {H1 : Hp} {D : Addr} {Qd : Hp → Prop} (hl : xs.length = ys.length) (Pv : Nat → Hp → Prop) (h0 : Pv 0 (upd H1 D (.lst [])))
    (hgo : ∀ i H x y, Pv i H → xs[i]? = some x → ys[i]? = some y → J.go i H) (hst : ∀ H, Pv xs.length H → J.stop xs.length H)
    (hy : ∀ i H v H' x y, Pv i H → xs[i]? = some x → ys[i]? = some y → J.yld i H v H' → ∃ T, v = .ref T ∧ H T = none ∧ H' = upd H T (.tup [x, y]))
    (hs : ∀ i x y T H, xs[i]? = some x → ys[i]? = some y → Pv i H → H T = none → g (.ref T) (wipe σ vs) (upd H T (.tup [x, y])) fun σ2 H2 => wipe σ2 vs = wipe σ vs ∧ tt σ2 H2 fun b H3 =>
      if b = true then te σ2 H3 fun y H4 => ∃ sofar, H4 D = some (.lst sofar) ∧ sofar.length < sizeLine ∧ Pv (i + 1) (upd H4 D (.lst (sofar ++ [y]))) else Pv (i + 1) H3) (hd : ∀ H, Pv xs.length H → Qd H) :
    ∃ Wz : Nat → Nat → Hp → Prop, (∃ m, Wz 0 m (upd H1 D (.lst []))) ∧ ∀ i m H, Wz i m H →
      (J.stop i H ∧ Qd H) ∨ (J.go i H ∧ ∃ Go : Hp → Prop, (∀ H', Go H' → ∃ m', m' < m ∧ Wz (i + 1) m' H') ∧ ∀ x H', J.yld i H x H' → g x (wipe σ vs) H' fun σ2 H2 => wipe σ2 vs = wipe σ vs ∧ tt σ2 H2 fun b H3 =>
        if b = true then te σ2 H3 fun y H4 => ∃ sofar, H4 D = some (.lst sofar) ∧ sofar.length < sizeLine ∧ Go (upd H4 D (.lst (sofar ++ [y]))) else Go H3) := by
  refine ⟨fun i m H => m = xs.length - i ∧ i ≤ xs.length ∧ Pv i H, ⟨xs.length, by simp, Nat.zero_le _, h0⟩, ?_⟩
  rintro i m H ⟨rfl, hi, pi0⟩
  by_cases lt1 : i < xs.length
  · have gx : xs[i]? = some xs[i] := List.getElem?_eq_getElem lt1
    have lt2 : i < ys.length := by omega
    have hyy : ys[i]? = some ys[i] := List.getElem?_eq_getElem lt2
    refine .inr ⟨hgo i H _ _ pi0 gx hyy, Pv (i + 1), fun H' p' => ⟨xs.length - (i + 1), by omega, rfl, lt1, p'⟩, fun x H' y => ?_⟩
    obtain ⟨T, rfl, hT, rfl⟩ := hy i H x H' _ _ pi0 gx hyy y
    exact hs i _ _ T H gx hyy pi0 hT
  · have eqi : i = xs.length := by omega
    subst eqi
    exact .inl ⟨hst H pi0, hd H pi0⟩
/-! ### two values of one datum -/
def Ak (K : PySem.W.Frag) (H : Hp) : Nat → V → V → Prop
  | 0, x, y => flatV x = true ∧ x = y
  | n + 1, x, y => (flatV x = true ∧ x = y) ∨ ∃ a b xs ys, x = .ref a ∧ y = .ref b ∧ ((SqT K H a xs ∧ SqT K H b ys) ∨ (H a = some (.lst xs) ∧ H b = some (.lst ys))) ∧ xs.length ≤ 9 ^ 7 ∧ xs.length = ys.length ∧
      ∀ (i : Nat) (u v : V), xs[i]? = some u → ys[i]? = some v → Ak K H n u v
theorem Ak.mono {K : PySem.W.Frag} {H H' : Hp} (s : Same H H') : ∀ {n : Nat} {x y : V}, Ak K H n x y → Ak K H' n x y
  | 0, _, _, h => h
  | n + 1, x, y, h => by
    rcases h with h | ⟨a, b, xs, ys, e1, e2, h, l, l2, q⟩
    · exact .inl h
    · refine .inr ⟨a, b, xs, ys, e1, e2, ?_, l, l2, fun i u v h1 h2 => Ak.mono s (q i u v h1 h2)⟩
      rcases h with ⟨h1, h2⟩ | ⟨h1, h2⟩
      · exact .inl ⟨sqt_kp (Kp.of s) h1, sqt_kp (Kp.of s) h2⟩
      · exact .inr ⟨s _ _ h1, s _ _ h2⟩
theorem tyT {K : PySem.W.Frag} {H : Hp} {a : Addr} {xs : List V} (h : SqT K H a xs) : TyX K H (.ref a) (.type "tuple") := by
  rcases h with (a | ⟨o, a⟩) | ⟨o, its, n, hk, hc, _⟩
  · exact .base (.tup a)
  · exact .fTuple a
  · exact .kTuple hk hc
theorem ak_flat {K : PySem.W.Frag} {H : Hp} : ∀ {n : Nat} {x : V}, flatV x = true → Ak K H n x x
  | 0, _, h => ⟨h, rfl⟩
  | _ + 1, _, h => .inl ⟨h, rfl⟩
theorem td_ak {K : PySem.W.Frag} {H : Hp} : ∀ {n : Nat} {d : PyData} {v u : V}, okD n d → Td K H v d → Td K H u d → Ak K H n v u
  | n, .none, _, _, _, h1, h2 => by
    cases h1
    cases h2
    exact ak_flat rfl
  | n, .bool b, _, _, _, h1, h2 => by
    cases h1
    cases h2
    exact ak_flat rfl
  | n, .int b, _, _, _, h1, h2 => by
    cases h1
    cases h2
    exact ak_flat rfl
  | n, .str b, _, _, _, h1, h2 => by
    cases h1
    cases h2
    exact ak_flat rfl
  | n, .tuple ds, _, _, ok, h1, h2 => by
    obtain ⟨l, m, rfl, q⟩ := ok.tup
    obtain ⟨a, xs, rfl, ha, ra⟩ := td_tup h1
    obtain ⟨b, ys, rfl, hb, rb⟩ := td_tup h2
    have e1 := ra.len
    have e2 := rb.len
    refine .inr ⟨a, b, xs, ys, rfl, rfl, .inl ⟨ha, hb⟩, Nat.le_trans (show xs.length ≤ 100 by omega) (by decide), by omega, fun i u v hu hv => ?_⟩
    obtain ⟨d1, g1, t1⟩ := ra.get hu
    obtain ⟨d2, g2, t2⟩ := rb.get hv
    rw [g1] at g2
    obtain rfl := Option.some.inj g2
    exact td_ak (q d1 (List.mem_of_getElem? g1)) t1 t2
  | n, .list ds, _, _, _, h1, _ => by cases h1
  | n, .dict ds, _, _, _, h1, _ => by cases h1
theorem ak_lst {K : PySem.W.Frag} {H : Hp} {n : Nat} {a b : Addr} {xs ys : List V} {ds : List PyData} (ha : H a = some (.lst xs)) (hb : H b = some (.lst ys)) (ra : TdAll K H xs ds) (rb : TdAll K H ys ds) (l : ds.length ≤ 9 ^ 7) (q : ∀ d ∈ ds, okD n d) : Ak K H (n + 1) (.ref a) (.ref b) := by
  have e1 := ra.len
  have e2 := rb.len
  refine .inr ⟨a, b, xs, ys, rfl, rfl, .inr ⟨ha, hb⟩, by omega, by omega, fun i u v hu hv => ?_⟩
  obtain ⟨d1, g1, t1⟩ := ra.get hu
  obtain ⟨d2, g2, t2⟩ := rb.get hv
  rw [g1] at g2
  obtain rfl := Option.some.inj g2
  exact td_ak (q d1 (List.mem_of_getElem? g1)) t1 t2
abbrev sSame : Stmt := top 18
def tyS : V → String
  | .non => "NoneType"
  | .bl _ => "bool"
  | .int _ => "int"
  | _ => "str"
theorem tyS_of {K : PySem.W.Frag} {H : Hp} {x : V} (h : flatV x = true) : TyX K H x (.type (tyS x)) := by
  cases x <;> first | exact .base .non | exact .base (.bl _) | exact .base (.int _) | exact .base (.str _) | cases h
theorem tyS_one (x : V) : tyS x = "NoneType" ∨ tyS x = "bool" ∨ tyS x = "int" ∨ tyS x = "str" := by
  cases x <;> first | exact .inl rfl | exact .inr (.inl rfl) | exact .inr (.inr (.inl rfl)) | exact .inr (.inr (.inr rfl))
theorem tyS_tup {K : PySem.W.Frag} {x : V} : PySem.W.kitOne K (.type (tyS x)) (.type "tuple") = some false := by
  rcases tyS_one x with e | e | e | e <;> rw [e] <;> exact kit_ty (by decide +kernel)
theorem tyS_lst {K : PySem.W.Frag} {x : V} : PySem.W.kitOne K (.type (tyS x)) (.type "list") = some false := by
  rcases tyS_one x with e | e | e | e <;> rw [e] <;> exact kit_ty (by decide +kernel)
theorem tyS_bl {K : PySem.W.Frag} {x : V} : ∃ b, PySem.W.kitOne K (.type (tyS x)) (.type "bool") = some b := by
  rcases tyS_one x with e | e | e | e <;> rw [e] <;> first | exact ⟨true, kit_ty (by decide +kernel)⟩ | exact ⟨false, kit_ty (by decide +kernel)⟩
theorem scal_flat {x : V} (h : flatV x = true) : scal x x = true := by
  cases x <;> first | rfl | cases h
abbrev nSame : List Str := ["_law_found", "_law_due", "_law_one", "_law_other"]
theorem scS : FnScope nSame ["_law_found", "_law_due"] (defScope sSame) := ⟨rfl, rfl, rfl, by decide +kernel, rfl, by decide +kernel, by decide +kernel⟩
section
variable {P : Program} {w : World} {K : PySem.W.Frag} {mg : Str → Option Value} {base : Heap}
def spSame (K : PySem.W.Frag) (n : Nat) : Sp := fun vs H Q _ => ∃ (x y : V) (d : Nat), vs = [x, y] ∧ d < n ∧ Ak K H d x y ∧ ∀ H', Same H H' → Q (.bl true) H'
structure TB (mg : Str → Option Value) : Prop where
  mi : mg "isinstance" = none
  mt : mg "tuple" = none
  ml : mg "list" = none
  mb : mg "bool" = none
  mn : mg "len" = none
  ma : mg "all" = none
  mz : mg "zip" = none
theorem ok_same_step {n : Nat} {f : Addr} {fd : FuncData} (F : Fun K "_law_same" "_law_same" sSame f fd) (T : TB mg) (bS : Binds K fd ["_law_found", "_law_due"] []) (mS : mg "_law_same" = some (.ref f))
    (G : FnOk P w K mg base CX0 n f fd ["_law_found", "_law_due"] (spSame K n)) : FnOk P w K mg base CX0 (n + 1) f fd ["_law_found", "_law_due"] (spSame K (n + 1)) := by
  refine F.ok scS (fun vs H Q E h => ?_) (fun cdv A outer s H vs Q E hr h => ?_)
  · obtain ⟨x, y, d, rfl, _⟩ := h
    rfl
  · obtain ⟨x, y, d, rfl, hd, al, q⟩ := h
    have kS := F.kp
    refine ⟨_, pss_cons (ps_if (pt_val (pe_callB call_isiT (by rfl) T.mi (by decide +kernel) (pa_cons (pv 1) (pa_cons (pe_tup (pa_cons (pe_bltn (v := .ty "tuple") (by rfl) T.mt (by decide +kernel) rfl) (pa_cons (pe_bltn (v := .ty "list") (by rfl) T.ml (by decide +kernel) rfl) pa_nil))) pa_nil))))
        (pss_cons (ps_if (PW.pt (pw_or
            (pt_cmpR op_ne (pe_callB call_isi (by rfl) T.mi (by decide +kernel) (pa_cons (pv 0) (pa_cons (pe_bltn (v := .ty "tuple") (by rfl) T.mt (by decide +kernel) rfl) pa_nil)))
              (pe_callB call_isi (by rfl) T.mi (by decide +kernel) (pa_cons (pv 1) (pa_cons (pe_bltn (v := .ty "tuple") (by rfl) T.mt (by decide +kernel) rfl) pa_nil))) (nomark _))
            (pw_or1 (pt_cmpR op_ne (pe_callB call_isi (by rfl) T.mi (by decide +kernel) (pa_cons (pv 0) (pa_cons (pe_bltn (v := .ty "list") (by rfl) T.ml (by decide +kernel) rfl) pa_nil)))
              (pe_callB call_isi (by rfl) T.mi (by decide +kernel) (pa_cons (pv 1) (pa_cons (pe_bltn (v := .ty "list") (by rfl) T.ml (by decide +kernel) rfl) pa_nil))) (nomark _)))))
            (pss_one (ps_ret pe_bl)) pss_nil)
        (pss_one (ps_ret (pe_and (pe_cmpR op_eq (pe_callB call_len_seq rfl T.mn PySem.boot_len (pa_cons (pv 0) pa_nil)) (pe_callB call_len_seq rfl T.mn PySem.boot_len (pa_cons (pv 1) pa_nil)) (nomark _))
          (pe_one (pe_callB (cr_all rfl) (by rfl) T.ma (by decide +kernel) (pa_cons
            (pe_lc (own := [("_law_one", 2), ("_law_other", 3)]) (g := gTup K 2 (gCons (gName 2) (gCons (gName 3) gNil))) (tt := tYes) rfl scS.nd (RZ.pi_zipA (by rfl) T.mz (pa_cons (pv 0) (pa_cons (pv 1) pa_nil))) (blkOk_by (N := nSame) (sc := defScope sSame) (by decide +kernel))
              (fun _ _ _ _ _ => pg_tup rfl (pgs_cons (pg_name (i := 2) scS.nd rfl (.inl rfl)) (pgs_cons (pg_name (i := 3) scS.nd rfl (.inl rfl)) pgs_nil))) (fun _ _ _ _ _ => pts_nil)
              (fun _ _ _ _ _ => pe_call G hr rfl mS kS bS .nil pass0 (pa_cons (pv 2) (pa_cons (pv 3) pa_nil)))) pa_nil))))))) pss_nil)
      (pss_one (ps_ret (pe_and (pe_cmpR op_eq (pe_callB call_isi (by rfl) T.mi (by decide +kernel) (pa_cons (pv 0) (pa_cons (pe_bltn (v := .ty "bool") (by rfl) T.mb (by decide +kernel) rfl) pa_nil)))
          (pe_callB call_isi (by rfl) T.mi (by decide +kernel) (pa_cons (pv 1) (pa_cons (pe_bltn (v := .ty "bool") (by rfl) T.mb (by decide +kernel) rfl) pa_nil))) (nomark _))
        (pe_one (pe_cmpR op_eq (pv 0) (pv 1) (nomark _)))))), ?_⟩
    refine ⟨_, rfl, (by show 2 ≤ sizeLine; decide), fun p hp => ?_⟩
    have s1 : Same H (upd H p (.tup [.ty "tuple", .ty "list"])) := same_new hp
    have hp1 : (upd H p (.tup [.ty "tuple", .ty "list"])) p = some (.tup [.ty "tuple", .ty "list"]) := upd_same
    generalize upd H p (.tup [.ty "tuple", .ty "list"]) = H1 at s1 hp1 ⊢
    have clv : Paired ClsV [.ty "tuple", .ty "list"] [.type "tuple", .type "list"] := .cons (.ty _) (.cons (.ty _) .nil)
    have al1 := al.mono s1
    -- flat or not
    have two : (flatV x = true ∧ x = y) ∨ ∃ (a b : Addr) (xs ys : List V) (n' : Nat), x = .ref a ∧ y = .ref b ∧ ((SqT K H1 a xs ∧ SqT K H1 b ys) ∨ (H1 a = some (.lst xs) ∧ H1 b = some (.lst ys))) ∧ xs.length ≤ 9 ^ 7 ∧ xs.length = ys.length ∧ n' < n ∧
        ∀ (i : Nat) (u v : V), xs[i]? = some u → ys[i]? = some v → Ak K H1 n' u v := by
      cases d with
      | zero => exact .inl al1
      | succ d =>
        rcases al1 with h | ⟨a, b, xs, ys, e1, e2, h, l, l2, q⟩
        · exact .inl h
        · exact .inr ⟨a, b, xs, ys, d, e1, e2, h, l, l2, by omega, q⟩
    rcases two with ⟨fx, rfl⟩ | ⟨a, b, xs, ys, n', rfl, rfl, hab, hl, hl2, hn', hall⟩
    · refine ⟨x, p, _, _, _, false, rfl, hp1, clv, tyS_of fx, kitAny_cons tyS_tup (fun _ => kitAny_cons tyS_lst (fun _ => kitAny_nil) (fun z => nomatch z)) (fun z => nomatch z), false, rfl, iteF ?_⟩
      obtain ⟨bb, hbb⟩ := tyS_bl (K := K) (x := x)
      refine ⟨_, rfl, x, _, _, _, bb, rfl, .ty _, tyS_of fx, hbb, _, rfl, x, _, _, _, bb, rfl, .ty _, tyS_of fx, hbb, rfl, true, ?_, iteT ?_⟩
      · rw [decide_eq_true rfl]
      · refine ⟨_, rfl, _, rfl, scal_flat fx, ?_⟩
        rw [decide_eq_true rfl]
        exact q H1 s1
    · -- the lists' common end: the comprehension
      have fin : ∀ (J : It) (D : Addr) (H2 : Hp) (Qd : Hp → Prop), Same H1 H2 → H2 D = none → (∀ i H, Same H2 H → (∀ u v, xs[i]? = some u → ys[i]? = some v → J.go i H)) → (∀ H, Same H2 H → J.stop xs.length H) →
          (∀ i H v H' u w, Same H2 H → xs[i]? = some u → ys[i]? = some w → J.yld i H v H' → ∃ T, v = .ref T ∧ H T = none ∧ H' = upd H T (.tup [u, w])) → (∀ (H3 : Hp) (bs : List Bool), Same H H3 → H3 D = some (.lst (bs.map V.bl)) → bs.all id = true → Qd H3) →
          ∃ W : Nat → Nat → Hp → Prop, (∃ m, W 0 m (upd H2 D (.lst []))) ∧ ∀ i m H, W i m H →
            (J.stop i H ∧ Qd H) ∨ (J.go i H ∧ ∃ Nx : Hp → Prop, (∀ H', Nx H' → ∃ m', m' < m ∧ W (i + 1) m' H') ∧ ∀ x H', J.yld i H x H' → gTup K 2 (gCons (gName 2) (gCons (gName 3) gNil)) x (wipe [some (.ref a), some (.ref b), none, none] [2, 3]) H' fun σ2 H2 => wipe σ2 [2, 3] = wipe [some (.ref a), some (.ref b), none, none] [2, 3] ∧ tYes σ2 H2 fun b H3 =>
              if b = true then tCall (spSame K n) [] E0 (tCons (tVar 2) (tCons (tVar 3) tNil)) σ2 H3 fun y H4 => ∃ acc, H4 D = some (.lst acc) ∧ acc.length < sizeLine ∧ Nx (upd H4 D (.lst (acc ++ [y]))) else Nx H3) := by
        intro J D H2 Qd s2 nD hgo hstop hyld hQ
        refine lc_zipG hl2 (fun i H3 => Same H2 H3 ∧ ∃ bs : List Bool, H3 D = some (.lst (bs.map V.bl)) ∧ bs.length = i ∧ bs.all id = true)
          ⟨same_new nD, [], upd_same, rfl, rfl⟩ (fun i H u v p h1 h2 => hgo i H p.1 u v h1 h2) (fun H p => hstop H p.1) (fun i H v H' u w p h1 h2 hy => hyld i H v H' u w p.1 h1 h2 hy) ?_ ?_
        · rintro i u v T H3 hu hv ⟨s3, bs, eD, lb, ab⟩ nT
          have s4 : Same H3 (upd H3 T (.tup [u, v])) := same_new nT
          refine ⟨T, _, rfl, SqT.of upd_same, rfl, u, _, rfl, v, _, rfl, rfl, rfl, ?_⟩
          dsimp only [tYes]
          refine iteT ?_
          refine ⟨_, rfl, _, rfl, u, v, n', rfl, hn', (hall i u v hu hv).mono (s2.trans (s3.trans s4)), fun H5 s5 => ?_⟩
          have eD5 : H5 D = some (.lst (bs.map V.bl)) := s5 _ _ (s4 _ _ eD)
          refine ⟨_, eD5, ?_, fun b o e => ?_, bs ++ [true], ?_, ?_, ?_⟩
          · rw [List.length_map]
            have := (List.getElem?_eq_some_iff.mp hu).1
            exact Nat.lt_of_le_of_lt (show bs.length ≤ 9 ^ 7 by omega) (by decide)
          · by_cases hb : b = D
            · rw [hb, nD] at e
              cases e
            · rw [upd_ne hb]
              exact s5 _ _ (s4 _ _ (s3 _ _ e))
          · rw [upd_same, List.map_append]
            rfl
          · rw [List.length_append, lb]
            rfl
          · rw [List.all_append, ab]
            rfl
        · rintro H3 ⟨s3, bs, eD, lb, ab⟩
          exact hQ H3 bs (s1.trans (s2.trans s3)) eD ab
      rcases hab with ⟨ha, hb⟩ | ⟨ha, hb⟩
      · refine ⟨_, p, _, _, _, true, rfl, hp1, clv, tyT hb, kitAny_cons (b := true) (kit_ty (by decide +kernel)) (fun z => nomatch z) (fun _ => rfl), true, rfl, iteT ?_⟩
        refine ⟨_, rfl, _, _, _, _, true, rfl, .ty _, tyT ha, kit_ty (by decide +kernel), _, rfl, _, _, _, _, true, rfl, .ty _, tyT hb, kit_ty (by decide +kernel), rfl, false, rfl, iteF ?_⟩
        refine ⟨_, rfl, _, _, _, _, false, rfl, .ty _, tyT ha, kit_ty (by decide +kernel), _, rfl, _, _, _, _, false, rfl, .ty _, tyT hb, kit_ty (by decide +kernel), rfl, false, rfl, iteF ?_⟩
        refine ⟨_, rfl, a, xs, rfl, .inr ha, _, rfl, b, ys, rfl, .inr hb, rfl, true, by rw [hl2, decide_eq_true rfl], iteT ?_⟩
        refine ⟨_, rfl, _, rfl, a, b, xs, ys, rfl, .inr ⟨ha, hb, fun D nD => ?_⟩⟩
        refine fin (RZ.ItzT K a b) D H1 _ (Same.refl _) nD (fun i H s u v h1 h2 => ⟨xs, ys, u, v, (sqt_kp (Kp.of s) ha), (sqt_kp (Kp.of s) hb), h1, h2⟩) (fun H s => ⟨xs, ys, (sqt_kp (Kp.of s) ha), (sqt_kp (Kp.of s) hb), .inl (Nat.le_refl _)⟩) ?_ ?_
        · rintro i H v H' u w s h1 h2 ⟨T, u', w', rfl, nT, rfl, f1, f2⟩
          have e1 : u = u' := Option.some.inj (h1.symm.trans (f1 xs ((sqt_kp (Kp.of s) ha))))
          have e2 : w = w' := Option.some.inj (h2.symm.trans (f2 ys ((sqt_kp (Kp.of s) hb))))
          rw [e1, e2]
          exact ⟨T, rfl, nT, rfl⟩
        · intro H3 bs s3 eD ab
          refine ⟨D, bs, rfl, SqL.of eD, ?_⟩
          rw [ab]
          exact q H3 s3
      · refine ⟨_, p, _, _, _, true, rfl, hp1, clv, .base (.lst hb), kitAny_cons (b := false) (kit_ty (by decide +kernel)) (fun _ => kitAny_cons (b := true) (kit_ty (by decide +kernel)) (fun z => nomatch z) (fun _ => rfl)) (fun z => nomatch z), true, rfl, iteT ?_⟩
        refine ⟨_, rfl, _, _, _, _, false, rfl, .ty _, .base (.lst ha), kit_ty (by decide +kernel), _, rfl, _, _, _, _, false, rfl, .ty _, .base (.lst hb), kit_ty (by decide +kernel), rfl, false, rfl, iteF ?_⟩
        refine ⟨_, rfl, _, _, _, _, true, rfl, .ty _, .base (.lst ha), kit_ty (by decide +kernel), _, rfl, _, _, _, _, true, rfl, .ty _, .base (.lst hb), kit_ty (by decide +kernel), rfl, false, rfl, iteF ?_⟩
        refine ⟨_, rfl, a, xs, rfl, .inl (SqL.of ha), _, rfl, b, ys, rfl, .inl (SqL.of hb), rfl, true, by rw [hl2, decide_eq_true rfl], iteT ?_⟩
        refine ⟨_, rfl, _, rfl, a, b, xs, ys, rfl, .inl ⟨SqL.of ha, SqL.of hb, fun D nD => ?_⟩⟩
        refine fin (Itz K a b) D H1 _ (Same.refl _) nD (fun i H s u v h1 h2 => ⟨xs, ys, u, v, SqL.of (s _ _ ha), SqL.of (s _ _ hb), h1, h2⟩) (fun H s => ⟨xs, ys, SqL.of (s _ _ ha), SqL.of (s _ _ hb), .inl (Nat.le_refl _)⟩) ?_ ?_
        · rintro i H v H' u w s h1 h2 ⟨T, u', w', rfl, nT, rfl, f1, f2⟩
          have e1 : u = u' := Option.some.inj (h1.symm.trans (f1 xs (SqL.of (s _ _ ha))))
          have e2 : w = w' := Option.some.inj (h2.symm.trans (f2 ys (SqL.of (s _ _ hb))))
          rw [e1, e2]
          exact ⟨T, rfl, nT, rfl⟩
        · intro H3 bs s3 eD ab
          refine ⟨D, bs, rfl, SqL.of eD, ?_⟩
          rw [ab]
          exact q H3 s3
theorem same_none {f : Addr} {fd : FuncData} : FnOk P w K mg base CX0 0 f fd ["_law_found", "_law_due"] (spSame K 0) := by
  have no : ∀ vs H Q E, ¬ spSame K 0 vs H Q E := fun vs H Q E h => by
    obtain ⟨x, y, d, _, h1, _⟩ := h
    omega
  exact ⟨fun vs H Q E h => absurd h (no vs H Q E), fun A outer s H args us vs Q E _ _ _ _ h => absurd h (no vs H Q E)⟩
theorem ok_same {f : Addr} {fd : FuncData} (F : Fun K "_law_same" "_law_same" sSame f fd) (T : TB mg) (bS : Binds K fd ["_law_found", "_law_due"] []) (mS : mg "_law_same" = some (.ref f)) :
    ∀ n : Nat, FnOk P w K mg base CX0 n f fd ["_law_found", "_law_due"] (spSame K n)
  | 0 => same_none
  | n + 1 => ok_same_step F T bS mS (ok_same F T bS mS n)
end
end K03

set_option Elab.async false
set_option linter.all false
set_option maxRecDepth 100000
set_option maxHeartbeats 2000000
namespace K03
open PySem PySem.Spec PyProof.Rows L2
theorem list_sh {ds : List PyData} (h : ∀ d ∈ ds, okD 40 d) : SeqAt.shaped (.list ds) = true := by
  have z := layAll (ds := ds) (m := 41) fun x hx => (h x hx).lay
  unfold SeqAt.shaped
  have h1 : (PyData.list ds).canLay0 = true := by simp [PyData.canLay0, z.1]
  have h2 : (PyData.list ds).depth ≤ 64 := by
    simp only [PyData.depth]
    omega
  rw [h1, decide_eq_true h2]
  rfl
theorem eqv_nilL (ds : List PyData) : PyData.eqv (.list ds) (.list []) = ds.isEmpty := by
  cases ds <;> simp [PyData.eqv, PyData.eqvAll]
theorem tds_sub {K : PySem.W.Frag} {H : Hp} {xs : List V} {ds : List PyData} (h : TdAll K H xs ds) : ∀ {vs : List V}, (∀ y ∈ vs, y ∈ xs) → ∃ es, TdAll K H vs es ∧ ∀ e ∈ es, e ∈ ds
  | [], _ => ⟨[], .nil, fun _ z => by cases z⟩
  | v :: vs, q => by
    obtain ⟨es, h1, h2⟩ := tds_sub h (vs := vs) fun y hy => q y (List.mem_cons_of_mem _ hy)
    obtain ⟨i, hi⟩ := List.getElem?_of_mem (q v List.mem_cons_self)
    obtain ⟨d, hd, td⟩ := h.get hi
    refine ⟨d :: es, .cons td h1, fun e he => ?_⟩
    rcases List.mem_cons.mp he with z | z
    · rw [z]
      exact List.mem_of_getElem? hd
    · exact h2 e z
theorem seqIx {d : Int} {n : Nat} (h0 : 0 ≤ d) (h1 : d < n) : seqIndex? d n = some d.toNat := by
  unfold seqIndex?
  first
    | (simp only [h0, h1, if_pos]; done)
    | (simp; omega)
section
variable {P : Program} {w : World} {K : PySem.W.Frag} {mg : Str → Option Value} {base : Heap}
abbrev sMixed : Stmt := top 17
theorem scMixed : FnScope ["_law_feed", "_law_items", "_law_left", "_law_found"] ["_law_feed", "_law_items"] (defScope sMixed) := ⟨rfl, rfl, rfl, by decide +kernel, rfl, by decide +kernel, by decide +kernel⟩
def spMixed (K : PySem.W.Frag) : Sp := fun vs H Q _ => ∃ (f b : Addr) (xs : List V) (ds : List PyData), vs = [.ref f, .ref b] ∧ Fd H f ∧ b ≠ f ∧ H b = some (.lst xs) ∧ TdAll K H xs ds ∧ (∀ d ∈ ds, okD 40 d) ∧ xs.length ≤ 9 ^ 7 ∧
  ∀ l H' ys, But f H H' → Fd H' f → H l = none → H' l = some (.lst ys) → (∀ y ∈ ys, y ∈ xs) → Q (.ref l) H'
theorem ok_mixed {fM fD : Addr} {fd dD : FuncData} (F : Fun K "_law_mixed" "_law_mixed" sMixed fM fd) (B : BI mg) (CD : Cal P w K mg base "_law_draw" 1 fD dD ["_law_feed", "_law_many"] [] spDraw) : FnOk P w K mg base CX0 2 fM fd ["_law_feed", "_law_items"] (spMixed K) := by
  refine F.ok scMixed (fun vs H Q E h => ?_) (fun cdv A outer s H vs Q E hr h => ?_)
  · obtain ⟨f, b, xs, ds, rfl, _⟩ := h
    rfl
  · obtain ⟨f, b, xs, ds, rfl, hf, bf, hb, hx, hok, hlen, q⟩ := h
    have hu := hr.un
    have hu : (A.deeper (envOfC "_law_mixed" (defScope sMixed) s.heap.objs.size fM cdv)).units + 64 < cLine := by omega
    refine ⟨_, pss_cons (ps_par (i := 2) (j := 3) rfl scMixed.nd rfl rfl (by decide) rfl rfl (pa_cons (pe_callTy call_list_of (by rfl) B.lst (by decide +kernel) (pa_cons (pv 1) pa_nil)) (pa_cons (pe_lst pa_nil) pa_nil)) rfl)
      (pss_cons (ps_while PassesOwn.never (pt_cmpR (op_neD hu) (pv 2) (pe_lst pa_nil) (nomark _))
        (pss_one (ps_expr (pe_bm PySem.F.plainAttrs_list PySem.F.slot_list_append PySem.F.type_list_append mt_append (pv 3) (pa_cons (pe_bm PySem.F.plainAttrs_list PySem.F.slot_list_pop PySem.F.type_list_pop mt_popAt (pv 2) (pa_cons (pe_call CD.G hr rfl CD.m CD.k CD.b .nil pass0 (pa_cons (pv 0) (pa_cons (pe_callB call_len_seq (by rfl) B.len PySem.boot_len (pa_cons (pv 2) pa_nil)) pa_nil))) pa_nil)) pa_nil)))))
      (pss_one (ps_ret (pv 3)))), ?_⟩
    refine ⟨_, rfl, b, xs, rfl, .inl (SqL.of hb), fun l nl => ?_⟩
    have s1 : Same H (upd H l (.lst xs)) := same_new nl
    have el : (upd H l (.lst xs)) l = some (.lst xs) := upd_same
    generalize upd H l (.lst xs) = H1 at s1 el ⊢
    refine ⟨Nat.zero_le _, fun r nr => ?_⟩
    have s2 : Same H1 (upd H1 r (.lst [])) := same_new nr
    have er : (upd H1 r (.lst [])) r = some (.lst []) := upd_same
    have rl : r ≠ l := fun z => by rw [z, el] at nr; cases nr
    have nrH : H r = none := by
      cases e : H r with
      | none => rfl
      | some o => rw [s1 _ _ e] at nr; cases nr
    generalize upd H1 r (.lst []) = H2 at s2 er ⊢
    have el2 := s2 _ _ el
    have lf : l ≠ f := fun z => by
      obtain ⟨g, m, e⟩ := hf
      rw [z, e] at nl
      cases nl
    have rf : r ≠ f := fun z => by
      obtain ⟨g, m, e⟩ := hf
      rw [z, e] at nrH
      cases nrH
    refine ⟨_, _, rfl, ?_⟩
    dsimp only
    refine seq_ ?_
    refine ⟨fun m σ G => ∃ (vs acc : List V), m = vs.length ∧ G l = some (.lst vs) ∧ G r = some (.lst acc) ∧ (∀ y ∈ vs, y ∈ xs) ∧ (∀ y ∈ acc, y ∈ xs) ∧ acc.length + vs.length = xs.length ∧ But f H G ∧ Fd G f ∧ σ = [some (.ref f), some (.ref b), some (.ref l), some (.ref r)], ?_, ?_⟩
    · exact ⟨_, xs, [], rfl, el2, er, fun _ h => h, (fun _ h => by cases h), Nat.zero_add _, But.of (s1.trans s2), Fd.same (s1.trans s2) hf, rfl⟩
    · rintro m σ G ⟨vs, acc, rfl, gl, gr, hvs, hacc, hsum, bG, fG, rfl⟩
      have kG : Kp H G := Kp.but hf bG
      obtain ⟨es, tes, ees⟩ := tds_sub (tds_kp kG hx) hvs
      refine ⟨_, rfl, Nat.zero_le _, fun p np => ?_⟩
      have s3 : Same G (upd G p (.lst [])) := same_new np
      have ep : (upd G p (.lst [])) p = some (.lst []) := upd_same
      generalize upd G p (.lst []) = G1 at s3 ep ⊢
      refine ⟨.list es, .list [], .lst (SqL.of (s3 _ _ gl)) (tds_dp (tds_kp (Kp.of s3) tes)), .lst (SqL.of ep) .nil, list_sh (fun d hd => hok d (ees d hd)), list_sh (fun d hd => by cases hd), ?_⟩
      rw [eqv_nilL]
      refine ⟨_, rfl, ?_⟩
      have le := tes.len
      cases vs with
      | nil =>
        obtain rfl : es = [] := List.length_eq_zero_iff.mp le.symm
        refine itF rfl ?_
        dsimp only
        refine ret_ ⟨_, rfl, q r G1 acc (bG.trans (But.of s3)) (Fd.same s3 fG) nrH (s3 _ _ gr) hacc⟩
      | cons v0 vs0 =>
        have ne : (!es.isEmpty) = true := by
          cases es with
          | nil => cases le
          | cons _ _ => rfl
        refine itT ne ?_
        refine ⟨fun σ' H' => ∃ m', m' < (v0 :: vs0).length ∧ ∃ (vs acc : List V), m' = vs.length ∧ H' l = some (.lst vs) ∧ H' r = some (.lst acc) ∧ (∀ y ∈ vs, y ∈ xs) ∧ (∀ y ∈ acc, y ∈ xs) ∧ acc.length + vs.length = xs.length ∧ But f H H' ∧ Fd H' f ∧ σ' = [some (.ref f), some (.ref b), some (.ref l), some (.ref r)], fun _ _ h => h, ?_⟩
        have gl1 := s3 _ _ gl
        have gr1 := s3 _ _ gr
        obtain ⟨g, m, ef⟩ := Fd.same s3 fG
        refine drop_ ⟨_, rfl, .inl ⟨rfl, _, SqL.of gr1⟩, ta_one ?_⟩
        refine ⟨_, rfl, .inl ⟨rfl, _, SqL.of gl1⟩, ta_one ?_⟩
        refine ⟨_, rfl, ⟨_, rfl, l, _, rfl, .inl (SqL.of gl1), ?_⟩⟩
        have hl9 : (v0 :: vs0).length ≤ 9 ^ 7 := by omega
        refine ⟨f, g, m, _, rfl, ef, by simp only [List.length_cons]; omega, Int.lt_of_le_of_lt (Int.ofNat_le.mpr hl9) (by decide), fun d g1 m1 d0 d1 => ?_⟩
        have kk : But f G1 (upd G1 f (.lst [.int g1, .int m1])) := But.upd
        have ef2 : (upd G1 f (.lst [.int g1, .int m1])) f = some (.lst [.int g1, .int m1]) := upd_same
        generalize upd G1 f (.lst [.int g1, .int m1]) = G2 at kk ef2 ⊢
        have gl2 := kk _ _ lf gl1
        have gr2 := kk _ _ rf gr1
        have dlt : d.toNat < (v0 :: vs0).length := by omega
        refine ⟨l, _, d, d.toNat, (v0 :: vs0)[d.toNat], rfl, rfl, gl2, by omega, by omega, seqIx d0 d1, List.getElem?_eq_getElem dlt, ?_⟩
        have hmem : (v0 :: vs0)[d.toNat] ∈ v0 :: vs0 := List.getElem_mem dlt
        generalize (v0 :: vs0)[d.toNat] = y at hmem ⊢
        have ler : ((v0 :: vs0).eraseIdx d.toNat).length = vs0.length := by
          rw [List.length_eraseIdx, if_pos dlt]
          rfl
        refine ⟨r, acc, y, rfl, rfl, by rw [upd_ne rl]; exact gr2, Nat.lt_of_le_of_lt (show acc.length ≤ 9 ^ 7 by omega) (by decide), ?_⟩
        refine ⟨vs0.length, by simp, (v0 :: vs0).eraseIdx d.toNat, acc ++ [y], ler.symm, ?_, upd_same, fun z hz => hvs z (List.mem_of_mem_eraseIdx hz), fun z hz => ?_, ?_, fun c o nc e => ?_, ⟨g1, m1, ?_⟩, rfl⟩
        · rw [upd_ne (Ne.symm rl), upd_same]
        · rcases List.mem_append.mp hz with hz | hz
          · exact hacc z hz
          · rw [List.mem_singleton.mp hz]
            exact hvs y hmem
        · rw [List.length_append, ler, ← hsum]
          simp
          omega
        · have cl : c ≠ l := fun z => by rw [z, nl] at e; cases e
          have cr : c ≠ r := fun z => by rw [z, nrH] at e; cases e
          rw [upd_ne cr, upd_ne cl]
          exact kk _ _ nc (s3 _ _ (bG _ _ nc e))
        · rw [upd_ne (Ne.symm rf), upd_ne (Ne.symm lf)]
          exact ef2
end
end K03

set_option Elab.async false
set_option linter.all false
set_option maxRecDepth 100000
set_option maxHeartbeats 2000000
namespace K03
open PySem PySem.Spec PyProof.Rows L2
/-! ### the data of the law -/
theorem zi_get {l : List PyData} {k : Nat} {e : PyData × Nat} (h : e ∈ l.zipIdx k) : ∃ j, e.2 = k + j ∧ l[j]? = some e.1 := by
  obtain ⟨i, hi⟩ := List.getElem?_of_mem h
  rw [List.getElem?_zipIdx] at hi
  obtain ⟨d, hd, rfl⟩ := Option.map_eq_some_iff.mp hi
  exact ⟨i, rfl, hd⟩
theorem all_get : ∀ {n : Nat} {t : PyData} {p : List Nat} {e : List Nat × PyData}, WT n t → e ∈ allD n t p → ∃ r, e.1 = p ++ r ∧ getD t r = some e.2 ∧ r.length < n ∧ WT n e.2 ∧ widP t r
  | 0, _, _, _, h, _ => False.elim h
  | n + 1, t, p, e, h, he => by
    have e0 : allD (n + 1) t p = (p, t) :: ((kidsOf t).zipIdx (fOf t)).flatMap fun e => allD n e.1 (p ++ [e.2]) := rfl
    rw [e0] at he
    rcases List.mem_cons.mp he with rfl | he
    · exact ⟨[], by simp, rfl, Nat.succ_pos _, h, trivial⟩
    · obtain ⟨k, hk, he⟩ := List.mem_flatMap.mp he
      obtain ⟨hkw, hkl⟩ := h.kids
      obtain ⟨j, e2, hj⟩ := zi_get hk
      obtain ⟨r, h1, h2, h3, h4, h5⟩ := all_get (hkw _ (zi_mem hk)) he
      have hi : (its t)[k.2]? = some k.1 := by
        rw [e2]
        unfold kidsOf at hj
        rw [List.getElem?_drop] at hj
        exact hj
      refine ⟨k.2 :: r, by rw [h1]; simp, ?_, by rw [List.length_cons]; omega, h4.up, ?_, ?_⟩
      · unfold getD
        rw [hi]
        exact h2
      · obtain ⟨s, ms, pre, kids, rfl, g1, _, _, _, _, _, gl, gp, _⟩ := h.shape
        rw [g1, List.length_append]
        omega
      · intro d hd
        rw [hi] at hd
        cases hd
        exact h5
theorem putD_form (t : PyData) (i : Nat) (p : List Nat) (o : PyData) : (∃ h k ds, t = .tuple [h, k, .tuple ds] ∧ ((∃ d, ds[i]? = some d ∧ putD t (i :: p) o = .tuple [h, k, .tuple (ds.set i (putD d p o))]) ∨ putD t (i :: p) o = t)) ∨ putD t (i :: p) o = t := by
  by_cases e : ∃ h k ds, t = .tuple [h, k, .tuple ds]
  · obtain ⟨h, k, ds, rfl⟩ := e
    refine .inl ⟨h, k, ds, rfl, ?_⟩
    cases hd : ds[i]? with
    | some d => exact .inl ⟨d, rfl, put_step hd⟩
    | none =>
      refine .inr ?_
      rw [putD.eq_2, hd]
  · refine .inr ?_
    unfold putD
    split
    · rename_i e1
      cases e1
    · exact absurd ⟨_, _, _, rfl⟩ e
    · rfl
theorem ok_putD {b : Nat} {o : PyData} (ho : okD b o) : ∀ {p : List Nat} {a : Nat} {t : PyData}, okD a t → okD (a + b) (putD t p o)
  | [], a, t, _ => by
    have e : putD t [] o = o := by unfold putD; rfl
    rw [e]
    exact ho.le (Nat.le_add_left _ _)
  | i :: p, a, t, ht => by
    rcases putD_form t i p o with ⟨h, k, ds, rfl, ⟨d, hd, e⟩ | e⟩ | e
    · rw [e]
      obtain ⟨_, a1, rfl, q1⟩ := ht.tup
      obtain ⟨l2, a2, rfl, q2⟩ := (q1 (.tuple ds) (by simp)).tup
      have h3 := ok_putD ho (p := p) (q2 d (List.mem_of_getElem? hd))
      have e1 : a2 + 1 + 1 + b = (a2 + b + 1) + 1 := by omega
      rw [e1]
      refine okD.tuple (by show 3 ≤ 100; decide) fun x hx => ?_
      simp only [List.mem_cons, List.not_mem_nil, or_false] at hx
      rcases hx with rfl | rfl | rfl
      · exact (q1 x (by simp)).le (by omega)
      · exact (q1 x (by simp)).le (by omega)
      · refine okD.tuple (by rw [List.length_set]; exact l2) fun x hx => ?_
        rcases List.mem_or_eq_of_mem_set hx with hx | rfl
        · exact (q2 x hx).le (by omega)
        · exact h3
    · rw [e]
      exact ht.le (by omega)
    · rw [e]
      exact ht.le (by omega)
theorem get_put {o : PyData} : ∀ {p : List Nat} {t r : PyData}, getD t p = some r → getD (putD t p o) p = some o ∧ putD (putD t p o) p r = t
  | [], t, r, h => by
    have e : putD t [] o = o := by unfold putD; rfl
    rw [e]
    obtain rfl : t = r := by
      unfold getD at h
      exact Option.some.inj h
    exact ⟨by unfold getD; rfl, by unfold putD; rfl⟩
  | i :: p, t, r, h => by
    obtain ⟨a, b, ds, d, rfl, hd, hg⟩ := get_step h
    have lt := (List.getElem?_eq_some_iff.mp hd).1
    obtain ⟨h1, h2⟩ := get_put (o := o) hg
    rw [put_step hd]
    have hs : (ds.set i (putD d p o))[i]? = some (putD d p o) := List.getElem?_set_self lt
    refine ⟨?_, ?_⟩
    · unfold getD
      show (match (ds.set i (putD d p o))[i]? with | some d => getD d p | none => none) = some o
      rw [hs]
      exact h1
    · rw [put_step hs, h2, List.set_set]
      have : ds.set i d = ds := by
        obtain ⟨_, e⟩ := List.getElem?_eq_some_iff.mp hd
        rw [← e]
        exact List.set_getElem_self lt
      rw [this]
theorem wid_put {o : PyData} : ∀ {p : List Nat} {t r : PyData}, getD t p = some r → widP t p → widP (putD t p o) p
  | [], _, _, _, _ => trivial
  | i :: p, t, r, h, hw => by
    obtain ⟨a, b, ds, d, rfl, hd, hg⟩ := get_step h
    have lt := (List.getElem?_eq_some_iff.mp hd).1
    rw [put_step hd]
    have hs : (ds.set i (putD d p o))[i]? = some (putD d p o) := List.getElem?_set_self lt
    refine ⟨?_, fun d' hd' => ?_⟩
    · show (ds.set i (putD d p o)).length ≤ 100
      rw [List.length_set]
      exact hw.1
    · have hd'' : (ds.set i (putD d p o))[i]? = some d' := hd'
      rw [hs] at hd''
      cases hd''
      exact wid_put hg (hw.2 d hd)
theorem ok_bareD : ∀ {n a : Nat} {t : PyData}, okD a t → okD a (bareD n t)
  | 0, a, t, h => by
    have e : bareD 0 t = t := by unfold bareD; rfl
    rw [e]
    exact h
  | n + 1, a, t, h => by
    by_cases e : ∃ h k ds, t = .tuple [h, k, .tuple ds]
    · obtain ⟨x, k, ds, rfl⟩ := e
      have e1 : bareD (n + 1) (.tuple [x, k, .tuple ds]) = .tuple [x, .tuple [], .tuple (ds.map fun y => if isTup y = true then bareD n y else y)] := by rw [bareD.eq_2]
      rw [e1]
      obtain ⟨_, a1, rfl, q1⟩ := h.tup
      obtain ⟨l2, a2, rfl, q2⟩ := (q1 (.tuple ds) (by simp)).tup
      refine okD.tuple (by show 3 ≤ 100; decide) fun y hy => ?_
      simp only [List.mem_cons, List.not_mem_nil, or_false] at hy
      rcases hy with rfl | rfl | rfl
      · exact q1 y (by simp)
      · exact okD.tuple (Nat.zero_le _) fun _ z => by cases z
      · refine okD.tuple (by rw [List.length_map]; exact l2) fun y hy => ?_
        obtain ⟨z, hz, rfl⟩ := List.mem_map.mp hy
        split
        · exact ok_bareD (q2 z hz)
        · exact q2 z hz
    · have e1 : bareD (n + 1) t = t := by
        unfold bareD
        split
        · rename_i z
          exact absurd z (by omega)
        · exact absurd ⟨_, _, _, rfl⟩ e
        · rfl
      rw [e1]
      exact h
theorem ok_path {p : List Nat} (h : p.length ≤ 100) : okD 1 (pathD p) := okD.tuple (n := 0) (by rw [List.length_map]; exact h) fun x hx => by
  obtain ⟨i, _, rfl⟩ := List.mem_map.mp hx
  exact leafI i
theorem ok_ik {n : Nat} {t : PyData} (wt : WT n t) (hn : n ≤ 50) : ∀ d ∈ ikD n t [], okD 20 d := fun d hd => by
  unfold ikD at hd
  obtain ⟨e, he, rfl⟩ := List.mem_map.mp hd
  obtain ⟨r, h1, h2, h3, h4, h5⟩ := all_get wt (List.mem_filter.mp he).1
  have ho : okD 3 (.tuple (inkOf e.2)) := by
    obtain ⟨m, rfl⟩ : ∃ m, n = m + 1 := ⟨n - 1, by omega⟩
    obtain ⟨s, ms, pre, kids, e', g⟩ := h4
    rw [e']
    exact okD.tuple (n := 2) (by show ms.length ≤ 100; omega) g.2.2.2.2.2.2
  refine (okD.tuple (n := 3) (by show 2 ≤ 100; decide) fun x hx => ?_).le (by decide)
  simp only [List.mem_cons, List.not_mem_nil, or_false] at hx
  rcases hx with rfl | rfl
  · refine (ok_path ?_).le (by decide)
    rw [h1, List.nil_append]
    omega
  · exact ho
theorem ok_pair {n : Nat} {t : PyData} (wt : WT n t) (hn : n ≤ 8) : ∀ d ∈ (allD n t []).map pairD, okD 40 d := fun d hd => by
  obtain ⟨e, he, rfl⟩ := List.mem_map.mp hd
  obtain ⟨r, h1, h2, h3, h4, h5⟩ := all_get wt he
  refine okD.tuple (n := 39) (by show 2 ≤ 100; decide) fun x hx => ?_
  simp only [List.mem_cons, List.not_mem_nil, or_false] at hx
  rcases hx with rfl | rfl
  · refine (ok_path ?_).le (by decide)
    rw [h1, List.nil_append]
    omega
  · exact h4.ok.le (by omega)
theorem okD.refl {n : Nat} {d : PyData} (h : okD n d) : PyData.eqv d d = true := SeqAt.eqv_refl d h.lay.1
end K03

set_option Elab.async false
set_option linter.all false
set_option maxRecDepth 100000
set_option maxHeartbeats 4000000
namespace K03
open PySem PySem.Spec PyProof.Rows L2 LamX
section
variable {K : PySem.W.Frag}
theorem seqL {H H' : Hp} {a : Addr} {xs : List V} (s : Same H H') (h : H a = some (.lst xs)) : H' a = some (.lst xs) := s _ _ h
def tC1 (K : PySem.W.Frag) (PB : Addr) : TS := tIfS (tNot (tB (tCall (spSame K 30) [] E0 (tCons (tLst (tCons (tCall (spCount K) [] E0 (tCons (tVar 4) tNil)) (tCons (tCall (spBared K PB 7) [] E0 (tCons (tVar 4) tNil)) tNil)))
  (tCons (tLst (tCons (tCB (rLenK K) (tCons (tVar 6) tNil)) (tCons (tCall (spBare K 7) [] E0 (tCons (tVar 4) tNil)) tNil))) tNil))))) (tRet (tC (V.bl false))) tNext
def tC2 (K : PySem.W.Frag) : TS := tIfS (tOr (tNot (tB (tCall (spSame K 30) [] E0 (tCons (tCall (spSome K) [] E0 (tCons (tVar 4) (tCons (tVar 10) tNil))) (tCons (tSl (rSlL K) (tVar 9) tNoPart (tPart (tVar 10))) tNil)))))
  (tNot (tB (tCall (spSame K 30) [] E0 (tCons (tListG (tCallG (spInk K) [] E0 (tCons (tVar 4) tNil))) (tCons (tVar 9) tNil)))))) (tRet (tC (V.bl false))) tNext
def tDueL (K : PySem.W.Frag) : TE := tLc (iList K (tVar 6)) (gTup K 2 (gCons (gName 7) (gCons (gName 8) gNil))) (tTest (tOp (rNeD K) (tOp (rIxT K) (tVar 8) (tC (V.int 1))) (tTup tNil))) (tTup (tCons (tVar 7) (tCons (tOp (rIxT K) (tVar 8) (tC (V.int 1))) tNil))) [7, 8]
def tDue (K : PySem.W.Frag) : TS := tPar 9 10 (tCons (tDueL K) (tCons (tOp (rI0 fun i j => V.int (i + j)) (tC (V.int 1)) (tCall spDraw [] E0 (tCons (tVar 2) (tCons (tC (V.int 3)) tNil)))) tNil))
def tStep (K : PySem.W.Frag) : TS := tSeq (tAsg (tCall (spWith K 8) [] E0 (tCons (tVar 4) (tCons (tVar 7) (tCons (tVar 5) tNil)))) (gName 11))
  (tSeq (tIfS (tOr (tTest (tOp (rNeD K) (tCall (spSub K) [] E0 (tCons (tVar 4) (tCons (tVar 7) tNil))) (tVar 8))) (tTest (tOp (rNeD K) (tVar 11) (tCall (spWith K 8) [] E0 (tCons (tVar 4) (tCons (tVar 7) (tCons (tVar 5) tNil))))))) (tRet (tC (V.bl false))) tNext)
  (tIfS (tOr (tTest (tOp (rNeD K) (tCall (spSub K) [] E0 (tCons (tVar 11) (tCons (tVar 7) tNil))) (tVar 5))) (tTest (tOp (rNeD K) (tCall (spWith K 8) [] E0 (tCons (tVar 11) (tCons (tVar 7) (tCons (tVar 8) tNil)))) (tVar 4)))) (tRet (tC (V.bl false))) tNext))
def tLoop (K : PySem.W.Frag) : TS := tFor (iList K (tSl (rSlL K) (tCall (spMixed K) [] E0 (tCons (tVar 2) (tCons (tVar 6) tNil))) tNoPart (tPart (tC (V.int 8))))) (gTup K 2 (gCons (gName 7) (gCons (gName 8) gNil))) (tStep K)
variable {D : Ends} {σ : L2.St} {H : Hp} {vt vo : V} {t o : PyData} {kl : Addr} {ks : List V}
theorem len9 {t : PyData} {p : List Nat} (wt : WT 7 t) : (allD 7 t p).length ≤ 9 ^ 7 := all_len wt
theorem ifN_ {te : TE} {A : TS} (h : te σ H fun x H' => x = .bl true ∧ D.nx σ H') (mono : ∀ Q Q' : VK, (∀ v H', Q v H' → Q' v H') → te σ H Q → te σ H Q') : tIfS (tNot (tB te)) A tNext D σ H := by
  refine mono _ _ (fun v H' ⟨e, q⟩ => ?_) h
  subst e
  exact ⟨true, rfl, itF rfl q⟩
theorem none_of {H H' : Hp} (s : Same H H') {b : Addr} (h : H' b = none) : H b = none := by
  cases z : H b with
  | none => rfl
  | some o =>
    rw [s _ _ z] at h
    cases h
theorem TabS.but {H H' : Hp} {P fe : Addr} {q : Str} (hf : Fd H fe) (b : But fe H H') (t : TabS H P q) : TabS H' P q := by
  obtain ⟨g, m, ef⟩ := hf
  obtain ⟨ps, h1, h2, h3⟩ := t
  refine ⟨ps, b _ _ (fun z => by rw [z, ef] at h1; cases h1) h1, h2, fun pos cv hc => ?_⟩
  obtain ⟨c, e1, e2⟩ := h3 pos cv hc
  refine ⟨c, e1, b _ _ (fun z => ?_) e2⟩
  rw [z, ef] at e2
  unfold CodeO at e2
  cases e2
theorem rd_c1 {PB : Addr} (e4 : σ[4]? = some (some vt)) (e6 : σ[6]? = some (some (.ref kl))) (td : Td K H vt t) (wt : WT 7 t) (ek : H kl = some (.lst ks)) (hk : TdAll K H ks ((allD 7 t []).map pairD)) (hT : TabS H PB qB) (q : ∀ H', ExtN H H' → TabS H' PB qB → D.nx σ H') : tC1 K PB D σ H := by
  unfold tC1
  have ob : okD 20 (bareD 7 t) := (ok_bareD wt.ok).le (by decide)
  refine ⟨_, e4, vt, t, 7, rfl, td, wt, by decide, fun Ha sa => ?_⟩
  refine ⟨_, e4, vt, t, rfl, td_kp (Kp.of sa) td, wt, hT.ext sa, fun vb Hb eb nb Tb tb => ?_⟩
  refine ⟨(by show 2 ≤ sizeLine; decide), fun l1 n1 => ?_⟩
  have s1 : Same Hb (upd Hb l1 (.lst [.int ((szD 7 t : Nat) : Int), vb])) := same_new n1
  have el1 : (upd Hb l1 (.lst [.int ((szD 7 t : Nat) : Int), vb])) l1 = some (.lst [.int ((szD 7 t : Nat) : Int), vb]) := upd_same
  generalize upd Hb l1 (.lst [.int ((szD 7 t : Nat) : Int), vb]) = Hc at s1 el1 ⊢
  have sc : ExtN H Hc := (ExtN.of sa).trans (eb.trans (ExtN.of s1))
  refine ⟨_, e6, kl, ks, rfl, .inl (SqL.of (sc _ _ ek (fun ps z => by cases z))), ?_⟩
  have lk : ks.length = szD 7 t := by rw [hk.len, List.length_map, all_sz]
  rw [lk]
  refine ⟨_, e4, vt, t, rfl, td_kp (Kp.ext sc) td, wt, fun vd Hd sd tdd => ?_⟩
  refine ⟨(by show 2 ≤ sizeLine; decide), fun l2 n2 => ?_⟩
  have s2 : Same Hd (upd Hd l2 (.lst [.int ((szD 7 t : Nat) : Int), vd])) := same_new n2
  have el2 : (upd Hd l2 (.lst [.int ((szD 7 t : Nat) : Int), vd])) l2 = some (.lst [.int ((szD 7 t : Nat) : Int), vd]) := upd_same
  generalize upd Hd l2 (.lst [.int ((szD 7 t : Nat) : Int), vd]) = He at s2 el2 ⊢
  have ak : Ak K He 21 (.ref l1) (.ref l2) := by
    refine ak_lst (n := 20) (ds := [.int ((szD 7 t : Nat) : Int), bareD 7 t]) (s2 _ _ (sd _ _ el1)) el2 (.cons (.int _) (.cons (td_kp (Kp.of (s1.trans (sd.trans s2))) tb) .nil)) (.cons (.int _) (.cons (td_kp (Kp.of s2) tdd) .nil)) (by show 2 ≤ 9 ^ 7; decide) fun d hd => ?_
    simp only [List.mem_cons, List.not_mem_nil, or_false] at hd
    rcases hd with rfl | rfl
    · exact okD.leaf (leafI _)
    · exact ob
  refine ⟨.ref l1, .ref l2, 21, rfl, by decide, ak, fun Hf sf => ⟨true, rfl, itF rfl (nx_ (q _ ?_ ?_))⟩⟩
  · exact sc.trans (ExtN.of (sd.trans (s2.trans sf)))
  · exact Tb.ext (s1.trans (sd.trans (s2.trans sf)))
theorem ik9 {t : PyData} (wt : WT 7 t) : (ikD 7 t []).length ≤ 9 ^ 7 := by
  have h1 := ik_len 7 t []
  have h2 := len9 (p := []) wt
  rw [all_sz] at h2
  omega
theorem rd_c2 {dl : Addr} {due : List V} {many : Nat} (e4 : σ[4]? = some (some vt)) (e9 : σ[9]? = some (some (.ref dl))) (e10 : σ[10]? = some (some (.int (many : Int)))) (h1 : 1 ≤ many) (h2 : many ≤ 3) (td : Td K H vt t) (wt : WT 7 t) (ed : H dl = some (.lst due)) (hd : TdAll K H due (ikD 7 t [])) (q : ∀ H', Same H H' → D.nx σ H') : tC2 K D σ H := by
  unfold tC2
  have oi := ok_ik wt (by decide)
  have l9 := ik9 wt
  refine ⟨_, e4, _, e10, vt, t, 7, many, rfl, td, wt, by decide, by omega, by omega, fun l3 Ha ws sa na ea ta => ?_⟩
  refine ⟨_, e9, _, e10, _, rfl, dl, due, rfl, SqL.of (sa _ _ ed), fun p4 n4 => ?_⟩
  have s4 : Same Ha (upd Ha p4 (.lst (cutV due none (some (many : Int))))) := same_new n4
  have e4' : (upd Ha p4 (.lst (cutV due none (some (many : Int))))) p4 = some (.lst (cutV due none (some (many : Int)))) := upd_same
  rw [cut_take] at s4 e4' ⊢
  generalize upd Ha p4 (.lst (due.take many)) = Hb at s4 e4' ⊢
  have ak : Ak K Hb 21 (.ref l3) (.ref p4) := ak_lst (n := 20) (ds := (ikD 7 t []).take many) (s4 _ _ ea) e4' (tds_kp (Kp.of s4) ta) ((tds_kp (Kp.of (sa.trans s4)) hd).take many) (by rw [List.length_take]; omega) fun d hd => oi d (List.mem_of_mem_take hd)
  refine ⟨.ref l3, .ref p4, 21, rfl, by decide, ak, fun Hc sc => ⟨true, rfl, itF rfl ?_⟩⟩
  have s3 : Same H Hc := sa.trans (s4.trans sc)
  refine ⟨_, e4, vt, t, 7, rfl, td_kp (Kp.of s3) td, wt, by decide, fun ys Hd sd ty p5 n5 => ?_⟩
  have s5 : Same Hd (upd Hd p5 (.lst ys)) := same_new n5
  have e5 : (upd Hd p5 (.lst ys)) p5 = some (.lst ys) := upd_same
  generalize upd Hd p5 (.lst ys) = He at s5 e5 ⊢
  have sE : Same H He := s3.trans (sd.trans s5)
  have ak2 : Ak K He 21 (.ref p5) (.ref dl) := ak_lst (n := 20) (ds := ikD 7 t []) e5 (sE _ _ ed) (tds_kp (Kp.of s5) ty) (tds_kp (Kp.of sE) hd) l9 oi
  refine ⟨_, e9, .ref p5, .ref dl, 21, rfl, by decide, ak2, fun Hf sf => ⟨true, rfl, itF rfl (nx_ (q _ (sE.trans sf)))⟩⟩
end
end K03

set_option Elab.async false
set_option linter.all false
set_option maxRecDepth 100000
set_option maxHeartbeats 4000000
namespace K03
open PySem PySem.Spec PyProof.Rows L2 LamX
section
variable {K : PySem.W.Frag} {D : Ends} {H : Hp} {vt vo : V} {t o : PyData} {kl : Addr} {ks : List V}
def dueOf (l : List (List Nat × PyData)) : List PyData := (l.filter fun e => !(inkOf e.2).isEmpty).map inkP
theorem take_due {l : List (List Nat × PyData)} {i : Nat} {e : List Nat × PyData} (h : l[i]? = some e) : dueOf (l.take (i + 1)) = dueOf (l.take i) ++ (if (!(inkOf e.2).isEmpty) = true then [inkP e] else []) := by
  unfold dueOf
  rw [List.take_add_one, h, List.filter_append, List.map_append]
  congr 1
  cases c : (inkOf e.2).isEmpty <;> simp [c]
/-- what is due -/
theorem rd_dueL {v0 v1 v2 v3 v4 v5 v7 v8 v9 v10 v11 : Option V} {Q : VK} (wt : WT 7 t) (ek : H kl = some (.lst ks)) (hk : TdAll K H ks ((allD 7 t []).map pairD))
    (q : ∀ l H' ws, Same H H' → H l = none → H' l = some (.lst ws) → TdAll K H' ws (ikD 7 t []) → Q (.ref l) H') : tDueL K [v0, v1, v2, v3, v4, v5, some (.ref kl), v7, v8, v9, v10, v11] H Q := by
  unfold tDueL
  refine ⟨_, rfl, kl, rfl, ⟨ks, SqL.of ek⟩, fun B nB => ?_⟩
  have hlk := hk.len
  rw [List.length_map] at hlk
  have h9 := len9 (p := []) wt
  refine lc_list (K := K) (a := kl) (xs := ks) (fun i G => Same H G ∧ ∃ acc, G B = some (.lst acc) ∧ TdAll K G acc (dueOf ((allD 7 t []).take i))) ⟨same_new nB, [], upd_same, .nil⟩ (fun i G _ p => SqL.of (p.1 _ _ ek)) ?_ ?_
  · rintro i x G hx ⟨sG, acc, eB, tds⟩
    obtain ⟨d, hd, td⟩ := hk.get hx
    rw [List.getElem?_map] at hd
    obtain ⟨e, he, rfl⟩ := Option.map_eq_some_iff.mp hd
    have li := (List.getElem?_eq_some_iff.mp hx).1
    obtain ⟨r, g1, g2, g3, g4, g5⟩ := all_get wt (List.mem_of_getElem? he)
    obtain ⟨s, ms, pre, kids, ee, w1, w2, w3, w4, w5, w6, w7⟩ := g4
    have hink : inkOf e.2 = ms := by rw [ee]; rfl
    have hcut := take_due he
    rw [hink] at hcut
    obtain ⟨a, xs, rfl, ha, hr⟩ := td_tup (td_kp (Kp.of sG) td)
    obtain ⟨vp, vn, rfl, tp, tn⟩ : ∃ x y, xs = [x, y] ∧ Td K G x (pathD e.1) ∧ Td K G y e.2 := by
      cases hr with
      | cons h1 h =>
        cases h with
        | cons h2 h =>
          cases h
          exact ⟨_, _, rfl, h1, h2⟩
    refine ⟨a, _, rfl, ha, rfl, _, _, rfl, _, _, rfl, rfl, rfl, ?_⟩
    rw [ee] at tn
    refine (PV.ix (i := 1) (PV.var (i := 8) rfl tn) PV.int rfl) G _ Kp.refl fun v8 H8 s8 t8 => ?_
    refine ⟨Nat.zero_le _, fun pq nq => ?_⟩
    have s9 : Same H8 (upd H8 pq (.tup [])) := same_new nq
    have e9 : (upd H8 pq (.tup [])) pq = some (.tup []) := upd_same
    generalize upd H8 pq (.tup []) = H9 at s9 e9 ⊢
    have okm : okD 3 (.tuple ms) := okD.tuple (n := 2) (by omega) w7
    refine ⟨.tuple ms, .tuple [], td_dp (td_kp (Kp.of s9) t8), .tup (SqT.of e9) .nil, okm.shaped (by decide), nil_sh, _, rfl, ?_⟩
    rw [eqv_nil]
    have s89 := s8.trans s9
    refine ite2 (fun c => ?_) (fun c => ?_)
    · rw [if_pos c] at hcut
      refine (PV.tup (PVs.cons (PV.var (i := 7) rfl (td_kp (Kp.of s89) tp)) (PVs.cons (PV.ix (i := 1) (PV.var (i := 8) rfl (td_kp (Kp.of s89) tn)) PV.int rfl) .nil)) (by show 2 ≤ 1000; decide)) H9 _ Kp.refl fun y H10 s10 t10 => ?_
      have sA := s89.trans s10
      refine ⟨acc, sA _ _ eB, ?_, fun b o e' => ?_, acc ++ [y], upd_same, ?_⟩
      · have h1 := tds.len
        have h2 : (dueOf ((allD 7 t []).take i)).length ≤ ((allD 7 t []).take i).length := by
          unfold dueOf
          rw [List.length_map]
          exact List.length_filter_le ..
        have h3 : ((allD 7 t []).take i).length ≤ i := by
          rw [List.length_take]
          exact Nat.min_le_left _ _
        exact Nat.lt_of_le_of_lt (show acc.length ≤ 9 ^ 7 by omega) (by decide)
      · have hb : b ≠ B := fun z => by rw [z, nB] at e'; cases e'
        rw [upd_ne hb]
        exact sA _ _ (sG _ _ e')
      · have kk : Kp H10 (upd H10 B (.lst (acc ++ [y]))) := Kp.lst (sA _ _ eB)
        rw [hcut]
        refine (tds_kp ((Kp.of sA).trans kk) tds).app (.cons (td_kp kk ?_) .nil)
        unfold inkP
        rw [hink]
        exact t10
    · rw [if_neg c, List.append_nil] at hcut
      exact ⟨sG.trans s89, acc, s89 _ _ eB, by rw [hcut]; exact tds_kp (Kp.of s89) tds⟩
  · rintro G ⟨sG, acc, eB, tds⟩
    rw [List.take_of_length_le (by omega)] at tds
    exact q B G acc sG nB eB tds
/-- a comparison of two values of one datum -/
theorem ne_ {σ : L2.St} {G : Hp} {v u : V} {d : PyData} {R : Bool → Hp → Prop} (tv : Td K G v d) (tu : Td K G u d) (ok : okD 40 d) (q : R false G) : rNeD K v u G fun x H' => ∃ k, x = V.bl k ∧ R k H' := by
  refine ⟨d, d, td_dp tv, td_dp tu, ok.shaped (by decide), ok.shaped (by decide), false, ?_, q⟩
  rw [ok.refl]
  rfl
theorem rd_step {v0 v1 v2 v3 v6 v9 v10 v11 : Option V} {vp vn : V} {r : List Nat} {d : PyData} (tt : Td K H vt t) (to : Td K H vo o) (tp : Td K H vp (pathD r)) (tn : Td K H vn d) (wt : WT 7 t) (wo : WT 5 o) (hg : getD t r = some d) (hw : widP t r) (hr : r.length < 7) (wd : WT 7 d)
    (q : ∀ w11 H', Same H H' → D.nx [v0, v1, v2, v3, some vt, some vo, v6, some vp, some vn, v9, v10, w11] H') : tStep K D [v0, v1, v2, v3, some vt, some vo, v6, some vp, some vn, v9, v10, v11] H := by
  unfold tStep
  have okt : okD 16 t := wt.ok
  have oko : okD 12 o := wo.ok
  have okd : okD 16 d := wd.ok
  have okp : okD 28 (putD t r o) := ok_putD oko okt
  obtain ⟨g1, g2⟩ := get_put (o := o) hg
  have w1 := wid_put (o := o) hg hw
  refine seq_asg ?_
  refine ⟨_, rfl, _, rfl, _, rfl, vt, vp, vo, t, d, o, r, rfl, tt, tp, to, by omega, by omega, hg, hw, fun vf H1 s1 tf => ?_⟩
  dsimp only [gName, List.set]
  have tt1 := td_kp (Kp.of s1) tt
  have to1 := td_kp (Kp.of s1) to
  have tp1 := td_kp (Kp.of s1) tp
  have tn1 := td_kp (Kp.of s1) tn
  refine seq_ ?_
  refine ⟨_, rfl, _, rfl, vt, vp, t, d, r, rfl, tt1, tp1, hg, fun va H2 s2 ta => ?_⟩
  refine ⟨_, rfl, ne_ (σ := []) ta (td_kp (Kp.of s2) tn1) (okd.le (by decide)) (itF rfl ?_)⟩
  have tf2 := td_kp (Kp.of s2) tf
  refine ⟨_, rfl, _, rfl, _, rfl, _, rfl, vt, vp, vo, t, d, o, r, rfl, td_kp (Kp.of s2) tt1, td_kp (Kp.of s2) tp1, td_kp (Kp.of s2) to1, by omega, by omega, hg, hw, fun vb H3 s3 tb => ?_⟩
  refine ne_ (σ := []) (td_kp (Kp.of s3) tf2) tb (okp.le (by decide)) (itF rfl (nx_ ?_))
  have s23 := s2.trans s3
  have tf3 := td_kp (Kp.of s23) tf
  have tp3 := td_kp (Kp.of s23) tp1
  refine ⟨_, rfl, _, rfl, vf, vp, putD t r o, o, r, rfl, tf3, tp3, g1, fun vc H4 s4 tc => ?_⟩
  refine ⟨_, rfl, ne_ (σ := []) tc (td_kp (Kp.of (s23.trans s4)) to1) (oko.le (by decide)) (itF rfl ?_)⟩
  refine ⟨_, rfl, _, rfl, _, rfl, vf, vp, vn, putD t r o, o, d, r, rfl, td_kp (Kp.of s4) tf3, td_kp (Kp.of s4) tp3, td_kp (Kp.of (s23.trans s4)) tn1, by omega, by omega, g1, w1, fun ve H5 s5 te => ?_⟩
  rw [g2] at te
  refine ⟨_, rfl, ne_ (σ := []) te (td_kp (Kp.of (s23.trans (s4.trans s5))) tt1) (okt.le (by decide)) (itF rfl (nx_ ?_))⟩
  exact q _ H5 (s1.trans (s23.trans (s4.trans s5)))
/-- the loop over some of the nodes -/
theorem rd_loop {v0 v1 v3 v7 v8 v9 v10 v11 : Option V} {fe : Addr} (hf : Fd H fe) (nk : kl ≠ fe) (tt : Td K H vt t) (to : Td K H vo o) (wt : WT 7 t) (wo : WT 5 o) (ek : H kl = some (.lst ks)) (hk : TdAll K H ks ((allD 7 t []).map pairD))
    (q : ∀ w7 w8 w11 H', But fe H H' → Fd H' fe → D.nx [v0, v1, some (.ref fe), v3, some vt, some vo, some (.ref kl), w7, w8, v9, v10, w11] H') : tLoop K D [v0, v1, some (.ref fe), v3, some vt, some vo, some (.ref kl), v7, v8, v9, v10, v11] H := by
  unfold tLoop
  have h9 := len9 (p := []) wt
  have hlk := hk.len
  rw [List.length_map] at hlk
  refine ⟨_, rfl, _, rfl, fe, kl, ks, _, rfl, hf, nk, ek, hk, ok_pair wt (by decide), by omega, fun lm Hm ys bm fm nm em mem => ?_⟩
  refine ⟨_, rfl, lm, ys, rfl, SqL.of em, fun p6 n6 => ?_⟩
  rw [show (8 : Int) = ((8 : Nat) : Int) from rfl, cut_take]
  have s6 : Same Hm (upd Hm p6 (.lst (ys.take 8))) := same_new n6
  have e6 : (upd Hm p6 (.lst (ys.take 8))) p6 = some (.lst (ys.take 8)) := upd_same
  generalize upd Hm p6 (.lst (ys.take 8)) = G at s6 e6 ⊢
  refine ⟨p6, rfl, ⟨_, SqL.of e6⟩, ?_⟩
  have kG : Kp H G := (Kp.but hf bm).trans (Kp.of s6)
  have fG := Fd.same s6 fm
  have hkG := tds_kp kG hk
  have ttG := td_kp kG tt
  have toG := td_kp kG to
  refine for_list (K := K) (a := p6) (xs := ys.take 8) (fun i σ H' => (∃ w7 w8 w11 : Option V, σ = [v0, v1, some (.ref fe), v3, some vt, some vo, some (.ref kl), w7, w8, v9, v10, w11]) ∧ Same G H') ⟨⟨_, _, _, rfl⟩, Same.refl _⟩ (fun i σ H' _ p => SqL.of (p.2 _ _ e6)) ?_ ?_
  · rintro i x σ H' hx ⟨⟨w7, w8, w11, rfl⟩, sH⟩
    have hxm := mem x (List.mem_of_mem_take (List.mem_of_getElem? hx))
    obtain ⟨ix, hix⟩ := List.getElem?_of_mem hxm
    obtain ⟨dd, hdd, td⟩ := hkG.get hix
    rw [List.getElem?_map] at hdd
    obtain ⟨e, he, rfl⟩ := Option.map_eq_some_iff.mp hdd
    obtain ⟨r, g1, g2, g3, g4, g5⟩ := all_get wt (List.mem_of_getElem? he)
    rw [List.nil_append] at g1
    obtain ⟨a, xs, rfl, ha, hr⟩ := td_tup (td_kp (Kp.of sH) td)
    obtain ⟨vp, vn, rfl, tp, tn⟩ : ∃ x y, xs = [x, y] ∧ Td K H' x (pathD e.1) ∧ Td K H' y e.2 := by
      cases hr with
      | cons h1 h =>
        cases h with
        | cons h2 h =>
          cases h
          exact ⟨_, _, rfl, h1, h2⟩
    rw [g1] at tp
    refine ⟨a, _, rfl, ha, rfl, _, _, rfl, _, _, rfl, rfl, ?_⟩
    exact rd_step (td_kp (Kp.of sH) ttG) (td_kp (Kp.of sH) toG) tp tn wt wo g2 g5 g3 g4 fun w11 H2 s2 => ⟨⟨_, _, _, rfl⟩, sH.trans s2⟩
  · rintro σ H' ⟨⟨w7, w8, w11, rfl⟩, sH⟩
    exact q _ _ _ H' (bm.trans (But.of (s6.trans sH))) (Fd.same sH fG)
theorem par_ {te u : TE} {i j : Nat} {σ : L2.St} (h : te σ H fun x H1 => u σ H1 fun y H2 => ∃ v w, [x, y] = [v, w] ∧ D.nx ((σ.set i (some v)).set j (some w)) H2) : tPar i j (tCons te (tCons u tNil)) D σ H := h
def tBody (K : PySem.W.Frag) (PB : Addr) : TS := tSeq (tPar 4 5 (tCons (tCall (spIT K 4) [] E0 (tCons (tVar 2) (tCons (tC (V.int 3)) tNil))) (tCons (tCall (spIT K 4) [] E0 (tCons (tVar 2) (tCons (tC (V.int 2)) tNil))) tNil)))
  (tSeq (tAsg (tCall (spAll K 7) [] E0 (tCons (tVar 4) (tCons (tTup tNil) tNil))) (gName 6)) (tSeq (tDue K) (tSeq (tC1 K PB) (tSeq (tC2 K) (tLoop K)))))
/-- all but the feed and the tables stay -/
def ButT (f : Addr) (H H' : Hp) : Prop := ∀ b o, b ≠ f → H b = some o → (∀ ps, o ≠ .tbl ps) → H' b = some o
theorem ButT.of {f : Addr} {H H' : Hp} (b : But f H H') : ButT f H H' := fun c o n h _ => b c o n h
theorem ButT.ext {f : Addr} {H H' : Hp} (b : ExtN H H') : ButT f H H' := fun c o _ h t => b c o h t
theorem ButT.trans {f : Addr} {H H1 H2 : Hp} (a : ButT f H H1) (b : ButT f H1 H2) : ButT f H H2 := fun c o n h t => b c o n (a c o n h t) t
theorem Fd.ext {H H' : Hp} {f : Addr} (e : ExtN H H') (h : Fd H f) : Fd H' f := by
  obtain ⟨g, m, z⟩ := h
  exact ⟨g, m, e _ _ z (fun ps y => by cases y)⟩
theorem rd_body {PB : Addr} {v0 v1 v3 v4 v5 v6 v7 v8 v9 v10 v11 : Option V} {fe : Addr} (hf : Fd H fe) (hT : TabS H PB qB)
    (q : ∀ w4 w5 w6 w7 w8 w9 w10 w11 H', ButT fe H H' → Fd H' fe → TabS H' PB qB → D.nx [v0, v1, some (.ref fe), v3, w4, w5, w6, w7, w8, w9, w10, w11] H') : tBody K PB D [v0, v1, some (.ref fe), v3, v4, v5, v6, v7, v8, v9, v10, v11] H := by
  unfold tBody
  refine seq_ ?_
  refine ⟨_, rfl, fe, 3, rfl, by decide, hf, fun vt H1 t b1 hf1 tt wt => ?_⟩
  refine ⟨_, rfl, fe, 2, rfl, by decide, hf1, fun vo H2 o b2 hf2 to wo => ⟨_, _, rfl, ?_⟩⟩
  dsimp only [List.set]
  have tt2 := td_kp (Kp.but hf1 b2) tt
  refine seq_asg ?_
  refine ⟨_, rfl, Nat.zero_le _, fun pe ne => ?_⟩
  have s3 : Same H2 (upd H2 pe (.tup [])) := same_new ne
  have e3 : (upd H2 pe (.tup [])) pe = some (.tup []) := upd_same
  generalize upd H2 pe (.tup []) = H3 at s3 e3 ⊢
  refine ⟨vt, .ref pe, t, [], rfl, td_kp (Kp.of s3) tt2, .tup (SqT.of e3) .nil, wt, by decide, by decide, fun kl H4 ks s4 n4 e4 t4 => ?_⟩
  dsimp only [gName, List.set]
  have s24 := s3.trans s4
  have hf4 := Fd.same s24 hf2
  have nk : kl ≠ fe := fun z => by
    obtain ⟨g, m, e⟩ := Fd.same s3 hf2
    rw [z, e] at n4
    cases n4
  have tt4 := td_kp (Kp.of s24) tt2
  have to4 := td_kp (Kp.of s24) to
  refine seq_ ?_
  unfold tDue
  refine par_ (rd_dueL wt e4 t4 fun dl H5 ws s5 n5 e5 t5 => ?_)
  have hf5 := Fd.same s5 hf4
  have nd : dl ≠ fe := fun z => by
    obtain ⟨g, m, e⟩ := hf4
    rw [z, e] at n5
    cases n5
  obtain ⟨g5, m5, ef5⟩ := hf5
  refine ⟨_, rfl, fe, g5, m5, 3, rfl, ef5, by decide, by decide, fun d g6 m6 d0 d1 => ⟨_, _, rfl, rfl, ?_⟩⟩
  obtain ⟨k, rfl⟩ : ∃ k : Nat, d = (k : Int) := ⟨d.toNat, by omega⟩
  have b6 : But fe H5 (upd H5 fe (.lst [.int g6, .int m6])) := But.upd
  have hf6 : Fd (upd H5 fe (.lst [.int g6, .int m6])) fe := ⟨g6, m6, upd_same⟩
  have k6 : Kp H5 (upd H5 fe (.lst [.int g6, .int m6])) := Kp.lst ef5
  generalize upd H5 fe (.lst [.int g6, .int m6]) = H6 at b6 hf6 k6 ⊢
  refine ⟨_, _, rfl, ?_⟩
  dsimp only [List.set]
  have ecast : (V.int (1 + (k : Int))) = V.int ((1 + k : Nat) : Int) := by
    congr 1
  rw [ecast]
  have tt6 := td_kp ((Kp.of s5).trans k6) tt4
  have to6 := td_kp ((Kp.of s5).trans k6) to4
  have t46 := tds_kp ((Kp.of s5).trans k6) t4
  have e46 := b6 _ _ nk (s5 _ _ e4)
  have T6 : TabS H6 PB qB := TabS.but ⟨g5, m5, ef5⟩ b6 (TabS.ext (TabS.but hf1 b2 (TabS.but hf b1 hT)) (s24.trans s5))
  refine seq_ (rd_c1 rfl rfl tt6 wt e46 t46 T6 fun H7 s7 T7 => ?_)
  refine seq_ (rd_c2 rfl rfl rfl (by omega) (by omega) (td_kp (Kp.ext s7) tt6) wt (s7 _ _ (b6 _ _ nd e5) (fun ps z => by cases z)) (tds_kp (k6.trans (Kp.ext s7)) t5) fun H8 s8 => ?_)
  have s78 : ExtN H6 H8 := s7.trans (ExtN.of s8)
  have hf8 := Fd.ext s78 hf6
  refine rd_loop hf8 nk (td_kp (Kp.ext s78) tt6) (td_kp (Kp.ext s78) to6) wt wo (s78 _ _ e46 (fun ps z => by cases z)) (tds_kp (Kp.ext s78) t46) fun w7 w8 w11 H9 b9 hf9 => ?_
  exact q _ _ _ _ _ _ _ _ H9 ((ButT.of (b1.trans (b2.trans ((But.of (s24.trans s5)).trans b6)))).trans ((ButT.ext s78).trans (ButT.of b9))) hf9 (TabS.but hf8 b9 (T7.ext s8))
end
end K03

set_option Elab.async false
set_option linter.all false
set_option maxRecDepth 100000
set_option maxHeartbeats 4000000
namespace K03
open PySem PySem.Spec PyProof.Rows L2 LamX
abbrev sLaw : Stmt := top 29
abbrev nLaw : List Str := ["_law_script", "_law_k", "_law_feed", "_law_turn", "_law_tree", "_law_other", "_law_known", "_law_path", "_law_node", "_law_due", "_law_many", "_law_found"]
theorem scL : FnScope nLaw ["_law_script"] (defScope sLaw) := ⟨rfl, rfl, rfl, by decide +kernel, rfl, by decide +kernel, by decide +kernel⟩
section
variable {P : Program} {w : World} {K : PySem.W.Frag} {mg : Str → Option Value} {base : Heap}
def spLaw (K : PySem.W.Frag) (PB : Addr) : Sp := fun vs H Q _ => ∃ (a : Addr) (ns : List Int), vs = [.ref a] ∧ SqL K H a (ns.map V.int) ∧ ns.length ≤ 63 ∧ TabS H PB qB ∧ ∀ H', Q (.bl true) H'
structure TL (mg : Str → Option Value) : Prop where
  mr : mg "range" = none
  mx : mg "max" = none
  mm : mg "min" = none
theorem passG {X : Cx} : Passes (CX X.prog X.w) X E0 := fun _ _ _ _ _ _ _ h => by
  obtain ⟨_, _, _, _, _, _, _, _, _, _, _, _, z⟩ := h
  exact z.elim
theorem seq_ext {K : PySem.W.Frag} {H H' : Hp} {a : Addr} {xs : List V} (e : ExtN H H') (h : SqL K H a xs) : SqL K H' a xs := by
  rcases h with (h | ⟨o, h⟩) | h
  · exact .inl (.inl (e _ _ h (fun ps z => by cases z)))
  · exact .inl (.inr ⟨o, e _ _ h (fun ps z => by cases z)⟩)
  · exact .inr h
theorem ok_law {PB : Addr} {f fF fD fI fA fC fB fb fS fO fG fM fW fU fP : Addr} {fd dF dD dI dA dC dB db dS dO dG dM dW dU dP : FuncData} (F : Fun K "law" "law" sLaw f fd) (B : BI mg) (T : TL mg)
    (CF : Cal P w K mg base "_law_feed_of" 1 fF dF ["_law_script", "_law_k"] [] (spFeed K)) (CD : Cal P w K mg base "_law_draw" 1 fD dD ["_law_feed", "_law_many"] [] spDraw)
    (CI : Cal P w K mg base "_law_inked_tree" 7 fI dI ["_law_feed", "_law_deep"] [] (spIT K 4)) (CA : Cal P w K mg base "_law_all" 8 fA dA ["_law_tree", "_law_path"] [] (spAll K 7))
    (CC : Cal P w K mg base "count" 1 fC dC ["tree"] [] (spCount K)) (CB : Cal P w K mg base "bared" 4 fB dB ["tree"] [] (spBared K PB 7)) (Cb : Cal P w K mg base "_law_bare" 8 fb db ["_law_tree"] [] (spBare K 7))
    (CS : Cal P w K mg base "_law_same" 30 fS dS ["_law_found", "_law_due"] [] (spSame K 30)) (CO : Cal P w K mg base "_law_some" 5 fO dO ["_law_tree", "_law_many"] [] (spSome K))
    (GG : GFn P w K mg base 1 fG dG ["tree"] (spInk K)) (mG : mg "inked" = some (.ref fG)) (kG : PySem.W.keepIn K (.ref fG) = true) (bG : Binds K dG ["tree"] [])
    (CM : Cal P w K mg base "_law_mixed" 2 fM dM ["_law_feed", "_law_items"] [] (spMixed K)) (CW : Cal P w K mg base "with_subtree" 2 fW dW ["tree", "path", "other"] [] (spWith K 8))
    (CU : Cal P w K mg base "subtree" 1 fU dU ["tree", "path"] [] (spSub K)) (CP : Cal P w K mg base "_law_put" 8 fP dP ["_law_tree", "_law_path", "_law_other"] [] (spWith K 8)) :
    FnOk P w K mg base CX0 31 f fd ["_law_script"] (spLaw K PB) := by
  refine F.ok scL (fun vs H Q E h => ?_) (fun cdv A outer s H vs Q E hr h => ?_)
  · obtain ⟨a, ns, rfl, _⟩ := h
    rfl
  · obtain ⟨a, ns, rfl, hS, hlen, hT, q⟩ := h
    have hr1 : Room 1 _ := hr.mono (by decide)
    have hr2 : Room 2 _ := hr.mono (by decide)
    have hr4 : Room 4 _ := hr.mono (by decide)
    have hr5 : Room 5 _ := hr.mono (by decide)
    have hr7 : Room 7 _ := hr.mono (by decide)
    have hr8 : Room 8 _ := hr.mono (by decide)
    have hu : (A.deeper (envOfC "law" (defScope sLaw) s.heap.objs.size f cdv)).units + 64 < cLine := by
      have := hr.un
      omega
    refine ⟨_, pss_cons (ps_for PassesOwn.never rfl (pi_range1 rfl T.mr (pa_cons (pe_callB (call_max2 rfl) (by rfl) T.mx (by decide +kernel) (pa_cons pe_int (pa_cons (pe_callB (call_min2 rfl) (by rfl) T.mm (by decide +kernel)
          (pa_cons pe_int (pa_cons (pe_callB call_len_seq rfl B.len PySem.boot_len (pa_cons (pv 0) pa_nil)) pa_nil))) pa_nil))) pa_nil)) (pg_name (i := 1) scL.nd rfl (.inl rfl))
        (pss_cons (ps_set (i := 2) scL.nd rfl (.inl rfl) (pe_call CF.G hr1 rfl CF.m CF.k CF.b .nil pass0 (pa_cons (pv 0) (pa_cons (pv 1) pa_nil))))
        (pss_one (ps_for PassesOwn.never rfl (pi_range1 rfl T.mr (pa_cons pe_int pa_nil)) (pg_name (i := 3) scL.nd rfl (.inl rfl))
          (pss_cons (ps_par (i := 4) (j := 5) (by rfl) scL.nd rfl rfl (by decide) rfl rfl (pa_cons (pe_call CI.G hr7 rfl CI.m CI.k CI.b .nil pass0 (pa_cons (pv 2) (pa_cons pe_int pa_nil))) (pa_cons (pe_call CI.G hr7 rfl CI.m CI.k CI.b .nil pass0 (pa_cons (pv 2) (pa_cons pe_int pa_nil))) pa_nil)) (by rfl))
          (pss_cons (ps_set (i := 6) scL.nd rfl (.inl rfl) (pe_call CA.G hr8 rfl CA.m CA.k CA.b .nil pass0 (pa_cons (pv 4) (pa_cons (pe_tup pa_nil) pa_nil))))
          (pss_cons (ps_par (i := 9) (j := 10) (by rfl) scL.nd rfl rfl (by decide) rfl rfl (pa_cons
              (pe_lc (own := [("_law_path", 7), ("_law_node", 8)]) (g := gTup K 2 (gCons (gName 7) (gCons (gName 8) gNil))) (tt := tTest (tOp (rNeD K) (tOp (rIxT K) (tVar 8) (tC (.int 1))) (tTup tNil))) (te := tTup (tCons (tVar 7) (tCons (tOp (rIxT K) (tVar 8) (tC (.int 1))) tNil))) rfl scL.nd (pi_list (pv 6)) (blkOk_by (N := nLaw) (sc := defScope sLaw) (by decide +kernel))
                (fun _ _ _ _ _ => pg_tup rfl (pgs_cons (pg_name (i := 7) scL.nd rfl (.inl rfl)) (pgs_cons (pg_name (i := 8) scL.nd rfl (.inl rfl)) pgs_nil))) (fun _ _ _ _ _ => pts_one (pt_cmpR (op_neD hu) (pe_ix ix_tup (pv 8) pe_int (fun _ _ => rfl)) (pe_tup pa_nil) (nomark _)))
                (fun _ _ _ _ _ => pe_tup (pa_cons (pv 7) (pa_cons (pe_ix ix_tup (pv 8) pe_int (fun _ _ => rfl)) pa_nil))))
              (pa_cons (pe_op op_add pe_int (pe_call CD.G hr1 rfl CD.m CD.k CD.b .nil pass0 (pa_cons (pv 2) (pa_cons pe_int pa_nil)))) pa_nil)) (by rfl))
          (pss_cons (ps_if (pt_not (pt_val (pe_call CS.G hr rfl CS.m CS.k CS.b .nil pass0 (pa_cons (pe_lst (pa_cons (pe_call CC.G hr1 rfl CC.m CC.k CC.b .nil pass0 (pa_cons (pv 4) pa_nil)) (pa_cons (pe_call CB.G hr4 rfl CB.m CB.k CB.b .nil pass0 (pa_cons (pv 4) pa_nil)) pa_nil)))
              (pa_cons (pe_lst (pa_cons (pe_callB call_len_seq rfl B.len PySem.boot_len (pa_cons (pv 6) pa_nil)) (pa_cons (pe_call Cb.G hr8 rfl Cb.m Cb.k Cb.b .nil pass0 (pa_cons (pv 4) pa_nil)) pa_nil))) pa_nil))))) (pss_one (ps_ret pe_bl)) pss_nil)
          (pss_cons (ps_if (PW.pt (pw_or (pt_not (pt_val (pe_call CS.G hr rfl CS.m CS.k CS.b .nil pass0 (pa_cons (pe_call CO.G hr5 rfl CO.m CO.k CO.b .nil pass0 (pa_cons (pv 4) (pa_cons (pv 10) pa_nil))) (pa_cons (pe_slice sl_list (pv 9) po_none (po_some (pv 10))) pa_nil)))))
              (pw_or1 (pt_not (pt_val (pe_call CS.G hr rfl CS.m CS.k CS.b .nil pass0 (pa_cons (pe_listG (k := 1) (E := E0) (pgen_call (E := E0) GG hr1 rfl mG kG bG .nil (pa_cons (pv 4) pa_nil)) passG (fun _ _ _ z => z.elim) hr4 (by rfl) B.lst (by decide +kernel)) (pa_cons (pv 9) pa_nil)))))))) (pss_one (ps_ret pe_bl)) pss_nil)
          (pss_one (ps_for PassesOwn.never rfl (pi_list (pe_slice sl_list (pe_call CM.G hr2 rfl CM.m CM.k CM.b .nil pass0 (pa_cons (pv 2) (pa_cons (pv 6) pa_nil))) po_none (po_some pe_int))) (pg_tup rfl (pgs_cons (pg_name (i := 7) scL.nd rfl (.inl rfl)) (pgs_cons (pg_name (i := 8) scL.nd rfl (.inl rfl)) pgs_nil)))
            (pss_cons (ps_set (i := 11) scL.nd rfl (.inl rfl) (pe_call CW.G hr2 rfl CW.m CW.k CW.b .nil pass0 (pa_cons (pv 4) (pa_cons (pv 7) (pa_cons (pv 5) pa_nil)))))
            (pss_cons (ps_if (PW.pt (pw_or (pt_cmpR (op_neD hu) (pe_call CU.G hr1 rfl CU.m CU.k CU.b .nil pass0 (pa_cons (pv 4) (pa_cons (pv 7) pa_nil))) (pv 8) (nomark _))
                (pw_or1 (pt_cmpR (op_neD hu) (pv 11) (pe_call CP.G hr8 rfl CP.m CP.k CP.b .nil pass0 (pa_cons (pv 4) (pa_cons (pv 7) (pa_cons (pv 5) pa_nil)))) (nomark _))))) (pss_one (ps_ret pe_bl)) pss_nil)
            (pss_one (ps_if (PW.pt (pw_or (pt_cmpR (op_neD hu) (pe_call CU.G hr1 rfl CU.m CU.k CU.b .nil pass0 (pa_cons (pv 11) (pa_cons (pv 7) pa_nil))) (pv 5) (nomark _))
                (pw_or1 (pt_cmpR (op_neD hu) (pe_call CW.G hr2 rfl CW.m CW.k CW.b .nil pass0 (pa_cons (pv 11) (pa_cons (pv 7) (pa_cons (pv 8) pa_nil)))) (pv 4) (nomark _))))) (pss_one (ps_ret pe_bl)) pss_nil)))))))))))))))
      (pss_one (ps_ret pe_bl)), ?_⟩
    refine ⟨_, rfl, a, _, rfl, .inl hS, _, _, rfl, _, _, rfl, _, rfl, ?_, ?_, for_range (lo := 0) (fun i σ H' => (∃ v1 v2 v3 v4 v5 v6 v7 v8 v9 v10 v11 : Option V, σ = [some (.ref a), v1, v2, v3, v4, v5, v6, v7, v8, v9, v10, v11]) ∧ ExtN H H' ∧ TabS H' PB qB)
      ⟨⟨none, none, none, none, none, none, none, none, none, none, none, rfl⟩, ExtN.refl _, hT⟩ ?_ ?_⟩
    · split <;> (try split) <;> omega
    · split <;> (try split) <;> omega
    · rintro i σ H1 hi ⟨⟨v1, v2, v3, v4, v5, v6, v7, v8, v9, v10, v11, rfl⟩, s1, T1⟩
      refine ⟨_, rfl, _, rfl, a, ns, i, ?_, seq_ext s1 hS, hlen, fun fe g m nf => ?_⟩
      · show [V.ref a, V.int (0 + (i : Int))] ++ [] = _
        rw [Int.zero_add]
        rfl
      have s2 : Same H1 (upd H1 fe (.lst [.int g, .int m])) := same_new nf
      have hf2 : Fd (upd H1 fe (.lst [.int g, .int m])) fe := ⟨g, m, upd_same⟩
      generalize upd H1 fe (.lst [.int g, .int m]) = H2 at s2 hf2 ⊢
      have T2 := T1.ext s2
      have back : ∀ H', ButT fe H2 H' → ExtN H H' := fun H' b bb o e t => b bb o (ne_of_none (s1 _ _ e t) nf) (s2 _ _ (s1 _ _ e t)) t
      refine ⟨_, rfl, (by decide), (by decide), for_range (lo := 0) (fun j σ H' => (∃ w3 w4 w5 w6 w7 w8 w9 w10 w11 : Option V, σ = [some (.ref a), some (.int (0 + (i : Int))), some (.ref fe), w3, w4, w5, w6, w7, w8, w9, w10, w11]) ∧ ButT fe H2 H' ∧ Fd H' fe ∧ TabS H' PB qB)
        ⟨⟨_, _, _, _, _, _, _, _, _, rfl⟩, ButT.of But.refl, hf2, T2⟩ ?_ ?_⟩
      · rintro j σ H3 hj ⟨⟨w3, w4, w5, w6, w7, w8, w9, w10, w11, rfl⟩, b3, hf3, T3⟩
        dsimp only [gName, List.set]
        exact rd_body hf3 T3 fun w4 w5 w6 w7 w8 w9 w10 w11 H' b' hf' T' => ⟨⟨_, _, _, _, _, _, _, _, _, rfl⟩, b3.trans b', hf', T'⟩
      · rintro σ H3 ⟨⟨w3, w4, w5, w6, w7, w8, w9, w10, w11, rfl⟩, b3, hf3, T3⟩
        exact ⟨⟨_, _, _, _, _, _, _, _, _, _, _, rfl⟩, back H3 b3, T3⟩
    · rintro σ H1 ⟨_, s1, _⟩
      exact q _
end
end K03

set_option Elab.async false
set_option linter.all false
set_option maxRecDepth 100000
set_option maxHeartbeats 4000000
namespace K03
open PySem PySem.Spec PyProof.Rows L2 LamX
def isS (z : Str) : Value → Bool
  | .str x _ => decide (x = z)
  | _ => false
def isI (i : Int) : Value → Bool
  | .int j _ => decide (j = i)
  | _ => false
theorem isS_ok {z : Str} {v : Value} (h : isS z v = true) : ∃ t, v = .str z t := by
  cases v <;> first | exact Bool.noConfusion h | exact ⟨_, by rw [of_decide_eq_true h]⟩
theorem isI_ok {i : Int} {v : Value} (h : isI i v = true) : ∃ t, v = .int i t := by
  cases v <;> first | exact Bool.noConfusion h | exact ⟨_, by rw [of_decide_eq_true h]⟩
def chkS : List Str → List Value → Bool
  | [], [] => true
  | z :: zs, v :: vs => isS z v && chkS zs vs
  | _, _ => false
theorem chkS_ok : ∀ {zs : List Str} {vs : List Value}, chkS zs vs = true → Vals (zs.map V.str) vs ∧ vs.length = zs.length
  | [], [], _ => ⟨.nil, rfl⟩
  | z :: zs, v :: vs, h => by
    have h' := (Bool.and_eq_true_iff.mp h)
    obtain ⟨a, b⟩ := chkS_ok h'.2
    exact ⟨.cons (isS_ok h'.1) a, congrArg (· + 1) b⟩
  | [], _ :: _, h => Bool.noConfusion h
  | _ :: _, [], h => Bool.noConfusion h
def chkE : List (Str × Int) → List DictEntry → Bool
  | [], [] => true
  | z :: zs, e :: es => (isS z.1 e.key && isI z.2 e.val) && chkE zs es
  | _, _ => false
theorem chkE_ok : ∀ {zs : List (Str × Int)} {es : List DictEntry}, chkE zs es = true → Ents es zs
  | [], [], _ => .nil
  | (k, i) :: zs, e :: es, h => by
    have h' := (Bool.and_eq_true_iff.mp h)
    have h2 := (Bool.and_eq_true_iff.mp h'.1)
    exact .cons (isS_ok h2.1) (isI_ok h2.2) (chkE_ok h'.2)
  | [], _ :: _, h => Bool.noConfusion h
  | _ :: _, [], h => Bool.noConfusion h
theorem KT.mk {K : PySem.W.Frag} {a : Addr} {od : Option Addr} {its : Array Value} {n : Nat} {sl : Array (Option Value)} {zs : List Str} (hz : zs.length ≤ 1000) (l : K.lookup a = some ⟨.type "tuple", od, .seq its n, sl⟩) (h : chkS zs its.toList = true) : KT K a (zs.map V.str) := by
  obtain ⟨a1, a2⟩ := chkS_ok h
  exact ⟨_, its, n, l, rfl, rfl, by rw [← Array.length_toList, a2]; exact Nat.le_of_lt (small1000 hz), a1⟩
theorem all_mk {l : PySem.W.OpenLaw} {w : World} {K : PySem.W.Frag} {h : Heap} {mg : Str → Option Value} {fa fF fD fP fM fS fLf fLo fLt fGl fGt fGm fA fPu fBa fSo fSu fPb fTo fGa fWt fCh fWi fCo fIn fBd fL cB PB tG dH : Addr} (X : K.In h) (G : h.Ns mainGlobals mg) (hfa : mg "law" = some (.ref fa))
    {odF anF : Option Addr} {slF : Array (Option Value)} {ocF kVF dcF pmF cdF ctF : Value}
    {odD anD : Option Addr} {slD : Array (Option Value)} {ocD kVD dcD pmD cdD ctD : Value}
    {odP anP : Option Addr} {slP : Array (Option Value)} {ocP kVP dcP pmP cdP ctP : Value}
    {odM anM : Option Addr} {slM : Array (Option Value)} {ocM kVM dcM pmM cdM ctM : Value}
    {odS anS : Option Addr} {slS : Array (Option Value)} {ocS kVS dcS pmS cdS ctS : Value}
    {odLf anLf : Option Addr} {slLf : Array (Option Value)} {ocLf kVLf dcLf pmLf cdLf ctLf : Value}
    {odLo anLo : Option Addr} {slLo : Array (Option Value)} {ocLo kVLo dcLo pmLo cdLo ctLo : Value}
    {odLt anLt : Option Addr} {slLt : Array (Option Value)} {ocLt kVLt dcLt pmLt cdLt ctLt : Value}
    {odGl anGl : Option Addr} {slGl : Array (Option Value)} {ocGl kVGl dcGl pmGl cdGl ctGl : Value}
    {odGt anGt : Option Addr} {slGt : Array (Option Value)} {ocGt kVGt dcGt pmGt cdGt ctGt : Value}
    {odGm anGm : Option Addr} {slGm : Array (Option Value)} {ocGm kVGm dcGm pmGm cdGm ctGm : Value}
    {odA anA : Option Addr} {slA : Array (Option Value)} {ocA kVA dcA pmA cdA ctA : Value}
    {odPu anPu : Option Addr} {slPu : Array (Option Value)} {ocPu kVPu dcPu pmPu cdPu ctPu : Value}
    {odBa anBa : Option Addr} {slBa : Array (Option Value)} {ocBa kVBa dcBa pmBa cdBa ctBa : Value}
    {odSo anSo : Option Addr} {slSo : Array (Option Value)} {ocSo kVSo dcSo pmSo cdSo ctSo : Value}
    {odSu anSu : Option Addr} {slSu : Array (Option Value)} {ocSu kVSu dcSu pmSu cdSu ctSu : Value}
    {odPb anPb : Option Addr} {slPb : Array (Option Value)} {ocPb kVPb dcPb pmPb cdPb ctPb : Value}
    {odTo anTo : Option Addr} {slTo : Array (Option Value)} {ocTo kVTo dcTo pmTo cdTo ctTo : Value}
    {odGa anGa : Option Addr} {slGa : Array (Option Value)} {ocGa kVGa dcGa pmGa cdGa ctGa : Value}
    {odWt anWt : Option Addr} {slWt : Array (Option Value)} {ocWt kVWt dcWt pmWt cdWt ctWt : Value}
    {odCh anCh : Option Addr} {slCh : Array (Option Value)} {ocCh kVCh dcCh pmCh cdCh ctCh : Value}
    {odWi anWi : Option Addr} {slWi : Array (Option Value)} {ocWi kVWi dcWi pmWi cdWi ctWi : Value}
    {odCo anCo : Option Addr} {slCo : Array (Option Value)} {ocCo kVCo dcCo pmCo cdCo ctCo : Value}
    {odIn anIn : Option Addr} {slIn : Array (Option Value)} {ocIn kVIn dcIn pmIn cdIn ctIn : Value}
    {odBd anBd : Option Addr} {slBd : Array (Option Value)} {ocBd kVBd dcBd pmBd ctBd : Value}
    {odL anL : Option Addr} {slL : Array (Option Value)} {ocL kVL dcL pmL cdL ctL : Value}
    {odtG : Option Addr} {ntG : Nat} {sltG : Array (Option Value)} {itsG : Array Value}
    {esH : Array DictEntry} {ndH : Nat}
    (aF : PySem.W.nsIn K mainGlobals "_law_feed_of" = some (some (.ref fF)))
    (lF : K.lookup fF = some ⟨ocF, odF, .func (PySem.W.fnOf "_law_feed_of" "_law_feed_of" (defArgs sFeed) (defBody sFeed) (defScope sFeed) .none kVF dcF pmF anF cdF ctF), slF⟩)
    (zF : PySem.W.codeIn K cdF "_law_feed_of" = true)
    (yF : PySem.W.keepIn K (.ref fF) = true)
    (aD : PySem.W.nsIn K mainGlobals "_law_draw" = some (some (.ref fD)))
    (lD : K.lookup fD = some ⟨ocD, odD, .func (PySem.W.fnOf "_law_draw" "_law_draw" (defArgs sDraw) (defBody sDraw) (defScope sDraw) .none kVD dcD pmD anD cdD ctD), slD⟩)
    (zD : PySem.W.codeIn K cdD "_law_draw" = true)
    (yD : PySem.W.keepIn K (.ref fD) = true)
    (aP : PySem.W.nsIn K mainGlobals "_law_pick" = some (some (.ref fP)))
    (lP : K.lookup fP = some ⟨ocP, odP, .func (PySem.W.fnOf "_law_pick" "_law_pick" (defArgs sPick) (defBody sPick) (defScope sPick) .none kVP dcP pmP anP cdP ctP), slP⟩)
    (zP : PySem.W.codeIn K cdP "_law_pick" = true)
    (yP : PySem.W.keepIn K (.ref fP) = true)
    (aM : PySem.W.nsIn K mainGlobals "_law_mixed" = some (some (.ref fM)))
    (lM : K.lookup fM = some ⟨ocM, odM, .func (PySem.W.fnOf "_law_mixed" "_law_mixed" (defArgs sMixed) (defBody sMixed) (defScope sMixed) .none kVM dcM pmM anM cdM ctM), slM⟩)
    (zM : PySem.W.codeIn K cdM "_law_mixed" = true)
    (yM : PySem.W.keepIn K (.ref fM) = true)
    (aS : PySem.W.nsIn K mainGlobals "_law_same" = some (some (.ref fS)))
    (lS : K.lookup fS = some ⟨ocS, odS, .func (PySem.W.fnOf "_law_same" "_law_same" (defArgs sSame) (defBody sSame) (defScope sSame) .none kVS dcS pmS anS cdS ctS), slS⟩)
    (zS : PySem.W.codeIn K cdS "_law_same" = true)
    (yS : PySem.W.keepIn K (.ref fS) = true)
    (aLf : PySem.W.nsIn K mainGlobals "_law_first" = some (some (.ref fLf)))
    (lLf : K.lookup fLf = some ⟨ocLf, odLf, .func (PySem.W.fnOf "_law_first" "_law_first" (defArgs sFirst) (defBody sFirst) (defScope sFirst) .none kVLf dcLf pmLf anLf cdLf ctLf), slLf⟩)
    (zLf : PySem.W.codeIn K cdLf "_law_first" = true)
    (yLf : PySem.W.keepIn K (.ref fLf) = true)
    (aLo : PySem.W.nsIn K mainGlobals "_law_ones" = some (some (.ref fLo)))
    (lLo : K.lookup fLo = some ⟨ocLo, odLo, .func (PySem.W.fnOf "_law_ones" "_law_ones" (defArgs sOnes) (defBody sOnes) (defScope sOnes) .none kVLo dcLo pmLo anLo cdLo ctLo), slLo⟩)
    (zLo : PySem.W.codeIn K cdLo "_law_ones" = true)
    (yLo : PySem.W.keepIn K (.ref fLo) = true)
    (aLt : PySem.W.nsIn K mainGlobals "_law_twos" = some (some (.ref fLt)))
    (lLt : K.lookup fLt = some ⟨ocLt, odLt, .func (PySem.W.fnOf "_law_twos" "_law_twos" (defArgs sTwos) (defBody sTwos) (defScope sTwos) .none kVLt dcLt pmLt anLt cdLt ctLt), slLt⟩)
    (zLt : PySem.W.codeIn K cdLt "_law_twos" = true)
    (yLt : PySem.W.keepIn K (.ref fLt) = true)
    (aGl : PySem.W.nsIn K mainGlobals "_law_literal" = some (some (.ref fGl)))
    (lGl : K.lookup fGl = some ⟨ocGl, odGl, .func (PySem.W.fnOf "_law_literal" "_law_literal" (defArgs sLit) (defBody sLit) (defScope sLit) .none kVGl dcGl pmGl anGl cdGl ctGl), slGl⟩)
    (zGl : PySem.W.codeIn K cdGl "_law_literal" = true)
    (yGl : PySem.W.keepIn K (.ref fGl) = true)
    (aGt : PySem.W.nsIn K mainGlobals "_law_inked_tree" = some (some (.ref fGt)))
    (lGt : K.lookup fGt = some ⟨ocGt, odGt, .func (PySem.W.fnOf "_law_inked_tree" "_law_inked_tree" (defArgs sIT) (defBody sIT) (defScope sIT) .none kVGt dcGt pmGt anGt cdGt ctGt), slGt⟩)
    (zGt : PySem.W.codeIn K cdGt "_law_inked_tree" = true)
    (yGt : PySem.W.keepIn K (.ref fGt) = true)
    (aGm : PySem.W.nsIn K mainGlobals "_law_mark" = some (some (.ref fGm)))
    (lGm : K.lookup fGm = some ⟨ocGm, odGm, .func (PySem.W.fnOf "_law_mark" "_law_mark" (defArgs sMk) (defBody sMk) (defScope sMk) .none kVGm dcGm pmGm anGm cdGm ctGm), slGm⟩)
    (zGm : PySem.W.codeIn K cdGm "_law_mark" = true)
    (yGm : PySem.W.keepIn K (.ref fGm) = true)
    (aA : PySem.W.nsIn K mainGlobals "_law_all" = some (some (.ref fA)))
    (lA : K.lookup fA = some ⟨ocA, odA, .func (PySem.W.fnOf "_law_all" "_law_all" (defArgs sAll) (defBody sAll) (defScope sAll) .none kVA dcA pmA anA cdA ctA), slA⟩)
    (zA : PySem.W.codeIn K cdA "_law_all" = true)
    (yA : PySem.W.keepIn K (.ref fA) = true)
    (aPu : PySem.W.nsIn K mainGlobals "_law_put" = some (some (.ref fPu)))
    (lPu : K.lookup fPu = some ⟨ocPu, odPu, .func (PySem.W.fnOf "_law_put" "_law_put" (defArgs sPut) (defBody sPut) (defScope sPut) .none kVPu dcPu pmPu anPu cdPu ctPu), slPu⟩)
    (zPu : PySem.W.codeIn K cdPu "_law_put" = true)
    (yPu : PySem.W.keepIn K (.ref fPu) = true)
    (aBa : PySem.W.nsIn K mainGlobals "_law_bare" = some (some (.ref fBa)))
    (lBa : K.lookup fBa = some ⟨ocBa, odBa, .func (PySem.W.fnOf "_law_bare" "_law_bare" (defArgs sBare) (defBody sBare) (defScope sBare) .none kVBa dcBa pmBa anBa cdBa ctBa), slBa⟩)
    (zBa : PySem.W.codeIn K cdBa "_law_bare" = true)
    (yBa : PySem.W.keepIn K (.ref fBa) = true)
    (aSo : PySem.W.nsIn K mainGlobals "_law_some" = some (some (.ref fSo)))
    (lSo : K.lookup fSo = some ⟨ocSo, odSo, .func (PySem.W.fnOf "_law_some" "_law_some" (defArgs sSome) (defBody sSome) (defScope sSome) .none kVSo dcSo pmSo anSo cdSo ctSo), slSo⟩)
    (zSo : PySem.W.codeIn K cdSo "_law_some" = true)
    (ySo : PySem.W.keepIn K (.ref fSo) = true)
    (aSu : PySem.W.nsIn K mainGlobals "subtree" = some (some (.ref fSu)))
    (lSu : K.lookup fSu = some ⟨ocSu, odSu, .func (PySem.W.fnOf "subtree" "subtree" (defArgs sSub) (defBody sSub) (defScope sSub) .none kVSu dcSu pmSu anSu cdSu ctSu), slSu⟩)
    (zSu : PySem.W.codeIn K cdSu "subtree" = true)
    (ySu : PySem.W.keepIn K (.ref fSu) = true)
    (aPb : PySem.W.nsIn K mainGlobals "put_below" = some (some (.ref fPb)))
    (lPb : K.lookup fPb = some ⟨ocPb, odPb, .func (PySem.W.fnOf "put_below" "put_below" (defArgs sBelow) (defBody sBelow) (defScope sBelow) .none kVPb dcPb pmPb anPb cdPb ctPb), slPb⟩)
    (zPb : PySem.W.codeIn K cdPb "put_below" = true)
    (yPb : PySem.W.keepIn K (.ref fPb) = true)
    (aTo : PySem.W.nsIn K mainGlobals "trees_of" = some (some (.ref fTo)))
    (lTo : K.lookup fTo = some ⟨ocTo, odTo, .func (PySem.W.fnOf "trees_of" "trees_of" (defArgs sTrees) (defBody sTrees) (defScope sTrees) .none kVTo dcTo pmTo anTo cdTo ctTo), slTo⟩)
    (zTo : PySem.W.codeIn K cdTo "trees_of" = true)
    (yTo : PySem.W.keepIn K (.ref fTo) = true)
    (aGa : PySem.W.nsIn K mainGlobals "gathered" = some (some (.ref fGa)))
    (lGa : K.lookup fGa = some ⟨ocGa, odGa, .func (PySem.W.fnOf "gathered" "gathered" (defArgs sGath) (defBody sGath) (defScope sGath) .none kVGa dcGa pmGa anGa cdGa ctGa), slGa⟩)
    (zGa : PySem.W.codeIn K cdGa "gathered" = true)
    (yGa : PySem.W.keepIn K (.ref fGa) = true)
    (aWt : PySem.W.nsIn K mainGlobals "with_trees" = some (some (.ref fWt)))
    (lWt : K.lookup fWt = some ⟨ocWt, odWt, .func (PySem.W.fnOf "with_trees" "with_trees" (defArgs sWithT) (defBody sWithT) (defScope sWithT) .none kVWt dcWt pmWt anWt cdWt ctWt), slWt⟩)
    (zWt : PySem.W.codeIn K cdWt "with_trees" = true)
    (yWt : PySem.W.keepIn K (.ref fWt) = true)
    (aCh : PySem.W.nsIn K mainGlobals "changed_throughout" = some (some (.ref fCh)))
    (lCh : K.lookup fCh = some ⟨ocCh, odCh, .func (PySem.W.fnOf "changed_throughout" "changed_throughout" (defArgs sChg) (defBody sChg) (defScope sChg) .none kVCh dcCh pmCh anCh cdCh ctCh), slCh⟩)
    (zCh : PySem.W.codeIn K cdCh "changed_throughout" = true)
    (yCh : PySem.W.keepIn K (.ref fCh) = true)
    (aWi : PySem.W.nsIn K mainGlobals "with_subtree" = some (some (.ref fWi)))
    (lWi : K.lookup fWi = some ⟨ocWi, odWi, .func (PySem.W.fnOf "with_subtree" "with_subtree" (defArgs sWith) (defBody sWith) (defScope sWith) .none kVWi dcWi pmWi anWi cdWi ctWi), slWi⟩)
    (zWi : PySem.W.codeIn K cdWi "with_subtree" = true)
    (yWi : PySem.W.keepIn K (.ref fWi) = true)
    (aCo : PySem.W.nsIn K mainGlobals "count" = some (some (.ref fCo)))
    (lCo : K.lookup fCo = some ⟨ocCo, odCo, .func (PySem.W.fnOf "count" "count" (defArgs sCount) (defBody sCount) (defScope sCount) .none kVCo dcCo pmCo anCo cdCo ctCo), slCo⟩)
    (zCo : PySem.W.codeIn K cdCo "count" = true)
    (yCo : PySem.W.keepIn K (.ref fCo) = true)
    (aIn : PySem.W.nsIn K mainGlobals "inked" = some (some (.ref fIn)))
    (lIn : K.lookup fIn = some ⟨ocIn, odIn, .func (PySem.W.fnOf "inked" "inked" (defArgs sInked) (defBody sInked) (defScope sInked) .none kVIn dcIn pmIn anIn cdIn ctIn), slIn⟩)
    (zIn : PySem.W.codeIn K cdIn "inked" = true)
    (yIn : PySem.W.keepIn K (.ref fIn) = true)
    (aBd : PySem.W.nsIn K mainGlobals "bared" = some (some (.ref fBd)))
    (lBd : K.lookup fBd = some ⟨ocBd, odBd, .func (PySem.W.fnOf "bared" "bared" (defArgs sBared) (defBody sBared) (defScope sBared) .none kVBd dcBd pmBd anBd (.ref cB) ctBd), slBd⟩)
    (zBd : PySem.W.codeIn K (.ref cB) "bared" = true)
    (yBd : PySem.W.keepIn K (.ref fBd) = true)
    (aL : PySem.W.nsIn K mainGlobals "law" = some (some (.ref fL)))
    (lL : K.lookup fL = some ⟨ocL, odL, .func (PySem.W.fnOf "law" "law" (defArgs sLaw) (defBody sLaw) (defScope sLaw) .none kVL dcL pmL anL cdL ctL), slL⟩)
    (zL : PySem.W.codeIn K cdL "law" = true)
    (yL : PySem.W.keepIn K (.ref fL) = true)
    (tT : h.get? PB = some (PySem.W.tabObj #[]))
    (tC : PySem.W.codeHdIn K cB PB = true)
    (tN : K.lookup PB = none)
    (gtG : PySem.W.nsIn K mainGlobals "SINGLE" = some (some (.ref tG)))
    (ltG : K.lookup tG = some ⟨.type "tuple", odtG, .seq itsG ntG, sltG⟩)
    (vtG : chkS SINGl itsG.toList = true)
    (gdH : PySem.W.nsIn K mainGlobals "FIRST_TREE" = some (some (.ref dH)))
    (ldH : K.lookup dH = some ⟨.type "dict", none, .dict esH ndH, #[]⟩)
    (kdH : PySem.W.KeysLit w.params esH.toList)
    (vdH : chkE FTl esH.toList = true)
    (sdH : (dH == sysModules) = false)
    (b_isinstance : PySem.W.nsIn K mainGlobals "isinstance" = some none)
    (b_tuple : PySem.W.nsIn K mainGlobals "tuple" = some none)
    (b_list : PySem.W.nsIn K mainGlobals "list" = some none)
    (b_bool : PySem.W.nsIn K mainGlobals "bool" = some none)
    (b_int : PySem.W.nsIn K mainGlobals "int" = some none)
    (b_str : PySem.W.nsIn K mainGlobals "str" = some none)
    (b_len : PySem.W.nsIn K mainGlobals "len" = some none)
    (b_all : PySem.W.nsIn K mainGlobals "all" = some none)
    (b_zip : PySem.W.nsIn K mainGlobals "zip" = some none)
    (b_range : PySem.W.nsIn K mainGlobals "range" = some none)
    (b_max : PySem.W.nsIn K mainGlobals "max" = some none)
    (b_min : PySem.W.nsIn K mainGlobals "min" = some none)
    (b_enumerate : PySem.W.nsIn K mainGlobals "enumerate" = some none)
    (b_reversed : PySem.W.nsIn K mainGlobals "reversed" = some none)
    : LawAtS l w K CX0 31 63 "_law_script" mg fa h := by
  have e := hfa.symm.trans (PySem.W.mg_of X G aL)
  cases e
  have FF := fun_mk (st := sFeed) lF zF yF
  have BF := FF.binds (ps := ["_law_script", "_law_k"]) (fun _ _ _ _ _ _ us hl => match us, hl with | [_, _], _ => rfl)
  have mF := PySem.W.mg_of X G aF
  have FD := fun_mk (st := sDraw) lD zD yD
  have BD := FD.binds (ps := ["_law_feed", "_law_many"]) (fun _ _ _ _ _ _ us hl => match us, hl with | [_, _], _ => rfl)
  have mD := PySem.W.mg_of X G aD
  have FP := fun_mk (st := sPick) lP zP yP
  have BP := FP.binds (ps := ["_law_feed", "_law_items"]) (fun _ _ _ _ _ _ us hl => match us, hl with | [_, _], _ => rfl)
  have mP := PySem.W.mg_of X G aP
  have FM := fun_mk (st := sMixed) lM zM yM
  have BM := FM.binds (ps := ["_law_feed", "_law_items"]) (fun _ _ _ _ _ _ us hl => match us, hl with | [_, _], _ => rfl)
  have mM := PySem.W.mg_of X G aM
  have FS := fun_mk (st := sSame) lS zS yS
  have BS := FS.binds (ps := ["_law_found", "_law_due"]) (fun _ _ _ _ _ _ us hl => match us, hl with | [_, _], _ => rfl)
  have mS := PySem.W.mg_of X G aS
  have FLf := fun_mk (st := sFirst) lLf zLf yLf
  have BLf := FLf.binds (ps := ["_law_head"]) (fun _ _ _ _ _ _ us hl => match us, hl with | [_], _ => rfl)
  have mLf := PySem.W.mg_of X G aLf
  have FLo := fun_mk (st := sOnes) lLo zLo yLo
  have BLo := FLo.binds (ps := []) (fun _ _ _ _ _ _ us hl => match us, hl with | [], _ => rfl)
  have mLo := PySem.W.mg_of X G aLo
  have FLt := fun_mk (st := sTwos) lLt zLt yLt
  have BLt := FLt.binds (ps := []) (fun _ _ _ _ _ _ us hl => match us, hl with | [], _ => rfl)
  have mLt := PySem.W.mg_of X G aLt
  have FGl := fun_mk (st := sLit) lGl zGl yGl
  have BGl := FGl.binds (ps := ["_law_feed"]) (fun _ _ _ _ _ _ us hl => match us, hl with | [_], _ => rfl)
  have mGl := PySem.W.mg_of X G aGl
  have FGt := fun_mk (st := sIT) lGt zGt yGt
  have BGt := FGt.binds (ps := ["_law_feed", "_law_deep"]) (fun _ _ _ _ _ _ us hl => match us, hl with | [_, _], _ => rfl)
  have mGt := PySem.W.mg_of X G aGt
  have FGm := fun_mk (st := sMk) lGm zGm yGm
  have BGm := FGm.binds (ps := ["_law_feed"]) (fun _ _ _ _ _ _ us hl => match us, hl with | [_], _ => rfl)
  have mGm := PySem.W.mg_of X G aGm
  have FA := fun_mk (st := sAll) lA zA yA
  have BA := FA.binds (ps := ["_law_tree", "_law_path"]) (fun _ _ _ _ _ _ us hl => match us, hl with | [_, _], _ => rfl)
  have mA := PySem.W.mg_of X G aA
  have FPu := fun_mk (st := sPut) lPu zPu yPu
  have BPu := FPu.binds (ps := ["_law_tree", "_law_path", "_law_other"]) (fun _ _ _ _ _ _ us hl => match us, hl with | [_, _, _], _ => rfl)
  have mPu := PySem.W.mg_of X G aPu
  have FBa := fun_mk (st := sBare) lBa zBa yBa
  have BBa := FBa.binds (ps := ["_law_tree"]) (fun _ _ _ _ _ _ us hl => match us, hl with | [_], _ => rfl)
  have mBa := PySem.W.mg_of X G aBa
  have FSo := fun_mk (st := sSome) lSo zSo ySo
  have BSo := FSo.binds (ps := ["_law_tree", "_law_many"]) (fun _ _ _ _ _ _ us hl => match us, hl with | [_, _], _ => rfl)
  have mSo := PySem.W.mg_of X G aSo
  have FSu := fun_mk (st := sSub) lSu zSu ySu
  have BSu := FSu.binds (ps := ["tree", "path"]) (fun _ _ _ _ _ _ us hl => match us, hl with | [_, _], _ => rfl)
  have mSu := PySem.W.mg_of X G aSu
  have FPb := fun_mk (st := sBelow) lPb zPb yPb
  have BPb := FPb.binds (ps := ["above", "tree"]) (fun _ _ _ _ _ _ us hl => match us, hl with | [_, _], _ => rfl)
  have mPb := PySem.W.mg_of X G aPb
  have FTo := fun_mk (st := sTrees) lTo zTo yTo
  have BTo := FTo.binds (ps := ["node"]) (fun _ _ _ _ _ _ us hl => match us, hl with | [_], _ => rfl)
  have mTo := PySem.W.mg_of X G aTo
  have FGa := fun_mk (st := sGath) lGa zGa yGa
  have BGa := FGa.binds (ps := ["node", "done"]) (fun _ _ _ _ _ _ us hl => match us, hl with | [_, _], _ => rfl)
  have mGa := PySem.W.mg_of X G aGa
  have FWt := fun_mk (st := sWithT) lWt zWt yWt
  have BWt := FWt.binds (ps := ["node", "trees"]) (fun _ _ _ _ _ _ us hl => match us, hl with | [_, _], _ => rfl)
  have mWt := PySem.W.mg_of X G aWt
  have FCh := fun_mk (st := sChg) lCh zCh yCh
  have BCh := FCh.binds (ps := ["tree", "change"]) (fun _ _ _ _ _ _ us hl => match us, hl with | [_, _], _ => rfl)
  have mCh := PySem.W.mg_of X G aCh
  have FWi := fun_mk (st := sWith) lWi zWi yWi
  have BWi := FWi.binds (ps := ["tree", "path", "other"]) (fun _ _ _ _ _ _ us hl => match us, hl with | [_, _, _], _ => rfl)
  have mWi := PySem.W.mg_of X G aWi
  have FCo := fun_mk (st := sCount) lCo zCo yCo
  have BCo := FCo.binds (ps := ["tree"]) (fun _ _ _ _ _ _ us hl => match us, hl with | [_], _ => rfl)
  have mCo := PySem.W.mg_of X G aCo
  have FIn := fun_mk (st := sInked) lIn zIn yIn
  have BIn := FIn.binds (ps := ["tree"]) (fun _ _ _ _ _ _ us hl => match us, hl with | [_], _ => rfl)
  have mIn := PySem.W.mg_of X G aIn
  have FBd := fun_mk (st := sBared) lBd zBd yBd
  have BBd := FBd.binds (ps := ["tree"]) (fun _ _ _ _ _ _ us hl => match us, hl with | [_], _ => rfl)
  have mBd := PySem.W.mg_of X G aBd
  have FL := fun_mk (st := sLaw) lL zL yL
  have mL := PySem.W.mg_of X G aL
  have m_isinstance := PySem.W.mg_none_of X G b_isinstance
  have m_tuple := PySem.W.mg_none_of X G b_tuple
  have m_list := PySem.W.mg_none_of X G b_list
  have m_bool := PySem.W.mg_none_of X G b_bool
  have m_int := PySem.W.mg_none_of X G b_int
  have m_str := PySem.W.mg_none_of X G b_str
  have m_len := PySem.W.mg_none_of X G b_len
  have m_all := PySem.W.mg_none_of X G b_all
  have m_zip := PySem.W.mg_none_of X G b_zip
  have m_range := PySem.W.mg_none_of X G b_range
  have m_max := PySem.W.mg_none_of X G b_max
  have m_min := PySem.W.mg_none_of X G b_min
  have m_enumerate := PySem.W.mg_none_of X G b_enumerate
  have m_reversed := PySem.W.mg_none_of X G b_reversed
  have BB : BI mg := ⟨m_isinstance, m_tuple, m_list, m_bool, m_int, m_str, m_len, m_all⟩
  refine ⟨PySem.W.fnOf "law" "law" (defArgs sLaw) (defBody sLaw) (defScope sLaw) .none kVL dcL pmL anL cdL ctL, [(cB, PB)], spLaw K PB, fun p hp => by rw [List.mem_singleton.mp hp]; exact tT, fun p hp => by rw [List.mem_singleton.mp hp]; exact tN, fun p hp => by rw [List.mem_singleton.mp hp]; exact PySem.W.codeHd_of_K X tC, fun s v => .of_eq rfl,
    fun H a ns hl _ hH hS => ⟨a, ns, rfl, hS, hl, TabS.nil (hH (cB, PB) (List.mem_singleton.mpr rfl)), fun _ => rfl⟩, fun base _ _ TBs => ?_⟩
  have TB := TBs (cB, PB) (List.mem_singleton.mpr rfl)
  have CF : Cal l.prog w K mg base "_law_feed_of" 1 fF _ ["_law_script", "_law_k"] [] (spFeed K) := ⟨ok_feed FF m_len, mF, yF, BF⟩
  have CD : Cal l.prog w K mg base "_law_draw" 1 fD _ ["_law_feed", "_law_many"] [] spDraw := ⟨ok_draw FD, mD, yD, BD⟩
  have CP : Cal l.prog w K mg base "_law_pick" 2 fP _ ["_law_feed", "_law_items"] [] spPick := ⟨ok_pick FP CD.G CD.b CD.k CD.m m_len, mP, yP, BP⟩
  have CM : Cal l.prog w K mg base "_law_mixed" 2 fM _ ["_law_feed", "_law_items"] [] (spMixed K) := ⟨ok_mixed FM BB CD, mM, yM, BM⟩
  have CS : Cal l.prog w K mg base "_law_same" 30 fS _ ["_law_found", "_law_due"] [] (spSame K 30) := ⟨ok_same FS ⟨m_isinstance, m_tuple, m_list, m_bool, m_len, m_all, m_zip⟩ BS mS 30, mS, yS, BS⟩
  have CLf : Cal l.prog w K mg base "_law_first" 1 fLf _ ["_law_head"] [] spFirst := ⟨ok_first FLf BB, mLf, yLf, BLf⟩
  have CLo : Cal l.prog w K mg base "_law_ones" 1 fLo _ [] [] (spStrs ONESl) := ⟨ok_ones FLo, mLo, yLo, BLo⟩
  have CLt : Cal l.prog w K mg base "_law_twos" 1 fLt _ [] [] (spStrs TWOSl) := ⟨ok_twos FLt, mLt, yLt, BLt⟩
  have CGm : Cal l.prog w K mg base "_law_mark" 3 fGm _ ["_law_feed"] [] (spD K MT) := ⟨ok_mk FGm BB m_range CD CP, mGm, yGm, BGm⟩
  have CGl : Cal l.prog w K mg base "_law_literal" 3 fGl _ ["_law_feed"] [] (spD K (WT 1)) := ⟨ok_lit FGl BB CD CP, mGl, yGl, BGl⟩
  have CGt : Cal l.prog w K mg base "_law_inked_tree" 7 fGt _ ["_law_feed", "_law_deep"] [] (spIT K 4) := ⟨ok_it FGt BB m_range BGt mGt CD CP CGm CGl CLo CLt 4, mGt, yGt, BGt⟩
  have CA : Cal l.prog w K mg base "_law_all" 8 fA _ ["_law_tree", "_law_path"] [] (spAll K 7) := ⟨ok_all FA m_enumerate BA mA CLf 7, mA, yA, BA⟩
  have CPu : Cal l.prog w K mg base "_law_put" 8 fPu _ ["_law_tree", "_law_path", "_law_other"] [] (spWith K 8) := ⟨ok_put FPu BB BPu mPu 8, mPu, yPu, BPu⟩
  have CBa : Cal l.prog w K mg base "_law_bare" 8 fBa _ ["_law_tree"] [] (spBare K 7) := ⟨ok_bare FBa BB BBa mBa CLf 7, mBa, yBa, BBa⟩
  have CSo : Cal l.prog w K mg base "_law_some" 5 fSo _ ["_law_tree", "_law_many"] [] (spSome K) := ⟨ok_some FSo BB m_reversed m_range FIn mIn BIn, mSo, ySo, BSo⟩
  have CSu : Cal l.prog w K mg base "subtree" 1 fSu _ ["tree", "path"] [] (spSub K) := ⟨ok_sub FSu, mSu, ySu, BSu⟩
  have CTc : CT K w mg tG dH esH ndH := ⟨PySem.W.mg_of X G gtG, KT.mk (by decide) ltG vtG, PySem.W.mg_of X G gdH, ⟨⟨ldH, kdH, sdH⟩, chkE_ok vdH⟩⟩
  have CPb : Cal l.prog w K mg base "put_below" 1 fPb _ ["above", "tree"] [] (spBelow K) := ⟨ok_below FPb m_reversed, mPb, yPb, BPb⟩
  have CWi : Cal l.prog w K mg base "with_subtree" 2 fWi _ ["tree", "path", "other"] [] (spWith K 8) := ⟨ok_with FWi CPb 8, mWi, yWi, BWi⟩
  have CTo : Cal l.prog w K mg base "trees_of" 1 fTo _ ["node"] [] (spTrees K) := ⟨ok_trees FTo CTc, mTo, yTo, BTo⟩
  have CWt : Cal l.prog w K mg base "with_trees" 1 fWt _ ["node", "trees"] [] (spWithT K) := ⟨ok_witht FWt BB, mWt, yWt, BWt⟩
  have CGa : Cal l.prog w K mg base "gathered" 2 fGa _ ["node", "done"] [] (spGath K) := ⟨ok_gath FGa BB CTo CWt, mGa, yGa, BGa⟩
  have CCh : Cal l.prog w K mg base "changed_throughout" 3 fCh _ ["tree", "change"] [] (spChg l.prog w K mg base 7) := ⟨ok_chg FCh BB CTo CGa (n := 7) (by decide), mCh, yCh, BCh⟩
  have CCo : Cal l.prog w K mg base "count" 1 fCo _ ["tree"] [] (spCount K) := ⟨ok_count FCo BB, mCo, yCo, BCo⟩
  have CBd : Cal l.prog w K mg base "bared" 4 fBd _ ["tree"] [] (spBared K PB 7) := ⟨ok_bared lBd zBd TB CCh, mBd, yBd, BBd⟩
  exact ok_law FL BB ⟨m_range, m_max, m_min⟩ CF CD CGt CA CCo CBd CBa CS CSo (gfn_inked FIn BB m_reversed m_range) mIn yIn BIn CM CWi CSu CPu
end K03

open PySem PySem.W PyProof.Rows
set_option Elab.async false
set_option maxRecDepth 100000 in
set_option maxHeartbeats 0 in
theorem PySem.Challenge.cw_saidanew_k03_paths_and_inks_holds : PySem.Challenge.rw_saidanew_k03_paths_and_inks.Holds := by
  w_on; o_law; k_head; (case hw => w_witness2)
  k_fill
  refine LamX.walk_ofTs (l := PySem.Challenge.rw_saidanew_k03_paths_and_inks) (n := 63) (k := 31) (x := "_law_script") (CX := fun _ => L2.CX0) rfl (by decide) rfl ⟨rfl, by decide, by decide⟩ (fun w h Y => PySem.W.km_in_of Y) ?F (fun _ _ _ _ _ z => z)
  case F =>
    intro w mg fa h Y KX G hmg
    have hT8 := PySem.W.km_tabs_of Y
    refine' K03.all_mk KX G hmg ?aF ?lF ?zF ?yF ?aD ?lD ?zD ?yD ?aP ?lP ?zP ?yP ?aM ?lM ?zM ?yM ?aS ?lS ?zS ?yS ?aLf ?lLf ?zLf ?yLf ?aLo ?lLo ?zLo ?yLo ?aLt ?lLt ?zLt ?yLt ?aGl ?lGl ?zGl ?yGl ?aGt ?lGt ?zGt ?yGt ?aGm ?lGm ?zGm ?yGm ?aA ?lA ?zA ?yA ?aPu ?lPu ?zPu ?yPu ?aBa ?lBa ?zBa ?yBa ?aSo ?lSo ?zSo ?ySo ?aSu ?lSu ?zSu ?ySu ?aPb ?lPb ?zPb ?yPb ?aTo ?lTo ?zTo ?yTo ?aGa ?lGa ?zGa ?yGa ?aWt ?lWt ?zWt ?yWt ?aCh ?lCh ?zCh ?yCh ?aWi ?lWi ?zWi ?yWi ?aCo ?lCo ?zCo ?yCo ?aIn ?lIn ?zIn ?yIn ?aBd ?lBd ?zBd ?yBd ?aL ?lL ?zL ?yL ?tT ?tC ?tN ?gtG ?ltG ?vtG ?gdH ?ldH ?kdH ?vdH ?sdH ?b_isinstance ?b_tuple ?b_list ?b_bool ?b_int ?b_str ?b_len ?b_all ?b_zip ?b_range ?b_max ?b_min ?b_enumerate ?b_reversed
    (case aF => k_is)
    (case lF => k_is)
    (case zF => k_is)
    (case yF => k_is)
    (case aD => k_is)
    (case lD => k_is)
    (case zD => k_is)
    (case yD => k_is)
    (case aP => k_is)
    (case lP => k_is)
    (case zP => k_is)
    (case yP => k_is)
    (case aM => k_is)
    (case lM => k_is)
    (case zM => k_is)
    (case yM => k_is)
    (case aS => k_is)
    (case lS => k_is)
    (case zS => k_is)
    (case yS => k_is)
    (case aLf => k_is)
    (case lLf => k_is)
    (case zLf => k_is)
    (case yLf => k_is)
    (case aLo => k_is)
    (case lLo => k_is)
    (case zLo => k_is)
    (case yLo => k_is)
    (case aLt => k_is)
    (case lLt => k_is)
    (case zLt => k_is)
    (case yLt => k_is)
    (case aGl => k_is)
    (case lGl => k_is)
    (case zGl => k_is)
    (case yGl => k_is)
    (case aGt => k_is)
    (case lGt => k_is)
    (case zGt => k_is)
    (case yGt => k_is)
    (case aGm => k_is)
    (case lGm => k_is)
    (case zGm => k_is)
    (case yGm => k_is)
    (case aA => k_is)
    (case lA => k_is)
    (case zA => k_is)
    (case yA => k_is)
    (case aPu => k_is)
    (case lPu => k_is)
    (case zPu => k_is)
    (case yPu => k_is)
    (case aBa => k_is)
    (case lBa => k_is)
    (case zBa => k_is)
    (case yBa => k_is)
    (case aSo => k_is)
    (case lSo => k_is)
    (case zSo => k_is)
    (case ySo => k_is)
    (case aSu => k_is)
    (case lSu => k_is)
    (case zSu => k_is)
    (case ySu => k_is)
    (case aPb => k_is)
    (case lPb => k_is)
    (case zPb => k_is)
    (case yPb => k_is)
    (case aTo => k_is)
    (case lTo => k_is)
    (case zTo => k_is)
    (case yTo => k_is)
    (case aGa => k_is)
    (case lGa => k_is)
    (case zGa => k_is)
    (case yGa => k_is)
    (case aWt => k_is)
    (case lWt => k_is)
    (case zWt => k_is)
    (case yWt => k_is)
    (case aCh => k_is)
    (case lCh => k_is)
    (case zCh => k_is)
    (case yCh => k_is)
    (case aWi => k_is)
    (case lWi => k_is)
    (case zWi => k_is)
    (case yWi => k_is)
    (case aCo => k_is)
    (case lCo => k_is)
    (case zCo => k_is)
    (case yCo => k_is)
    (case aIn => k_is)
    (case lIn => k_is)
    (case zIn => k_is)
    (case yIn => k_is)
    (case aBd => k_is)
    (case lBd => k_is)
    (case zBd => k_is)
    (case yBd => k_is)
    (case aL => k_is)
    (case lL => k_is)
    (case zL => k_is)
    (case yL => k_is)
    (case tT => exact hT8 _ (List.mem_cons_self ..))
    (case tC => kernel_rfl)
    (case tN => kernel_rfl)
    (case gtG => k_is)
    (case ltG => k_is)
    (case vtG => decide +kernel)
    (case gdH => k_is)
    (case ldH => k_is)
    (case kdH => k_keys)
    (case vdH => rfl)
    (case sdH => decide)
    (case b_isinstance => k_is)
    (case b_tuple => k_is)
    (case b_list => k_is)
    (case b_bool => k_is)
    (case b_int => k_is)
    (case b_str => k_is)
    (case b_len => k_is)
    (case b_all => k_is)
    (case b_zip => k_is)
    (case b_range => k_is)
    (case b_max => k_is)
    (case b_min => k_is)
    (case b_enumerate => k_is)
    (case b_reversed => k_is)
