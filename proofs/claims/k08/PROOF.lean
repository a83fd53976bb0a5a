import PyProof.Rows.All
import Wide.All
import OpenK.AllK
import Wide.FinOn
import HandS.ForMost
import HandS.Wide
import HandS.IsInst
import HandS.TupAny
import HandS.TupMul
import HandS.WideBits
import KE.Datum
import HandS.Zip
import KE.GoesEnum
import HandS.Style
import KE.SortData
import HandS.Replace
import PyProof.ReprRoads
import HandS.Conv
import HandS.SortInts
import HandS.More
import HandS.Dict
import HandS.Words
import KE.GoesMore
import HandS.Strs
import HandS.Defaults
import HandS.TupLe
import HandS.SetFor
import HandS.TryOnly
import KE.DataMinMax
import HandS.Iter
import HandS.Text
import KE.KDictZip
import KE.GoesZip
import PyProof.ListNew
import HandS.ListItems
import HandS.ForList
import PySem.Challenge.RW_dittorows_k08_orders_that_keep_a_page
set_option Elab.async false
set_option linter.all false
set_option maxRecDepth 100000
set_option maxHeartbeats 1000000
/-! Data in place of addresses: what a value means (Rp), what a def's names hold (En), and rules for the text over data alone. -/
namespace G
open PySem PySem.Spec PyProof.Rows L2

/-! ### what a value means -/
def kD : Key → PyData
  | .inl i => .int i
  | .inr x => .str x
mutual
inductive Rp (H : Hp) : V → PyData → Prop
  | non : Rp H .non .none
  | bl (b : Bool) : Rp H (.bl b) (.bool b)
  | int (i : Int) : Rp H (.int i) (.int i)
  | str (x : Str) : Rp H (.str x) (.str x)
  | lst {a : Addr} {xs : List V} {ds : List PyData} : H a = some (.lst xs) → RpL H xs ds → Rp H (.ref a) (.list ds)
  | tup {a : Addr} {xs : List V} {ds : List PyData} : H a = some (.tup xs) → RpL H xs ds → Rp H (.ref a) (.tuple ds)
  | dct {a : Addr} {kvs : List (Key × V)} {es : List (PyData × PyData)} : Rd H a (.dK kvs) → RpK H kvs es → Rp H (.ref a) (.dict es)
inductive RpL (H : Hp) : List V → List PyData → Prop
  | nil : RpL H [] []
  | cons {v : V} {vs : List V} {d : PyData} {ds : List PyData} : Rp H v d → RpL H vs ds → RpL H (v :: vs) (d :: ds)
inductive RpK (H : Hp) : List (Key × V) → List (PyData × PyData) → Prop
  | nil : RpK H [] []
  | cons {k : Key} {v : V} {kvs : List (Key × V)} {d : PyData} {es : List (PyData × PyData)} : Rp H v d → RpK H kvs es → RpK H ((k, v) :: kvs) ((kD k, d) :: es)
end
def Ex (H H' : Hp) : Prop := ∀ a o, H a = some o → H' a = some o
theorem Ex.refl (H : Hp) : Ex H H := fun _ _ h => h
theorem Ex.trans {H H1 H2 : Hp} (a : Ex H H1) (b : Ex H1 H2) : Ex H H2 := fun x o h => b x o (a x o h)
theorem Ex.new {H : Hp} {p : Addr} {o : HO} (h : H p = none) : Ex H (upd H p o) := fun a u e => by
  rw [upd_ne (ne_of_none e h)]
  exact e
/-- an object that H does not know may change -/
theorem Ex.mut {H H' : Hp} {p : Addr} {o : HO} (e : Ex H H') (h : H p = none) : Ex H (upd H' p o) := fun a u ha => by
  rw [upd_ne (ne_of_none ha h)]
  exact e a u ha
theorem Ex.upd {H H' : Hp} {p : Addr} {o : HO} (e : Ex H H') : Ex (upd H p o) (upd H' p o) := fun a u ha => by
  by_cases h : a = p
  · subst h
    rw [upd_same] at ha ⊢
    exact ha
  · rw [upd_ne h] at ha ⊢
    exact e a u ha
theorem Ex.free {H H' : Hp} (e : Ex H H') {p : Addr} (h : H' p = none) : H p = none := by
  cases q : H p with
  | none => rfl
  | some o =>
    rw [e p o q] at h
    cases h
mutual
theorem Rp.mono {H H' : Hp} (e : Ex H H') : ∀ {v : V} {d : PyData}, Rp H v d → Rp H' v d
  | _, _, .non => .non
  | _, _, .bl b => .bl b
  | _, _, .int i => .int i
  | _, _, .str x => .str x
  | _, _, .lst h t => .lst (e _ _ h) (RpL.mono e t)
  | _, _, .tup h t => .tup (e _ _ h) (RpL.mono e t)
  | _, _, .dct h t => .dct (h.elim (fun h => .inl (e _ _ h)) fun ⟨o, h⟩ => .inr ⟨o, e _ _ h⟩) (RpK.mono e t)
theorem RpL.mono {H H' : Hp} (e : Ex H H') : ∀ {vs : List V} {ds : List PyData}, RpL H vs ds → RpL H' vs ds
  | _, _, .nil => .nil
  | _, _, .cons h t => .cons (Rp.mono e h) (RpL.mono e t)
theorem RpK.mono {H H' : Hp} (e : Ex H H') : ∀ {vs : List (Key × V)} {ds : List (PyData × PyData)}, RpK H vs ds → RpK H' vs ds
  | _, _, .nil => .nil
  | _, _, .cons h t => .cons (Rp.mono e h) (RpK.mono e t)
end
theorem RpL.length {H : Hp} : ∀ {vs : List V} {ds : List PyData}, RpL H vs ds → vs.length = ds.length
  | _, _, .nil => rfl
  | _, _, .cons _ t => by
    rw [List.length_cons, List.length_cons, RpL.length t]
theorem RpL.get {H : Hp} : ∀ {vs : List V} {ds : List PyData} {i : Nat} {d : PyData}, RpL H vs ds → ds[i]? = some d → ∃ v, vs[i]? = some v ∧ Rp H v d
  | _, _, i, d, .nil, e => by simp at e
  | _, _, 0, d, .cons (v := v) h t, e => ⟨v, rfl, by simp at e; subst e; exact h⟩
  | _, _, i + 1, d, .cons h t, e => RpL.get (i := i) t (by simpa using e)
theorem RpL.back {H : Hp} : ∀ {vs : List V} {ds : List PyData} {i : Nat} {v : V}, RpL H vs ds → vs[i]? = some v → ∃ d, ds[i]? = some d ∧ Rp H v d
  | _, _, i, d, .nil, e => by simp at e
  | _, _, 0, v, .cons (d := d) h t, e => ⟨d, rfl, by simp at e; subst e; exact h⟩
  | _, _, i + 1, d, .cons h t, e => RpL.back (i := i) t (by simpa using e)
theorem RpL.append {H : Hp} : ∀ {vs ws : List V} {ds es : List PyData}, RpL H vs ds → RpL H ws es → RpL H (vs ++ ws) (ds ++ es)
  | _, _, _, _, .nil, s => s
  | _, _, _, _, .cons h t, s => .cons h (RpL.append t s)
theorem RpL.take {H : Hp} : ∀ {vs : List V} {ds : List PyData} (n : Nat), RpL H vs ds → RpL H (vs.take n) (ds.take n)
  | _, _, 0, _ => .nil
  | _, _, _ + 1, .nil => .nil
  | _, _, n + 1, .cons r t => .cons r (RpL.take n t)
theorem RpL.drop {H : Hp} : ∀ {vs : List V} {ds : List PyData} (n : Nat), RpL H vs ds → RpL H (vs.drop n) (ds.drop n)
  | _, _, 0, r => r
  | _, _, _ + 1, .nil => .nil
  | _, _, n + 1, .cons _ t => RpL.drop n t
theorem RpL.set {H : Hp} {x : V} {d : PyData} (r : Rp H x d) : ∀ {vs : List V} {ds : List PyData} (n : Nat), RpL H vs ds → RpL H (vs.set n x) (ds.set n d)
  | _, _, _, .nil => .nil
  | _, _, 0, .cons _ t => .cons r t
  | _, _, n + 1, .cons q t => .cons q (RpL.set r n t)
theorem RpL.one {H : Hp} {v : V} {d : PyData} (h : Rp H v d) : RpL H [v] [d] := .cons h .nil
theorem RpL.flatten_rep {H : Hp} {vs : List V} {ds : List PyData} (h : RpL H vs ds) : ∀ n : Nat, RpL H (List.replicate n vs).flatten (List.replicate n ds).flatten
  | 0 => .nil
  | n + 1 => by
    rw [List.replicate_succ, List.replicate_succ, List.flatten_cons, List.flatten_cons]
    exact h.append (RpL.flatten_rep h n)
mutual
def plain : PyData → Bool
  | .none => true
  | .bool _ => true
  | .int _ => true
  | .str _ => true
  | .list ds => plainL ds
  | .tuple ds => plainL ds
  | .dict _ => false
def plainL : List PyData → Bool
  | [] => true
  | d :: ds => plain d && plainL ds
end
mutual
theorem Rp.dp {K : PySem.W.Frag} {H : Hp} : ∀ {v : V} {d : PyData}, Rp H v d → plain d = true → Dp K H v d
  | _, _, .non, _ => .non
  | _, _, .bl b, _ => .bl b
  | _, _, .int i, _ => .int i
  | _, _, .str x, _ => .str x
  | _, _, .lst h t, p => .lst (SqL.of h) (RpL.dp t (by simpa only [plain] using p))
  | _, _, .tup h t, p => .tup (SqT.of h) (RpL.dp t (by simpa only [plain] using p))
  | _, _, .dct _ _, p => by simp [plain] at p
theorem RpL.dp {K : PySem.W.Frag} {H : Hp} : ∀ {vs : List V} {ds : List PyData}, RpL H vs ds → plainL ds = true → DpAll K H vs ds
  | _, _, .nil, _ => .nil
  | _, _, .cons h t, p => by
    simp only [plainL, Bool.and_eq_true] at p
    exact .cons (Rp.dp h p.1) (RpL.dp t p.2)
end

/-! ### the frozen part of the heap grows -/
/-- from (H0, H) to (H0', H'): H0 is what is frozen (data lies in it), H all that is tracked -/
structure Grow (H0 H H0' H' : Hp) : Prop where
  fz : Ex H0 H0'
  all : Ex H H'
  sub : Ex H0' H'
  new : ∀ a o, H a = some o → H0 a = none → H0' a = none
theorem Grow.refl {H0 H : Hp} (e : Ex H0 H) : Grow H0 H H0 H := ⟨Ex.refl _, Ex.refl _, e, fun _ _ _ n => n⟩
theorem Grow.trans {A A1 B B1 C C1 : Hp} (a : Grow A A1 B B1) (b : Grow B B1 C C1) : Grow A A1 C C1 :=
  ⟨a.fz.trans b.fz, a.all.trans b.all, b.sub, fun x o h n => b.new x o (a.all x o h) (a.new x o h n)⟩
/-- a new frozen object -/
theorem Grow.laid {H0 H : Hp} (e : Ex H0 H) {p : Addr} {o : HO} (h : H p = none) : Grow H0 H (upd H0 p o) (upd H p o) :=
  ⟨Ex.new (e.free h), Ex.new h, e.upd, fun a u ha n => by rw [upd_ne (ne_of_none ha h)]; exact n⟩

end G

set_option Elab.async false
set_option linter.all false
set_option maxRecDepth 100000
set_option maxHeartbeats 1000000
namespace G
open PySem PySem.Spec PyProof.Rows L2
/-- the deck's objects, and where it stands -/
structure Fp where
  own : Addr → Prop
  top : Addr
instance : CoeFun Fp (fun _ => Addr → Prop) := ⟨Fp.own⟩
/-- the deck at a: F are its changing objects -/
structure Deck (F : Fp) (H : Hp) (a : Addr) (n : Nat) : Prop where
  self : F a ∧ a = F.top
  at_ : ∃ (l : Addr) (c : Int) (ps : List Addr), H a = some (.lst [.ref l, .int c]) ∧ H l = some (.lst (ps.map V.ref)) ∧ (F l ∧ l ≠ a ∧ l ∉ ps) ∧ ps ≠ [] ∧ ps.length ≤ 63 ∧
    (∀ p ∈ ps, F p ∧ p ≠ a) ∧ ∀ p ∈ ps, ∃ x y z : Int, H p = some (.lst [.int x, .int y, .int z]) ∧ 0 ≤ z ∧ z ≤ n

theorem Deck.grow {F : Fp} {H H' : Hp} {a : Addr} {n : Nat} (e : Ex H H') (d : Deck F H a n) : Deck F H' a n := by
  obtain ⟨s, l, c, ps, h1, h2, h3, h4, h5, h6, h7⟩ := d
  refine ⟨s, l, c, ps, e _ _ h1, e _ _ h2, h3, h4, h5, h6, fun p hp => ?_⟩
  obtain ⟨x, y, z, h, q⟩ := h7 p hp
  exact ⟨x, y, z, e _ _ h, q⟩
theorem Deck.mono {F : Fp} {H : Hp} {a : Addr} {n m : Nat} (d : Deck F H a n) (h : n ≤ m) : Deck F H a m := by
  obtain ⟨s, l, c, ps, h1, h2, h3, h4, h5, h6, h7⟩ := d
  refine ⟨s, l, c, ps, h1, h2, h3, h4, h5, h6, fun p hp => ?_⟩
  obtain ⟨x, y, z, q, h8, h9⟩ := h7 p hp
  exact ⟨x, y, z, q, h8, by omega⟩
/-- an object that is none of the deck's changes -/
theorem Deck.but {F : Fp} {H : Hp} {a l : Addr} {n : Nat} {o : HO} (d : Deck F H a n) (h : ¬ F l) : Deck F (upd H l o) a n := by
  have ne : ∀ x, F x → x ≠ l := fun x f z => by subst z; exact h f
  obtain ⟨s, l2, c2, ps, g1, g2, g3, g4, g5, g6, g7⟩ := d
  refine ⟨s, l2, c2, ps, by rw [upd_ne (ne _ s.1)]; exact g1, ?_, g3, g4, g5, g6, fun p hp => ?_⟩
  · rw [upd_ne (ne _ g3.1)]
    exact g2
  · obtain ⟨x, y, z, w1, w2⟩ := g7 p hp
    exact ⟨x, y, z, by rw [upd_ne (ne _ (g6 p hp).1)]; exact w1, w2⟩
end G

set_option Elab.async false
set_option linter.all false
set_option maxRecDepth 100000
set_option maxHeartbeats 1000000
namespace G
open PySem PySem.Spec PyProof.Rows L2
/-! ### what the names of a def hold -/
inductive Sl where
  /-- nothing known -/
  | un
  /-- data that nobody changes -/
  | fz (d : PyData)
  /-- a list of the def's own, that it may change -/
  | ow (ds : List PyData)
  /-- the deck, of n draws at most -/
  | dk (n : Nat)
  /-- just this value -/
  | pn (v : V)
  /-- a dict of the def's own, that it may change -/
  | od (es : List (PyData × PyData))

/-- the heaps at the def's entry, the deck's objects -/
structure Bs where
  H0 : Hp
  H : Hp
  F : Fp

structure En (B : Bs) (ρ : List Sl) (σ : L2.St) (H0 H : Hp) : Prop where
  len : σ.length = ρ.length
  e0 : Ex B.H0 H0
  ex : Ex H0 H
  kp : ∀ a o, B.H a = some o → B.H0 a = none → ¬ B.F a → H a = some o ∧ H0 a = none
  fF : ∀ a, B.F a → H0 a = none ∧ ∃ o, H a = some o
  fz : ∀ (i : Nat) (d : PyData), ρ[i]? = some (Sl.fz d) → ∃ v, σ[i]? = some (some v) ∧ Rp H0 v d
  ow : ∀ (i : Nat) (ds : List PyData), ρ[i]? = some (Sl.ow ds) → ∃ l vs, σ[i]? = some (some (V.ref l)) ∧ H l = some (HO.lst vs) ∧ H0 l = none ∧ B.H l = none ∧ ¬ B.F l ∧ RpL H0 vs ds
  sep : ∀ (i j : Nat) (ds es : List PyData) (l : Addr), ρ[i]? = some (Sl.ow ds) → ρ[j]? = some (Sl.ow es) → σ[i]? = some (some (V.ref l)) → σ[j]? = some (some (V.ref l)) → i = j
  dk : ∀ (i n : Nat), ρ[i]? = some (Sl.dk n) → ∃ a, σ[i]? = some (some (V.ref a)) ∧ Deck B.F H a n
  one : ∀ (i j n m : Nat), ρ[i]? = some (Sl.dk n) → ρ[j]? = some (Sl.dk m) → i = j
  pn : ∀ (i : Nat) (v : V), ρ[i]? = some (Sl.pn v) → σ[i]? = some (some v)
  od : ∀ (i : Nat) (es : List (PyData × PyData)), ρ[i]? = some (Sl.od es) → ∃ l kvs, σ[i]? = some (some (V.ref l)) ∧ H l = some (HO.dK kvs) ∧ H0 l = none ∧ B.H l = none ∧ ¬ B.F l ∧ RpK H0 kvs es
  oned : ∀ (i j : Nat) (es fs : List (PyData × PyData)) (l : Addr), ρ[i]? = some (Sl.od es) → ρ[j]? = some (Sl.od fs) → σ[i]? = some (some (V.ref l)) → σ[j]? = some (some (V.ref l)) → i = j

section
variable {B : Bs} {ρ : List Sl} {σ : L2.St} {H0 H H0' H' : Hp}
theorem En.grow (E : En B ρ σ H0 H) (g : Grow H0 H H0' H') : En B ρ σ H0' H' where
  len := E.len
  e0 := E.e0.trans g.fz
  ex := g.sub
  kp := fun a o h n f => by
    obtain ⟨h1, h2⟩ := E.kp a o h n f
    exact ⟨g.all _ _ h1, g.new _ _ h1 h2⟩
  fF := fun a f => by
    obtain ⟨h1, o, h2⟩ := E.fF a f
    exact ⟨g.new _ _ h2 h1, o, g.all _ _ h2⟩
  fz := fun i d h => by
    obtain ⟨v, h1, h2⟩ := E.fz i d h
    exact ⟨v, h1, h2.mono g.fz⟩
  ow := fun i ds h => by
    obtain ⟨l, vs, h1, h2, h3, h4, h5, h6⟩ := E.ow i ds h
    exact ⟨l, vs, h1, g.all _ _ h2, g.new _ _ h2 h3, h4, h5, h6.mono g.fz⟩
  sep := E.sep
  dk := fun i n h => by
    obtain ⟨a, h1, h2⟩ := E.dk i n h
    exact ⟨a, h1, h2.grow g.all⟩
  one := E.one
  pn := E.pn
  od := fun i ds h => by
    obtain ⟨l, vs, h1, h2, h3, h4, h5, h6⟩ := E.od i ds h
    exact ⟨l, vs, h1, g.all _ _ h2, g.new _ _ h2 h3, h4, h5, h6.mono g.fz⟩
  oned := E.oned
end
end G

set_option Elab.async false
set_option linter.all false
set_option maxRecDepth 100000
set_option maxHeartbeats 1000000
namespace G
open PySem PySem.Spec PyProof.Rows L2

/-! ### the place where code stands, as far as the text tells it -/
structure Ct where
  P : Program
  w : World
  K : PySem.W.Frag
  mg : Str → Option Value
  base : Heap
  N : List Str
  sc : Scope
  fn : Str → Bool
  k : Nat
  /-- whether no repr is under way for sure -/
  g : Bool
structure Has (c : Ct) (X : Cx) : Prop where
  P : X.prog = c.P
  w : X.w = c.w
  K : X.K = c.K
  mg : X.mg = c.mg
  base : X.base = c.base
  N : X.N = c.N
  nd : X.N.Nodup
  sc : X.env.scope = c.sc
  fn : X.fn = c.fn
  calm : X.calm = true
  room : Room c.k X.A
  xe : X.xe = fun _ _ => False
  gd : c.g = true → X.A.guards = some []
/-- a comprehension's block -/
def Ct.blk (c : Ct) (scope : Scope) : Ct := { c with sc := relS scope c.sc, fn := fun x => scope.names.lookup x == some .cell }
theorem Has.blk {c : Ct} {X : Cx} (h : Has c X) (s : Shared) (H : Hp) (scope : Scope) (C : Addr) (cl : List (Str × Addr)) (fp : List Addr) : Has (c.blk scope) (X.blk s H scope (compEnvC scope cl C X.env) fp) :=
  ⟨h.P, h.w, h.K, h.mg, h.base, h.N, h.nd, by show relS scope X.env.scope = relS scope c.sc; rw [h.sc], rfl, h.calm, h.room, rfl, h.gd⟩
theorem Has.own {c : Ct} {X : Cx} (h : Has c X) : PassesOwn (model X.prog X.w) X.A X.env X.xe := by
  rw [h.xe]
  exact PassesOwn.never

/-! ### what the machine asks of a piece of text, at its weakest -/
def wpE (c : Ct) (e : Expr) : TE := fun σ H Q => ∀ X, Has c X → ∀ (pins : List (Addr × Obj)) (s : Shared), Inv X pins σ H s → wpAny (model X.prog X.w) X.A (eval e X.env) (EP X pins σ Q) X.xe s
def wpT (c : Ct) (e : Expr) : TT := fun σ H Q => ∀ X, Has c X → ∀ (pins : List (Addr × Obj)) (s : Shared), Inv X pins σ H s → wpAny (model X.prog X.w) X.A (isTrue e X.env (eval e X.env)) (TP X pins σ Q) X.xe s
def wpW (c : Ct) (e : Expr) : TT := fun σ H Q => ∀ X, Has c X → ∀ (whole : Sem Value) (pins : List (Addr × Obj)) (s : Shared), Inv X pins σ H s → wpAny (model X.prog X.w) X.A (isTrue e X.env whole) (TP X pins σ Q) X.xe s
def wpA (c : Ct) (es : List Expr) : TA := fun σ H Q => ∀ X, Has c X → ∀ (pos : Pos) (pins : List (Addr × Obj)) (s : Shared), Inv X pins σ H s → wpAny (model X.prog X.w) X.A (spliced (backTo pos (starEach es X.env))) (AP X pins σ Q) X.xe s
def wpS (c : Ct) (st : Stmt) : TS := fun D σ H => ∀ X, Has c X → ∀ (pins : List (Addr × Obj)) (s : Shared), Inv X pins σ H s → wpAny (model X.prog X.w) X.A (exec st X.env) (SP X pins D) X.xe s
def wpSs (c : Ct) (st : List Stmt) : TS := fun D σ H => ∀ X, Has c X → ∀ (pins : List (Addr × Obj)) (s : Shared), Inv X pins σ H s → wpAny (model X.prog X.w) X.A (execs st X.env) (SP X pins D) X.xe s
def wpG (c : Ct) (tg : Expr) : TG := fun v σ H Q => ∀ X, Has c X → ∀ (pins : List (Addr × Obj)) (s : Shared) (u : Value), Inv X pins σ H s → RelV v u →
    wpAny (model X.prog X.w) X.A (assign tg X.env u) (fun _ s' => ∃ σ' H', Inv X pins σ' H' s' ∧ Q σ' H') X.xe s
def wpI (c : Ct) (tg iter : Expr) : TI := fun σ H R => ∀ X, Has c X → ∀ (pins : List (Addr × Obj)) (s : Shared), Inv X pins σ H s →
    wpAny (model X.prog X.w) X.A (eval iter X.env) (fun v s1 => wpAny (model X.prog X.w) X.A (pyIter v) (PIE X pins σ tg R) X.xe s1) X.xe s
section
variable {c : Ct} {X : Cx} {e : Expr} {es : List Expr} {st : Stmt} {sts : List Stmt}
theorem peW (h : Has c X) : PE X e (wpE c e) := ⟨fun pins s _ _ _ I q => q X h pins s I⟩
theorem ptW (h : Has c X) : PT X e (wpT c e) := ⟨fun pins s _ _ _ I q => q X h pins s I⟩
theorem pwW (h : Has c X) : PW X e (wpW c e) := ⟨fun wh pins s _ _ _ I q => q X h wh pins s I⟩
theorem paW (h : Has c X) : PA X es (wpA c es) := ⟨fun pos pins s _ _ _ I q => q X h pos pins s I⟩
theorem psW (h : Has c X) : PS X st (wpS c st) := ⟨fun pins s _ _ _ I q => q X h pins s I⟩
theorem pssW (h : Has c X) : PSs X sts (wpSs c sts) := ⟨fun pins s _ _ _ I q => q X h pins s I⟩
theorem pgW (h : Has c X) : PG X e (wpG c e) := ⟨fun pins s _ _ _ u _ I r q => q X h pins s u I r⟩
theorem piW {tg iter : Expr} (h : Has c X) : PI X tg iter (wpI c tg iter) := ⟨fun pins s _ _ _ I q => q X h pins s I⟩
theorem wpE_of {t : TE} {σ : L2.St} {H : Hp} {Q : VK} (h : ∀ X, Has c X → PE X e t) (q : t σ H Q) : wpE c e σ H Q := fun X hX pins s I => (h X hX).run pins s σ H Q I q
theorem wpT_of {t : TT} {σ : L2.St} {H : Hp} {Q : Bool → Hp → Prop} (h : ∀ X, Has c X → PT X e t) (q : t σ H Q) : wpT c e σ H Q := fun X hX pins s I => (h X hX).run pins s σ H Q I q
theorem wpW_of {t : TT} {σ : L2.St} {H : Hp} {Q : Bool → Hp → Prop} (h : ∀ X, Has c X → PW X e t) (q : t σ H Q) : wpW c e σ H Q := fun X hX wh pins s I => (h X hX).run wh pins s σ H Q I q
theorem wpA_of {t : TA} {σ : L2.St} {H : Hp} {Q : List V → Hp → Prop} (h : ∀ X, Has c X → PA X es t) (q : t σ H Q) : wpA c es σ H Q := fun X hX pos pins s I => (h X hX).run pos pins s σ H Q I q
theorem wpS_of {t : TS} {σ : L2.St} {H : Hp} {D : Ends} (h : ∀ X, Has c X → PS X st t) (q : t D σ H) : wpS c st D σ H := fun X hX pins s I => (h X hX).run pins s σ H D I q
theorem wpSs_of {t : TS} {σ : L2.St} {H : Hp} {D : Ends} (h : ∀ X, Has c X → PSs X sts t) (q : t D σ H) : wpSs c sts D σ H := fun X hX pins s I => (h X hX).run pins s σ H D I q
theorem wpG_of {t : TG} {v : V} {σ : L2.St} {H : Hp} {Q : L2.St → Hp → Prop} (h : ∀ X, Has c X → PG X e t) (q : t v σ H Q) : wpG c e v σ H Q := fun X hX pins s u I r => (h X hX).run pins s σ H v u Q I r q
theorem wpI_of {t : TI} {tg iter : Expr} {σ : L2.St} {H : Hp} {R : It → Hp → Prop} (h : ∀ X, Has c X → PI X tg iter t) (q : t σ H R) : wpI c tg iter σ H R := fun X hX pins s I => (h X hX).run pins s σ H R I q
end

/-! ### .. over data -/
/-- a source of items: at turn i it gives the i-th of ds -/
def Src (J : It) (ds : List PyData) (Z : Hp) : Prop := ∀ (i : Nat) (H0 H : Hp), Ex Z H0 → Ex H0 H →
  (∀ d, ds[i]? = some d → J.go i H ∧ ∀ x H', J.yld i H x H' → ∃ H0', Grow H0 H H0' H' ∧ Rp H0' x d) ∧ (i = ds.length → J.stop i H)
section
variable (c : Ct) (F : Fp)
def WE (e : Expr) (ρ : List Sl) (Φ : PyData → List Sl → Prop) : Prop := ∀ (B : Bs) (σ : L2.St) (H0 H : Hp), B.F = F → En B ρ σ H0 H → ∀ Q : VK,
  (∀ v d ρ' H0' H', En B ρ' σ H0' H' → Ex H0 H0' → Rp H0' v d → Φ d ρ' → Q v H') → wpE c e σ H Q
def WT (e : Expr) (ρ : List Sl) (Φ : Bool → List Sl → Prop) : Prop := ∀ (B : Bs) (σ : L2.St) (H0 H : Hp), B.F = F → En B ρ σ H0 H → ∀ Q : Bool → Hp → Prop,
  (∀ b ρ' H0' H', En B ρ' σ H0' H' → Ex H0 H0' → Φ b ρ' → Q b H') → wpT c e σ H Q
def WW (e : Expr) (ρ : List Sl) (Φ : Bool → List Sl → Prop) : Prop := ∀ (B : Bs) (σ : L2.St) (H0 H : Hp), B.F = F → En B ρ σ H0 H → ∀ Q : Bool → Hp → Prop,
  (∀ b ρ' H0' H', En B ρ' σ H0' H' → Ex H0 H0' → Φ b ρ' → Q b H') → wpW c e σ H Q
def WA (es : List Expr) (ρ : List Sl) (Φ : List PyData → List Sl → Prop) : Prop := ∀ (B : Bs) (σ : L2.St) (H0 H : Hp), B.F = F → En B ρ σ H0 H → ∀ Q : List V → Hp → Prop,
  (∀ vs ds ρ' H0' H', En B ρ' σ H0' H' → Ex H0 H0' → RpL H0' vs ds → Φ ds ρ' → Q vs H') → wpA c es σ H Q
def WI (tg iter : Expr) (ρ : List Sl) (Φ : List PyData → List Sl → Prop) : Prop := ∀ (B : Bs) (σ : L2.St) (H0 H : Hp), B.F = F → En B ρ σ H0 H → ∀ R : It → Hp → Prop,
  (∀ J ds ρ' H0' H', En B ρ' σ H0' H' → Ex H0 H0' → Src J ds H0' → Φ ds ρ' → R J H') → wpI c tg iter σ H R
structure SE where
  nx : List Sl → Prop := fun _ => False
  rt : PyData → List Sl → Prop := fun _ _ => False
  bk : List Sl → Prop := fun _ => False
  ct : List Sl → Prop := fun _ => False
  /-- a new list is returned -/
  rn : List PyData → List Sl → Prop := fun _ _ => False
/-- a fresh list that is not frozen yet -/
structure Fresh (B : Bs) (ρ : List Sl) (σ : L2.St) (H0 H : Hp) (l : Addr) (vs : List V) (ds : List PyData) : Prop where
  at_ : H l = some (.lst vs)
  nf : H0 l = none
  nb : B.H l = none
  nF : ¬ B.F l
  no : ∀ (i : Nat) (es : List PyData), ρ[i]? = some (Sl.ow es) → σ[i]? ≠ some (some (V.ref l))
  rp : RpL H0 vs ds
/-- the ends over data stand for the ends over the heap -/
structure Fits (B : Bs) (D : SE) (E : Ends) : Prop where
  nx : ∀ ρ σ H0 H, En B ρ σ H0 H → D.nx ρ → E.nx σ H
  rt : ∀ v d ρ σ H0 H, En B ρ σ H0 H → Rp H0 v d → D.rt d ρ → E.rt v H
  bk : ∀ ρ σ H0 H, En B ρ σ H0 H → D.bk ρ → E.bk σ H
  ct : ∀ ρ σ H0 H, En B ρ σ H0 H → D.ct ρ → E.ct σ H
  rn : ∀ l vs ds ρ σ H0 H, En B ρ σ H0 H → Fresh B ρ σ H0 H l vs ds → D.rn ds ρ → E.rt (.ref l) H
def WS (st : Stmt) (ρ : List Sl) (D : SE) : Prop := ∀ (B : Bs) (σ : L2.St) (H0 H : Hp), B.F = F → En B ρ σ H0 H → ∀ E : Ends, Fits B D E → wpS c st E σ H
def WSs (sts : List Stmt) (ρ : List Sl) (D : SE) : Prop := ∀ (B : Bs) (σ : L2.St) (H0 H : Hp), B.F = F → En B ρ σ H0 H → ∀ E : Ends, Fits B D E → wpSs c sts E σ H
/-- a value is stored -/
def WG (tg : Expr) (d : PyData) (ρ : List Sl) (Φ : List Sl → Prop) : Prop := ∀ (B : Bs) (σ : L2.St) (H0 H : Hp) (v : V), B.F = F → En B ρ σ H0 H → Rp H0 v d → ∀ Q : L2.St → Hp → Prop,
  (∀ ρ' σ' H0' H', En B ρ' σ' H0' H' → Ex H0 H0' → Φ ρ' → Q σ' H') → wpG c tg v σ H Q
end

def isStar : Expr → Bool
  | .Starred _ _ => true
  | _ => false
theorem star_cons {e : Expr} {es : List Expr} (h : isStar e = false) : ∀ env, starEach (e :: es) env = (false, eval e env) :: starEach es env := fun env => by
  cases e <;> first | rfl | cases h
section
variable {c : Ct} {F : Fp} {ρ : List Sl} {pos : Pos} {a b e : Expr} {es : List Expr} {Φ : PyData → List Sl → Prop} {Ψ : Bool → List Sl → Prop}
/-! ### names and constants -/
theorem we_name (i : Nat) {x : Str} {d : PyData} (h : ρ[i]? = some (Sl.fz d)) (k : Φ d ρ) (hN : c.N[i]? = some x := by rfl) (hv : Vis c.sc x := by first | exact Or.inl rfl | exact Or.inr (Or.inl rfl) | exact Or.inr (Or.inr rfl))
    (hd : (x == ("__debug__" : Str)) = false := by decide) (hcd : (x == ("__classdict__" : Str)) = false := by decide) : WE c F (.Name x pos) ρ Φ := fun B σ H0 H hF E Q q => by
  obtain ⟨v, h1, h2⟩ := E.fz i d h
  exact wpE_of (fun X hX => pe_var (by rw [hX.N]; exact hN) (by rw [hX.sc]; exact hv) hd hcd) ⟨v, h1, q v d ρ H0 H E (Ex.refl _) h2 k⟩
theorem we_int {i : Int} {j} (k : Φ (.int i) ρ) : WE c F (.Constant (.int i) j pos) ρ Φ := fun B σ H0 H hF E Q q => wpE_of (fun X hX => pe_int) (q _ _ ρ H0 H E (Ex.refl _) (.int i) k)
theorem we_bool {b : Bool} {j} (k : Φ (.bool b) ρ) : WE c F (.Constant (.bool b) j pos) ρ Φ := fun B σ H0 H hF E Q q => wpE_of (fun X hX => pe_bl) (q _ _ ρ H0 H E (Ex.refl _) (.bl b) k)
theorem we_none {j} (k : Φ .none ρ) : WE c F (.Constant .none j pos) ρ Φ := fun B σ H0 H hF E Q q => wpE_of (fun X hX => pe_non) (q _ _ ρ H0 H E (Ex.refl _) .non k)
theorem we_str {x : Str} {j} (k : Φ (.str x) ρ) : WE c F (.Constant (.str x) j pos) ρ Φ := fun B σ H0 H hF E Q q => wpE_of (fun X hX => pe_str) (q _ _ ρ H0 H E (Ex.refl _) (.str x) k)

/-! ### operations on values -/
def VO2 (K : PySem.W.Frag) (r : R2) (d e : PyData) (Ψ : PyData → Prop) : Prop := ∀ (H0 H : Hp) (v u : V), Ex H0 H → Rp H0 v d → Rp H0 u e → ∀ Q : VK, (∀ z y H0' H', Grow H0 H H0' H' → Rp H0' z y → Ψ y → Q z H') → r v u H Q
theorem we_op {op : Operator} {r : R2} (ho : ∀ X, Has c X → OpR X (binaryOp op) r) (h : WE c F a ρ fun d ρ1 => WE c F b ρ1 fun y ρ2 => VO2 c.K r d y fun z => Φ z ρ2) : WE c F (.BinOp a op b pos) ρ Φ := fun B σ H0 H hF E Q q =>
  wpE_of (fun X hX => pe_op (ho X hX) (peW hX) (peW hX)) (h B σ H0 H hF E _ fun v d ρ1 H1 H1' E1 e1 r1 k1 => k1 B σ H1 H1' hF E1 _ fun u y ρ2 H2 H2' E2 e2 r2 k2 =>
    k2 H2 H2' v u E2.ex (r1.mono e2) r2 Q fun z y' H3 H3' g r3 k3 => q z y' ρ2 H3 H3' (E2.grow g) ((e1.trans e2).trans g.fz) r3 k3)
theorem we_cmp {op : CmpOp} {r : R2} (ho : ∀ X, Has c X → OpR X (compareOp op) r) (h : WE c F a ρ fun d ρ1 => WE c F b ρ1 fun y ρ2 => VO2 c.K r d y fun z => Φ z ρ2) (hm : behindInMarks op b = false := by first | exact nobehind _ (by decide) (by decide) | rfl) :
    WE c F (.Compare a [op] [b] pos) ρ Φ := fun B σ H0 H hF E Q q =>
  wpE_of (fun X hX => pe_cmpR (ho X hX) (peW hX) (peW hX) hm) (h B σ H0 H hF E _ fun v d ρ1 H1 H1' E1 e1 r1 k1 => k1 B σ H1 H1' hF E1 _ fun u y ρ2 H2 H2' E2 e2 r2 k2 =>
    k2 H2 H2' v u E2.ex (r1.mono e2) r2 Q fun z y' H3 H3' g r3 k3 => q z y' ρ2 H3 H3' (E2.grow g) ((e1.trans e2).trans g.fz) r3 k3)
theorem we_ixr {r : R2} (ho : ∀ X, Has c X → IxR X r) (hs : PlainIx b) (h : WE c F a ρ fun d ρ1 => WE c F b ρ1 fun y ρ2 => VO2 c.K r d y fun z => Φ z ρ2) : WE c F (.Subscript a b pos) ρ Φ := fun B σ H0 H hF E Q q =>
  wpE_of (fun X hX => pe_ix (ho X hX) (peW hX) (peW hX) hs) (h B σ H0 H hF E _ fun v d ρ1 H1 H1' E1 e1 r1 k1 => k1 B σ H1 H1' hF E1 _ fun u y ρ2 H2 H2' E2 e2 r2 k2 =>
    k2 H2 H2' v u E2.ex (r1.mono e2) r2 Q fun z y' H3 H3' g r3 k3 => q z y' ρ2 H3 H3' (E2.grow g) ((e1.trans e2).trans g.fz) r3 k3)
/-- the answer is a flat value and nothing new stands -/
theorem VO2.flat {K : PySem.W.Frag} {r : R2} {d e z : PyData} {v : V} {Ψ : PyData → Prop} (k : Ψ z) (hz : ∀ H : Hp, Rp H v z) (h : ∀ (H0 H : Hp) (x y : V), Ex H0 H → Rp H0 x d → Rp H0 y e → ∀ Q : VK, Q v H → r x y H Q) : VO2 K r d e Ψ :=
  fun H0 H x y ex rx ry Q q => h H0 H x y ex rx ry Q (q v z H0 H (Grow.refl ex) (hz H0) k)

/-! ### and, or, not, if -/
theorem wt_val (h : WE c F e ρ fun d ρ1 => ∃ k, d = .bool k ∧ Ψ k ρ1) (he : ∀ X, ∀ whole, isTrue e X whole = (do let v ← whole; standAt e.pos; holding [v] (truthy v)) := by intro _ _; rfl) : WT c F e ρ Ψ := fun B σ H0 H hF E Q q =>
  wpT_of (fun X hX => pt_val (peW hX) (he _)) (h B σ H0 H hF E _ fun v d ρ1 H1 H1' E1 e1 r1 k1 => by
    obtain ⟨k, rfl, k2⟩ := k1
    cases r1
    exact ⟨k, rfl, q k ρ1 H1 H1' E1 e1 k2⟩)
theorem wt_not (h : WT c F a ρ fun k ρ1 => Ψ (!k) ρ1) : WT c F (.UnaryOp .Not a pos) ρ Ψ := fun B σ H0 H hF E Q q =>
  wpT_of (fun X hX => pt_not (ptW hX)) (h B σ H0 H hF E _ fun k ρ1 H1 H1' E1 e1 k1 => q _ ρ1 H1 H1' E1 e1 k1)
theorem wt_of {e : Expr} (h : WW c F e ρ Ψ) : WT c F e ρ Ψ := fun B σ H0 H hF E Q q => wpT_of (fun X hX => (pwW hX).pt) (h B σ H0 H hF E Q q)
theorem ww_one {op : BoolOp} (h : WT c F a ρ Ψ) : WW c F (.BoolOp op [a] pos) ρ Ψ := fun B σ H0 H hF E Q q => by
  cases op with
  | And => exact wpW_of (fun X hX => pw_and1 (ptW hX)) (h B σ H0 H hF E Q q)
  | Or => exact wpW_of (fun X hX => pw_or1 (ptW hX)) (h B σ H0 H hF E Q q)
theorem ww_and {rest : List Expr} (h : WT c F a ρ fun k ρ1 => (k = true → WW c F (.BoolOp .And (b :: rest) pos) ρ1 Ψ) ∧ (k = false → Ψ false ρ1)) : WW c F (.BoolOp .And (a :: b :: rest) pos) ρ Ψ := fun B σ H0 H hF E Q q =>
  wpW_of (fun X hX => pw_and (ptW hX) (pwW hX)) (h B σ H0 H hF E _ fun k ρ1 H1 H1' E1 e1 k1 => by
    cases k with
    | true => exact iteT (k1.1 rfl B σ H1 H1' hF E1 _ fun k ρ2 H2 H2' E2 e2 k2 => q k ρ2 H2 H2' E2 (e1.trans e2) k2)
    | false => exact iteF (q false ρ1 H1 H1' E1 e1 (k1.2 rfl)))
theorem ww_or {rest : List Expr} (h : WT c F a ρ fun k ρ1 => (k = false → WW c F (.BoolOp .Or (b :: rest) pos) ρ1 Ψ) ∧ (k = true → Ψ true ρ1)) : WW c F (.BoolOp .Or (a :: b :: rest) pos) ρ Ψ := fun B σ H0 H hF E Q q =>
  wpW_of (fun X hX => pw_or (ptW hX) (pwW hX)) (h B σ H0 H hF E _ fun k ρ1 H1 H1' E1 e1 k1 => by
    cases k with
    | false => exact iteF (k1.1 rfl B σ H1 H1' hF E1 _ fun k ρ2 H2 H2' E2 e2 k2 => q k ρ2 H2 H2' E2 (e1.trans e2) k2)
    | true => exact iteT (q true ρ1 H1 H1' E1 e1 (k1.2 rfl)))
/-- .. as values, of bools -/
theorem we_one {op : BoolOp} (h : WE c F a ρ Φ) : WE c F (.BoolOp op [a] pos) ρ Φ := fun B σ H0 H hF E Q q => wpE_of (fun X hX => pe_one (peW hX)) (h B σ H0 H hF E Q q)
theorem we_and {rest : List Expr} (h : WE c F a ρ fun d ρ1 => ∃ k, d = .bool k ∧ (k = true → WE c F (.BoolOp .And (b :: rest) pos) ρ1 Φ) ∧ (k = false → Φ (.bool false) ρ1)) : WE c F (.BoolOp .And (a :: b :: rest) pos) ρ Φ := fun B σ H0 H hF E Q q =>
  wpE_of (fun X hX => pe_and (peW hX) (peW hX)) (h B σ H0 H hF E _ fun v d ρ1 H1 H1' E1 e1 r1 k1 => by
    obtain ⟨k, rfl, k2, k3⟩ := k1
    cases r1
    refine ⟨k, rfl, ?_⟩
    cases k with
    | true => exact iteT (k2 rfl B σ H1 H1' hF E1 _ fun v d ρ2 H2 H2' E2 e2 r2 k2 => q v d ρ2 H2 H2' E2 (e1.trans e2) r2 k2)
    | false => exact iteF (q _ _ ρ1 H1 H1' E1 e1 (.bl false) (k3 rfl)))
theorem we_or {rest : List Expr} (h : WE c F a ρ fun d ρ1 => ∃ k, d = .bool k ∧ (k = false → WE c F (.BoolOp .Or (b :: rest) pos) ρ1 Φ) ∧ (k = true → Φ (.bool true) ρ1)) : WE c F (.BoolOp .Or (a :: b :: rest) pos) ρ Φ := fun B σ H0 H hF E Q q =>
  wpE_of (fun X hX => pe_or (peW hX) (peW hX)) (h B σ H0 H hF E _ fun v d ρ1 H1 H1' E1 e1 r1 k1 => by
    obtain ⟨k, rfl, k2, k3⟩ := k1
    cases r1
    refine ⟨k, rfl, ?_⟩
    cases k with
    | false => exact iteF (k2 rfl B σ H1 H1' hF E1 _ fun v d ρ2 H2 H2' E2 e2 r2 k2 => q v d ρ2 H2 H2' E2 (e1.trans e2) r2 k2)
    | true => exact iteT (q _ _ ρ1 H1 H1' E1 e1 (.bl true) (k3 rfl)))
theorem we_not (h : WE c F a ρ fun d ρ1 => ∃ k, d = .bool k ∧ Φ (.bool (!k)) ρ1) : WE c F (.UnaryOp .Not a pos) ρ Φ := fun B σ H0 H hF E Q q =>
  wpE_of (fun X hX => pe_not (peW hX)) (h B σ H0 H hF E _ fun v d ρ1 H1 H1' E1 e1 r1 k1 => by
    obtain ⟨k, rfl, k2⟩ := k1
    cases r1
    exact ⟨k, rfl, q _ _ ρ1 H1 H1' E1 e1 (.bl _) k2⟩)
theorem we_ife {t : Expr} (h : WT c F t ρ fun k ρ1 => (k = true → WE c F a ρ1 Φ) ∧ (k = false → WE c F b ρ1 Φ)) : WE c F (.IfExp t a b pos) ρ Φ := fun B σ H0 H hF E Q q =>
  wpE_of (fun X hX => pe_ifExp (ptW hX) (peW hX) (peW hX)) (h B σ H0 H hF E _ fun k ρ1 H1 H1' E1 e1 k1 => by
    cases k with
    | true => exact iteT (k1.1 rfl B σ H1 H1' hF E1 _ fun v d ρ2 H2 H2' E2 e2 r2 k2 => q v d ρ2 H2 H2' E2 (e1.trans e2) r2 k2)
    | false => exact iteF (k1.2 rfl B σ H1 H1' hF E1 _ fun v d ρ2 H2 H2' E2 e2 r2 k2 => q v d ρ2 H2 H2' E2 (e1.trans e2) r2 k2))

/-! ### arguments, displays, calls of built-ins -/
theorem wa_nil {Φ : List PyData → List Sl → Prop} (k : Φ [] ρ) : WA c F [] ρ Φ := fun B σ H0 H hF E Q q => wpA_of (fun X hX => pa_nil) (q [] [] ρ H0 H E (Ex.refl _) .nil k)
theorem wa_cons {Φ : List PyData → List Sl → Prop} (h : WE c F e ρ fun d ρ1 => WA c F es ρ1 fun ds ρ2 => Φ (d :: ds) ρ2) (hs : ∀ env, starEach (e :: es) env = (false, eval e env) :: starEach es env := by exact star_cons rfl) : WA c F (e :: es) ρ Φ := fun B σ H0 H hF E Q q =>
  wpA_of (fun X hX => pa_cons (peW hX) (paW hX) (hs _)) (h B σ H0 H hF E _ fun v d ρ1 H1 H1' E1 e1 r1 k1 => k1 B σ H1 H1' hF E1 _ fun vs ds ρ2 H2 H2' E2 e2 r2 k2 =>
    q (v :: vs) (d :: ds) ρ2 H2 H2' E2 (e1.trans e2) (.cons (r1.mono e2) r2) k2)
theorem we_tup {j} (h : WA c F es ρ fun ds ρ1 => ds.length ≤ 100000 ∧ Φ (.tuple ds) ρ1) : WE c F (.Tuple es j pos) ρ Φ := fun B σ H0 H hF E Q q =>
  wpE_of (fun X hX => pe_tup (paW hX)) (h B σ H0 H hF E _ fun vs ds ρ1 H1 H1' E1 e1 r1 k1 => ⟨Nat.le_trans (by rw [r1.length]; exact k1.1) (by decide : 100000 ≤ sizeLine), fun p hp => by
    have g := Grow.laid E1.ex (o := .tup vs) hp
    exact q _ _ ρ1 _ _ (E1.grow g) (e1.trans g.fz) (.tup upd_same (r1.mono g.fz)) k1.2⟩)
theorem we_lst (h : WA c F es ρ fun ds ρ1 => ds.length ≤ 100000 ∧ Φ (.list ds) ρ1) : WE c F (.List es pos) ρ Φ := fun B σ H0 H hF E Q q =>
  wpE_of (fun X hX => pe_lst (paW hX)) (h B σ H0 H hF E _ fun vs ds ρ1 H1 H1' E1 e1 r1 k1 => ⟨Nat.le_trans (by rw [r1.length]; exact k1.1) (by decide : 100000 ≤ sizeLine), fun p hp => by
    have g := Grow.laid E1.ex (o := .lst vs) hp
    exact q _ _ ρ1 _ _ (E1.grow g) (e1.trans g.fz) (.lst upd_same (r1.mono g.fz)) k1.2⟩)
def VO (r : List V → Hp → VK → Prop) (ds : List PyData) (Ψ : PyData → Prop) : Prop := ∀ (H0 H : Hp) (vs : List V), Ex H0 H → RpL H0 vs ds → ∀ Q : VK, (∀ z y H0' H', Grow H0 H H0' H' → Rp H0' z y → Ψ y → Q z H') → r vs H Q
theorem we_callB {x : Str} {p : Pos} {id : String} {r : List V → Hp → VK → Prop} (hc : ∀ X, Has c X → CallR X (.builtin id) r) (h : WA c F (e :: es) ρ fun ds ρ1 => VO r ds fun z => Φ z ρ1) (hg : c.sc.names.lookup x = some .globalImplicit := by rfl) (hm : c.mg x = none) (hv : bootBuiltins x = some (.builtin id))
    (hn : x ≠ "__name__" := by decide) (hdb : (x == ("__debug__" : Str)) = false := by decide) (he : ∀ env, starEach (e :: es) env = (false, eval e env) :: starEach es env := by intro _; rfl) (hpl : ∀ env, (backTo pos (starEach es env)).any (·.1) = false := by intro _; rfl) :
    WE c F (.Call (.Name x p) (e :: es) [] pos) ρ Φ := fun B σ H0 H hF E Q q =>
  wpE_of (fun X hX => pe_callB (hc X hX) (by show X.env.scope.names.lookup x = _; rw [hX.sc]; exact hg) (by rw [hX.mg]; exact hm) hv (paW hX) hn hdb (he _) (hpl _)) (h B σ H0 H hF E _ fun vs ds ρ1 H1 H1' E1 e1 r1 k1 =>
    k1 H1 H1' vs E1.ex r1 Q fun z y H2 H2' g r2 k2 => q z y ρ1 H2 H2' (E1.grow g) (e1.trans g.fz) r2 k2)
theorem we_callTy {x : Str} {p : Pos} {T : String} {r : List V → Hp → VK → Prop} (hc : ∀ X, Has c X → CallR X (.type T) r) (h : WA c F (e :: es) ρ fun ds ρ1 => VO r ds fun z => Φ z ρ1) (hg : c.sc.names.lookup x = some .globalImplicit := by rfl) (hm : c.mg x = none) (hv : bootBuiltins x = some (.type T))
    (hn : x ≠ "__name__" := by decide) (hdb : (x == ("__debug__" : Str)) = false := by decide) (he : ∀ env, starEach (e :: es) env = (false, eval e env) :: starEach es env := by intro _; rfl) (hpl : ∀ env, (backTo pos (starEach es env)).any (·.1) = false := by intro _; rfl) :
    WE c F (.Call (.Name x p) (e :: es) [] pos) ρ Φ := fun B σ H0 H hF E Q q =>
  wpE_of (fun X hX => pe_callTy (hc X hX) (by show X.env.scope.names.lookup x = _; rw [hX.sc]; exact hg) (by rw [hX.mg]; exact hm) hv (paW hX) hn hdb (he _) (hpl _)) (h B σ H0 H hF E _ fun vs ds ρ1 H1 H1' E1 e1 r1 k1 =>
    k1 H1 H1' vs E1.ex r1 Q fun z y H2 H2' g r2 k2 => q z y ρ1 H2 H2' (E1.grow g) (e1.trans g.fz) r2 k2)
end
end G

set_option Elab.async false
set_option linter.all false
set_option maxRecDepth 100000
set_option maxHeartbeats 1000000
namespace G
open PySem PySem.Spec PyProof.Rows L2

section
variable {c : Ct} {F : Fp} {ρ : List Sl} {pos : Pos} {a b e : Expr} {es : List Expr} {st : Stmt} {sts : List Stmt} {D : SE} {Φ : PyData → List Sl → Prop} {Ψ : Bool → List Sl → Prop}
/-! ### weaker ends -/
theorem WE.imp {Φ' : PyData → List Sl → Prop} (h : WE c F e ρ Φ) (k : ∀ d ρ', Φ d ρ' → Φ' d ρ') : WE c F e ρ Φ' := fun B σ H0 H hF E Q q => h B σ H0 H hF E Q fun v d ρ' H0' H' E' e' r' k' => q v d ρ' H0' H' E' e' r' (k d ρ' k')
theorem WT.imp {Ψ' : Bool → List Sl → Prop} (h : WT c F e ρ Ψ) (k : ∀ d ρ', Ψ d ρ' → Ψ' d ρ') : WT c F e ρ Ψ' := fun B σ H0 H hF E Q q => h B σ H0 H hF E Q fun d ρ' H0' H' E' e' k' => q d ρ' H0' H' E' e' (k d ρ' k')
theorem Fits.nxt {B : Bs} {E : Ends} {N : List Sl → Prop} {n : L2.St → Hp → Prop} (f : Fits B D E) (h : ∀ ρ σ H0 H, En B ρ σ H0 H → N ρ → n σ H) : Fits B { D with nx := N } { E with nx := n } := ⟨h, f.rt, f.bk, f.ct, f.rn⟩

/-! ### statements in a row -/
theorem wss_nil (k : D.nx ρ) : WSs c F [] ρ D := fun B σ H0 H hF E Ed f => wpSs_of (fun X hX => pss_nil) (f.nx ρ σ H0 H E k)
theorem wss_cons (h : WS c F st ρ { D with nx := fun ρ1 => WSs c F sts ρ1 D }) : WSs c F (st :: sts) ρ D := fun B σ H0 H hF E Ed f =>
  wpSs_of (fun X hX => pss_cons (psW hX) (pssW hX)) (h B σ H0 H hF E { Ed with nx := wpSs c sts Ed } (f.nxt fun ρ1 σ1 H1 H1' E1 k1 => k1 B σ1 H1 H1' hF E1 Ed f))
theorem wss_one (h : WS c F st ρ D) : WSs c F [st] ρ D := fun B σ H0 H hF E Ed f => wpSs_of (fun X hX => pss_one (psW hX)) (h B σ H0 H hF E Ed f)
theorem ws_ret (h : WE c F e ρ fun d ρ1 => D.rt d ρ1) : WS c F (.Return (some e) pos) ρ D := fun B σ H0 H hF E Ed f =>
  wpS_of (fun X hX => ps_ret (peW hX)) (h B σ H0 H hF E _ fun v d ρ1 H1 H1' E1 e1 r1 k1 => f.rt v d ρ1 σ H1 H1' E1 r1 k1)
theorem ws_if {t : Expr} {sa sb : List Stmt} (h : WT c F t ρ fun k ρ1 => (k = true → WSs c F sa ρ1 D) ∧ (k = false → WSs c F sb ρ1 D)) : WS c F (.If t sa sb pos) ρ D := fun B σ H0 H hF E Ed f =>
  wpS_of (fun X hX => ps_if (ptW hX) (pssW hX) (pssW hX)) (h B σ H0 H hF E _ fun k ρ1 H1 H1' E1 e1 k1 => by
    cases k with
    | true => exact iteT (k1.1 rfl B σ H1 H1' hF E1 Ed f)
    | false => exact iteF (k1.2 rfl B σ H1 H1' hF E1 Ed f))
/-- a way that is not taken -/
theorem ws_never (h : False) : WS c F st ρ D := h.elim
theorem ws_expr (h : WE c F e ρ fun _ ρ1 => D.nx ρ1) (hs : ∀ env, swapsWith e none pos.line env = pure false := by intro _; rfl) : WS c F (.Expr e pos) ρ D := fun B σ H0 H hF E Ed f =>
  wpS_of (fun X hX => ps_expr (peW hX) (hs _)) (h B σ H0 H hF E _ fun v d ρ1 H1 H1' E1 e1 r1 k1 => f.nx ρ1 σ H1 H1' E1 k1)

/-! ### stores -/
theorem En.set {B : Bs} {σ : L2.St} {H0 H : Hp} {i : Nat} {v : V} {d : PyData} (E : En B ρ σ H0 H) (r : Rp H0 v d) (hi : i < ρ.length) : En B (ρ.set i (Sl.fz d)) (σ.set i (some v)) H0 H where
  len := by rw [List.length_set, List.length_set, E.len]
  e0 := E.e0
  ex := E.ex
  kp := E.kp
  fF := E.fF
  fz := fun j d' h => by
    by_cases hj : i = j
    · subst hj
      rw [List.getElem?_set_self hi] at h
      cases h
      exact ⟨v, List.getElem?_set_self (by rw [E.len]; exact hi), r⟩
    · rw [List.getElem?_set_ne hj] at h
      obtain ⟨u, h1, h2⟩ := E.fz j d' h
      exact ⟨u, by rw [List.getElem?_set_ne hj]; exact h1, h2⟩
  ow := fun j ds h => by
    by_cases hj : i = j
    · subst hj
      rw [List.getElem?_set_self hi] at h
      cases h
    · rw [List.getElem?_set_ne hj] at h
      obtain ⟨l, vs, h1, h2⟩ := E.ow j ds h
      exact ⟨l, vs, by rw [List.getElem?_set_ne hj]; exact h1, h2⟩
  sep := fun j k ds es l h1 h2 h3 h4 => by
    by_cases hj : i = j
    · subst hj
      rw [List.getElem?_set_self hi] at h1
      cases h1
    · by_cases hk : i = k
      · subst hk
        rw [List.getElem?_set_self hi] at h2
        cases h2
      · rw [List.getElem?_set_ne hj] at h1 h3
        rw [List.getElem?_set_ne hk] at h2 h4
        exact E.sep j k ds es l h1 h2 h3 h4
  dk := fun j n h => by
    by_cases hj : i = j
    · subst hj
      rw [List.getElem?_set_self hi] at h
      cases h
    · rw [List.getElem?_set_ne hj] at h
      obtain ⟨a, h1, h2⟩ := E.dk j n h
      exact ⟨a, by rw [List.getElem?_set_ne hj]; exact h1, h2⟩
  one := fun j k n m h1 h2 => by
    by_cases hj : i = j
    · subst hj
      rw [List.getElem?_set_self hi] at h1
      cases h1
    · by_cases hk : i = k
      · subst hk
        rw [List.getElem?_set_self hi] at h2
        cases h2
      · rw [List.getElem?_set_ne hj] at h1
        rw [List.getElem?_set_ne hk] at h2
        exact E.one j k n m h1 h2
  pn := fun j u h => by
    by_cases hj : i = j
    · subst hj
      rw [List.getElem?_set_self hi] at h
      cases h
    · rw [List.getElem?_set_ne hj] at h ⊢
      exact E.pn j u h
  od := fun j ds h => by
    by_cases hj : i = j
    · subst hj
      rw [List.getElem?_set_self hi] at h
      cases h
    · rw [List.getElem?_set_ne hj] at h
      obtain ⟨l, vs, h1, h2⟩ := E.od j ds h
      exact ⟨l, vs, by rw [List.getElem?_set_ne hj]; exact h1, h2⟩
  oned := fun j k n m l' h1 h2 h3 h4 => by
    by_cases hj : i = j
    · subst hj
      rw [List.getElem?_set_self hi] at h1
      cases h1
    · by_cases hk : i = k
      · subst hk
        rw [List.getElem?_set_self hi] at h2
        cases h2
      · rw [List.getElem?_set_ne hj] at h1 h3
        rw [List.getElem?_set_ne hk] at h2 h4
        exact E.oned j k n m l' h1 h2 h3 h4
/-- a def's name, or a comprehension's -/
theorem wg_name {d : PyData} {Φ : List Sl → Prop} (i : Nat) {x : Str} (k : Φ (ρ.set i (Sl.fz d))) (hl : i < ρ.length := by exact of_decide_eq_true rfl) (hN : c.N[i]? = some x := by rfl) (hx : Loc c.sc x := by first | exact Or.inl rfl | exact Or.inr rfl)
    (hf : c.fn x = true ∨ c.sc.names.lookup x = some .local := by first | exact .inl rfl | exact .inr rfl) : WG c F (.Name x pos) d ρ Φ := fun B σ H0 H v hF E r Q q =>
  wpG_of (fun X hX => pg_name hX.nd (by rw [hX.N]; exact hN) (by rw [hX.sc]; exact hx) (by rw [hX.fn, hX.sc]; exact hf)) (q _ _ H0 H (E.set r hl) (Ex.refl _) k)
theorem ws_asg {tg : Expr} (h : WE c F e ρ fun d ρ1 => WG c F tg d ρ1 D.nx) (hs : ∀ env, swapsWithSole [tg] e pos.line env = pure false := by intro _; rfl) (hw : ∀ env, swappedStores [tg] e env = pure none := by intro _; rfl)
    (h1 : ∀ env, (assignEach [tg] env).map (·.2) = [assign tg env] := by intro _; rfl) : WS c F (.Assign [tg] e pos) ρ D := fun B σ H0 H hF E Ed f =>
  wpS_of (fun X hX => ps_asg (peW hX) (pgW hX) (hs _) (hw _) (h1 _)) (h B σ H0 H hF E _ fun v d ρ1 H1 H1' E1 e1 r1 k1 => k1 B σ H1 H1' v hF E1 r1 _ fun ρ2 σ2 H2 H2' E2 e2 k2 => f.nx ρ2 σ2 H2 H2' E2 k2)
/-- several targets of a tuple's or a list's items -/
def WGs (c : Ct) (F : Fp) (ts : List Expr) (ds : List PyData) (ρ : List Sl) (Φ : List Sl → Prop) : Prop := ∀ (B : Bs) (σ : L2.St) (H0 H : Hp) (vs : List V), B.F = F → En B ρ σ H0 H → RpL H0 vs ds → ∀ Q : L2.St → Hp → Prop,
  (∀ ρ' σ' H0' H', En B ρ' σ' H0' H' → Ex H0 H0' → Φ ρ' → Q σ' H') → ∀ X, Has c X → ∀ (pins : List (Addr × Obj)) (s : Shared) (us : List Value), Inv X pins σ H s → Vals vs us →
    wpAny (model X.prog X.w) X.A (assignInOrder ((assignEach ts X.env).map (·.2)) us) (fun _ s' => ∃ σ' H', Inv X pins σ' H' s' ∧ Q σ' H') X.xe s
theorem wgs_nil {Φ : List Sl → Prop} (k : Φ ρ) : WGs c F [] [] ρ Φ := fun B σ H0 H vs hF E r Q q X hX pins s us I rv => by
  cases r
  exact (pgs_nil (X := X)).run pins s σ H [] us Q I rv ⟨rfl, q ρ σ H0 H E (Ex.refl _) k⟩
theorem wgs_cons {t : Expr} {ts : List Expr} {d : PyData} {ds : List PyData} {Φ : List Sl → Prop} (h : WG c F t d ρ fun ρ1 => WGs c F ts ds ρ1 Φ) (hp : ∀ env, (assignEach (t :: ts) env).map (·.2) = assign t env :: (assignEach ts env).map (·.2) := by intro _; rfl) :
    WGs c F (t :: ts) (d :: ds) ρ Φ := fun B σ H0 H vs hF E r Q q X hX pins s us I rv => by
  cases r with
  | cons r1 r2 =>
    refine PGs.run (t := gCons (wpG c t) (fun vs' σ' H' Q' => ∀ pins s us, Inv X pins σ' H' s → Vals vs' us → wpAny (model X.prog X.w) X.A (assignInOrder ((assignEach ts X.env).map (·.2)) us) (fun _ s' => ∃ σ' H', Inv X pins σ' H' s' ∧ Q' σ' H') X.xe s))
      (pgs_cons (pgW hX) ⟨fun pins s σ1 H1 vs1 us Q1 I1 rv1 k => k pins s us I1 rv1⟩ (hp _)) pins s σ H _ us Q I rv ⟨_, _, rfl, ?_⟩
    exact h B σ H0 H _ hF E r1 _ fun ρ1 σ1 H1 H1' E1 e1 k1 pins2 s2 us2 I2 rv2 => k1 B σ1 H1 H1' _ hF E1 (r2.mono e1) Q (fun ρ' σ' H0' H' E' e' k' => q ρ' σ' H0' H' E' (e1.trans e') k') X hX pins2 s2 us2 I2 rv2
end
end G

set_option Elab.async false
set_option linter.all false
set_option maxRecDepth 100000
set_option maxHeartbeats 1000000
namespace G
open PySem PySem.Spec PyProof.Rows L2
section
variable {c : Ct} {F : Fp} {ρ : List Sl} {pos : Pos} {a b e : Expr} {es : List Expr} {st : Stmt} {sts : List Stmt} {D : SE} {Φ : PyData → List Sl → Prop} {Ψ : Bool → List Sl → Prop}
theorem wg_tup {d : PyData} {ts : List Expr} {j : Nat} {Φ : List Sl → Prop} (h : ∃ ds, d = .tuple ds ∧ ds.length = ts.length ∧ WGs c F ts ds ρ Φ) (hn : ∀ env, (assignEach ts env).length = ts.length := by intro _; rfl) (hst : ∀ env, (assignEach ts env).findIdx? (·.1) = none := by intro _; rfl) :
    WG c F (.Tuple ts j pos) d ρ Φ := fun B σ H0 H v hF E r Q q X hX pins s u I rv => by
  obtain ⟨ds, rfl, hl, k⟩ := h
  cases r with
  | tup h1 h2 =>
    refine (pg_tup (n := ts.length) (t := fun vs' σ' H' Q' => ∀ pins s us, Inv X pins σ' H' s → Vals vs' us → wpAny (model X.prog X.w) X.A (assignInOrder ((assignEach ts X.env).map (·.2)) us) (fun _ s' => ∃ σ' H', Inv X pins σ' H' s' ∧ Q' σ' H') X.xe s)
      hX.calm ⟨fun pins s σ1 H1 vs1 us Q1 I1 rv1 k => k pins s us I1 rv1⟩ (hn _) (hst _)).run pins s σ H _ u Q I rv ⟨_, _, rfl, SqT.of (E.ex _ _ h1), by rw [h2.length, hl], ?_⟩
    exact fun pins2 s2 us2 I2 rv2 => k B σ H0 H _ hF E h2 Q q X hX pins2 s2 us2 I2 rv2

/-! ### lists of the def's own -/
def WL (c : Ct) (F : Fp) (e : Expr) (ρ : List Sl) (Φ : List PyData → List Sl → Prop) : Prop := ∀ (B : Bs) (σ : L2.St) (H0 H : Hp), B.F = F → En B ρ σ H0 H → ∀ Q : VK,
  (∀ l vs ds ρ' H0' H', En B ρ' σ H0' H' → Ex H0 H0' → Fresh B ρ' σ H0' H' l vs ds → Φ ds ρ' → Q (.ref l) H') → wpE c e σ H Q
/-- a new address is nobody's -/
theorem En.newL {B : Bs} {σ : L2.St} {H0 H : Hp} (E : En B ρ σ H0 H) {p : Addr} {vs : List V} {ds : List PyData} (h : H p = none) (r : RpL H0 vs ds) : En B ρ σ H0 (upd H p (.lst vs)) ∧ Fresh B ρ σ H0 (upd H p (.lst vs)) p vs ds := by
  have nb : B.H p = none := by
    cases q : B.H p with
    | none => rfl
    | some o =>
      cases q0 : B.H0 p with
      | some o0 =>
        have := E.ex _ _ (E.e0 _ _ q0)
        rw [h] at this
        cases this
      | none =>
        by_cases f : B.F p
        · obtain ⟨_, o', h'⟩ := E.fF p f
          rw [h] at h'
          cases h'
        · have := (E.kp p o q q0 f).1
          rw [h] at this
          cases this
  have nF : ¬ B.F p := fun f => by
    obtain ⟨_, o', h'⟩ := E.fF p f
    rw [h] at h'
    cases h'
  have up : Ex H (upd H p (.lst vs)) := Ex.new h
  refine ⟨⟨E.len, E.e0, E.ex.trans up, fun a o h1 h2 h3 => ?_, fun a f => ?_, E.fz, fun i ds' hi => ?_, E.sep, fun i n hi => ?_, E.one, E.pn, fun i es hi => ?_, E.oned⟩, ⟨upd_same, E.ex.free h, nb, nF, fun i es hi hs => ?_, r⟩⟩
  · obtain ⟨q1, q2⟩ := E.kp a o h1 h2 h3
    exact ⟨up _ _ q1, q2⟩
  · obtain ⟨q1, o, q2⟩ := E.fF a f
    exact ⟨q1, o, up _ _ q2⟩
  · obtain ⟨l, ws, q1, q2, q3⟩ := E.ow i ds' hi
    exact ⟨l, ws, q1, up _ _ q2, q3⟩
  · obtain ⟨a, q1, q2⟩ := E.dk i n hi
    exact ⟨a, q1, q2.grow up⟩
  · obtain ⟨l, ws, q1, q2, q3⟩ := E.od i es hi
    exact ⟨l, ws, q1, up _ _ q2, q3⟩
  · obtain ⟨l, ws, q1, q2, _⟩ := E.ow i es hi
    rw [hs] at q1
    cases q1
    rw [h] at q2
    cases q2
/-- .. frozen -/
theorem En.seal {B : Bs} {σ : L2.St} {H0 H : Hp} {l : Addr} {vs : List V} {ds : List PyData} (E : En B ρ σ H0 H) (f : Fresh B ρ σ H0 H l vs ds) : En B ρ σ (upd H0 l (.lst vs)) H ∧ Rp (upd H0 l (.lst vs)) (.ref l) (.list ds) := by
  have up : Ex H0 (upd H0 l (.lst vs)) := Ex.new f.nf
  refine ⟨⟨E.len, E.e0.trans up, fun a o h => ?_, fun a o h1 h2 h3 => ?_, fun a g => ?_, fun i d h => ?_, fun i ds' h => ?_, E.sep, E.dk, E.one, E.pn, fun i es h => ?_, E.oned⟩, .lst upd_same (f.rp.mono up)⟩
  · by_cases ha : a = l
    · subst ha
      rw [upd_same] at h
      rw [← h]
      exact f.at_
    · rw [upd_ne ha] at h
      exact E.ex _ _ h
  · obtain ⟨q1, q2⟩ := E.kp a o h1 h2 h3
    refine ⟨q1, ?_⟩
    rw [upd_ne (fun z => by subst z; rw [f.nb] at h1; cases h1)]
    exact q2
  · obtain ⟨q1, q2⟩ := E.fF a g
    refine ⟨?_, q2⟩
    rw [upd_ne (fun z => by subst z; exact f.nF g)]
    exact q1
  · obtain ⟨v, q1, q2⟩ := E.fz i d h
    exact ⟨v, q1, q2.mono up⟩
  · obtain ⟨l', ws, q1, q2, q3, q4, q5, q6⟩ := E.ow i ds' h
    refine ⟨l', ws, q1, q2, ?_, q4, q5, q6.mono up⟩
    rw [upd_ne (fun z => by subst z; exact f.no i ds' h q1)]
    exact q3
  · obtain ⟨l', ws, q1, q2, q3, q4, q5, q6⟩ := E.od i es h
    refine ⟨l', ws, q1, q2, ?_, q4, q5, q6.mono up⟩
    rw [upd_ne (fun z => by subst z; rw [f.at_] at q2; cases q2)]
    exact q3
/-- .. kept by a name that may change it -/
theorem En.own {B : Bs} {σ : L2.St} {H0 H : Hp} {l : Addr} {vs : List V} {ds : List PyData} {i : Nat} (E : En B ρ σ H0 H) (f : Fresh B ρ σ H0 H l vs ds) (hi : i < ρ.length) : En B (ρ.set i (Sl.ow ds)) (σ.set i (some (.ref l))) H0 H where
  len := by rw [List.length_set, List.length_set, E.len]
  e0 := E.e0
  ex := E.ex
  kp := E.kp
  fF := E.fF
  fz := fun j d' h => by
    by_cases hj : i = j
    · subst hj
      rw [List.getElem?_set_self hi] at h
      cases h
    · rw [List.getElem?_set_ne hj] at h
      obtain ⟨u, h1, h2⟩ := E.fz j d' h
      exact ⟨u, by rw [List.getElem?_set_ne hj]; exact h1, h2⟩
  ow := fun j ds' h => by
    by_cases hj : i = j
    · subst hj
      rw [List.getElem?_set_self hi] at h
      cases h
      exact ⟨l, vs, List.getElem?_set_self (by rw [E.len]; exact hi), f.at_, f.nf, f.nb, f.nF, f.rp⟩
    · rw [List.getElem?_set_ne hj] at h
      obtain ⟨l', ws, h1, h2⟩ := E.ow j ds' h
      exact ⟨l', ws, by rw [List.getElem?_set_ne hj]; exact h1, h2⟩
  sep := fun j k ds1 es l' h1 h2 h3 h4 => by
    by_cases hj : i = j
    · subst hj
      by_cases hk : i = k
      · exact hk
      · rw [List.getElem?_set_ne hk] at h2 h4
        rw [List.getElem?_set_self (by rw [E.len]; exact hi)] at h3
        cases h3
        exact absurd h4 (f.no k es h2)
    · by_cases hk : i = k
      · subst hk
        rw [List.getElem?_set_ne hj] at h1 h3
        rw [List.getElem?_set_self (by rw [E.len]; exact hi)] at h4
        cases h4
        exact absurd h3 (f.no j ds1 h1)
      · rw [List.getElem?_set_ne hj] at h1 h3
        rw [List.getElem?_set_ne hk] at h2 h4
        exact E.sep j k ds1 es l' h1 h2 h3 h4
  dk := fun j n h => by
    by_cases hj : i = j
    · subst hj
      rw [List.getElem?_set_self hi] at h
      cases h
    · rw [List.getElem?_set_ne hj] at h
      obtain ⟨a, h1, h2⟩ := E.dk j n h
      exact ⟨a, by rw [List.getElem?_set_ne hj]; exact h1, h2⟩
  one := fun j k n m h1 h2 => by
    by_cases hj : i = j
    · subst hj
      rw [List.getElem?_set_self hi] at h1
      cases h1
    · by_cases hk : i = k
      · subst hk
        rw [List.getElem?_set_self hi] at h2
        cases h2
      · rw [List.getElem?_set_ne hj] at h1
        rw [List.getElem?_set_ne hk] at h2
        exact E.one j k n m h1 h2
  pn := fun j u h => by
    by_cases hj : i = j
    · subst hj
      rw [List.getElem?_set_self hi] at h
      cases h
    · rw [List.getElem?_set_ne hj] at h ⊢
      exact E.pn j u h
  od := fun j ds h => by
    by_cases hj : i = j
    · subst hj
      rw [List.getElem?_set_self hi] at h
      cases h
    · rw [List.getElem?_set_ne hj] at h
      obtain ⟨l, vs, h1, h2⟩ := E.od j ds h
      exact ⟨l, vs, by rw [List.getElem?_set_ne hj]; exact h1, h2⟩
  oned := fun j k n m l' h1 h2 h3 h4 => by
    by_cases hj : i = j
    · subst hj
      rw [List.getElem?_set_self hi] at h1
      cases h1
    · by_cases hk : i = k
      · subst hk
        rw [List.getElem?_set_self hi] at h2
        cases h2
      · rw [List.getElem?_set_ne hj] at h1 h3
        rw [List.getElem?_set_ne hk] at h2 h4
        exact E.oned j k n m l' h1 h2 h3 h4
theorem we_wl (h : WL c F e ρ fun ds ρ1 => Φ (.list ds) ρ1) : WE c F e ρ Φ := fun B σ H0 H hF E Q q =>
  h B σ H0 H hF E Q fun l vs ds ρ1 H1 H1' E1 e1 f k => by
    obtain ⟨E2, r2⟩ := E1.seal f
    exact q _ _ ρ1 _ H1' E2 (e1.trans (Ex.new f.nf)) r2 k
theorem wl_lst {Φ : List PyData → List Sl → Prop} (h : WA c F es ρ fun ds ρ1 => ds.length ≤ 100000 ∧ Φ ds ρ1) : WL c F (.List es pos) ρ Φ := fun B σ H0 H hF E Q q =>
  wpE_of (fun X hX => pe_lst (paW hX)) (h B σ H0 H hF E _ fun vs ds ρ1 H1 H1' E1 e1 r1 k1 => ⟨Nat.le_trans (by rw [r1.length]; exact k1.1) (by decide : 100000 ≤ sizeLine), fun p hp => by
    obtain ⟨E2, f⟩ := E1.newL hp r1
    exact q p vs ds ρ1 H1 _ E2 e1 f k1.2⟩)
/-- x = a new list that x may change -/
theorem ws_own (i : Nat) {x : Str} {pos' : Pos} (h : WL c F e ρ fun ds ρ1 => i < ρ1.length ∧ D.nx (ρ1.set i (Sl.ow ds))) (hN : c.N[i]? = some x := by rfl) (hx : Loc c.sc x := by first | exact Or.inl rfl | exact Or.inr rfl)
    (hs : ∀ env, swapsWith e (some (.Name x pos')) pos.line env = pure false := by intro _; rfl) (hf : c.fn x = true ∨ c.sc.names.lookup x = some .local := by first | exact .inl rfl | exact .inr rfl) : WS c F (.Assign [.Name x pos'] e pos) ρ D := fun B σ H0 H hF E Ed f =>
  wpS_of (fun X hX => ps_set hX.nd (by rw [hX.N]; exact hN) (by rw [hX.sc]; exact hx) (peW hX) (hs _) (by rw [hX.fn, hX.sc]; exact hf)) (h B σ H0 H hF E _ fun l vs ds ρ1 H1 H1' E1 e1 fr k1 =>
    f.nx _ _ H1 H1' (E1.own fr k1.1) k1.2)

/-! ### a list of the def's own, frozen for good -/
theorem En.freeze {B : Bs} {σ : L2.St} {H0 H : Hp} {i : Nat} {ds : List PyData} (E : En B ρ σ H0 H) (h : ρ[i]? = some (Sl.ow ds)) : ∃ H0', En B (ρ.set i (Sl.fz (.list ds))) σ H0' H ∧ Ex H0 H0' := by
  obtain ⟨l, vs, h1, h2, h3, h4, h5, h6⟩ := E.ow i ds h
  have hi : i < ρ.length := (List.getElem?_eq_some_iff.mp h).1
  have up : Ex H0 (upd H0 l (.lst vs)) := Ex.new h3
  refine ⟨upd H0 l (.lst vs), ⟨by rw [List.length_set]; exact E.len, E.e0.trans up, fun a o q => ?_, fun a o q1 q2 q3 => ?_, fun a f => ?_, fun j d q => ?_, fun j es q => ?_, fun j k d1 d2 l' q1 q2 q3 q4 => ?_, fun j n q => ?_, fun j k n m q1 q2 => ?_, fun j u q => ?_, fun j es q => ?_, fun j k n m _ q1 q2 q3 q4 => ?_⟩, up⟩
  · by_cases ha : a = l
    · subst ha
      rw [upd_same] at q
      rw [← q]
      exact h2
    · rw [upd_ne ha] at q
      exact E.ex _ _ q
  · obtain ⟨z1, z2⟩ := E.kp a o q1 q2 q3
    refine ⟨z1, ?_⟩
    rw [upd_ne (fun z => by subst z; rw [h4] at q1; cases q1)]
    exact z2
  · obtain ⟨z1, z2⟩ := E.fF a f
    refine ⟨?_, z2⟩
    rw [upd_ne (fun z => by subst z; exact h5 f)]
    exact z1
  · by_cases hj : i = j
    · subst hj
      rw [List.getElem?_set_self hi] at q
      cases q
      exact ⟨.ref l, h1, .lst upd_same (h6.mono up)⟩
    · rw [List.getElem?_set_ne hj] at q
      obtain ⟨v, z1, z2⟩ := E.fz j d q
      exact ⟨v, z1, z2.mono up⟩
  · by_cases hj : i = j
    · subst hj
      rw [List.getElem?_set_self hi] at q
      cases q
    · rw [List.getElem?_set_ne hj] at q
      obtain ⟨l', ws, z1, z2, z3, z4, z5, z6⟩ := E.ow j es q
      refine ⟨l', ws, z1, z2, ?_, z4, z5, z6.mono up⟩
      rw [upd_ne (fun z => by subst z; exact hj (E.sep i j ds es l' h q h1 z1))]
      exact z3
  · by_cases hj : i = j
    · subst hj
      rw [List.getElem?_set_self hi] at q1
      cases q1
    · by_cases hk : i = k
      · subst hk
        rw [List.getElem?_set_self hi] at q2
        cases q2
      · rw [List.getElem?_set_ne hj] at q1
        rw [List.getElem?_set_ne hk] at q2
        exact E.sep j k d1 d2 l' q1 q2 q3 q4
  · by_cases hj : i = j
    · subst hj
      rw [List.getElem?_set_self hi] at q
      cases q
    · rw [List.getElem?_set_ne hj] at q
      exact E.dk j n q
  · by_cases hj : i = j
    · subst hj
      rw [List.getElem?_set_self hi] at q1
      cases q1
    · by_cases hk : i = k
      · subst hk
        rw [List.getElem?_set_self hi] at q2
        cases q2
      · rw [List.getElem?_set_ne hj] at q1
        rw [List.getElem?_set_ne hk] at q2
        exact E.one j k n m q1 q2
  · by_cases hj : i = j
    · subst hj
      rw [List.getElem?_set_self hi] at q
      cases q
    · rw [List.getElem?_set_ne hj] at q
      exact E.pn j u q
  · by_cases hj : i = j
    · subst hj
      rw [List.getElem?_set_self hi] at q
      cases q
    · rw [List.getElem?_set_ne hj] at q
      obtain ⟨l', ws, z1, z2, z3, z4, z5, z6⟩ := E.od j es q
      refine ⟨l', ws, z1, z2, ?_, z4, z5, z6.mono up⟩
      rw [upd_ne (fun z => by subst z; rw [h2] at z2; cases z2)]
      exact z3
  · by_cases hj : i = j
    · subst hj
      rw [List.getElem?_set_self hi] at q1
      cases q1
    · by_cases hk : i = k
      · subst hk
        rw [List.getElem?_set_self hi] at q2
        cases q2
      · rw [List.getElem?_set_ne hj] at q1
        rw [List.getElem?_set_ne hk] at q2
        exact E.oned j k n m _ q1 q2 q3 q4
theorem we_freeze (i : Nat) {ds : List PyData} (h : ρ[i]? = some (Sl.ow ds)) (k : WE c F e (ρ.set i (Sl.fz (.list ds))) Φ) : WE c F e ρ Φ := fun B σ H0 H hF E Q q => by
  obtain ⟨H1, E1, e1⟩ := E.freeze h
  exact k B σ H1 H hF E1 Q fun v d ρ2 H2 H2' E2 e2 => q v d ρ2 H2 H2' E2 (e1.trans e2)
theorem ws_freeze (i : Nat) {ds : List PyData} (h : ρ[i]? = some (Sl.ow ds)) (k : WS c F st (ρ.set i (Sl.fz (.list ds))) D) : WS c F st ρ D := fun B σ H0 H hF E Ed f => by
  obtain ⟨H1, E1, e1⟩ := E.freeze h
  exact k B σ H1 H hF E1 Ed f
theorem wss_freeze (i : Nat) {ds : List PyData} (h : ρ[i]? = some (Sl.ow ds)) (k : WSs c F sts (ρ.set i (Sl.fz (.list ds))) D) : WSs c F sts ρ D := fun B σ H0 H hF E Ed f => by
  obtain ⟨H1, E1, e1⟩ := E.freeze h
  exact k B σ H1 H hF E1 Ed f

/-! ### xs.append(e) -/
theorem En.change {B : Bs} {σ : L2.St} {H0 H : Hp} {i : Nat} {ds es : List PyData} {l : Addr} {vs : List V} (E : En B ρ σ H0 H) (h : ρ[i]? = some (Sl.ow ds)) (hl : σ[i]? = some (some (V.ref l))) (r : RpL H0 vs es) : En B (ρ.set i (Sl.ow es)) σ H0 (upd H l (.lst vs)) := by
  obtain ⟨l', ws, h1, h2, h3, h4, h5, h6⟩ := E.ow i ds h
  rw [hl] at h1
  cases h1
  have hi : i < ρ.length := (List.getElem?_eq_some_iff.mp h).1
  refine ⟨by rw [List.length_set]; exact E.len, E.e0, E.ex.mut h3, fun a o q1 q2 q3 => ?_, fun a f => ?_, fun j d q => ?_, fun j es' q => ?_, fun j k d1 d2 l' q1 q2 q3 q4 => ?_, fun j n q => ?_, fun j k n m q1 q2 => ?_, fun j u q => ?_, fun j es' q => ?_, fun j k n m _ q1 q2 q3 q4 => ?_⟩
  · obtain ⟨z1, z2⟩ := E.kp a o q1 q2 q3
    refine ⟨?_, z2⟩
    rw [upd_ne (fun z => by subst z; rw [h4] at q1; cases q1)]
    exact z1
  · obtain ⟨z1, o, z2⟩ := E.fF a f
    refine ⟨z1, o, ?_⟩
    rw [upd_ne (fun z => by subst z; exact h5 f)]
    exact z2
  · by_cases hj : i = j
    · subst hj
      rw [List.getElem?_set_self hi] at q
      cases q
    · rw [List.getElem?_set_ne hj] at q
      exact E.fz j d q
  · by_cases hj : i = j
    · subst hj
      rw [List.getElem?_set_self hi] at q
      cases q
      exact ⟨l, vs, hl, upd_same, h3, h4, h5, r⟩
    · rw [List.getElem?_set_ne hj] at q
      obtain ⟨l', ws', z1, z2, z3⟩ := E.ow j es' q
      refine ⟨l', ws', z1, ?_, z3⟩
      rw [upd_ne (fun z => by subst z; exact hj (E.sep i j ds es' l' h q hl z1))]
      exact z2
  · have get : ∀ (m : Nat) (d : List PyData), (ρ.set i (Sl.ow es))[m]? = some (Sl.ow d) → ∃ d', ρ[m]? = some (Sl.ow d') := fun m d q => by
      by_cases hm : i = m
      · subst hm
        exact ⟨ds, h⟩
      · rw [List.getElem?_set_ne hm] at q
        exact ⟨d, q⟩
    obtain ⟨a1, b1⟩ := get j d1 q1
    obtain ⟨a2, b2⟩ := get k d2 q2
    exact E.sep j k a1 a2 l' b1 b2 q3 q4
  · by_cases hj : i = j
    · subst hj
      rw [List.getElem?_set_self hi] at q
      cases q
    · rw [List.getElem?_set_ne hj] at q
      obtain ⟨a, z1, z2⟩ := E.dk j n q
      exact ⟨a, z1, z2.but h5⟩
  · by_cases hj : i = j
    · subst hj
      rw [List.getElem?_set_self hi] at q1
      cases q1
    · by_cases hk : i = k
      · subst hk
        rw [List.getElem?_set_self hi] at q2
        cases q2
      · rw [List.getElem?_set_ne hj] at q1
        rw [List.getElem?_set_ne hk] at q2
        exact E.one j k n m q1 q2
  · by_cases hj : i = j
    · subst hj
      rw [List.getElem?_set_self hi] at q
      cases q
    · rw [List.getElem?_set_ne hj] at q
      exact E.pn j u q
  · by_cases hj : i = j
    · subst hj
      rw [List.getElem?_set_self hi] at q
      cases q
    · rw [List.getElem?_set_ne hj] at q
      obtain ⟨l', ws', z1, z2, z3⟩ := E.od j es' q
      refine ⟨l', ws', z1, ?_, z3⟩
      rw [upd_ne (fun z => by subst z; rw [h2] at z2; cases z2)]
      exact z2
  · by_cases hj : i = j
    · subst hj
      rw [List.getElem?_set_self hi] at q1
      cases q1
    · by_cases hk : i = k
      · subst hk
        rw [List.getElem?_set_self hi] at q2
        cases q2
      · rw [List.getElem?_set_ne hj] at q1
        rw [List.getElem?_set_ne hk] at q2
        exact E.oned j k n m _ q1 q2 q3 q4
end
end G

set_option Elab.async false
set_option linter.all false
set_option maxRecDepth 100000
set_option maxHeartbeats 1000000
namespace G
open PySem PySem.Spec PyProof.Rows L2
section
variable {c : Ct} {F : Fp} {ρ : List Sl} {pos apos cpos : Pos} {a b e : Expr} {es : List Expr} {st : Stmt} {sts : List Stmt} {D : SE} {Φ : PyData → List Sl → Prop} {Ψ : Bool → List Sl → Prop}
/-! ### what an own list is asked, and how it changes -/
/-- the value of a name that holds a list of the def's own -/
theorem En.owAt {B : Bs} {σ : L2.St} {H0 H : Hp} {i : Nat} {ds : List PyData} (E : En B ρ σ H0 H) (h : ρ[i]? = some (Sl.ow ds)) : ∃ l vs, σ[i]? = some (some (V.ref l)) ∧ H l = some (.lst vs) ∧ RpL H0 vs ds := by
  obtain ⟨l, vs, h1, h2, _, _, _, h6⟩ := E.ow i ds h
  exact ⟨l, vs, h1, h2, h6⟩
theorem ws_append (i : Nat) {x : Str} {px : Pos} (h : WE c F e ρ fun d ρ1 => ∃ ds, ρ1[i]? = some (Sl.ow ds) ∧ ds.length < 100000 ∧ D.nx (ρ1.set i (Sl.ow (ds ++ [d])))) {ds0 : List PyData} (h0 : ρ[i]? = some (Sl.ow ds0)) (hN : c.N[i]? = some x := by rfl)
    (hv : Vis c.sc x := by first | exact Or.inl rfl | exact Or.inr (Or.inl rfl) | exact Or.inr (Or.inr rfl))
    (hd : (x == ("__debug__" : Str)) = false := by decide) (hcd : (x == ("__classdict__" : Str)) = false := by decide) (hs1 : ∀ env, starEach [e] env = (false, eval e env) :: starEach [] env := by intro _; rfl)
    (hfew : ∀ env, ((backTo cpos (starEach [e] env)).all (fun x => !x.1) && (backToKw cpos (keywordEach [] env)).all (fun x => x.1.isSome) && decide ([e].length + ([] : List Keyword).length + (if ([] : List Keyword).isEmpty then 0 else 1) < 30)) = true := by intro _; rfl)
    (hline : (apos.endLine == cpos.line) = true := by rfl) (hpl : ∀ env, (backTo cpos (starEach [] env)).any (·.1) = false := by intro _; rfl) :
    WS c F (.Expr (.Call (.Attribute (.Name x px) "append" apos) [e] [] cpos) pos) ρ D := fun B σ H0 H hF E Ed f =>
  wpS_of (t := tDrop (tBM c.K "list" rAppend (tVar i) (tCons (wpE c e) tNil))) (fun X hX => by rw [← hX.K]; exact ps_expr (pe_bm PySem.F.plainAttrs_list PySem.F.slot_list_append PySem.F.type_list_append mt_append (pe_var (by rw [hX.N]; exact hN) (by rw [hX.sc]; exact hv) hd hcd) (pa_cons (peW hX) pa_nil (hs1 _)) rfl (hfew _) hline (hs1 _) (hpl _))) (by
    obtain ⟨l, vs, h1, h2, h3⟩ := E.owAt h0
    refine ⟨_, h1, .inl ⟨rfl, _, SqL.of h2⟩, ?_⟩
    refine h B σ H0 H hF E _ fun v d ρ1 H1 H1' E1 e1 r1 ⟨ds, k1, k2, k3⟩ => ?_
    obtain ⟨l', vs', g1, g2, g3⟩ := E1.owAt k1
    rw [h1] at g1
    cases g1
    refine ⟨l, vs', v, rfl, rfl, g2, Nat.lt_of_lt_of_le (by rw [g3.length]; exact k2) (by decide : 100000 ≤ sizeLine), ?_⟩
    exact f.nx _ σ H1 _ (E1.change k1 h1 (g3.append (.one r1))) k3)
/-- x[i] of an own list -/
theorem we_ownix (i : Nat) {x : Str} {px : Pos} {b : Expr} (h : WE c F b ρ fun y ρ1 => ∃ j ds z, y = .int j ∧ ρ1[i]? = some (Sl.ow ds) ∧ atI ds j = some z ∧ Φ z ρ1) {ds0 : List PyData} (h0 : ρ[i]? = some (Sl.ow ds0)) (hs : PlainIx b := by intro _ _; rfl) (hN : c.N[i]? = some x := by rfl)
    (hv : Vis c.sc x := by first | exact Or.inl rfl | exact Or.inr (Or.inl rfl) | exact Or.inr (Or.inr rfl)) (hd : (x == ("__debug__" : Str)) = false := by decide) (hcd : (x == ("__classdict__" : Str)) = false := by decide) :
    WE c F (.Subscript (.Name x px) b pos) ρ Φ := fun B σ H0 H hF E Q q =>
  wpE_of (t := tOp (rIxL c.K) (tVar i) (wpE c b)) (fun X hX => by rw [← hX.K]; exact pe_ix ix_list (pe_var (by rw [hX.N]; exact hN) (by rw [hX.sc]; exact hv) hd hcd) (peW hX) hs) (by
    obtain ⟨l, vs, h1, h2, h3⟩ := E.owAt h0
    refine ⟨_, h1, ?_⟩
    refine h B σ H0 H hF E _ fun v y ρ1 H1 H1' E1 e1 r1 ⟨j, ds, z, k0, k1, k2, k3⟩ => ?_
    subst k0
    cases r1
    obtain ⟨l', vs', g1, g2, g3⟩ := E1.owAt k1
    rw [h1] at g1
    cases g1
    have hx : ∃ u, atI vs' j = some u ∧ Rp H1 u z := by
      unfold atI at k2 ⊢
      rw [g3.length]
      cases q : ixN ds.length j with
      | none => rw [q] at k2; cases k2
      | some m =>
        rw [q] at k2
        exact g3.get k2
    obtain ⟨u, hu, ru⟩ := hx
    exact ⟨l, vs', j, u, rfl, rfl, SqL.of g2, hu, q u z ρ1 H1 H1' E1 e1 ru k3⟩)

/-! ### all own lists looked at for a moment -/
def Sl.look : Sl → Sl
  | .ow ds => .fz (.list ds)
  | .od es => .fz (.dict es)
  | s => s
def look (ρ : List Sl) : List Sl := ρ.map Sl.look
open Classical in
/-- the frozen heap with the own lists of the names -/
noncomputable def lookH (ρ : List Sl) (σ : L2.St) (H0 H : Hp) : Hp := fun a => if ((∃ (i : Nat) (ds : List PyData), ρ[i]? = some (Sl.ow ds) ∧ σ[i]? = some (some (V.ref a))) ∨ ∃ (i : Nat) (ds : List (PyData × PyData)), ρ[i]? = some (Sl.od ds) ∧ σ[i]? = some (some (V.ref a))) then H a else H0 a
theorem En.look {B : Bs} {σ : L2.St} {H0 H : Hp} (E : En B ρ σ H0 H) : En ⟨lookH ρ σ H0 H, H, B.F⟩ (G.look ρ) σ (lookH ρ σ H0 H) H := by
  have up : Ex H0 (lookH ρ σ H0 H) := fun a o h => by
    unfold lookH
    split
    · exact E.ex _ _ h
    · exact h
  have get : ∀ (i : Nat) (s : Sl), (G.look ρ)[i]? = some s → ∃ s', ρ[i]? = some s' ∧ s = s'.look := fun i s h => by
    unfold G.look at h
    rw [List.getElem?_map] at h
    cases q : ρ[i]? with
    | none => rw [q] at h; cases h
    | some s' => rw [q] at h; exact ⟨s', rfl, (Option.some.inj h).symm⟩
  refine ⟨by unfold G.look; rw [List.length_map]; exact E.len, Ex.refl _, fun a o h => ?_, fun a o h1 h2 _ => ⟨h1, h2⟩, fun a f => ?_, fun i d h => ?_, fun i ds h => ?_, fun i j ds es l h => ?_, fun i n h => ?_, fun i j n m g1 g2 => ?_, fun i u h => ?_, fun i es h => ?_, fun i j es fs _ h => ?_⟩
  · unfold lookH at h
    split at h
    · exact h
    · exact E.ex _ _ h
  · obtain ⟨h1, h2⟩ := E.fF a f
    refine ⟨?_, h2⟩
    unfold lookH
    rw [if_neg]
    · exact h1
    · rintro (⟨i, ds, q1, q2⟩ | ⟨i, ds, q1, q2⟩)
      · obtain ⟨l, vs, z1, z2, z3, z4, z5, z6⟩ := E.ow i ds q1
        rw [q2] at z1
        cases z1
        exact z5 f
      · obtain ⟨l, vs, z1, z2, z3, z4, z5, z6⟩ := E.od i ds q1
        rw [q2] at z1
        cases z1
        exact z5 f
  · obtain ⟨s', q1, q2⟩ := get i _ h
    cases s' with
    | un => cases q2
    | dk n => cases q2
    | pn u => cases q2
    | fz d' =>
      cases q2
      obtain ⟨v, z1, z2⟩ := E.fz i _ q1
      exact ⟨v, z1, z2.mono up⟩
    | ow ds =>
      cases q2
      obtain ⟨l, vs, z1, z2, z3, z4, z5, z6⟩ := E.ow i ds q1
      refine ⟨_, z1, .lst (xs := vs) ?_ (z6.mono up)⟩
      unfold lookH
      rw [if_pos (.inl ⟨i, ds, q1, z1⟩)]
      exact z2
    | od es =>
      cases q2
      obtain ⟨l, vs, z1, z2, z3, z4, z5, z6⟩ := E.od i es q1
      refine ⟨_, z1, .dct (kvs := vs) (.inl ?_) (z6.mono up)⟩
      unfold lookH
      rw [if_pos (.inr ⟨i, es, q1, z1⟩)]
      exact z2
  · obtain ⟨s', q1, q2⟩ := get i _ h
    cases s' <;> cases q2
  · obtain ⟨s', q1, q2⟩ := get i _ h
    cases s' <;> cases q2
  · obtain ⟨s', q1, q2⟩ := get i _ h
    cases s' with
    | un => cases q2
    | dk m =>
      cases q2
      exact E.dk i n q1
    | fz d' => cases q2
    | ow ds => cases q2
    | pn u => cases q2
    | od es => cases q2
  · obtain ⟨s1, q1, q2⟩ := get i _ g1
    obtain ⟨s2, q3, q4⟩ := get j _ g2
    cases s1 <;> cases q2
    cases s2 <;> cases q4
    exact E.one i j _ _ q1 q3
  · obtain ⟨s', q1, q2⟩ := get i _ h
    cases s' <;> cases q2
    exact E.pn i u q1
  · obtain ⟨s', q1, q2⟩ := get i _ h
    cases s' <;> cases q2
  · obtain ⟨s', q1, q2⟩ := get i _ h
    cases s' <;> cases q2
/-- back from a look -/
theorem En.back {B : Bs} {σ : L2.St} {H0 H H0' H' : Hp} (E : En B ρ σ H0 H) (E' : En ⟨lookH ρ σ H0 H, H, B.F⟩ (G.look ρ) σ H0' H') : En B ρ σ H0 H' := by
  have all : ∀ a o, H a = some o → ¬ B.F a → H' a = some o := fun a o h f => by
    cases q : lookH ρ σ H0 H a with
    | none => exact (E'.kp a o h q f).1
    | some o' =>
      have h1 : H a = some o' := by
        unfold lookH at q
        split at q
        · exact q
        · exact E.ex _ _ q
      have h2 := E'.ex _ _ (E'.e0 a o' q)
      rw [h] at h1
      cases h1
      exact h2
  refine ⟨E.len, E.e0, fun a o h => all a o (E.ex _ _ h) (fun f => by rw [(E.fF a f).1] at h; cases h), fun a o h1 h2 h3 => ?_, fun a f => ?_, E.fz, fun i ds h => ?_, E.sep, fun i n h => ?_, E.one, E.pn, fun i ds h => ?_, E.oned⟩
  · obtain ⟨q1, q2⟩ := E.kp a o h1 h2 h3
    exact ⟨all a o q1 h3, q2⟩
  · exact ⟨(E.fF a f).1, (E'.fF a f).2⟩
  · obtain ⟨l, vs, z1, z2, z3, z4, z5, z6⟩ := E.ow i ds h
    exact ⟨l, vs, z1, all _ _ z2 z5, z3, z4, z5, z6⟩
  · refine E'.dk i n ?_
    unfold G.look
    rw [List.getElem?_map, h]
    rfl
  · obtain ⟨l, vs, z1, z2, z3, z4, z5, z6⟩ := E.od i ds h
    exact ⟨l, vs, z1, all _ _ z2 z5, z3, z4, z5, z6⟩
def scalar : PyData → Bool
  | .none => true
  | .bool _ => true
  | .int _ => true
  | .str _ => true
  | _ => false
theorem scalar.rp {d : PyData} (h : scalar d = true) {H H' : Hp} {v : V} (r : Rp H v d) : Rp H' v d := by
  cases r with
  | non => exact .non
  | bl b => exact .bl b
  | int i => exact .int i
  | str x => exact .str x
  | lst _ _ => cases h
  | tup _ _ => cases h
  | dct _ _ => cases h
theorem we_look (h : WE c F e (look ρ) fun d ρ1 => ρ1 = look ρ ∧ scalar d = true ∧ Φ d ρ) : WE c F e ρ Φ := fun B σ H0 H hF E Q q =>
  h ⟨lookH ρ σ H0 H, H, B.F⟩ σ _ H hF E.look Q fun v d ρ1 H1 H1' E1 e1 r1 ⟨k1, k2, k3⟩ => by
    subst k1
    exact q v d ρ H0 H1' (E.back E1) (Ex.refl _) (scalar.rp k2 r1) k3
theorem wt_look (h : WT c F e (look ρ) fun k ρ1 => ρ1 = look ρ ∧ Ψ k ρ) : WT c F e ρ Ψ := fun B σ H0 H hF E Q q =>
  h ⟨lookH ρ σ H0 H, H, B.F⟩ σ _ H hF E.look Q fun k ρ1 H1 H1' E1 e1 ⟨k1, k2⟩ => by
    subst k1
    exact q k ρ H0 H1' (E.back E1) (Ex.refl _) k2

/-! ### what a for walks -/
theorem Src.list {K : PySem.W.Frag} {Z : Hp} {a : Addr} {vs : List V} {ds : List PyData} (h : Z a = some (.lst vs)) (r : RpL Z vs ds) : Src (Itl K a) ds Z := fun i H0 H e0 e => by
  have hq : SqL K H a vs := SqL.of (e _ _ (e0 _ _ h))
  refine ⟨fun d hd => ?_, fun hi => ⟨vs, hq, by rw [r.length]; omega⟩⟩
  obtain ⟨v, hv, rv⟩ := r.get hd
  exact ⟨⟨vs, v, hq, hv⟩, fun x H' ⟨h1, h2⟩ => by
    subst h1
    have := h2 vs hq
    rw [hv] at this
    cases this
    exact ⟨H0, Grow.refl e, rv.mono e0⟩⟩
theorem Src.tup {K : PySem.W.Frag} {Z : Hp} {a : Addr} {vs : List V} {ds : List PyData} (h : Z a = some (.tup vs)) (r : RpL Z vs ds) : Src (Itt K a) ds Z := fun i H0 H e0 e => by
  have hq : SqT K H a vs := SqT.of (e _ _ (e0 _ _ h))
  refine ⟨fun d hd => ?_, fun hi => ⟨vs, hq, by rw [r.length]; omega⟩⟩
  obtain ⟨v, hv, rv⟩ := r.get hd
  exact ⟨⟨vs, v, hq, hv⟩, fun x H' ⟨h1, h2⟩ => by
    subst h1
    have := h2 vs hq
    rw [hv] at this
    cases this
    exact ⟨H0, Grow.refl e, rv.mono e0⟩⟩
/-- lo, lo + 1, .. -/
def rgD (lo : Int) (n : Nat) : List PyData := (List.range n).map fun (i : Nat) => PyData.int (lo + (i : Int))
theorem rgD_len (lo : Int) (n : Nat) : (rgD lo n).length = n := by unfold rgD; rw [List.length_map, List.length_range]
theorem rgD_get {lo : Int} {n i : Nat} {d : PyData} (h : (rgD lo n)[i]? = some d) : i < n ∧ d = .int (lo + (i : Int)) := by
  have hi : i < n := by
    have := (List.getElem?_eq_some_iff.mp h).1
    rw [rgD_len] at this
    exact this
  unfold rgD at h
  rw [List.getElem?_map, List.getElem?_range hi] at h
  exact ⟨hi, (Option.some.inj h).symm⟩
theorem Src.rng {Z : Hp} {lo : Int} {n : Nat} : Src (Itr lo n) (rgD lo n) Z := fun i H0 H e0 e => by
  refine ⟨fun d hd => ?_, fun hi => by rw [rgD_len] at hi; exact Nat.le_of_eq hi.symm⟩
  obtain ⟨hi, rfl⟩ := rgD_get hd
  exact ⟨hi, fun x H' ⟨h1, h2⟩ => by
    subst h1 h2
    exact ⟨H0, Grow.refl e, .int _⟩⟩
section
variable {Ξ : List PyData → List Sl → Prop} {tg iter : Expr}
theorem wi_list (h : WE c F iter ρ fun d ρ1 => ∃ ds, d = .list ds ∧ Ξ ds ρ1) : WI c F tg iter ρ Ξ := fun B σ H0 H hF E R q =>
  wpI_of (t := iList c.K (wpE c iter)) (fun X hX => by rw [← hX.K]; exact pi_list (peW hX)) (h B σ H0 H hF E _ fun v d ρ1 H1 H1' E1 e1 r1 ⟨ds, k0, k1⟩ => by
    subst k0
    cases r1 with
    | lst g1 g2 =>
      refine ⟨_, rfl, ⟨_, SqL.of (E1.ex _ _ g1)⟩, ?_⟩
      exact q _ ds ρ1 H1 H1' E1 e1 (Src.list g1 g2) k1)
theorem wi_tup (h : WE c F iter ρ fun d ρ1 => ∃ ds, d = .tuple ds ∧ Ξ ds ρ1) : WI c F tg iter ρ Ξ := fun B σ H0 H hF E R q =>
  wpI_of (t := iTup c.K (wpE c iter)) (fun X hX => by rw [← hX.K]; exact pi_tup (peW hX)) (h B σ H0 H hF E _ fun v d ρ1 H1 H1' E1 e1 r1 ⟨ds, k0, k1⟩ => by
    subst k0
    cases r1 with
    | tup g1 g2 =>
      refine ⟨_, rfl, ⟨_, SqT.of (E1.ex _ _ g1)⟩, ?_⟩
      exact q _ ds ρ1 H1 H1' E1 e1 (Src.tup g1 g2) k1)
end
end
end G

set_option Elab.async false
set_option linter.all false
set_option maxRecDepth 100000
set_option maxHeartbeats 1000000
namespace G
open PySem PySem.Spec PyProof.Rows L2
section
variable {c : Ct} {F : Fp} {ρ : List Sl} {pos apos cpos : Pos} {a b e : Expr} {es : List Expr} {st : Stmt} {sts : List Stmt} {D : SE} {Φ : PyData → List Sl → Prop} {Ψ : Bool → List Sl → Prop}
section
variable {Ξ : List PyData → List Sl → Prop} {tg iter : Expr}
theorem wi_rng1 {p : Pos} (h : WE c F e ρ fun d ρ1 => ∃ n : Int, d = .int n ∧ n ≤ 100000 ∧ -100000 ≤ n ∧ Ξ (rgD 0 n.toNat) ρ1) (hm : c.mg "range" = none) (hg : c.sc.names.lookup ("range" : Str) = some NameKind.globalImplicit := by rfl) (hs : ∀ env, starEach [e] env = [(false, eval e env)] := by intro _; rfl) :
    WI c F tg (.Call (.Name "range" p) [e] [] pos) ρ Ξ := fun B σ H0 H hF E R q =>
  wpI_of (t := iRng1 (tCons (wpE c e) tNil)) (fun X hX => pi_range1 (by show X.env.scope.names.lookup _ = _; rw [hX.sc]; exact hg) (by rw [hX.mg]; exact hm) (pa_cons (peW hX) pa_nil (hs _)) (hs _)) (h B σ H0 H hF E _ fun v d ρ1 H1 H1' E1 e1 r1 ⟨n, k0, k1, k2, k3⟩ => by
    subst k0
    cases r1
    exact ⟨n, rfl, by omega, by omega, q _ _ ρ1 H1 H1' E1 e1 Src.rng k3⟩)
theorem wi_rng2 {p : Pos} (h : WE c F a ρ fun d ρ1 => WE c F b ρ1 fun y ρ2 => ∃ m n : Int, d = .int m ∧ y = .int n ∧ (n ≤ 100000 ∧ -100000 ≤ n ∧ m ≤ 100000 ∧ -100000 ≤ m) ∧ Ξ (rgD m (n - m).toNat) ρ2) (hm : c.mg "range" = none) (hg : c.sc.names.lookup ("range" : Str) = some NameKind.globalImplicit := by rfl)
    (hs : ∀ env, starEach [a, b] env = [(false, eval a env), (false, eval b env)] := by intro _; rfl) (hs2 : ∀ env, starEach [b] env = [(false, eval b env)] := by intro _; rfl) :
    WI c F tg (.Call (.Name "range" p) [a, b] [] pos) ρ Ξ := fun B σ H0 H hF E R q =>
  wpI_of (t := iRng2 (tCons (wpE c a) (tCons (wpE c b) tNil))) (fun X hX => pi_range2 (by show X.env.scope.names.lookup _ = _; rw [hX.sc]; exact hg) (by rw [hX.mg]; exact hm) (pa_cons (peW hX) (pa_cons (peW hX) pa_nil (hs2 _)) (by rw [hs, hs2])) (hs _) (hs2 _))
    (h B σ H0 H hF E _ fun v d ρ1 H1 H1' E1 e1 r1 k => k B σ H1 H1' hF E1 _ fun u y ρ2 H2 H2' E2 e2 r2 ⟨m, n, k0, k1, k2, k3⟩ => by
    subst k0 k1
    cases r1
    cases r2
    exact ⟨m, n, rfl, ⟨by omega, by omega, by omega, by omega⟩, q _ _ ρ2 H2 H2' E2 (e1.trans e2) Src.rng k3⟩)

/-! ### for -/
theorem En.raise {B : Bs} {σ : L2.St} {H0 H : Hp} (E : En B ρ σ H0 H) : En ⟨H0, B.H, B.F⟩ ρ σ H0 H :=
  ⟨E.len, Ex.refl _, E.ex, fun a o h1 h2 h3 => E.kp a o h1 (E.e0.free h2) h3, E.fF, E.fz, E.ow, E.sep, E.dk, E.one, E.pn, E.od, E.oned⟩
theorem En.lower {B : Bs} {ρ' : List Sl} {σ σ' : L2.St} {H0 H Z Z' : Hp} (E : En B ρ σ H0 H) (E' : En ⟨H0, B.H, B.F⟩ ρ' σ' Z Z') : En B ρ' σ' Z Z' :=
  ⟨E'.len, E.e0.trans E'.e0, E'.ex, fun a o h1 h2 h3 => E'.kp a o h1 (E.kp a o h1 h2 h3).2 h3, E'.fF, E'.fz, E'.ow, E'.sep, E'.dk, E'.one, E'.pn, E'.od, E'.oned⟩
theorem ws_for {body : List Stmt} (h : WI c F tg iter ρ fun ds ρ1 => ∃ P : Nat → List Sl → Prop, P 0 ρ1 ∧ (∀ (i : Nat) (d : PyData) (ρ' : List Sl), ds[i]? = some d → P i ρ' →
      WG c F tg d ρ' fun ρ2 => WSs c F body ρ2 { nx := P (i + 1), ct := P (i + 1), bk := D.nx, rt := D.rt }) ∧ ∀ ρ', P ds.length ρ' → D.nx ρ') (hs : ∀ env x, foldedSetIterable iter env x = pure x := by intro _ _; rfl) : WS c F (.For tg iter body [] pos) ρ D := fun B σ H0 H hF E Ed f =>
  wpS_of (fun X hX => ps_for hX.own hX.calm (piW hX) (pgW hX) (pssW hX) (hs _)) (h B σ H0 H hF E _ fun J ds ρ1 H1 H1' E1 e1 src ⟨P, p0, step, fin⟩ => by
    refine ⟨fun i m σ' H' => m = ds.length - i ∧ i ≤ ds.length ∧ ∃ ρ' Z, En ⟨H1, B.H, B.F⟩ ρ' σ' Z H' ∧ P i ρ', ⟨ds.length, by simp, Nat.zero_le _, ρ1, H1, E1.raise, p0⟩, ?_⟩
    rintro i m σ' H' ⟨rfl, hi, ρ', Z, E', p⟩
    obtain ⟨g1, g2⟩ := src i Z H' E'.e0 E'.ex
    by_cases hlt : i < ds.length
    · obtain ⟨go, yl⟩ := g1 _ (List.getElem?_eq_getElem hlt)
      refine .inr ⟨go, fun σ2 H2 => ∃ ρ2 Z2, En ⟨H1, B.H, B.F⟩ ρ2 σ2 Z2 H2 ∧ P (i + 1) ρ2, fun σ2 H2 ⟨ρ2, Z2, w1, w3⟩ => ⟨ds.length - (i + 1), by omega, rfl, hlt, ρ2, Z2, w1, w3⟩, fun x H2 y => ?_⟩
      obtain ⟨Z2, gr, rx⟩ := yl x H2 y
      refine step i _ ρ' (List.getElem?_eq_getElem hlt) p ⟨H1, B.H, B.F⟩ σ' Z2 H2 x hF (E'.grow gr) rx _ fun ρ3 σ3 Z3 H3 E3 e3 k3 => ?_
      exact k3 ⟨H1, B.H, B.F⟩ σ3 Z3 H3 hF E3 _ ⟨fun ρ4 σ4 Z4 H4 E4 k4 => ⟨ρ4, Z4, E4, k4⟩, fun v d ρ4 σ4 Z4 H4 E4 r4 k4 => f.rt v d ρ4 σ4 Z4 H4 (E1.lower E4) r4 k4,
        fun ρ4 σ4 Z4 H4 E4 k4 => f.nx ρ4 σ4 Z4 H4 (E1.lower E4) k4, fun ρ4 σ4 Z4 H4 E4 k4 => ⟨ρ4, Z4, E4, k4⟩, fun _ _ _ _ _ _ _ _ _ k => k.elim⟩
    · have e : i = ds.length := by omega
      subst e
      exact .inl ⟨g2 rfl, f.nx ρ' σ' Z H' (E1.lower E') (fin ρ' p)⟩)
/-- while, by a word over data and a number that falls -/
theorem ws_while {t : Expr} {body : List Stmt} (P : Nat → List Sl → Prop) (n : Nat) (h0 : P n ρ) (h : ∀ m ρ', P m ρ' → WT c F t ρ' fun k ρ1 => (k = true → WSs c F body ρ1 { nx := fun ρ2 => ∃ m', m' < m ∧ P m' ρ2, ct := fun ρ2 => ∃ m', m' < m ∧ P m' ρ2, bk := D.nx, rt := D.rt }) ∧ (k = false → D.nx ρ1)) :
    WS c F (.While t body [] pos) ρ D := fun B σ H0 H hF E Ed f =>
  wpS_of (fun X hX => ps_while hX.own (ptW hX) (pssW hX)) (by
    refine ⟨fun m σ' H' => ∃ ρ' Z, En B ρ' σ' Z H' ∧ P m ρ', ⟨n, ρ, H0, E, h0⟩, ?_⟩
    rintro m σ' H' ⟨ρ', Z, E', p⟩
    refine h m ρ' p B σ' Z H' hF E' _ fun k ρ1 Z1 H1 E1 e1 ⟨k1, k2⟩ => ?_
    cases k with
    | true =>
      refine ⟨fun σ2 H2 => ∃ m', m' < m ∧ ∃ ρ2 Z2, En B ρ2 σ2 Z2 H2 ∧ P m' ρ2, fun σ2 H2 q => q, ?_⟩
      exact k1 rfl B σ' Z1 H1 hF E1 _ ⟨fun ρ4 σ4 Z4 H4 E4 ⟨m', q1, q2⟩ => ⟨m', q1, ρ4, Z4, E4, q2⟩, f.rt, f.nx, fun ρ4 σ4 Z4 H4 E4 ⟨m', q1, q2⟩ => ⟨m', q1, ρ4, Z4, E4, q2⟩, fun _ _ _ _ _ _ _ _ _ k => k.elim⟩
    | false => exact f.nx ρ1 σ' Z1 H1 E1 (k2 rfl))
end
end
end G

set_option Elab.async false
set_option linter.all false
set_option maxRecDepth 100000
set_option maxHeartbeats 1000000
namespace G
open PySem PySem.Spec PyProof.Rows L2
/-- a comprehension's own names hold nothing -/
def unset (ρ : List Sl) : List Nat → List Sl
  | [] => ρ
  | v :: vs => (unset ρ vs).set v .un
section
variable {c : Ct} {F : Fp} {ρ : List Sl} {pos apos cpos : Pos} {a b e : Expr} {es : List Expr} {Φ : PyData → List Sl → Prop} {Ψ : Bool → List Sl → Prop}
theorem unset_len (ρ : List Sl) : ∀ vs, (unset ρ vs).length = ρ.length
  | [] => rfl
  | v :: vs => by show ((unset ρ vs).set v .un).length = _; rw [List.length_set, unset_len ρ vs]
theorem unset_get {ρ : List Sl} {i : Nat} {s : Sl} : ∀ {vs : List Nat}, (unset ρ vs)[i]? = some s → s ≠ .un → ρ[i]? = some s ∧ i ∉ vs
  | [], h, _ => ⟨h, by simp⟩
  | v :: vs, h, n => by
    have h' : ((unset ρ vs).set v .un)[i]? = some s := h
    by_cases hi : v = i
    · subst hi
      by_cases hv : v < (unset ρ vs).length
      · rw [List.getElem?_set_self hv] at h'
        exact absurd (Option.some.inj h').symm n
      · rw [List.getElem?_eq_none (by rw [List.length_set]; omega)] at h'
        cases h'
    · rw [List.getElem?_set_ne hi] at h'
      obtain ⟨h1, h2⟩ := unset_get (vs := vs) h' n
      exact ⟨h1, by simp only [List.mem_cons, not_or]; exact ⟨fun e => hi e.symm, h2⟩⟩
theorem wipe_get {σ : L2.St} {i : Nat} : ∀ {vs : List Nat}, i ∉ vs → (wipe σ vs)[i]? = σ[i]?
  | [], _ => rfl
  | v :: vs, h => by
    have h1 : v ≠ i := fun e => h (by rw [e]; exact List.mem_cons_self)
    show ((wipe σ vs).set v none)[i]? = _
    rw [List.getElem?_set_ne h1]
    exact wipe_get fun z => h (List.mem_cons_of_mem _ z)
theorem En.wiped {B : Bs} {σ : L2.St} {H0 H : Hp} (E : En B ρ σ H0 H) (vs : List Nat) : En B (unset ρ vs) (wipe σ vs) H0 H := by
  have gt : ∀ {i : Nat} {s : Sl}, (unset ρ vs)[i]? = some s → s ≠ .un → ρ[i]? = some s ∧ (wipe σ vs)[i]? = σ[i]? := fun {i s} h n => by
    obtain ⟨h1, h2⟩ := unset_get h n
    exact ⟨h1, wipe_get h2⟩
  refine ⟨by rw [unset_len, wipe_length, E.len], E.e0, E.ex, E.kp, E.fF, fun i d h => ?_, fun i ds h => ?_, fun i j ds es l h1 h2 h3 h4 => ?_, fun i n h => ?_, fun i j n m h1 h2 => ?_, fun i u h => ?_, fun i ds h => ?_, fun i j n m l h1 h2 h3 h4 => ?_⟩
  · obtain ⟨h1, h2⟩ := gt h (by intro z; cases z)
    rw [h2]
    exact E.fz i d h1
  · obtain ⟨h1, h2⟩ := gt h (by intro z; cases z)
    rw [h2]
    exact E.ow i ds h1
  · obtain ⟨g1, g2⟩ := gt h1 (by intro z; cases z)
    obtain ⟨g3, g4⟩ := gt h2 (by intro z; cases z)
    rw [g2] at h3
    rw [g4] at h4
    exact E.sep i j ds es l g1 g3 h3 h4
  · obtain ⟨h1, h2⟩ := gt h (by intro z; cases z)
    rw [h2]
    exact E.dk i n h1
  · exact E.one i j n m (gt h1 (by intro z; cases z)).1 (gt h2 (by intro z; cases z)).1
  · obtain ⟨h1, h2⟩ := gt h (by intro z; cases z)
    rw [h2]
    exact E.pn i u h1
  · obtain ⟨h1, h2⟩ := gt h (by intro z; cases z)
    rw [h2]
    exact E.od i ds h1
  · obtain ⟨g1, g2⟩ := gt h1 (by intro z; cases z)
    obtain ⟨g3, g4⟩ := gt h2 (by intro z; cases z)
    rw [g2] at h3
    rw [g4] at h4
    exact E.oned i j n m l g1 g3 h3 h4
/-- behind a block: the names outside are as they were -/
theorem En.unwiped {B : Bs} {σ : L2.St} {H0 H : Hp} {vs : List Nat} (E : En B ρ (wipe σ vs) H0 H) : En B (unset ρ vs) σ H0 H := by
  have gt : ∀ {i : Nat} {s : Sl}, (unset ρ vs)[i]? = some s → s ≠ .un → ρ[i]? = some s ∧ (wipe σ vs)[i]? = σ[i]? := fun {i s} h n => by
    obtain ⟨h1, h2⟩ := unset_get h n
    exact ⟨h1, wipe_get h2⟩
  refine ⟨by rw [unset_len, ← E.len, wipe_length], E.e0, E.ex, E.kp, E.fF, fun i d h => ?_, fun i ds h => ?_, fun i j ds es l h1 h2 h3 h4 => ?_, fun i n h => ?_, fun i j n m h1 h2 => ?_, fun i u h => ?_, fun i ds h => ?_, fun i j n m l h1 h2 h3 h4 => ?_⟩
  · obtain ⟨h1, h2⟩ := gt h (by intro z; cases z)
    rw [← h2]
    exact E.fz i d h1
  · obtain ⟨h1, h2⟩ := gt h (by intro z; cases z)
    rw [← h2]
    exact E.ow i ds h1
  · obtain ⟨g1, g2⟩ := gt h1 (by intro z; cases z)
    obtain ⟨g3, g4⟩ := gt h2 (by intro z; cases z)
    rw [← g2] at h3
    rw [← g4] at h4
    exact E.sep i j ds es l g1 g3 h3 h4
  · obtain ⟨h1, h2⟩ := gt h (by intro z; cases z)
    rw [← h2]
    exact E.dk i n h1
  · exact E.one i j n m (gt h1 (by intro z; cases z)).1 (gt h2 (by intro z; cases z)).1
  · obtain ⟨h1, h2⟩ := gt h (by intro z; cases z)
    rw [← h2]
    exact E.pn i u h1
  · obtain ⟨h1, h2⟩ := gt h (by intro z; cases z)
    rw [← h2]
    exact E.od i ds h1
  · obtain ⟨g1, g2⟩ := gt h1 (by intro z; cases z)
    obtain ⟨g3, g4⟩ := gt h2 (by intro z; cases z)
    rw [← g2] at h3
    rw [← g4] at h4
    exact E.oned i j n m l g1 g3 h3 h4

/-! ### an object beside the names, kept through a piece of code -/
theorem En.guard {B : Bs} {σ : L2.St} {H0 H : Hp} {l : Addr} {vs : List V} {ds : List PyData} (E : En B ρ σ H0 H) (f : Fresh B ρ σ H0 H l vs ds) : En ⟨H0, upd B.H l (.lst vs), B.F⟩ ρ σ H0 H := by
  refine ⟨E.len, Ex.refl _, E.ex, fun a o h1 h2 h3 => ?_, E.fF, E.fz, fun i es h => ?_, E.sep, E.dk, E.one, E.pn, fun i es h => ?_, E.oned⟩
  · have h1' : upd B.H l (.lst vs) a = some o := h1
    by_cases ha : a = l
    · subst ha
      rw [upd_same] at h1'
      rw [← h1']
      exact ⟨f.at_, f.nf⟩
    · rw [upd_ne ha] at h1'
      exact E.kp a o h1' (E.e0.free h2) h3
  · obtain ⟨l', ws, q1, q2, q3, q4, q5, q6⟩ := E.ow i es h
    refine ⟨l', ws, q1, q2, q3, ?_, q5, q6⟩
    show upd B.H l (.lst vs) l' = none
    rw [upd_ne (fun z => by subst z; exact f.no i es h q1)]
    exact q4
  · obtain ⟨l', ws, q1, q2, q3, q4, q5, q6⟩ := E.od i es h
    refine ⟨l', ws, q1, q2, q3, ?_, q5, q6⟩
    show upd B.H l (.lst vs) l' = none
    rw [upd_ne (fun z => by subst z; rw [f.at_] at q2; cases q2)]
    exact q4
theorem En.unguard {B : Bs} {ρ' : List Sl} {σ σ' : L2.St} {H0 H Z Z' : Hp} {l : Addr} {vs : List V} {ds : List PyData} (E : En B ρ σ H0 H) (f : Fresh B ρ σ H0 H l vs ds) (E' : En ⟨H0, upd B.H l (.lst vs), B.F⟩ ρ' σ' Z Z') :
    En B ρ' σ' Z Z' ∧ Fresh B ρ' σ' Z Z' l vs ds := by
  have no : ∀ l', upd B.H l (.lst vs) l' = none → l' ≠ l ∧ B.H l' = none := fun l' h => by
    by_cases hl : l' = l
    · subst hl
      rw [upd_same] at h
      cases h
    · rw [upd_ne hl] at h
      exact ⟨hl, h⟩
  obtain ⟨k1, k2⟩ := E'.kp l (.lst vs) upd_same f.nf f.nF
  refine ⟨⟨E'.len, E.e0.trans E'.e0, E'.ex, fun a o h1 h2 h3 => ?_, E'.fF, E'.fz, fun i es h => ?_, E'.sep, E'.dk, E'.one, E'.pn, fun i es h => ?_, E'.oned⟩, ⟨k1, k2, f.nb, f.nF, fun i es h hs => ?_, f.rp.mono E'.e0⟩⟩
  · refine E'.kp a o ?_ (E.kp a o h1 h2 h3).2 h3
    show upd B.H l (.lst vs) a = some o
    rw [upd_ne (fun z => by subst z; rw [f.nb] at h1; cases h1)]
    exact h1
  · obtain ⟨l', ws, q1, q2, q3, q4, q5, q6⟩ := E'.ow i es h
    exact ⟨l', ws, q1, q2, q3, (no l' q4).2, q5, q6⟩
  · obtain ⟨l', ws, q1, q2, q3, q4, q5, q6⟩ := E'.od i es h
    exact ⟨l', ws, q1, q2, q3, (no l' q4).2, q5, q6⟩
  · obtain ⟨l', ws, q1, q2, q3, q4, q5, q6⟩ := E'.ow i es h
    rw [hs] at q1
    cases q1
    exact (no l q4).1 rfl
/-- such an object changes -/
theorem En.beside {B : Bs} {σ : L2.St} {H0 H : Hp} {l : Addr} {vs ws : List V} {ds es : List PyData} (E : En B ρ σ H0 H) (f : Fresh B ρ σ H0 H l vs ds) (r : RpL H0 ws es) : En B ρ σ H0 (upd H l (.lst ws)) ∧ Fresh B ρ σ H0 (upd H l (.lst ws)) l ws es := by
  have ne : ∀ x, B.F x → x ≠ l := fun x g z => by subst z; exact f.nF g
  refine ⟨⟨E.len, E.e0, E.ex.mut f.nf, fun a o h1 h2 h3 => ?_, fun a g => ?_, E.fz, fun i es' h => ?_, E.sep, fun i n h => ?_, E.one, E.pn, fun i es' h => ?_, E.oned⟩, ⟨upd_same, f.nf, f.nb, f.nF, f.no, r⟩⟩
  · obtain ⟨z1, z2⟩ := E.kp a o h1 h2 h3
    refine ⟨?_, z2⟩
    rw [upd_ne (fun z => by subst z; rw [f.nb] at h1; cases h1)]
    exact z1
  · obtain ⟨z1, o, z2⟩ := E.fF a g
    refine ⟨z1, o, ?_⟩
    rw [upd_ne (ne _ g)]
    exact z2
  · obtain ⟨l', ws', z1, z2, z3⟩ := E.ow i es' h
    refine ⟨l', ws', z1, ?_, z3⟩
    rw [upd_ne (fun z => by subst z; exact f.no i es' h z1)]
    exact z2
  · obtain ⟨a, z1, z2⟩ := E.dk i n h
    exact ⟨a, z1, z2.but f.nF⟩
  · obtain ⟨l', ws', z1, z2, z3⟩ := E.od i es' h
    refine ⟨l', ws', z1, ?_, z3⟩
    rw [upd_ne (fun z => by subst z; rw [f.at_] at z2; cases z2)]
    exact z2
theorem Fresh.of_eq {B : Bs} {ρ' : List Sl} {σ σ' : L2.St} {H0 H : Hp} {l : Addr} {vs : List V} {ds : List PyData} (f : Fresh B ρ σ H0 H l vs ds) (no : ∀ (i : Nat) (es : List PyData), ρ'[i]? = some (Sl.ow es) → σ'[i]? ≠ some (some (V.ref l))) : Fresh B ρ' σ' H0 H l vs ds :=
  ⟨f.at_, f.nf, f.nb, f.nF, no, f.rp⟩

/-! ### comprehensions -/
def wpTs (c : Ct) (ifs : List Expr) : TT := fun σ H Q => ∀ X, Has c X → ∀ (pins : List (Addr × Obj)) (s : Shared), Inv X pins σ H s →
    wpAny (model X.prog X.w) X.A (forIn ifs true fun c r => if r = true then do let ok ← isTrue c X.env (eval c X.env); pure (ForInStep.yield ok) else pure (ForInStep.yield r)) (TP X pins σ Q) X.xe s
theorem ptsW {X : Cx} {ifs : List Expr} (h : Has c X) : PTs X ifs (wpTs c ifs) := ⟨fun pins s _ _ _ I q => q X h pins s I⟩
def WTs (c : Ct) (F : Fp) (ifs : List Expr) (ρ : List Sl) (Ψ : Bool → List Sl → Prop) : Prop := ∀ (B : Bs) (σ : L2.St) (H0 H : Hp), B.F = F → En B ρ σ H0 H → ∀ Q : Bool → Hp → Prop,
  (∀ b ρ' H0' H', En B ρ' σ H0' H' → Ex H0 H0' → Ψ b ρ' → Q b H') → wpTs c ifs σ H Q
theorem wts_nil (k : Ψ true ρ) : WTs c F [] ρ Ψ := fun B σ H0 H hF E Q q X hX pins s I => (pts_nil (X := X)).run pins s σ H Q I (q true ρ H0 H E (Ex.refl _) k)
theorem wts_one {t : Expr} (h : WT c F t ρ Ψ) : WTs c F [t] ρ Ψ := fun B σ H0 H hF E Q q X hX pins s I => (pts_one (ptW hX)).run pins s σ H Q I (h B σ H0 H hF E Q q)
/-- a target of the block's own names: what it does to data -/
def GD (g : TG) (vs : List Nat) (ρ : List Sl) (d : PyData) (ρ2 : List Sl) : Prop := ∀ (B : Bs) (σ : L2.St) (H0 H : Hp) (v : V), En B ρ (wipe σ vs) H0 H → Rp H0 v d → ∀ Q : L2.St → Hp → Prop,
  (∀ σ2, En B ρ2 σ2 H0 H → wipe σ2 vs = wipe σ vs → Q σ2 H) → g v (wipe σ vs) H Q
theorem wipe_comm {σ : L2.St} : ∀ {vs : List Nat} {j : Nat} {x : Option V}, j ∈ vs → wipe (σ.set j x) vs = wipe σ vs
  | v :: vs, j, x, h => by
    show (wipe (σ.set j x) vs).set v none = (wipe σ vs).set v none
    by_cases hj : j ∈ vs
    · rw [wipe_comm hj]
    · have e : j = v := by
        rcases List.mem_cons.mp h with e | e
        · exact e
        · exact absurd e hj
      subst e
      have push : ∀ ws : List Nat, j ∉ ws → wipe (σ.set j x) ws = (wipe σ ws).set j x := by
        intro ws
        induction ws with
        | nil => intro _; rfl
        | cons w ws ih =>
          intro hn
          have h1 : j ≠ w := fun z => hn (by rw [z]; exact List.mem_cons_self)
          show (wipe (σ.set j x) ws).set w none = ((wipe σ ws).set w none).set j x
          rw [ih fun z => hn (List.mem_cons_of_mem _ z), List.set_comm _ _ h1]
      rw [push vs hj, List.set_set]
theorem wipe_twice {σ : L2.St} : ∀ vs : List Nat, wipe (wipe σ vs) vs = wipe σ vs := by
  have gen : ∀ (ws vs : List Nat), (∀ v ∈ ws, v ∈ vs) → wipe (wipe σ ws) vs = wipe σ vs := by
    intro ws
    induction ws with
    | nil => intro vs _; rfl
    | cons w ws ih =>
      intro vs h
      show wipe ((wipe σ ws).set w none) vs = wipe σ vs
      rw [wipe_comm (h w List.mem_cons_self)]
      exact ih vs fun v hv => h v (List.mem_cons_of_mem _ hv)
  exact fun vs => gen vs vs fun _ h => h
theorem gd_name (j : Nat) {vs : List Nat} {d : PyData} (hj : j ∈ vs := by decide) (hl : j < ρ.length := by exact of_decide_eq_true rfl) : GD (gName j) vs ρ d (ρ.set j (Sl.fz d)) := fun B σ H0 H v E r Q q =>
  q _ (E.set r hl) (by rw [wipe_comm hj, wipe_twice])
theorem gd_tup2 {K : PySem.W.Frag} (j k : Nat) {vs : List Nat} {d e : PyData} (hj : j ∈ vs := by decide) (hk : k ∈ vs := by decide) (hl : j < ρ.length := by exact of_decide_eq_true rfl) (hm : k < ρ.length := by exact of_decide_eq_true rfl) :
    GD (gTup K 2 (gCons (gName j) (gCons (gName k) gNil))) vs ρ (.tuple [d, e]) ((ρ.set j (Sl.fz d)).set k (Sl.fz e)) := fun B σ H0 H v E r Q q => by
  cases r with
  | tup h1 h2 =>
    cases h2 with
    | cons r1 h3 =>
      cases h3 with
      | cons r2 h4 =>
        cases h4
        exact ⟨_, _, rfl, SqT.of (E.ex _ _ h1), rfl, _, _, rfl, _, _, rfl, rfl, q _ ((E.set r1 hl).set r2 (by rw [List.length_set]; exact hm)) (by rw [wipe_comm hk, wipe_comm hj, wipe_twice])⟩
/-- a comprehension, wherever its list goes -/
def WLC (c : Ct) (F : Fp) (elt tg iter : Expr) (ifs : List Expr) (scope : Scope) (ρ : List Sl) (Φ : List PyData → List Sl → Prop) : Prop := ∃ (g : TG) (own : List (Str × Nat)), (∀ X, Has (c.blk scope) X → PG X tg g) ∧ blkC c.N c.sc scope own = true ∧ (∀ env x, foldedSetIterable iter env x = pure x) ∧
  ∀ (B : Bs) (σ : L2.St) (H0 H : Hp), B.F = F → En B ρ σ H0 H → ∀ Q : VK, (∀ l vs ds ρ' H0' H', En B ρ' σ H0' H' → Ex H0 H0' → Fresh B ρ' σ H0' H' l vs ds → Φ ds ρ' → Q (.ref l) H') →
    tLc (wpI c tg iter) g (wpTs (c.blk scope) ifs) (wpE (c.blk scope) elt) (own.map (·.2)) σ H Q
theorem WLC.wl {elt tg iter : Expr} {ifs : List Expr} {scope : Scope} {Φ : List PyData → List Sl → Prop} (h : WLC c F elt tg iter ifs scope ρ Φ) : WL c F (.ListComp elt [⟨tg, iter, ifs, 0⟩] scope pos) ρ Φ := fun B σ H0 H hF E Q q => by
  obtain ⟨g, own, hg, ok, hs, k⟩ := h
  exact wpE_of (fun X hX => pe_lc hX.calm hX.nd (piW hX) (blkOk_by (by rw [hX.N, hX.sc]; exact ok)) (fun s H C cl fp => hg _ (hX.blk s H scope C cl fp)) (fun s H C cl fp => ptsW (hX.blk s H scope C cl fp)) (fun s H C cl fp => peW (hX.blk s H scope C cl fp)) (hs _)) (k B σ H0 H hF E Q q)
/-- x = [..] on one line -/
theorem ws_ownC (i : Nat) {x : Str} {py spos : Pos} {elt tg iter : Expr} {ifs : List Expr} {scope : Scope} {D : SE} (h : WLC c F elt tg iter ifs scope ρ fun ds ρ1 => i < ρ1.length ∧ D.nx (ρ1.set i (Sl.ow ds))) (hN : c.N[i]? = some x := by rfl) (hy : c.sc.names.lookup x = some .local := by rfl) (hk : c.sc.kind = .function := by rfl) (hl : (py.line == pos.line) = true := by rfl)
    (ha : (scope.names.any fun (n, k) => n == x && (k == .local || k == .cell)) = false := by rfl) : WS c F (.Assign [.Name x py] (.ListComp elt [⟨tg, iter, ifs, 0⟩] scope pos) spos) ρ D := fun B σ H0 H hF E Ed f => by
  obtain ⟨g, own, hg, ok, hs, k⟩ := h
  refine wpS_of (fun X hX => ps_setLc hX.calm hX.nd (by rw [hX.N]; exact hN) (by rw [hX.sc]; exact hy) (sw_true (by rw [hX.sc]; exact hk) (by rw [hX.sc]; exact hy) hl ha) (piW hX) (blkOk_by (by rw [hX.N, hX.sc]; exact ok)) (fun s H C cl fp => hg _ (hX.blk s H scope C cl fp)) (fun s H C cl fp => ptsW (hX.blk s H scope C cl fp)) (fun s H C cl fp => peW (hX.blk s H scope C cl fp)) (hs _)) ?_
  exact k B σ H0 H hF E _ fun l vs ds ρ1 H1 H1' E1 e1 fr ⟨k1, k2⟩ => f.nx _ _ H1 H1' (E1.own fr k1) k2
/-- .. that nobody changes -/
theorem ws_asgC (i : Nat) {x : Str} {py spos : Pos} {elt tg iter : Expr} {ifs : List Expr} {scope : Scope} {D : SE} (h : WLC c F elt tg iter ifs scope ρ fun ds ρ1 => i < ρ1.length ∧ D.nx (ρ1.set i (Sl.fz (.list ds)))) (hN : c.N[i]? = some x := by rfl) (hy : c.sc.names.lookup x = some .local := by rfl) (hk : c.sc.kind = .function := by rfl) (hl : (py.line == pos.line) = true := by rfl)
    (ha : (scope.names.any fun (n, k) => n == x && (k == .local || k == .cell)) = false := by rfl) : WS c F (.Assign [.Name x py] (.ListComp elt [⟨tg, iter, ifs, 0⟩] scope pos) spos) ρ D := fun B σ H0 H hF E Ed f => by
  obtain ⟨g, own, hg, ok, hs, k⟩ := h
  refine wpS_of (fun X hX => ps_setLc hX.calm hX.nd (by rw [hX.N]; exact hN) (by rw [hX.sc]; exact hy) (sw_true (by rw [hX.sc]; exact hk) (by rw [hX.sc]; exact hy) hl ha) (piW hX) (blkOk_by (by rw [hX.N, hX.sc]; exact ok)) (fun s H C cl fp => hg _ (hX.blk s H scope C cl fp)) (fun s H C cl fp => ptsW (hX.blk s H scope C cl fp)) (fun s H C cl fp => peW (hX.blk s H scope C cl fp)) (hs _)) ?_
  refine k B σ H0 H hF E _ fun l vs ds ρ1 H1 H1' E1 e1 fr ⟨k1, k2⟩ => ?_
  obtain ⟨E2, r2⟩ := E1.seal fr
  exact f.nx _ _ _ H1' (E2.set r2 k1) k2
theorem wlc {elt tg iter : Expr} {ifs : List Expr} {scope : Scope} {g : TG} {Φ : List PyData → List Sl → Prop} (own : List (Str × Nat))
    (hg : ∀ X, Has (c.blk scope) X → PG X tg g) (ok : blkC c.N c.sc scope own = true)
    (h : WI c F tg iter ρ fun ds ρ1 => ∃ P : Nat → List PyData → List Sl → Prop, ds.length ≤ 90000 ∧ P 0 [] (unset ρ1 (own.map (·.2))) ∧ (∀ (i : Nat) (d : PyData) (acc : List PyData) (ρ' : List Sl), ds[i]? = some d → acc.length ≤ i → P i acc ρ' →
      ∃ ρ2, GD g (own.map (·.2)) ρ' d ρ2 ∧ WTs (c.blk scope) F ifs ρ2 fun b ρ3 => (b = true → WE (c.blk scope) F elt ρ3 fun z ρ4 => P (i + 1) (acc ++ [z]) (unset ρ4 (own.map (·.2)))) ∧ (b = false → P (i + 1) acc (unset ρ3 (own.map (·.2))))) ∧
      ∀ acc ρ', acc.length ≤ ds.length → P ds.length acc ρ' → Φ acc (unset ρ' (own.map (·.2)))) (hs : ∀ env x, foldedSetIterable iter env x = pure x := by intro _ _; rfl) :
    WLC c F elt tg iter ifs scope ρ Φ := ⟨g, own, hg, ok, hs, fun B σ H0 H hF E Q q =>
  (h B σ H0 H hF E _ fun J ds ρ1 H1 H1' E1 e1 src ⟨P, lim, p0, step, fin⟩ => by
    intro L hL
    generalize hvs : own.map (·.2) = vs at *
    refine ⟨fun i m H' => m = ds.length - i ∧ i ≤ ds.length ∧ ∃ ρ' Z avs acc, En ⟨H1, B.H, B.F⟩ ρ' (wipe σ vs) Z H' ∧ Fresh ⟨H1, B.H, B.F⟩ ρ' (wipe σ vs) Z H' L avs acc ∧ acc.length ≤ i ∧ P i acc ρ',
      ⟨ds.length, by simp, Nat.zero_le _, ?_⟩, ?_⟩
    · obtain ⟨E2, f2⟩ := (E1.raise.wiped vs).newL hL (vs := []) (ds := []) .nil
      exact ⟨_, H1, [], [], E2, f2, Nat.zero_le _, p0⟩
    rintro i m H' ⟨rfl, hi, ρ', Z, avs, acc, E', f', ha, p⟩
    obtain ⟨g1, g2⟩ := src i Z H' E'.e0 E'.ex
    by_cases hlt : i < ds.length
    · obtain ⟨go, yl⟩ := g1 _ (List.getElem?_eq_getElem hlt)
      refine .inr ⟨go, fun H2 => ∃ ρ2 Z2 avs acc, En ⟨H1, B.H, B.F⟩ ρ2 (wipe σ vs) Z2 H2 ∧ Fresh ⟨H1, B.H, B.F⟩ ρ2 (wipe σ vs) Z2 H2 L avs acc ∧ acc.length ≤ i + 1 ∧ P (i + 1) acc ρ2,
        fun H2 ⟨ρ2, Z2, avs, acc, w1, w2, w3, w4⟩ => ⟨ds.length - (i + 1), by omega, rfl, hlt, ρ2, Z2, avs, acc, w1, w2, w3, w4⟩, fun x H2 y => ?_⟩
      obtain ⟨Z2, gr, rx⟩ := yl x H2 y
      obtain ⟨ρ2, gd, ht⟩ := step i _ acc ρ' (List.getElem?_eq_getElem hlt) ha p
      have E2 := (E'.guard f').grow gr
      refine gd _ σ Z2 H2 x E2 rx _ fun σ3 E3 hw => ⟨hw, ?_⟩
      refine ht ⟨Z, upd B.H L (.lst avs), B.F⟩ σ3 Z2 H2 hF E3 _ fun k ρ3 Z3 H3 E4 e4 ⟨k1, k2⟩ => ?_
      have back : ∀ {ρ5 : List Sl} {σ5 : L2.St} {Z5 H5 : Hp}, En ⟨Z, upd B.H L (.lst avs), B.F⟩ ρ5 σ5 Z5 H5 → wipe σ5 vs = wipe σ vs → En ⟨H1, B.H, B.F⟩ (unset ρ5 vs) (wipe σ vs) Z5 H5 ∧ Fresh ⟨H1, B.H, B.F⟩ (unset ρ5 vs) (wipe σ vs) Z5 H5 L avs acc := fun {ρ5 σ5 Z5 H5} E5 w5 => by
        obtain ⟨u1, u2⟩ := E'.unguard f' E5
        have u3 := u1.wiped vs
        rw [w5] at u3
        refine ⟨u3, u2.of_eq fun j es hj hs => ?_⟩
        obtain ⟨q1, q2⟩ := unset_get hj (by intro z; cases z)
        rw [← w5, wipe_get q2] at hs
        exact u2.no j es q1 hs
      cases k with
      | true =>
        refine iteT (k1 rfl ⟨Z, upd B.H L (.lst avs), B.F⟩ σ3 Z3 H3 hF E4 _ fun z zd ρ4 Z4 H4 E5 e5 r5 k5 => ?_)
        obtain ⟨b1, b2⟩ := back E5 hw
        obtain ⟨c1, c2⟩ := b1.beside b2 (b2.rp.append (.one r5))
        refine ⟨avs, b2.at_, Nat.lt_of_le_of_lt (by rw [b2.rp.length]; omega : avs.length ≤ 90000) (by decide), _, Z4, _, _, c1, c2, ?_, k5⟩
        rw [List.length_append, List.length_singleton]
        omega
      | false =>
        obtain ⟨b1, b2⟩ := back E4 hw
        exact iteF ⟨_, Z3, avs, acc, b1, b2, by omega, k2 rfl⟩
    · have e : i = ds.length := by omega
      subst e
      refine .inl ⟨g2 rfl, ?_⟩
      have u := E1.lower E'
      refine q L avs acc (unset ρ' vs) Z H' u.unwiped (e1.trans E'.e0) (?_) (fin acc ρ' ha p)
      refine ⟨f'.at_, f'.nf, f'.nb, f'.nF, fun j es hj hs => ?_, f'.rp⟩
      obtain ⟨q1, q2⟩ := unset_get hj (by intro z; cases z)
      exact f'.no j es q1 (by rw [wipe_get q2]; exact hs))⟩
theorem wl_lc {elt tg iter : Expr} {ifs : List Expr} {scope : Scope} {g : TG} {Φ : List PyData → List Sl → Prop} (own : List (Str × Nat))
    (hg : ∀ X, Has (c.blk scope) X → PG X tg g) (ok : blkC c.N c.sc scope own = true)
    (h : WI c F tg iter ρ fun ds ρ1 => ∃ P : Nat → List PyData → List Sl → Prop, ds.length ≤ 90000 ∧ P 0 [] (unset ρ1 (own.map (·.2))) ∧ (∀ (i : Nat) (d : PyData) (acc : List PyData) (ρ' : List Sl), ds[i]? = some d → acc.length ≤ i → P i acc ρ' →
      ∃ ρ2, GD g (own.map (·.2)) ρ' d ρ2 ∧ WTs (c.blk scope) F ifs ρ2 fun b ρ3 => (b = true → WE (c.blk scope) F elt ρ3 fun z ρ4 => P (i + 1) (acc ++ [z]) (unset ρ4 (own.map (·.2)))) ∧ (b = false → P (i + 1) acc (unset ρ3 (own.map (·.2))))) ∧
      ∀ acc ρ', acc.length ≤ ds.length → P ds.length acc ρ' → Φ acc (unset ρ' (own.map (·.2)))) (hs : ∀ env x, foldedSetIterable iter env x = pure x := by intro _ _; rfl) :
    WL c F (.ListComp elt [⟨tg, iter, ifs, 0⟩] scope pos) ρ Φ := (wlc own hg ok h hs).wl
end
end G

set_option Elab.async false
set_option linter.all false
set_option maxRecDepth 100000
set_option maxHeartbeats 1000000
namespace G
open PySem PySem.Spec PyProof.Rows L2

/-! ### defs over data -/
/-- no deck -/
def noF : Fp := ⟨fun _ => False, 0⟩
/-- a def that changes nothing: S tells, of arguments, what its answer satisfies -/
def PF (S : List PyData → (PyData → Prop) → Prop) : Sp := fun vs H Q _ => ∃ (H0 : Hp) (ds : List PyData) (Ψ : PyData → Prop), Ex H0 H ∧ RpL H0 vs ds ∧ S ds Ψ ∧ ∀ v d H0' H', Grow H0 H H0' H' → Rp H0' v d → Ψ d → Q v H'
/-- what a draw may change -/
structure DGrow (F : Fp) (H0 H H0' H' : Hp) : Prop where
  fz : Ex H0 H0'
  sub : Ex H0' H'
  keep : ∀ a o, H a = some o → H0 a = none → ¬ F a → H' a = some o ∧ H0' a = none
  fF : ∀ a, F a → H0' a = none ∧ ∃ o, H' a = some o
/-- a def whose first argument is the deck -/
def DF (S : Nat → List PyData → (PyData → Nat → Prop) → Prop) : Sp := fun vs H Q _ => ∃ (Fd : Fp) (H0 : Hp) (a : Addr) (ws : List V) (ds : List PyData) (n : Nat) (Ψ : PyData → Nat → Prop), vs = .ref a :: ws ∧ Ex H0 H ∧
  (∀ x, Fd x → H0 x = none ∧ ∃ o, H x = some o) ∧ Deck Fd H a n ∧ RpL H0 ws ds ∧ S n ds Ψ ∧ ∀ v d m H0' H', DGrow Fd H0 H H0' H' → Deck Fd H' a m → Rp H0' v d → Ψ d m → Q v H'
/-- the def that a module's name stands for -/
def Cal (P : Program) (w : World) (K : PySem.W.Frag) (mg : Str → Option Value) (base : Heap) (k : Nat) (x : Str) (sp : Sp) : Prop :=
  ∃ (f : Addr) (fd : FuncData) (ps : List Str), FnOk P w K mg base CX0 k f fd ps sp ∧ mg x = some (.ref f) ∧ PySem.W.keepIn K (.ref f) = true ∧ Binds K fd ps []
section
variable {c : Ct} {F : Fp} {ρ : List Sl} {pos apos cpos : Pos} {a b e : Expr} {es : List Expr} {Φ : PyData → List Sl → Prop} {Ψ : Bool → List Sl → Prop}
theorem we_call {S : List PyData → (PyData → Prop) → Prop} {k : Nat} {x : Str} {p : Pos} (f : Cal c.P c.w c.K c.mg c.base k x (PF S)) (h : WA c F (e :: es) ρ fun ds ρ1 => S ds fun d => Φ d ρ1) (hk : k ≤ c.k := by exact of_decide_eq_true rfl) (hg : c.sc.names.lookup x = some NameKind.globalImplicit := by rfl)
    (hst : ∀ env, starEach (e :: es) env = (false, eval e env) :: starEach es env := by intro _; rfl) (hpl : ∀ env, (backTo pos (starEach es env)).any (·.1) = false := by intro _; rfl) (hdb : (x == ("__debug__" : Str)) = false := by decide) :
    WE c F (.Call (.Name x p) (e :: es) [] pos) ρ Φ := fun B σ H0 H hF E Q q => by
  obtain ⟨fa, fd, ps, G, hm, kp, hb⟩ := f
  refine wpE_of (t := tCall (PF S) [] E0 (wpA c (e :: es))) (fun X hX => pe_call (fd := fd) (ps := ps) (CX := CX0) (k := k) ?_ (hX.room.mono hk) ?_ (by rw [hX.mg]; exact hm) (by rw [hX.K]; exact kp) (by rw [hX.K]; exact hb) .nil pass0 (paW hX) hdb (hst _) (hpl _)) ?_
  · rw [hX.P, hX.w, hX.K, hX.mg, hX.base]
    exact G
  · show X.env.scope.names.lookup x = _
    rw [hX.sc]
    exact hg
  · refine h B σ H0 H hF E _ fun vs ds ρ1 H1 H1' E1 e1 r1 k1 => ⟨H1, ds, _, E1.ex, by rw [List.append_nil]; exact r1, k1, fun v d H2 H2' g r2 k2 => ?_⟩
    exact q v d ρ1 H2 H2' (E1.grow g) (e1.trans g.fz) r2 k2
theorem En.drawn {B : Bs} {σ : L2.St} {H0 H H0' H' : Hp} {i n m : Nat} {a : Addr} (E : En B ρ σ H0 H) (h : ρ[i]? = some (Sl.dk n)) (hs : σ[i]? = some (some (V.ref a))) (g : DGrow B.F H0 H H0' H') (d : Deck B.F H' a m) : En B (ρ.set i (Sl.dk m)) σ H0' H' := by
  have hi : i < ρ.length := (List.getElem?_eq_some_iff.mp h).1
  have gt : ∀ {j : Nat} {s : Sl}, (ρ.set i (Sl.dk m))[j]? = some s → (∀ z, s ≠ .dk z) → ρ[j]? = some s := fun {j s} q n => by
    by_cases hj : i = j
    · subst hj
      rw [List.getElem?_set_self hi] at q
      exact absurd (Option.some.inj q).symm (n m)
    · rw [List.getElem?_set_ne hj] at q
      exact q
  have dks : ∀ {j z : Nat}, (ρ.set i (Sl.dk m))[j]? = some (Sl.dk z) → j = i ∧ z = m := fun {j z} q => by
    by_cases hj : i = j
    · subst hj
      rw [List.getElem?_set_self hi] at q
      cases q
      exact ⟨rfl, rfl⟩
    · rw [List.getElem?_set_ne hj] at q
      exact absurd (E.one i j n z h q) hj
  refine ⟨by rw [List.length_set]; exact E.len, E.e0.trans g.fz, g.sub, fun x o h1 h2 h3 => ?_, g.fF, fun j d' q => ?_, fun j ds q => ?_, fun j k ds es l q1 q2 q3 q4 => ?_, fun j z q => ?_, fun j k y z q1 q2 => ?_, fun j u q => E.pn j u (gt q (by intro z w; cases w)), fun j es q => ?_, fun j k n m l q1 q2 q3 q4 => E.oned j k n m l (gt q1 (by intro z w; cases w)) (gt q2 (by intro z w; cases w)) q3 q4⟩
  · obtain ⟨z1, z2⟩ := E.kp x o h1 h2 h3
    exact g.keep x o z1 z2 h3
  · obtain ⟨v, z1, z2⟩ := E.fz j d' (gt q (by intro z w; cases w))
    exact ⟨v, z1, z2.mono g.fz⟩
  · obtain ⟨l, vs, z1, z2, z3, z4, z5, z6⟩ := E.ow j ds (gt q (by intro z w; cases w))
    obtain ⟨w1, w2⟩ := g.keep l _ z2 z3 z5
    exact ⟨l, vs, z1, w1, w2, z4, z5, z6.mono g.fz⟩
  · exact E.sep j k ds es l (gt q1 (by intro z w; cases w)) (gt q2 (by intro z w; cases w)) q3 q4
  · obtain ⟨rfl, rfl⟩ := dks q
    exact ⟨a, hs, d⟩
  · rw [(dks q1).1, (dks q2).1]
  · obtain ⟨l, vs, z1, z2, z3, z4, z5, z6⟩ := E.od j es (gt q (by intro z w; cases w))
    obtain ⟨w1, w2⟩ := g.keep l _ z2 z3 z5
    exact ⟨l, vs, z1, w1, w2, z4, z5, z6.mono g.fz⟩
/-- a call of a def that draws: the deck stands at the i-th name -/
theorem we_callD {S : Nat → List PyData → (PyData → Nat → Prop) → Prop} {k : Nat} {x y : Str} {p py : Pos} (i : Nat) (f : Cal c.P c.w c.K c.mg c.base k x (DF S)) (h : WA c F es ρ fun ds ρ1 => ∃ n, ρ1[i]? = some (Sl.dk n) ∧ S n ds fun d m => Φ d (ρ1.set i (Sl.dk m))) {n0 : Nat} (h0 : ρ[i]? = some (Sl.dk n0)) (hk : k ≤ c.k := by exact of_decide_eq_true rfl)
    (hN : c.N[i]? = some y := by rfl) (hv : Vis c.sc y := by first | exact Or.inl rfl | exact Or.inr (Or.inl rfl) | exact Or.inr (Or.inr rfl)) (hd : (y == ("__debug__" : Str)) = false := by decide) (hcd : (y == ("__classdict__" : Str)) = false := by decide)
    (hg : c.sc.names.lookup x = some NameKind.globalImplicit := by rfl) (hst : ∀ env, starEach (.Name y py :: es) env = (false, eval (.Name y py) env) :: starEach es env := by intro _; rfl) (hpl : ∀ env, (backTo pos (starEach es env)).any (·.1) = false := by intro _; rfl) (hdb : (x == ("__debug__" : Str)) = false := by decide) :
    WE c F (.Call (.Name x p) (.Name y py :: es) [] pos) ρ Φ := fun B σ H0 H hF E Q q => by
  obtain ⟨fa, fd, ps, G, hm, kp, hb⟩ := f
  refine wpE_of (t := tCall (DF S) [] E0 (tCons (tVar i) (wpA c es))) (fun X hX => pe_call (fd := fd) (ps := ps) (CX := CX0) (k := k) ?_ (hX.room.mono hk) ?_ (by rw [hX.mg]; exact hm) (by rw [hX.K]; exact kp) (by rw [hX.K]; exact hb) .nil pass0 (pa_cons (pe_var (by rw [hX.N]; exact hN) (by rw [hX.sc]; exact hv) hd hcd) (paW hX) (hst _)) hdb (hst _) (hpl _)) ?_
  · rw [hX.P, hX.w, hX.K, hX.mg, hX.base]
    exact G
  · show X.env.scope.names.lookup x = _
    rw [hX.sc]
    exact hg
  · obtain ⟨da, g1, g2⟩ := E.dk i n0 h0
    refine ⟨_, g1, h B σ H0 H hF E _ fun vs ds ρ1 H1 H1' E1 e1 r1 k1 => ?_⟩
    obtain ⟨n, k2, k3⟩ := k1
    obtain ⟨da', g3, g4⟩ := E1.dk i n k2
    rw [g1] at g3
    cases g3
    exact ⟨B.F, H1, da, vs, ds, n, _, by rw [List.append_nil], E1.ex, E1.fF, g4, r1, k3, fun v d m H2 H2' g dk r2 k4 => q v d _ H2 H2' (E1.drawn k2 g1 g dk) (e1.trans g.fz) r2 k4⟩
end

/-! ### a def keeps its promise by its body -/
theorem En.start {H0 H : Hp} {vs : List V} {ds : List PyData} {N : List Str} (e : Ex H0 H) (r : RpL H0 vs ds) (hl : ds.length ≤ N.length) : En ⟨H0, H, noF⟩ (ds.map Sl.fz ++ List.replicate (N.length - ds.length) Sl.un) (L2.start N vs) H0 H := by
  have hv := r.length
  have pick : ∀ {i : Nat} {s : Sl}, (ds.map Sl.fz ++ List.replicate (N.length - ds.length) Sl.un)[i]? = some s → s ≠ .un → ∃ d, ds[i]? = some d ∧ s = .fz d := fun {i s} h n => by
    by_cases hi : i < ds.length
    · rw [List.getElem?_append_left (by rw [List.length_map]; exact hi), List.getElem?_map] at h
      cases q : ds[i]? with
      | none => rw [q] at h; cases h
      | some d => rw [q] at h; exact ⟨d, rfl, (Option.some.inj h).symm⟩
    · rw [List.getElem?_append_right (by rw [List.length_map]; omega), List.getElem?_replicate] at h
      split at h
      · exact absurd (Option.some.inj h).symm n
      · cases h
  refine ⟨?_, Ex.refl _, e, fun a o h1 h2 _ => ⟨h1, h2⟩, fun a f => f.elim, fun i d h => ?_, fun i es h => ?_, fun i j es es' l h => ?_, fun i n h => ?_, fun i j n m h => ?_, fun i u h => ?_, fun i u h => ?_, fun i j n m _ h => ?_⟩
  · unfold L2.start
    rw [List.length_append, List.length_append, List.length_map, List.length_map, List.length_replicate, List.length_replicate, hv]
  · obtain ⟨d', q1, q2⟩ := pick h (by intro z; cases z)
    cases q2
    obtain ⟨v, w1, w2⟩ := r.get q1
    refine ⟨v, ?_, w2⟩
    unfold L2.start
    rw [List.getElem?_append_left (by rw [List.length_map]; exact (List.getElem?_eq_some_iff.mp w1).1), List.getElem?_map, w1]
    rfl
  · obtain ⟨d', q1, q2⟩ := pick h (by intro z; cases z)
    cases q2
  · obtain ⟨d', q1, q2⟩ := pick h (by intro z; cases z)
    cases q2
  · obtain ⟨d', q1, q2⟩ := pick h (by intro z; cases z)
    cases q2
  · obtain ⟨d', q1, q2⟩ := pick h (by intro z; cases z)
    cases q2
  · obtain ⟨d', q1, q2⟩ := pick h (by intro z; cases z)
    cases q2
  · obtain ⟨d', q1, q2⟩ := pick h (by intro z; cases z)
    cases q2
  · obtain ⟨d', q1, q2⟩ := pick h (by intro z; cases z)
    cases q2
section
variable {P : Program} {w : World} {K : PySem.W.Frag} {mg : Str → Option Value} {base : Heap}
/-- where the body of the def st stands -/
abbrev ctOf (P : Program) (w : World) (K : PySem.W.Frag) (mg : Str → Option Value) (base : Heap) (N : List Str) (st : Stmt) (k : Nat) : Ct := ⟨P, w, K, mg, base, N, defScope st, fun _ => true, k, false⟩
theorem has_of {x qual : Str} {N ps : List Str} {st : Stmt} {k : Nat} {f : Addr} {cd : Value} {A : Around} {outer : List Env} {s : Shared} {H : Hp} {E : XK} (S : FnScope N ps (defScope st)) (hr : Room k (A.deeper (envOfC qual (defScope st) s.heap.objs.size f cd))) :
    Has (ctOf P w K mg base N st k) (cxOf CX0 P w K mg base N qual (defScope st) f cd A outer s H E).nox :=
  ⟨rfl, rfl, rfl, rfl, rfl, rfl, S.nd, rfl, rfl, rfl, hr, rfl, fun h => nomatch h⟩
theorem pf_ok {x qual : Str} {N ps : List Str} {st : Stmt} {k : Nat} {f : Addr} {fd : FuncData} {S : List PyData → (PyData → Prop) → Prop} (Fu : Fun K x qual st f fd) (sc : FnScope N ps (defScope st)) (len : ∀ ds Ψ, S ds Ψ → ds.length = ps.length)
    (body : ∀ ds Ψ, S ds Ψ → WSs (ctOf P w K mg base N st k) noF (defBody st) (ds.map Sl.fz ++ List.replicate (N.length - ds.length) Sl.un) { nx := fun _ => Ψ .none, rt := fun d _ => Ψ d }) : FnOk P w K mg base CX0 (k + 1) f fd ps (PF S) := by
  have hpl : ps.length ≤ N.length := by have := congrArg List.length sc.pre; rw [List.length_take] at this; omega
  refine Fu.ok sc (fun vs H Q E ⟨H0, ds, Ψ, e, r, s, _⟩ => by rw [r.length]; exact len ds Ψ s) fun cdv A outer s H vs Q E hr ⟨H0, ds, Ψ, e, r, hs, q⟩ => ?_
  have hX : Has (ctOf P w K mg base N st k) (cxOf CX0 P w K mg base N qual (defScope st) f cdv A outer s H E).nox := has_of (x := x) sc hr
  refine ⟨_, pssW hX, ?_⟩
  have hl := len ds Ψ hs
  have gr : ∀ {ρ σ H1 H1'}, En ⟨H0, H, noF⟩ ρ σ H1 H1' → Grow H0 H H1 H1' := fun {ρ σ H1 H1'} E1 => ⟨E1.e0, fun a o h => by
    cases z : H0 a with
    | none => exact (E1.kp a o h z (fun f => f)).1
    | some o' =>
      have h1 := e a o' z
      rw [h] at h1
      cases h1
      exact E1.ex _ _ (E1.e0 a o z), E1.ex, fun a o h z => (E1.kp a o h z fun f => f).2⟩
  refine body ds Ψ hs ⟨H0, H, noF⟩ _ H0 H rfl (En.start e r (by omega)) _ ⟨fun ρ σ H1 H1' E1 k1 => q .non .none H1 H1' (gr E1) .non k1, fun v d ρ σ H1 H1' E1 r1 k1 => q v d H1 H1' (gr E1) r1 k1, fun ρ σ H1 H1' E1 k1 => k1.elim, fun ρ σ H1 H1' E1 k1 => k1.elim, fun _ _ _ _ _ _ _ _ _ k => k.elim⟩
/-- .. of a def that draws -/
theorem En.startD {Fd : Fp} {H0 H : Hp} {a : Addr} {n : Nat} {vs : List V} {ds : List PyData} {N : List Str} (e : Ex H0 H) (hf : ∀ x, Fd x → H0 x = none ∧ ∃ o, H x = some o) (dk : Deck Fd H a n) (r : RpL H0 vs ds) (hl : ds.length + 1 ≤ N.length) :
    En ⟨H0, H, Fd⟩ (Sl.dk n :: (ds.map Sl.fz ++ List.replicate (N.length - (ds.length + 1)) Sl.un)) (L2.start N (.ref a :: vs)) H0 H := by
  have hv := r.length
  have pick : ∀ {i : Nat} {s : Sl}, (ds.map Sl.fz ++ List.replicate (N.length - (ds.length + 1)) Sl.un)[i]? = some s → s ≠ .un → ∃ d, ds[i]? = some d ∧ s = .fz d := fun {i s} h n => by
    by_cases hi : i < ds.length
    · rw [List.getElem?_append_left (by rw [List.length_map]; exact hi), List.getElem?_map] at h
      cases q : ds[i]? with
      | none => rw [q] at h; cases h
      | some d => rw [q] at h; exact ⟨d, rfl, (Option.some.inj h).symm⟩
    · rw [List.getElem?_append_right (by rw [List.length_map]; omega), List.getElem?_replicate] at h
      split at h
      · exact absurd (Option.some.inj h).symm n
      · cases h
  have first : ∀ {i m : Nat}, (Sl.dk n :: (ds.map Sl.fz ++ List.replicate (N.length - (ds.length + 1)) Sl.un))[i]? = some (Sl.dk m) → i = 0 ∧ m = n := fun {i m} h => by
    match i, h with
    | 0, h =>
      cases h
      exact ⟨rfl, rfl⟩
    | i + 1, h =>
      obtain ⟨d', q1, q2⟩ := pick (i := i) h (by intro z; cases z)
      cases q2
  refine ⟨?_, Ex.refl _, e, fun a o h1 h2 _ => ⟨h1, h2⟩, hf, fun i d h => ?_, fun i es h => ?_, fun i j es es' l h => ?_, fun i m h => ?_, (fun i j m m' h h' => by rw [(first h).1, (first h').1]), fun i u h => ?_, fun i u h => ?_, fun i j n m _ h => ?_⟩
  · unfold L2.start
    simp only [List.length_cons, List.length_append, List.length_map, List.length_replicate, hv]
    omega
  · match i, h with
    | 0, h => cases h
    | i + 1, h =>
      obtain ⟨d', q1, q2⟩ := pick (i := i) h (by intro z; cases z)
      cases q2
      obtain ⟨v, w1, w2⟩ := r.get q1
      refine ⟨v, ?_, w2⟩
      unfold L2.start
      rw [List.getElem?_append_left (by rw [List.length_map, List.length_cons]; have := (List.getElem?_eq_some_iff.mp w1).1; omega), List.getElem?_map, List.getElem?_cons_succ, w1]
      rfl
  · match i, h with
    | 0, h => cases h
    | i + 1, h =>
      obtain ⟨d', q1, q2⟩ := pick (i := i) h (by intro z; cases z)
      cases q2
  · match i, h with
    | 0, h => cases h
    | i + 1, h =>
      obtain ⟨d', q1, q2⟩ := pick (i := i) h (by intro z; cases z)
      cases q2
  · obtain ⟨rfl, rfl⟩ := first h
    exact ⟨a, rfl, dk⟩
  · match i, h with
    | 0, h => cases h
    | i + 1, h =>
      obtain ⟨d', q1, q2⟩ := pick (i := i) h (by intro z; cases z)
      cases q2
  · match i, h with
    | 0, h => cases h
    | i + 1, h =>
      obtain ⟨d', q1, q2⟩ := pick (i := i) h (by intro z; cases z)
      cases q2
  · match i, h with
    | 0, h => cases h
    | i + 1, h =>
      obtain ⟨d', q1, q2⟩ := pick (i := i) h (by intro z; cases z)
      cases q2
theorem df_ok {x qual : Str} {N ps : List Str} {st : Stmt} {k : Nat} {f : Addr} {fd : FuncData} {S : Nat → List PyData → (PyData → Nat → Prop) → Prop} (Fu : Fun K x qual st f fd) (sc : FnScope N ps (defScope st)) (len : ∀ n ds Ψ, S n ds Ψ → ds.length + 1 = ps.length)
    (body : ∀ F n ds Ψ, S n ds Ψ → WSs (ctOf P w K mg base N st k) F (defBody st) (Sl.dk n :: (ds.map Sl.fz ++ List.replicate (N.length - (ds.length + 1)) Sl.un)) { nx := fun _ => False, rt := fun d ρ => ∃ i m, ρ[i]? = some (Sl.dk m) ∧ i = 0 ∧ Ψ d m }) : FnOk P w K mg base CX0 (k + 1) f fd ps (DF S) := by
  have hpl : ps.length ≤ N.length := by have := congrArg List.length sc.pre; rw [List.length_take] at this; omega
  refine Fu.ok sc (fun vs H Q E ⟨Fd, H0, a, ws, ds, n, Ψ, e0, e, hf, dk, r, s, _⟩ => by rw [e0, List.length_cons, r.length]; exact len n ds Ψ s) fun cdv A outer s H vs Q E hr ⟨Fd, H0, a, ws, ds, n, Ψ, e0, e, hf, dk, r, hs, q⟩ => ?_
  subst e0
  have hX : Has (ctOf P w K mg base N st k) (cxOf CX0 P w K mg base N qual (defScope st) f cdv A outer s H E).nox := has_of (x := x) sc hr
  refine ⟨_, pssW hX, ?_⟩
  have hl := len n ds Ψ hs
  refine body Fd n ds Ψ hs ⟨H0, H, Fd⟩ _ H0 H rfl (En.startD e hf dk r (by omega)) _ ⟨fun ρ σ H1 H1' E1 k1 => k1.elim, fun v d ρ σ H1 H1' E1 r1 k1 => ?_, fun ρ σ H1 H1' E1 k1 => k1.elim, fun ρ σ H1 H1' E1 k1 => k1.elim, fun _ _ _ _ _ _ _ _ _ k => k.elim⟩
  obtain ⟨i, m, k2, rfl, k3⟩ := k1
  obtain ⟨a', g1, g2⟩ := E1.dk 0 m k2
  have ha : a' = a := g2.self.2.trans dk.self.2.symm
  subst ha
  exact q v d m H1 H1' ⟨E1.e0, E1.ex, fun x o h1 h2 h3 => E1.kp x o h1 h2 h3, E1.fF⟩ g2 r1 k3
end
end G

set_option Elab.async false
set_option linter.all false
set_option maxRecDepth 100000
set_option maxHeartbeats 1000000
namespace G
open PySem PySem.Spec PyProof.Rows L2
theorem sz {n : Nat} (h : n ≤ 100000) : n ≤ sizeLine := Nat.le_trans h (by decide)
section
variable {c : Ct} {F : Fp} {ρ : List Sl} {pos apos cpos : Pos} {a b e : Expr} {es : List Expr} {Φ : PyData → List Sl → Prop} {Ψ : Bool → List Sl → Prop}
/-! ### a + b -/
def addD : PyData → PyData → Option PyData
  | .int i, .int j => some (.int (i + j))
  | .list xs, .list ys => if xs.length + ys.length ≤ 100000 then some (.list (xs ++ ys)) else none
  | .tuple xs, .tuple ys => if xs.length + ys.length ≤ 100000 then some (.tuple (xs ++ ys)) else none
  | .str x, .str y => if x.length + y.length ≤ 100000 then some (.str (x ++ y)) else none
  | _, _ => none
theorem addD_list {xs ys : List PyData} (h : xs.length + ys.length ≤ 100000) : addD (.list xs) (.list ys) = some (.list (xs ++ ys)) := if_pos h
theorem addD_tup {xs ys : List PyData} (h : xs.length + ys.length ≤ 100000) : addD (.tuple xs) (.tuple ys) = some (.tuple (xs ++ ys)) := if_pos h
def rStrCat : R2 := fun x y H Q => ∃ i j, x = .str i ∧ y = .str j ∧ i.length + j.length ≤ sizeLine ∧ Q (.str (i ++ j)) H
def rAddD (K : PySem.W.Frag) : R2 := fun x y H Q => (rI0 fun i j => .int (i + j)) x y H Q ∨ rCat x y H Q ∨ rCatA K x y H Q ∨ rStrCat x y H Q
theorem vo_add {K : PySem.W.Frag} {d y z : PyData} {Θ : PyData → Prop} (h : addD d y = some z) (k : Θ z) : VO2 K (rAddD K) d y Θ := fun H0 H v u ex rv ru Q q => by
  have lay : ∀ {z : PyData} {o : HO} {p : Addr}, H p = none → (∀ H', Ex H0 H' → H' p = some o → Rp H' (.ref p) z) → Θ z → Q (.ref p) (upd H p o) := fun {z o p} hp hr hk => by
    have g := Grow.laid ex (o := o) hp
    exact q _ _ _ _ g (hr _ g.fz upd_same) hk
  have flat : ∀ {v : V} {z : PyData}, Rp H0 v z → Θ z → Q v H := fun {v z} hr hk => q _ _ H0 H (Grow.refl ex) hr hk
  cases d with
  | int i =>
    cases y <;> try (cases h)
    rename_i j
    cases rv
    cases ru
    exact .inl ⟨i, j, rfl, rfl, flat (.int _) k⟩
  | list xs =>
    cases y <;> try (cases h)
    rename_i ys
    have hl : xs.length + ys.length ≤ 100000 := by
      by_cases hl : xs.length + ys.length ≤ 100000
      · exact hl
      · rw [show addD (.list xs) (.list ys) = none from if_neg hl] at h; cases h
    rw [addD_list hl] at h
    cases h
    cases rv with
    | lst h1 h2 =>
      cases ru with
      | lst h3 h4 =>
        refine .inr (.inl ⟨_, _, _, _, rfl, rfl, ex _ _ h1, ex _ _ h3, sz (by rw [h2.length, h4.length]; exact hl), fun p hp => lay hp (fun H' e' hq => .lst hq ((h2.append h4).mono e')) k⟩)
  | tuple xs =>
    cases y <;> try (cases h)
    rename_i ys
    have hl : xs.length + ys.length ≤ 100000 := by
      by_cases hl : xs.length + ys.length ≤ 100000
      · exact hl
      · rw [show addD (.tuple xs) (.tuple ys) = none from if_neg hl] at h; cases h
    rw [addD_tup hl] at h
    cases h
    cases rv with
    | @tup a1 vs _ h1 h2 =>
      cases ru with
      | @tup a2 us _ h3 h4 =>
        refine .inr (.inr (.inl ⟨_, _, _, _, rfl, rfl, SqT.of (ex _ _ h1), SqT.of (ex _ _ h3), sz (by rw [h2.length, h4.length]; exact hl), fun e1 => ?_, fun _ e2 => ?_, fun _ _ p hp => lay hp (fun H' e' hq => .tup hq ((h2.append h4).mono e')) k⟩))
        · subst e1
          cases h2
          exact flat (.tup h3 h4) k
        · subst e2
          cases h4
          exact flat (.tup h1 (by rw [List.append_nil]; exact h2)) k
  | str x =>
    cases y <;> try (cases h)
    rename_i y
    have hl : x.length + y.length ≤ 100000 := by
      by_cases hl : x.length + y.length ≤ 100000
      · exact hl
      · rw [show addD (.str x) (.str y) = none from if_neg hl] at h; cases h
    rw [show addD (.str x) (.str y) = some (.str (x ++ y)) from if_pos hl] at h
    cases h
    cases rv
    cases ru
    exact .inr (.inr (.inr ⟨x, y, rfl, rfl, sz hl, flat (.str _) k⟩))
  | none => cases y <;> cases h
  | bool _ => cases y <;> cases h
  | dict _ => cases y <;> cases h
theorem we_add (h : WE c F a ρ fun d ρ1 => WE c F b ρ1 fun y ρ2 => ∃ z, addD d y = some z ∧ Φ z ρ2) : WE c F (.BinOp a .Add b pos) ρ Φ :=
  we_op (r := rAddD c.K) (fun X hX => by rw [← hX.K]; exact op_add.or (op_cat.or (op_catA.or op_add_str))) (h.imp fun d ρ1 k => k.imp fun y ρ2 ⟨z, h1, h2⟩ => vo_add h1 h2)

/-! ### ints -/
theorem we_sub (h : WE c F a ρ fun d ρ1 => WE c F b ρ1 fun y ρ2 => ∃ i j : Int, d = .int i ∧ y = .int j ∧ Φ (.int (i - j)) ρ2) : WE c F (.BinOp a .Sub b pos) ρ Φ :=
  we_op (r := rI0 fun i j => .int (i - j)) (fun X hX => op_sub) (h.imp fun d ρ1 k => k.imp fun y ρ2 ⟨i, j, e1, e2, q⟩ => .flat q (fun H => .int _) fun H0 H x u ex rx ru Q qq => by
    subst e1 e2; cases rx; cases ru; exact ⟨i, j, rfl, rfl, qq⟩)
theorem we_mulI (h : WE c F a ρ fun d ρ1 => WE c F b ρ1 fun y ρ2 => ∃ i j : Int, d = .int i ∧ y = .int j ∧ (∃ m n : Nat, i.natAbs < 2 ^ m ∧ j.natAbs < 2 ^ n ∧ 0 < m ∧ 0 < n ∧ m + n ≤ 1000000) ∧ Φ (.int (i * j)) ρ2) : WE c F (.BinOp a .Mult b pos) ρ Φ :=
  we_op (r := rI CMulW fun i j => .int (i * j)) (fun X hX => op_mulW) (h.imp fun d ρ1 k => k.imp fun y ρ2 ⟨i, j, e1, e2, ⟨m, n, b1, b2, b3, b4, b5⟩, q⟩ => .flat q (fun H => .int _) fun H0 H x u ex rx ru Q qq => by
    subst e1 e2; cases rx; cases ru; exact ⟨i, j, rfl, rfl, wide_mul b1 b2 b3 b4 b5, qq⟩)
theorem we_fdiv (h : WE c F a ρ fun d ρ1 => WE c F b ρ1 fun y ρ2 => ∃ i j : Int, d = .int i ∧ y = .int j ∧ (0 < j ∧ j < 1073741824) ∧ Φ (.int (i / j)) ρ2) : WE c F (.BinOp a .FloorDiv b pos) ρ Φ :=
  we_op (r := rI CDiv fun i j => .int (i / j)) (fun X hX => op_fdiv) (h.imp fun d ρ1 k => k.imp fun y ρ2 ⟨i, j, e1, e2, b1, q⟩ => .flat q (fun H => .int _) fun H0 H x u ex rx ru Q qq => by
    subst e1 e2; cases rx; cases ru; exact ⟨i, j, rfl, rfl, b1, qq⟩)
theorem we_mod (h : WE c F a ρ fun d ρ1 => WE c F b ρ1 fun y ρ2 => ∃ i j : Int, d = .int i ∧ y = .int j ∧ 0 < j ∧ Φ (.int (i % j)) ρ2) : WE c F (.BinOp a .Mod b pos) ρ Φ :=
  we_op (r := rI (fun _ j => 0 < j) fun i j => .int (i % j)) (fun X hX => op_mod) (h.imp fun d ρ1 k => k.imp fun y ρ2 ⟨i, j, e1, e2, b1, q⟩ => .flat q (fun H => .int _) fun H0 H x u ex rx ru Q qq => by
    subst e1 e2; cases rx; cases ru; exact ⟨i, j, rfl, rfl, b1, qq⟩)
/-! ### comparisons -/
/-- a comparison, whether it is asked for its value or as a test -/
def WC (c : Ct) (F : Fp) (op : CmpOp) (a b : Expr) (ρ : List Sl) (Φ : PyData → List Sl → Prop) : Prop := ∃ r, (∀ X, Has c X → OpR X (compareOp op) r) ∧ WE c F a ρ fun d ρ1 => WE c F b ρ1 fun y ρ2 => VO2 c.K r d y fun z => Φ z ρ2
theorem we_c {op : CmpOp} (h : WC c F op a b ρ Φ) (hm : behindInMarks op b = false := by first | exact nobehind _ (by decide) (by decide) | rfl) : WE c F (.Compare a [op] [b] pos) ρ Φ := by
  obtain ⟨r, ho, h⟩ := h
  exact we_cmp ho h hm
theorem wt_c {op : CmpOp} (h : WC c F op a b ρ fun d ρ1 => ∃ k, d = .bool k ∧ Ψ k ρ1) (hm : behindInMarks op b = false := by first | exact nobehind _ (by decide) (by decide) | rfl) : WT c F (.Compare a [op] [b] pos) ρ Ψ := fun B σ H0 H hF E Q q => by
  obtain ⟨r, ho, h⟩ := h
  refine wpT_of (fun X hX => pt_cmpR (ho X hX) (peW hX) (peW hX) hm) (h B σ H0 H hF E _ fun v d ρ1 H1 H1' E1 e1 r1 k1 => k1 B σ H1 H1' hF E1 _ fun u y ρ2 H2 H2' E2 e2 r2 k2 =>
    k2 H2 H2' v u E2.ex (r1.mono e2) r2 _ fun z y' H3 H3' g r3 ⟨k, e3, k3⟩ => ?_)
  subst e3
  cases r3
  exact ⟨k, rfl, q k ρ2 H3 H3' (E2.grow g) ((e1.trans e2).trans g.fz) k3⟩
def strLt (x y : Str) : Bool := decide (x.cps.toList < y.cps.toList)
def rLtD : R2 := fun x y H Q => (rI0 fun i j => .bl (decide (i < j))) x y H Q ∨ ∃ i j : Str, x = .str i ∧ y = .str j ∧ Q (.bl (decide (i.cps.toList < j.cps.toList))) H
def rGtD : R2 := fun x y H Q => (rI0 fun i j => .bl (decide (j < i))) x y H Q ∨ ∃ i j : Str, x = .str i ∧ y = .str j ∧ Q (.bl (decide (j.cps.toList < i.cps.toList))) H
def ltD : PyData → PyData → Option Bool
  | .int i, .int j => some (decide (i < j))
  | .str i, .str j => some (strLt i j)
  | _, _ => none
theorem wc_lt (h : WE c F a ρ fun d ρ1 => WE c F b ρ1 fun y ρ2 => ∃ k, ltD d y = some k ∧ Φ (.bool k) ρ2) : WC c F .Lt a b ρ Φ :=
  ⟨rLtD, (fun X hX => op_lt.or op_lt_str), (h.imp fun d ρ1 k => k.imp fun y ρ2 ⟨t, e1, q⟩ => by
    cases d <;> cases y <;> try (cases e1)
    · exact .flat q (fun H => .bl _) fun H0 H x u ex rx ru Q qq => by cases rx; cases ru; exact .inl ⟨_, _, rfl, rfl, qq⟩
    · exact .flat q (fun H => .bl _) fun H0 H x u ex rx ru Q qq => by cases rx; cases ru; exact .inr ⟨_, _, rfl, rfl, qq⟩)⟩
theorem wc_gt (h : WE c F a ρ fun d ρ1 => WE c F b ρ1 fun y ρ2 => ∃ k, ltD y d = some k ∧ Φ (.bool k) ρ2) : WC c F .Gt a b ρ Φ :=
  ⟨rGtD, (fun X hX => op_gt.or op_gt_str), (h.imp fun d ρ1 k => k.imp fun y ρ2 ⟨t, e1, q⟩ => by
    cases y <;> cases d <;> try (cases e1)
    · exact .flat q (fun H => .bl _) fun H0 H x u ex rx ru Q qq => by cases rx; cases ru; exact .inl ⟨_, _, rfl, rfl, qq⟩
    · exact .flat q (fun H => .bl _) fun H0 H x u ex rx ru Q qq => by cases rx; cases ru; exact .inr ⟨_, _, rfl, rfl, qq⟩)⟩
theorem wc_le (h : WE c F a ρ fun d ρ1 => WE c F b ρ1 fun y ρ2 => ∃ i j : Int, d = .int i ∧ y = .int j ∧ Φ (.bool (decide (i ≤ j))) ρ2) : WC c F .LtE a b ρ Φ :=
  ⟨rI0 fun i j => .bl (decide (i ≤ j)), (fun X hX => op_le), (h.imp fun d ρ1 k => k.imp fun y ρ2 ⟨i, j, e1, e2, q⟩ => .flat q (fun H => .bl _) fun H0 H x u ex rx ru Q qq => by
    subst e1 e2; cases rx; cases ru; exact ⟨i, j, rfl, rfl, qq⟩)⟩
theorem wc_ge (h : WE c F a ρ fun d ρ1 => WE c F b ρ1 fun y ρ2 => ∃ i j : Int, d = .int i ∧ y = .int j ∧ Φ (.bool (decide (j ≤ i))) ρ2) : WC c F .GtE a b ρ Φ :=
  ⟨rI0 fun i j => .bl (decide (j ≤ i)), (fun X hX => op_ge), (h.imp fun d ρ1 k => k.imp fun y ρ2 ⟨i, j, e1, e2, q⟩ => .flat q (fun H => .bl _) fun H0 H x u ex rx ru Q qq => by
    subst e1 e2; cases rx; cases ru; exact ⟨i, j, rfl, rfl, qq⟩)⟩
/-- data that == may ask -/
def okD (d : PyData) : Prop := plain d = true ∧ SeqAt.shaped d = true
theorem wc_eq (h : WE c F a ρ fun d ρ1 => WE c F b ρ1 fun y ρ2 => okD d ∧ okD y ∧ Φ (.bool (PyData.eqv d y)) ρ2) : WC c F .Eq a b ρ Φ :=
  ⟨rEqD c.K, (fun X hX => by rw [← hX.K]; exact op_eqD hX.room.units), (h.imp fun d ρ1 k => k.imp fun y ρ2 ⟨o1, o2, q⟩ => .flat q (fun H => .bl _) fun H0 H x u ex rx ru Q qq =>
    ⟨d, y, (rx.mono ex).dp o1.1, (ru.mono ex).dp o2.1, o1.2, o2.2, qq⟩)⟩
theorem wc_neq (h : WE c F a ρ fun d ρ1 => WE c F b ρ1 fun y ρ2 => okD d ∧ okD y ∧ Φ (.bool (!PyData.eqv d y)) ρ2) : WC c F .NotEq a b ρ Φ :=
  ⟨rNeD c.K, (fun X hX => by rw [← hX.K]; exact op_neD hX.room.units), (h.imp fun d ρ1 k => k.imp fun y ρ2 ⟨o1, o2, q⟩ => .flat q (fun H => .bl _) fun H0 H x u ex rx ru Q qq =>
    ⟨d, y, (rx.mono ex).dp o1.1, (ru.mono ex).dp o2.1, o1.2, o2.2, qq⟩)⟩
def isNone : PyData → Bool
  | .none => true
  | _ => false
theorem Rp.isNone {H : Hp} {v : V} {d : PyData} (r : Rp H v d) : decide (v = .non) = G.isNone d := by
  cases r <;> rfl
theorem wc_isN {j p'} (h : WE c F a ρ fun d ρ1 => Φ (.bool (isNone d)) ρ1) : WC c F .Is a (.Constant .none j p') ρ Φ :=
  ⟨fun x y H Q => y = .non ∧ Q (.bl (decide (x = .non))) H, (fun X hX => op_isN), (h.imp fun d ρ1 k => we_none (fun H0 H x u ex rx ru Q qq => by
    cases ru
    refine ⟨rfl, ?_⟩
    rw [rx.isNone]
    exact qq _ _ H0 H (Grow.refl ex) (.bl _) k))⟩
theorem wc_notN {j p'} (h : WE c F a ρ fun d ρ1 => Φ (.bool (!isNone d)) ρ1) : WC c F .IsNot a (.Constant .none j p') ρ Φ :=
  ⟨fun x y H Q => y = .non ∧ Q (.bl (!decide (x = .non))) H, (fun X hX => op_notN), (h.imp fun d ρ1 k => we_none (fun H0 H x u ex rx ru Q qq => by
    cases ru
    refine ⟨rfl, ?_⟩
    rw [rx.isNone]
    exact qq _ _ H0 H (Grow.refl ex) (.bl _) k))⟩

/-! ### xs[i], xs[i:j] -/
def idxD : PyData → PyData → Option PyData
  | .list xs, .int i => atI xs i
  | .tuple xs, .int i => atI xs i
  | .str x, .int i => if x.length ≤ 100000 then (atI x.cps.toList i).map fun (k : Nat) => PyData.str ⟨#[k]⟩ else none
  | _, _ => none
theorem RpL.at {H : Hp} {vs : List V} {ds : List PyData} {i : Int} {z : PyData} (r : RpL H vs ds) (h : atI ds i = some z) : ∃ u, atI vs i = some u ∧ Rp H u z := by
  unfold atI at h ⊢
  rw [r.length]
  cases q : ixN ds.length i with
  | none => rw [q] at h; cases h
  | some m =>
    rw [q] at h
    exact r.get h
theorem we_idx (h : WE c F a ρ fun d ρ1 => WE c F b ρ1 fun y ρ2 => ∃ z, idxD d y = some z ∧ Φ z ρ2) (hs : PlainIx b := by intro _ _; rfl) : WE c F (.Subscript a b pos) ρ Φ :=
  we_ixr (r := rIx c.K) (fun X hX => by rw [← hX.K]; exact ix_seq) hs (h.imp fun d ρ1 k => k.imp fun y ρ2 hz => by
    obtain ⟨z, e1, q⟩ := hz
    intro H0 H x u ex rx ru Q qq
    cases d <;> cases y <;> try (cases e1)
    · rename_i s i
      have hl : s.length ≤ 100000 := by
        by_cases hl : s.length ≤ 100000
        · exact hl
        · rw [show idxD (.str s) (.int i) = none from if_neg hl] at e1; cases e1
      rw [show idxD (.str s) (.int i) = _ from if_pos hl] at e1
      cases q1 : atI s.cps.toList i with
      | none => rw [q1] at e1; cases e1
      | some k =>
        rw [q1] at e1
        cases e1
        cases rx
        cases ru
        exact .inr (.inr ⟨s, i, k, rfl, rfl, sz hl, q1, qq _ _ H0 H (Grow.refl ex) (.str _) q⟩)
    · rename_i xs i
      cases rx with
      | lst h1 h2 =>
        cases ru
        obtain ⟨u, w1, w2⟩ := h2.at e1
        exact .inl ⟨_, _, i, u, rfl, rfl, SqL.of (ex _ _ h1), w1, qq _ _ H0 H (Grow.refl ex) w2 q⟩
    · rename_i xs i
      cases rx with
      | tup h1 h2 =>
        cases ru
        obtain ⟨u, w1, w2⟩ := h2.at e1
        exact .inr (.inl ⟨_, _, i, u, rfl, rfl, SqT.of (ex _ _ h1), w1, qq _ _ H0 H (Grow.refl ex) w2 q⟩))
/-- a slice's part -/
def wpO (c : Ct) (e : Option Expr) : TO := fun σ H Q => ∀ X, Has c X → ∀ (pins : List (Addr × Obj)) (s : Shared), Inv X pins σ H s → wpAny (model X.prog X.w) X.A (evalPart e X.env) (fun u s' => ∃ o H', Inv X pins σ H' s' ∧ IsPart u o ∧ Q o H') X.xe s
def WO (c : Ct) (F : Fp) (e : Option Expr) (ρ : List Sl) (Φ : Option Int → List Sl → Prop) : Prop := ∀ (B : Bs) (σ : L2.St) (H0 H : Hp), B.F = F → En B ρ σ H0 H → ∀ Q : Option Int → Hp → Prop,
  (∀ o ρ' H0' H', En B ρ' σ H0' H' → Ex H0 H0' → Φ o ρ' → Q o H') → wpO c e σ H Q
theorem wo_none {Φ : Option Int → List Sl → Prop} (k : Φ none ρ) : WO c F none ρ Φ := fun B σ H0 H hF E Q q X hX pins s I => (po_none (X := X)).run pins s σ H Q I (q none ρ H0 H E (Ex.refl _) k)
theorem wo_some {Φ : Option Int → List Sl → Prop} (h : WE c F e ρ fun d ρ1 => ∃ i : Int, d = .int i ∧ Φ (some i) ρ1) : WO c F (some e) ρ Φ := fun B σ H0 H hF E Q q X hX pins s I =>
  (po_some (peW hX)).run pins s σ H Q I (h B σ H0 H hF E _ fun v d ρ1 H1 H1' E1 e1 r1 ⟨i, k0, k1⟩ => by
    subst k0
    cases r1
    exact ⟨i, rfl, q _ ρ1 H1 H1' E1 e1 k1⟩)
/-- the items of xs[lo:hi] -/
def cutD (xs : List PyData) (lo hi : Option Int) : List PyData := (xs.drop (HT.sIx xs.length 0 lo)).take (HT.sIx xs.length xs.length hi - HT.sIx xs.length 0 lo)
def sliceD : PyData → Option Int → Option Int → Option PyData
  | .list xs, lo, hi => some (.list (cutD xs lo hi))
  | .tuple xs, lo, hi => some (.tuple (cutD xs lo hi))
  | _, _, _ => none
theorem RpL.cut {H : Hp} {vs : List V} {ds : List PyData} (r : RpL H vs ds) (lo hi : Option Int) : RpL H (cutV vs lo hi) (cutD ds lo hi) := by
  unfold cutV cutD
  rw [r.length]
  exact (r.drop _).take _
theorem we_slice {lo hi : Option Expr} {p2 : Pos} (h : WE c F e ρ fun d ρ1 => WO c F lo ρ1 fun l ρ2 => WO c F hi ρ2 fun u ρ3 => ∃ z, sliceD d l u = some z ∧ Φ z ρ3) : WE c F (.Subscript e (.Slice lo hi none p2) pos) ρ Φ := fun B σ H0 H hF E Q q =>
  wpE_of (t := tSl (fun x l u H Q => rSlL c.K x l u H Q ∨ rSlA c.K x l u H Q) (wpE c e) (wpO c lo) (wpO c hi)) (fun X hX => by
      rw [← hX.K]
      exact pe_slice (sl_list.or sl_tupA) (peW hX) ⟨fun pins s σ H Q I q => q X hX pins s I⟩ ⟨fun pins s σ H Q I q => q X hX pins s I⟩)
    (h B σ H0 H hF E _ fun v d ρ1 H1 H1' E1 e1 r1 k1 => k1 B σ H1 H1' hF E1 _ fun l ρ2 H2 H2' E2 e2 k2 => k2 B σ H2 H2' hF E2 _ fun u ρ3 H3 H3' E3 e3 ⟨z, k3, k4⟩ => by
      have r3 := (r1.mono e2).mono e3
      have ee := (e1.trans e2).trans e3
      cases d <;> try (cases k3)
      · cases r3 with
        | @lst a1 ws _ h1 h2 =>
          refine .inl ⟨_, _, rfl, SqL.of (E3.ex _ _ h1), fun p hp => ?_⟩
          have g := Grow.laid E3.ex (o := .lst (cutV ws l u)) hp
          exact q _ _ ρ3 _ _ (E3.grow g) (ee.trans g.fz) (.lst upd_same ((h2.cut l u).mono g.fz)) k4
      · cases r3 with
        | @tup a1 ws _ h1 h2 =>
          refine .inr ⟨_, _, rfl, SqT.of (E3.ex _ _ h1), fun hw => ?_, fun _ p hp => ?_⟩
          · refine q _ _ ρ3 H3 H3' E3 ee (.tup h1 ?_) k4
            unfold cutD
            rw [← h2.length, hw.1, hw.2, List.drop_zero, Nat.sub_zero, h2.length, List.take_length]
            exact h2
          · have g := Grow.laid E3.ex (o := .tup (cutV ws l u)) hp
            exact q _ _ ρ3 _ _ (E3.grow g) (ee.trans g.fz) (.tup upd_same ((h2.cut l u).mono g.fz)) k4)
end
end G

set_option Elab.async false
set_option linter.all false
set_option maxRecDepth 100000
set_option maxHeartbeats 1000000
namespace G
open PySem PySem.Spec PyProof.Rows L2
section
variable {c : Ct} {F : Fp} {ρ : List Sl} {pos apos cpos : Pos} {a b e : Expr} {es : List Expr} {Φ : PyData → List Sl → Prop} {Ψ : Bool → List Sl → Prop}
theorem VO.flat {r : List V → Hp → VK → Prop} {ds : List PyData} {z : PyData} {v : V} {Θ : PyData → Prop} (k : Θ z) (hz : ∀ H : Hp, Rp H v z) (h : ∀ (H0 H : Hp) (vs : List V), Ex H0 H → RpL H0 vs ds → ∀ Q : VK, Q v H → r vs H Q) : VO r ds Θ :=
  fun H0 H vs ex rs Q q => h H0 H vs ex rs Q (q v z H0 H (Grow.refl ex) (hz H0) k)
def lenD : PyData → Option Nat
  | .list xs => some xs.length
  | .tuple xs => some xs.length
  | .str x => if x.length ≤ 100000 then some x.length else none
  | _ => none
theorem we_len {p : Pos} (h : WE c F e ρ fun d ρ1 => ∃ n, lenD d = some n ∧ Φ (.int (n : Int)) ρ1) (hm : c.mg "len" = none) (hg : c.sc.names.lookup ("len" : Str) = some NameKind.globalImplicit := by rfl) (hs : ∀ env, starEach [e] env = (false, eval e env) :: starEach [] env := by intro _; rfl)
    (hpl : ∀ env, (backTo pos (starEach [] env)).any (·.1) = false := by intro _; rfl) : WE c F (.Call (.Name "len" p) [e] [] pos) ρ Φ :=
  we_callB (r := fun xs H Q => ∃ x n, xs = [x] ∧ LenV c.K x H n ∧ Q (.int n) H) (fun X hX => by rw [← hX.K]; exact call_len) (wa_cons (h.imp fun d ρ1 hz => wa_nil (by
    obtain ⟨n, h1, h2⟩ := hz
    cases d <;> try (cases h1)
    · rename_i x
      have hl : x.length ≤ 100000 := by
        by_cases hl : x.length ≤ 100000
        · exact hl
        · rw [show lenD (.str x) = none from if_neg hl] at h1; cases h1
      rw [show lenD (.str x) = _ from if_pos hl] at h1
      cases h1
      exact .flat h2 (fun H => .int _) fun H0 H vs ex rs Q q => by
        cases rs with
        | cons r1 r2 => cases r2; cases r1; exact ⟨_, _, rfl, ⟨sz hl, rfl⟩, q⟩
    · exact .flat h2 (fun H => .int _) fun H0 H vs ex rs Q q => by
        cases rs with
        | cons r1 r2 =>
          cases r2
          cases r1 with
          | lst g1 g2 => exact ⟨_, _, rfl, .inl ⟨_, SqL.of (ex _ _ g1), rfl⟩, by rw [g2.length]; exact q⟩
    · exact .flat h2 (fun H => .int _) fun H0 H vs ex rs Q q => by
        cases rs with
        | cons r1 r2 =>
          cases r2
          cases r1 with
          | tup g1 g2 => exact ⟨_, _, rfl, .inr ⟨_, SqT.of (ex _ _ g1), rfl⟩, by rw [g2.length]; exact q⟩)) hs) hg hm PySem.boot_len (by decide) (by decide) hs hpl
theorem we_min {p : Pos} (h : WE c F a ρ fun d ρ1 => WE c F b ρ1 fun y ρ2 => ∃ i j : Int, d = .int i ∧ y = .int j ∧ Φ (.int (if j < i then j else i)) ρ2) (hm : c.mg "min" = none) (hg : c.sc.names.lookup ("min" : Str) = some NameKind.globalImplicit := by rfl) (hs : ∀ env, starEach [a, b] env = (false, eval a env) :: starEach [b] env := by intro _; rfl)
    (hs2 : ∀ env, starEach [b] env = (false, eval b env) :: starEach [] env := by intro _; rfl) (hpl : ∀ env, (backTo pos (starEach [b] env)).any (·.1) = false := by intro _; rfl) : WE c F (.Call (.Name "min" p) [a, b] [] pos) ρ Φ :=
  we_callB (fun X hX => call_min2 hX.calm) (wa_cons (h.imp fun d ρ1 k => wa_cons (k.imp fun y ρ2 ⟨i, j, e1, e2, q⟩ => wa_nil (.flat q (fun H => .int _) fun H0 H vs ex rs Q qq => by
    subst e1 e2
    cases rs with
    | cons r1 r2 =>
      cases r2 with
      | cons r2 r3 => cases r3; cases r1; cases r2; exact ⟨i, j, rfl, qq⟩)) hs2) hs) hg hm (by decide +kernel) (by decide) (by decide) hs hpl
theorem we_max {p : Pos} (h : WE c F a ρ fun d ρ1 => WE c F b ρ1 fun y ρ2 => ∃ i j : Int, d = .int i ∧ y = .int j ∧ Φ (.int (if j > i then j else i)) ρ2) (hm : c.mg "max" = none) (hg : c.sc.names.lookup ("max" : Str) = some NameKind.globalImplicit := by rfl) (hs : ∀ env, starEach [a, b] env = (false, eval a env) :: starEach [b] env := by intro _; rfl)
    (hs2 : ∀ env, starEach [b] env = (false, eval b env) :: starEach [] env := by intro _; rfl) (hpl : ∀ env, (backTo pos (starEach [b] env)).any (·.1) = false := by intro _; rfl) : WE c F (.Call (.Name "max" p) [a, b] [] pos) ρ Φ :=
  we_callB (fun X hX => call_max2 hX.calm) (wa_cons (h.imp fun d ρ1 k => wa_cons (k.imp fun y ρ2 ⟨i, j, e1, e2, q⟩ => wa_nil (.flat q (fun H => .int _) fun H0 H vs ex rs Q qq => by
    subst e1 e2
    cases rs with
    | cons r1 r2 =>
      cases r2 with
      | cons r2 r3 => cases r3; cases r1; cases r2; exact ⟨i, j, rfl, qq⟩)) hs2) hs) hg hm (by decide +kernel) (by decide) (by decide) hs hpl
def itemsD : PyData → Option (List PyData)
  | .list xs => some xs
  | .tuple xs => some xs
  | _ => none
theorem we_tuple {p : Pos} (h : WE c F e ρ fun d ρ1 => ∃ ds, itemsD d = some ds ∧ Φ (.tuple ds) ρ1) (hm : c.mg "tuple" = none) (hg : c.sc.names.lookup ("tuple" : Str) = some NameKind.globalImplicit := by rfl) (hs : ∀ env, starEach [e] env = (false, eval e env) :: starEach [] env := by intro _; rfl)
    (hpl : ∀ env, (backTo pos (starEach [] env)).any (·.1) = false := by intro _; rfl) : WE c F (.Call (.Name "tuple" p) [e] [] pos) ρ Φ :=
  we_callTy (r := fun xs H Q => ∃ p ys, xs = [.ref p] ∧ ((SqL c.K H p ys ∧ ∀ l, H l = none → Q (.ref l) (upd H l (.tup ys))) ∨ (SqT c.K H p ys ∧ Q (.ref p) H))) (fun X hX => by rw [← hX.K]; exact call_tuple_of) (wa_cons (h.imp fun d ρ1 ⟨ds, h1, h2⟩ => wa_nil (by
    cases d <;> try (cases h1)
    · intro H0 H vs ex rs Q q
      cases rs with
      | cons r1 r2 =>
        cases r2
        cases r1 with
        | @lst a1 ws _ g1 g2 =>
          refine ⟨_, _, rfl, .inl ⟨SqL.of (ex _ _ g1), fun l hl => ?_⟩⟩
          have g := Grow.laid ex (o := .tup ws) hl
          exact q _ _ _ _ g (.tup upd_same (g2.mono g.fz)) h2
    · intro H0 H vs ex rs Q q
      cases rs with
      | cons r1 r2 =>
        cases r2
        cases r1 with
        | tup g1 g2 => exact ⟨_, _, rfl, .inr ⟨SqT.of (ex _ _ g1), q _ _ H0 H (Grow.refl ex) (.tup g1 g2) h2⟩⟩)) hs) hg hm (by decide +kernel) (by decide) (by decide) hs hpl
theorem wl_list {p : Pos} {Φ : List PyData → List Sl → Prop} (h : WE c F e ρ fun d ρ1 => ∃ ds, itemsD d = some ds ∧ Φ ds ρ1) (hm : c.mg "list" = none) (hg : c.sc.names.lookup ("list" : Str) = some NameKind.globalImplicit := by rfl) (hs : ∀ env, starEach [e] env = (false, eval e env) :: starEach [] env := by intro _; rfl)
    (hpl : ∀ env, (backTo pos (starEach [] env)).any (·.1) = false := by intro _; rfl) : WL c F (.Call (.Name "list" p) [e] [] pos) ρ Φ := fun B σ H0 H hF E Q q =>
  wpE_of (t := tCB (fun xs H Q => ∃ p ys, xs = [.ref p] ∧ (SqL c.K H p ys ∨ SqT c.K H p ys) ∧ ∀ l, H l = none → Q (.ref l) (upd H l (.lst ys))) (tCons (wpE c e) tNil)) (fun X hX => by rw [← hX.K]; exact pe_callTy call_list_of (by show X.env.scope.names.lookup _ = _; rw [hX.sc]; exact hg) (by rw [hX.mg]; exact hm) (by decide +kernel) (pa_cons (peW hX) pa_nil (hs _)) (by decide) (by decide) (hs _) (hpl _))
    (h B σ H0 H hF E _ fun v d ρ1 H1 H1' E1 e1 r1 ⟨ds, k1, k2⟩ => by
    cases d <;> try (cases k1)
    · cases r1 with
      | lst g1 g2 =>
        refine ⟨_, _, rfl, .inl (SqL.of (E1.ex _ _ g1)), fun l hl => ?_⟩
        obtain ⟨E2, f⟩ := E1.newL hl g2
        exact q l _ _ ρ1 H1 _ E2 e1 f k2
    · cases r1 with
      | tup g1 g2 =>
        refine ⟨_, _, rfl, .inr (SqT.of (E1.ex _ _ g1)), fun l hl => ?_⟩
        obtain ⟨E2, f⟩ := E1.newL hl g2
        exact q l _ _ ρ1 H1 _ E2 e1 f k2)
/-- sum of ints, all of bools -/
theorem RpL.ints {H : Hp} : ∀ {vs : List V} {ns : List Int}, RpL H vs (ns.map PyData.int) → vs = ns.map V.int
  | _, [], h => by cases h; rfl
  | _, n :: ns, h => by
    cases h with
    | cons r t => cases r; rw [RpL.ints t]; rfl
theorem RpL.bools {H : Hp} : ∀ {vs : List V} {ns : List Bool}, RpL H vs (ns.map PyData.bool) → vs = ns.map V.bl
  | _, [], h => by cases h; rfl
  | _, n :: ns, h => by
    cases h with
    | cons r t => cases r; rw [RpL.bools t]; rfl
theorem we_sum {p : Pos} (h : WE c F e ρ fun d ρ1 => ∃ ns : List Int, d = .list (ns.map PyData.int) ∧ Φ (.int ns.sum) ρ1) (hm : c.mg "sum" = none) (hg : c.sc.names.lookup ("sum" : Str) = some NameKind.globalImplicit := by rfl) (hs : ∀ env, starEach [e] env = (false, eval e env) :: starEach [] env := by intro _; rfl)
    (hpl : ∀ env, (backTo pos (starEach [] env)).any (·.1) = false := by intro _; rfl) : WE c F (.Call (.Name "sum" p) [e] [] pos) ρ Φ :=
  we_callB (r := rSum c.K) (fun X hX => by rw [← hX.K]; exact cr_sum hX.calm) (wa_cons (h.imp fun d ρ1 ⟨ns, h1, h2⟩ => wa_nil (.flat h2 (fun H => .int _) fun H0 H vs ex rs Q q => by
    subst h1
    cases rs with
    | cons r1 r2 =>
      cases r2
      cases r1 with
      | lst g1 g2 => exact ⟨_, ns, rfl, by rw [← g2.ints]; exact SqL.of (ex _ _ g1), q⟩)) hs) hg hm (by decide +kernel) (by decide) (by decide) hs hpl
theorem we_all {p : Pos} (h : WE c F e ρ fun d ρ1 => ∃ bs : List Bool, d = .list (bs.map PyData.bool) ∧ Φ (.bool (bs.all id)) ρ1) (hm : c.mg "all" = none) (hg : c.sc.names.lookup ("all" : Str) = some NameKind.globalImplicit := by rfl) (hs : ∀ env, starEach [e] env = (false, eval e env) :: starEach [] env := by intro _; rfl)
    (hpl : ∀ env, (backTo pos (starEach [] env)).any (·.1) = false := by intro _; rfl) : WE c F (.Call (.Name "all" p) [e] [] pos) ρ Φ :=
  we_callB (r := rAll c.K) (fun X hX => by rw [← hX.K]; exact cr_all hX.calm) (wa_cons (h.imp fun d ρ1 ⟨ns, h1, h2⟩ => wa_nil (.flat h2 (fun H => .bl _) fun H0 H vs ex rs Q q => by
    subst h1
    cases rs with
    | cons r1 r2 =>
      cases r2
      cases r1 with
      | lst g1 g2 => exact ⟨_, ns, rfl, by rw [← g2.bools]; exact SqL.of (ex _ _ g1), q⟩)) hs) hg hm (by decide +kernel) (by decide) (by decide) hs hpl
theorem we_intc {p : Pos} (h : WE c F e ρ fun d ρ1 => (∃ k, d = .bool k ∧ Φ (.int (if k then 1 else 0)) ρ1)) (hm : c.mg "int" = none) (hg : c.sc.names.lookup ("int" : Str) = some NameKind.globalImplicit := by rfl) (hs : ∀ env, starEach [e] env = (false, eval e env) :: starEach [] env := by intro _; rfl)
    (hpl : ∀ env, (backTo pos (starEach [] env)).any (·.1) = false := by intro _; rfl) : WE c F (.Call (.Name "int" p) [e] [] pos) ρ Φ :=
  we_callTy (fun X hX => call_int1) (wa_cons (h.imp fun d ρ1 ⟨k, h1, h2⟩ => wa_nil (.flat h2 (fun H => .int _) fun H0 H vs ex rs Q q => by
    subst h1
    cases rs with
    | cons r1 r2 => cases r2; cases r1; exact .inr ⟨k, rfl, q⟩)) hs) hg hm (by decide +kernel) (by decide) (by decide) hs hpl
end
end G

set_option Elab.async false
set_option linter.all false
set_option maxRecDepth 100000
set_option maxHeartbeats 1000000
/-! zip of a list or a tuple with a list or a tuple -/
namespace G
open PySem PySem.Spec PyProof.Rows L2
/-- k: a tuple (true) or a list (false) -/
def SqX (k : Bool) (K : PySem.W.Frag) (H : Hp) (a : Addr) (xs : List V) : Prop := if k then SqT K H a xs else SqL K H a xs
def ItX (k : Bool) (h : Heap) (it a : Addr) (i : Nat) : Prop := if k then h.IsTupleIter it a i else h.IsListIter it a i
def IsX (k : Bool) (h : Heap) (a : Addr) (its : Array Value) : Prop := if k then h.IsTuple a its else h.IsList a its
theorem drawsX (k : Bool) {prog : Program} {w : World} {A : Around} (hh : A.handled = none) (it a : Addr) (hne : a ≠ it) (its : Array Value) :
    Draws prog w A it [it, a] its.size (fun i v => its[i]? = some v) (fun i h => ItX k h it a i ∧ IsX k h a its) := by
  cases k with
  | true => exact Draws.tuple hh it a hne its
  | false => exact Draws.list hh it a hne its
section
variable {X : Cx} {pins : List (Addr × Obj)} {σ : L2.St} {H : Hp} {s : Shared}
theorem seqX {k : Bool} (I : Inv X pins σ H s) {a : Addr} {xs : List V} (h : SqX k X.K H a xs) : ∃ its : List Value, Vals xs its ∧ IsX k s.heap a its.toArray := by
  cases k with
  | true =>
    obtain ⟨its, r, p, _⟩ := I.tuple h
    exact ⟨its, r, p⟩
  | false =>
    obtain ⟨its, r, p, _⟩ := I.list h
    exact ⟨its, r, p.isList⟩
end
theorem ItX.live {k : Bool} {h : Heap} {it a : Addr} {i : Nat} (x : ItX k h it a i) : ∃ o, h.get? it = some o ∧ ∀ v, o.data ≠ .cell v := by
  cases k with
  | true =>
    obtain ⟨o, e, _, d⟩ := (show h.IsTupleIter it a i from x)
    exact ⟨o, e, fun v q => by rw [d] at q; cases q⟩
  | false =>
    obtain ⟨o, e, _, d⟩ := (show h.IsListIter it a i from x)
    exact ⟨o, e, fun v q => by rw [d] at q; cases q⟩
theorem ItX.same {k : Bool} {h h' : Heap} {it a : Addr} {i : Nat} (x : ItX k h it a i) (hk : ∀ o, h.get? it = some o → h'.get? it = some o) : ItX k h' it a i := by
  cases k with
  | true => exact (show h.IsTupleIter it a i from x).at hk
  | false => exact (show h.IsListIter it a i from x).at hk
/-- a sequence is no iterator -/
theorem neX {k : Bool} {h : Heap} {it a : Addr} {i : Nat} {its : Array Value} (x : ItX k h it a i) (p : IsX k h a its) : a ≠ it := fun e => by
  subst e
  cases k with
  | true =>
    obtain ⟨o, e1, c1, _⟩ := (show h.IsTupleIter _ _ i from x)
    obtain ⟨o', e2, c2, _⟩ := (show h.IsTuple _ _ from p)
    rw [e1] at e2
    cases e2
    rw [c1] at c2
    exact absurd (Value.type.inj c2) (by decide)
  | false =>
    obtain ⟨o, e1, c1, _⟩ := (show h.IsListIter _ _ i from x)
    obtain ⟨o', e2, c2, _⟩ := (show h.IsList _ _ from p)
    rw [e1] at e2
    cases e2
    rw [c1] at c2
    exact absurd (Value.type.inj c2) (by decide)
/-- what each turn gives: the i-th items in a new pair -/
def ItzM (j k : Bool) (K : PySem.W.Frag) (a b : Addr) (xs ys : List V) : It :=
  ⟨fun i H => SqX j K H a xs ∧ SqX k K H b ys ∧ i < xs.length ∧ i < ys.length, fun i H v H' => ∃ T x y, v = .ref T ∧ H T = none ∧ H' = upd H T (.tup [x, y]) ∧ xs[i]? = some x ∧ ys[i]? = some y,
    fun i H => SqX j K H a xs ∧ SqX k K H b ys ∧ i ≤ xs.length ∧ i ≤ ys.length ∧ (i = xs.length ∨ i = ys.length)⟩
theorem turnM {P : Program} {w : World} {K : PySem.W.Frag} {elts : List Expr} {kk : Nat} {tpos : Pos} {j k : Bool} {a b z TI TO i1 i2 : Addr} {xs ys : List V} (S : ZipSep2 z TI TO i1 i2 [i1, a] [i2, b]) :
    Turn P w K (.Tuple elts kk tpos) (ItzM j k K a b xs ys) [z, TI, TO, i1, i2] z (fun i h => IsZip h z TI TO .none ∧ IsPair h TI (.ref i1) (.ref i2) ∧ (∃ x y, IsPair h TO x y) ∧ ItX j h i1 a i ∧ ItX k h i2 b i) where
  mem := List.mem_cons_self
  obj := fun i h ⟨hz, hTI, ⟨x, y, hTO⟩, h1, h2⟩ c hc => by
    simp only [List.mem_cons, List.not_mem_nil, or_false] at hc
    rcases hc with e | e | e | e | e <;> subst e
    · exact ⟨_, hz, fun v q => nomatch q⟩
    · exact ⟨_, hTI, fun v q => nomatch q⟩
    · exact ⟨_, hTO, fun v q => nomatch q⟩
    · exact h1.live
    · exact h2.live
  keep := fun i h h' ⟨hz, hTI, ⟨x, y, hTO⟩, h1, h2⟩ hk =>
    ⟨hk z (by simp) _ hz, hk TI (by simp) _ hTI, ⟨x, y, hk TO (by simp) _ hTO⟩, h1.same fun o q => hk i1 (by simp) o q, h2.same fun o q => hk i2 (by simp) o q⟩
  item := fun X hP hw hK hc i pins s σ H E I hf ⟨hz, hTI, ⟨x0, y0, hTO⟩, h1, h2⟩ ⟨q1, q2, l1, l2⟩ => by
    subst hP hw hK
    obtain ⟨us, r1, p1⟩ := seqX I q1
    obtain ⟨vs, r2, p2⟩ := seqX I q2
    have zl : z < s.heap.objs.size := Heap.lt_size hz
    have n1 : a ≠ i1 := neX h1 p1
    have n2 : b ≠ i2 := neX h2 p2
    have hn : X.A.in1.handled = none := I.ok.hd hc
    refine wpAny_pyNext_zipD2_item S (drawsX j hn i1 a n1 us.toArray) (drawsX k hn i2 b n2 vs.toArray) hz hTI hTO ⟨h1, p1⟩ ⟨h2, p2⟩ (by rw [List.size_toArray, ← r1.length]; exact l1) (by rw [List.size_toArray, ← r2.length]; exact l2) ?_
    intro u v h' tk hu hv z' TO' st1 st2 hT hsz hk
    refine ⟨_, rfl, wpAny_letOwnedTupleGo_zip (s := { s with heap := h', toks := tk }) z' fun h'' z'' sb => ?_⟩
    obtain ⟨x, hx, rx⟩ : ∃ x, xs[i]? = some x ∧ RelV x u := by
      obtain ⟨u', g1, g2⟩ := r1.get (List.getElem?_eq_getElem l1)
      have g3 : us[i]? = some u := by simpa using hu
      rw [g1] at g3; cases g3
      exact ⟨_, List.getElem?_eq_getElem l1, g2⟩
    obtain ⟨y, hy, ry⟩ : ∃ y, ys[i]? = some y ∧ RelV y v := by
      obtain ⟨u', g1, g2⟩ := r2.get (List.getElem?_eq_getElem l2)
      have g3 : vs[i]? = some v := by simpa using hv
      rw [g1] at g3; cases g3
      exact ⟨_, List.getElem?_eq_getElem l2, g2⟩
    have hT2 : h''.get? s.heap.objs.size = some { cls := .type "tuple", data := .seq #[u, v] } := (sb.2 _ (Nat.ne_of_gt zl)).trans hT
    have new : ObjOk X.prog X.w (upd H s.heap.objs.size (.tup [x, y])) h'' s.heap.objs.size (.tup [x, y]) := ⟨by show 2 ≤ sizeLine; decide, [u, v], .cons rx (.cons ry .nil), ⟨_, hT2, rfl, _, rfl⟩⟩
    have keep : ∀ c o, c ∉ [z, TI, TO, i1, i2] → s.heap.get? c = some o → h''.get? c = some o := fun c o hm q => by
      simp only [List.mem_cons, List.not_mem_nil, or_false, not_or] at hm
      exact (sb.2 c hm.1).trans (hk c o hm.1 hm.2.2.1 hm.2.2.2.1 hm.2.2.2.2 q)
    have I1 : Inv X pins σ (upd H s.heap.objs.size (.tup [x, y])) { s with heap := h'', toks := tk } := I.turnedNew (ch := [z, TI, TO, i1, i2]) keep hf (Nat.le_refl _) new
    refine ⟨.ref s.heap.objs.size, _, I1, rfl, ⟨_, x, y, rfl, I.hok.fresh (Nat.le_refl _), rfl, hx, hy⟩, ⟨z'', (sb.2 _ S.TIz).trans (hk _ _ S.TIz S.TITO S.TIi1 S.TIi2 hTI), ⟨u, v, (sb.2 _ S.TOz).trans TO'⟩, st1.1.same fun o q => (sb.2 _ (Ne.symm S.zi1)).trans q, st2.1.same fun o q => (sb.2 _ (Ne.symm S.zi2)).trans q⟩, fun c hcm => ?_⟩
    have lt : c < s.heap.objs.size := by
      simp only [List.mem_cons, List.not_mem_nil, or_false] at hcm
      rcases hcm with e | e | e | e | e <;> subst e
      · exact zl
      · exact Heap.lt_size hTI
      · exact Heap.lt_size hTO
      · obtain ⟨o, e, _⟩ := h1.live; exact Heap.lt_size e
      · obtain ⟨o, e, _⟩ := h2.live; exact Heap.lt_size e
    rw [upd_ne (Nat.ne_of_lt lt)]
    exact (hf c hcm).1
  done := fun X hP hw hK hc i pins s σ H E I hf ⟨hz, hTI, ⟨x0, y0, hTO⟩, h1, h2⟩ ⟨q1, q2, l1, l2, hend⟩ => by
    subst hP hw hK
    obtain ⟨us, r1, p1⟩ := seqX I q1
    obtain ⟨vs, r2, p2⟩ := seqX I q2
    have n1 : a ≠ i1 := neX h1 p1
    have n2 : b ≠ i2 := neX h2 p2
    have hn : X.A.in1.handled = none := I.ok.hd hc
    refine wpAny_pyNext_zipD2_end S (drawsX j hn i1 a n1 us.toArray) (drawsX k hn i2 b n2 vs.toArray) hz hTI hTO ⟨h1, p1⟩ ⟨h2, p2⟩ (by rw [List.size_toArray, ← r1.length]; exact l1) (by rw [List.size_toArray, ← r2.length]; exact l2) (by rw [List.size_toArray, List.size_toArray, ← r1.length, ← r2.length]; exact hend) ?_
    exact fun h' tk hk => ⟨rfl, I.turnedL (ch := [z, TI, TO, i1, i2]) (fun c o hm q => by
      simp only [List.mem_cons, List.not_mem_nil, or_false, not_or] at hm
      exact hk c o hm.1 hm.2.2.1 hm.2.2.2.1 hm.2.2.2.2 q) hf⟩
  self := fun A i s Q E st h => wpAny_pyIter_zip st.1 h
def iZipM (j k : Bool) (K : PySem.W.Frag) (ta : TA) : TI := fun σ H R => ta σ H fun vs H1 => ∃ a b xs ys, vs = [.ref a, .ref b] ∧ SqX j K H1 a xs ∧ SqX k K H1 b ys ∧ R (ItzM j k K a b xs ys) H1
theorem pi_zipM (j k : Bool) {X : Cx} {e e2 : Expr} {ta : TA} {p pos tpos : Pos} {elts : List Expr} {kk : Nat} (hg : Gl X "zip") (hm : X.mg "zip" = none) (ha : PA X [e, e2] ta)
    (hs : starEach [e, e2] X.env = (false, eval e X.env) :: starEach [e2] X.env := by rfl) (hpl : (backTo pos (starEach [e2] X.env)).any (·.1) = false := by rfl) :
    PI X (.Tuple elts kk tpos) (.Call (.Name "zip" p) [e, e2] [] pos) (iZipM j k X.K ta) := by
  refine ⟨fun pins s σ H R I hw => ?_⟩
  refine Call_ (ld_blt I hg hm PyProof.Rows.boot_zip (PyProof.Rows.callWith_type1 (thn (ha.run pos pins s σ H _ I hw) fun us s1 ⟨vs, H1, I1, rr, a, b, xs, ys, ev, q1, q2, q⟩ => ?_) hs hpl))
  subst ev
  cases rr with
  | cons ra rr =>
    cases rr with
    | cons rb rr =>
      cases rr
      cases ra
      cases rb
      obtain ⟨u1, r1, p1⟩ := seqX I1 q1
      obtain ⟨u2, r2, p2⟩ := seqX I1 q2
      have beg : ∀ (k : Bool) (l : Addr) (its : Array Value), ∃ o : Obj, Begins (.ref l) o (fun h => IsX k h l its) ∧ ∀ (h : Heap) (it : Addr), h.get? it = some o → ItX k h it l 0 := fun k l its => by
        cases k with
        | true => exact ⟨_, begins_tuple l its, fun h it e => ⟨_, e, rfl, rfl⟩⟩
        | false => exact ⟨_, begins_list l its, fun h it e => ⟨_, e, rfl, rfl⟩⟩
      obtain ⟨o1, b1, g1⟩ := beg j a u1.toArray
      obtain ⟨o2, b2, g2⟩ := beg k b u2.toArray
      have lt : ∀ {k : Bool} {l : Addr} {its : Array Value}, IsX k s1.heap l its → l < s1.heap.objs.size := fun {k l its} x => by
        cases k with
        | true => obtain ⟨o, e, _⟩ := (show s1.heap.IsTuple l its from x); exact Heap.lt_size e
        | false => obtain ⟨o, e, _⟩ := (show s1.heap.IsList l its from x); exact Heap.lt_size e
      have la := lt p1
      have lb := lt p2
      refine zip_begins2 b1 b2 p1 p2 fun h' hz hTI hTO h1 h2 hsz hk => wpAny_pyIter_zip hz ?_
      have I2 : Inv X pins σ H1 { s1 with heap := h' } := I1.kept (t' := s1.toks) hk
      refine ⟨s1.heap.objs.size + 4, [s1.heap.objs.size + 4, s1.heap.objs.size + 2, s1.heap.objs.size + 3, s1.heap.objs.size, s1.heap.objs.size + 1], _, _, H1, rfl, I2, turnM ?_, ⟨hz, hTI, ⟨_, _, hTO⟩, g1 _ _ h1, g2 _ _ h2⟩, fun c hc => ?_, q⟩
      · exact zip_sep2 (fun c hc => by rw [List.mem_singleton] at hc; rw [hc]; exact la) (fun c hc => by rw [List.mem_singleton] at hc; rw [hc]; exact lb)
      · have le : s1.heap.objs.size ≤ c := by
          simp only [List.mem_cons, List.not_mem_nil, or_false] at hc
          rcases hc with e | e | e | e | e <;> rw [e]
          · exact Nat.le_add_right _ _
          · exact Nat.le_add_right _ _
          · exact Nat.le_add_right _ _
          · exact Nat.le_refl _
          · exact Nat.le_add_right _ _
        exact I1.fpOk le (I1.hok.fresh le)
end G

set_option Elab.async false
set_option linter.all false
set_option maxRecDepth 100000
set_option maxHeartbeats 1000000
namespace G
open PySem PySem.Spec PyProof.Rows L2
theorem mulOne (l : Addr) (its : Array Value) (n : Nat) (dd : Option Addr) (sl : Array (Option Value)) (u : Tok) :
    Meets (Builtin.«tuple.__mul__» ⟨[.ref l, .int 1 u], []⟩) (fun _ R s => s.heap.get? l = some { cls := .type "tuple", dict := dd, data := .seq its n, slots := sl } ∧ R (.ok (.ret (Value.ref l))) s) :=
  .of_wp fun prog w A R s h => by
    obtain ⟨hp, g, d, tk, os⟩ := s
    obtain ⟨hl, h⟩ := h
    have f1 := AutoSeq1.idx_int
    wp_walk using wpAny_loadPart' hl
    repeat (first
      | (refine wpAny_ite_false (by decide) ?_; wp_walk using wpAny_loadPart' hl)
      | (refine wpAny_ite_true (by simp) ?_; wp_walk using wpAny_loadPart' hl))
    exact ⟨_, rfl, h⟩
theorem mulNone (l : Addr) (its : Array Value) (n : Nat) (dd : Option Addr) (sl : Array (Option Value)) (u : Tok) (hi : its.isEmpty = false) :
    Meets (Builtin.«tuple.__mul__» ⟨[.ref l, .int 0 u], []⟩) (fun _ R s => s.heap.get? l = some { cls := .type "tuple", dict := dd, data := .seq its n, slots := sl } ∧ R (.ok (.ret (Value.ref s.heap.objs.size))) { s with heap := s.heap.push { cls := Value.type "tuple", data := Data.seq #[] } }) :=
  .of_wp fun prog w A R s h => by
    obtain ⟨hp, g, d, tk, os⟩ := s
    obtain ⟨hl, h⟩ := h
    have f1 := AutoSeq1.idx_int
    have c1 : (its.isEmpty || (0 : Int) == 1) = false := by rw [hi]; rfl
    wp_walk using wpAny_loadPart' hl
    repeat (first
      | (refine wpAny_ite_false (by decide) ?_; wp_walk using wpAny_loadPart' hl)
      | (refine wpAny_ite_false (decide_eq_false (by rw [c1]; exact Bool.false_ne_true)) ?_; wp_walk using wpAny_loadPart' hl)
      | (refine wpAny_ite_true (by simp) ?_; wp_walk using wpAny_loadPart' hl))
    exact ⟨_, rfl, h⟩
end G

set_option Elab.async false
set_option linter.all false
set_option maxRecDepth 100000
set_option maxHeartbeats 1000000
namespace G
open PySem PySem.Spec PyProof.Rows L2
section
variable {c : Ct} {F : Fp} {ρ : List Sl} {pos apos cpos : Pos} {a b e : Expr} {es : List Expr} {D : SE} {Φ : PyData → List Sl → Prop} {Ψ : Bool → List Sl → Prop}
/-! ### zip, enumerate -/
def pairsD : List PyData → List PyData → List PyData
  | x :: xs, y :: ys => .tuple [x, y] :: pairsD xs ys
  | _, _ => []
theorem pairsD_get : ∀ {xs ys : List PyData} {i : Nat} {d : PyData}, (pairsD xs ys)[i]? = some d → ∃ x y, xs[i]? = some x ∧ ys[i]? = some y ∧ d = .tuple [x, y]
  | [], _, i, d, h => by simp [pairsD] at h
  | x :: xs, [], i, d, h => by simp [pairsD] at h
  | x :: xs, y :: ys, 0, d, h => ⟨x, y, rfl, rfl, (Option.some.inj h).symm⟩
  | x :: xs, y :: ys, i + 1, d, h => pairsD_get (xs := xs) (ys := ys) (i := i) h
theorem pairsD_len : ∀ (xs ys : List PyData), (pairsD xs ys).length = min xs.length ys.length
  | [], _ => by simp [pairsD]
  | _ :: _, [] => by simp [pairsD]
  | x :: xs, y :: ys => by simp only [pairsD, List.length_cons, pairsD_len xs ys]; omega
def isTup : PyData → Option Bool
  | .list _ => some false
  | .tuple _ => some true
  | _ => none
theorem rp_seq {K : PySem.W.Frag} {H : Hp} {v : V} {d : PyData} {k : Bool} {ds : List PyData} (r : Rp H v d) (h : isTup d = some k) (hi : itemsD d = some ds) : ∃ p vs, v = .ref p ∧ SqX k K H p vs ∧ RpL H vs ds ∧ ∀ H', Ex H H' → SqX k K H' p vs := by
  cases d <;> cases h
  · cases hi
    cases r with
    | lst g1 g2 => exact ⟨_, _, rfl, SqL.of g1, g2, fun H' e => SqL.of (e _ _ g1)⟩
  · cases hi
    cases r with
    | tup g1 g2 => exact ⟨_, _, rfl, SqT.of g1, g2, fun H' e => SqT.of (e _ _ g1)⟩
theorem Src.zip {j k : Bool} {K : PySem.W.Frag} {Z : Hp} {p q : Addr} {vs us : List V} {xs ys : List PyData} (h1 : ∀ H', Ex Z H' → SqX j K H' p vs) (h2 : ∀ H', Ex Z H' → SqX k K H' q us) (r1 : RpL Z vs xs) (r2 : RpL Z us ys) : Src (ItzM j k K p q vs us) (pairsD xs ys) Z := fun i H0 H e0 e => by
  have s1 := h1 H (e0.trans e)
  have s2 := h2 H (e0.trans e)
  refine ⟨fun d hd => ?_, fun hi => ?_⟩
  · obtain ⟨x, y, g1, g2, rfl⟩ := pairsD_get hd
    obtain ⟨v, hv, rv⟩ := r1.get g1
    obtain ⟨u, hu, ru⟩ := r2.get g2
    refine ⟨⟨s1, s2, (List.getElem?_eq_some_iff.mp hv).1, (List.getElem?_eq_some_iff.mp hu).1⟩, fun z H' ⟨T, x', y', e1, e2, e3, e4, e5⟩ => ?_⟩
    rw [hv] at e4
    rw [hu] at e5
    cases e4
    cases e5
    subst e1 e3
    have g := Grow.laid e (o := .tup [v, u]) e2
    exact ⟨_, g, .tup upd_same (.cons ((rv.mono e0).mono g.fz) (.one ((ru.mono e0).mono g.fz)))⟩
  · rw [pairsD_len] at hi
    have l1 := r1.length
    have l2 := r2.length
    exact ⟨s1, s2, by omega, by omega, by omega⟩
theorem wi_zip (j k : Bool) {ts : List Expr} {n : Nat} {tpos p : Pos} {Ξ : List PyData → List Sl → Prop} (h : WE c F a ρ fun d ρ1 => WE c F b ρ1 fun y ρ2 => ∃ xs ys, isTup d = some j ∧ itemsD d = some xs ∧ isTup y = some k ∧ itemsD y = some ys ∧ Ξ (pairsD xs ys) ρ2) (hm : c.mg "zip" = none)
    (hg : c.sc.names.lookup ("zip" : Str) = some NameKind.globalImplicit := by rfl) (hs : ∀ env, starEach [a, b] env = (false, eval a env) :: starEach [b] env := by intro _; rfl) (hs2 : ∀ env, starEach [b] env = (false, eval b env) :: starEach [] env := by intro _; rfl)
    (hpl : ∀ env, (backTo pos (starEach [b] env)).any (·.1) = false := by intro _; rfl) : WI c F (.Tuple ts n tpos) (.Call (.Name "zip" p) [a, b] [] pos) ρ Ξ := fun B σ H0 H hF E R q =>
  wpI_of (t := iZipM j k c.K (tCons (wpE c a) (tCons (wpE c b) tNil))) (fun X hX => by rw [← hX.K]; exact pi_zipM j k (by show X.env.scope.names.lookup _ = _; rw [hX.sc]; exact hg) (by rw [hX.mg]; exact hm) (pa_cons (peW hX) (pa_cons (peW hX) pa_nil (hs2 _)) (hs _)) (hs _) (hpl _))
    (h B σ H0 H hF E _ fun v d ρ1 H1 H1' E1 e1 r1 k1 => k1 B σ H1 H1' hF E1 _ fun u y ρ2 H2 H2' E2 e2 r2 ⟨xs, ys, g1, g2, g3, g4, k2⟩ => by
    obtain ⟨p1, vs, rfl, s1, rl1, st1⟩ := rp_seq (K := c.K) (r1.mono e2) g1 g2
    obtain ⟨p2, us, rfl, s2, rl2, st2⟩ := rp_seq (K := c.K) r2 g3 g4
    exact ⟨p1, p2, vs, us, rfl, st1 _ E2.ex, st2 _ E2.ex, q _ _ ρ2 H2 H2' E2 (e1.trans e2) (Src.zip st1 st2 rl1 rl2) k2⟩)
/-- 0, x; 1, y; .. -/
def enumD : Nat → List PyData → List PyData
  | _, [] => []
  | n, x :: xs => .tuple [.int (n : Int), x] :: enumD (n + 1) xs
theorem enumD_get : ∀ {xs : List PyData} {n i : Nat} {d : PyData}, (enumD n xs)[i]? = some d → ∃ x, xs[i]? = some x ∧ d = .tuple [.int ((n + i : Nat) : Int), x]
  | [], _, i, d, h => by simp [enumD] at h
  | x :: xs, n, 0, d, h => ⟨x, rfl, (Option.some.inj h).symm⟩
  | x :: xs, n, i + 1, d, h => by
    obtain ⟨y, h1, h2⟩ := enumD_get (xs := xs) (n := n + 1) (i := i) h
    exact ⟨y, h1, by rw [h2, show n + 1 + i = n + (i + 1) from by omega]⟩
theorem enumD_len : ∀ (n : Nat) (xs : List PyData), (enumD n xs).length = xs.length
  | _, [] => rfl
  | n, x :: xs => by simp only [enumD, List.length_cons, enumD_len (n + 1) xs]
theorem wi_enum {ts : List Expr} {n : Nat} {tpos p : Pos} {Ξ : List PyData → List Sl → Prop} (h : WE c F a ρ fun d ρ1 => ∃ xs, d = .list xs ∧ Ξ (enumD 0 xs) ρ1) (hm : c.mg "enumerate" = none) (hg : c.sc.names.lookup ("enumerate" : Str) = some NameKind.globalImplicit := by rfl)
    (hs : ∀ env, starEach [a] env = [(false, eval a env)] := by intro _; rfl) (hs2 : ∀ env, starEach [a] env = (false, eval a env) :: starEach [] env := by intro _; rfl) : WI c F (.Tuple ts n tpos) (.Call (.Name "enumerate" p) [a] [] pos) ρ Ξ := fun B σ H0 H hF E R q =>
  wpI_of (t := iEnum c.K (tCons (wpE c a) tNil)) (fun X hX => by rw [← hX.K]; exact pi_enum (by show X.env.scope.names.lookup _ = _; rw [hX.sc]; exact hg) (by rw [hX.mg]; exact hm) (pa_cons (peW hX) pa_nil (hs2 _)) (hs _))
    (h B σ H0 H hF E _ fun v d ρ1 H1 H1' E1 e1 r1 ⟨xs, k0, k1⟩ => by
    subst k0
    cases r1 with
    | @lst p vs _ g1 g2 =>
      refine ⟨p, vs, rfl, SqL.of (E1.ex _ _ g1), q _ _ ρ1 H1 H1' E1 e1 (fun i Z0 Z e0 e => ?_) k1⟩
      have hq : SqL c.K Z p vs := SqL.of (e _ _ (e0 _ _ g1))
      refine ⟨fun d hd => ?_, fun hi => ⟨vs, hq, by rw [enumD_len] at hi; rw [g2.length]; omega⟩⟩
      obtain ⟨x, w1, rfl⟩ := enumD_get hd
      obtain ⟨v, w2, w3⟩ := g2.get w1
      refine ⟨⟨vs, v, hq, w2⟩, fun z H' ⟨T, x', e1, e2, e3, e4⟩ => ?_⟩
      have e5 := e4 vs hq
      rw [w2] at e5
      cases e5
      subst e1 e3
      have g := Grow.laid e (o := .tup [.int (i : Nat), v]) e2
      refine ⟨_, g, .tup upd_same (.cons ?_ (.one ((w3.mono e0).mono g.fz)))⟩
      rw [Nat.zero_add]
      exact .int _)

/-! ### isinstance of a built-in type -/
def tyN : PyData → String
  | .none => "NoneType"
  | .bool _ => "bool"
  | .int _ => "int"
  | .str _ => "str"
  | .list _ => "list"
  | .tuple _ => "tuple"
  | .dict _ => "dict"
theorem Rp.ty {K : PySem.W.Frag} {H H' : Hp} {v : V} {d : PyData} (r : Rp H v d) (e : Ex H H') : TyX K H' v (.type (tyN d)) := by
  cases r with
  | non => exact .base .non
  | bl b => exact .base (.bl b)
  | int i => exact .base (.int i)
  | str x => exact .base (.str x)
  | lst h _ => exact .base (.lst (e _ _ h))
  | tup h _ => exact .base (.tup (e _ _ h))
  | dct h _ =>
    rcases h with h | ⟨o, h⟩
    · exact .base (.dK (e _ _ h))
    · exact .fDict (e _ _ h)
theorem we_isi {p pt : Pos} {x : Str} {T : String} (h : WE c F e ρ fun d ρ1 => ∃ k, kitB (tyN d) T = some k ∧ Φ (.bool k) ρ1) (hm : c.mg "isinstance" = none) (hT : c.mg x = none) (hv : bootBuiltins x = some (.type T)) (hg : c.sc.names.lookup ("isinstance" : Str) = some NameKind.globalImplicit := by rfl)
    (hgT : c.sc.names.lookup x = some NameKind.globalImplicit := by rfl) (hs : ∀ env, starEach [e, .Name x pt] env = (false, eval e env) :: starEach [.Name x pt] env := by intro _; rfl) (hs2 : ∀ env, starEach [.Name x pt] env = (false, eval (.Name x pt) env) :: starEach [] env := by intro _; rfl)
    (hpl : ∀ env, (backTo pos (starEach [.Name x pt] env)).any (·.1) = false := by intro _; rfl) (hn : x ≠ "__name__" := by decide) (hd : (x == ("__debug__" : Str)) = false := by decide) :
    WE c F (.Call (.Name "isinstance" p) [e, .Name x pt] [] pos) ρ Φ := fun B σ H0 H hF E Q q =>
  wpE_of (t := tCB (rIsi c.K) (tCons (wpE c e) (tCons (tC (.ty T)) tNil))) (fun X hX => by
      rw [← hX.K]
      exact pe_callB call_isi (by show X.env.scope.names.lookup _ = _; rw [hX.sc]; exact hg) (by rw [hX.mg]; exact hm) (by decide +kernel) (pa_cons (peW hX) (pa_cons (pe_bltn (by show X.env.scope.names.lookup _ = _; rw [hX.sc]; exact hgT) (by rw [hX.mg]; exact hT) hv rfl hn hd) pa_nil (hs2 _)) (hs _)) (by decide) (by decide) (hs _) (hpl _))
    (h B σ H0 H hF E _ fun v d ρ1 H1 H1' E1 e1 r1 ⟨k, k1, k2⟩ => ⟨v, .ty T, _, .type T, k, rfl, .ty T, r1.ty E1.ex, kit_ty k1, q _ _ ρ1 H1 H1' E1 e1 (.bl k) k2⟩)
/-- a constant of the module -/
theorem we_glob {x : Str} {v : V} {u : Value} {d : PyData} (hm : c.mg x = some u) (r : RelV v u) (hr : ∀ H : Hp, Rp H v d) (k : Φ d ρ) (hg : c.sc.names.lookup x = some NameKind.globalImplicit := by rfl) (hd : (x == ("__debug__" : Str)) = false := by decide) : WE c F (.Name x pos) ρ Φ := fun B σ H0 H hF E Q q =>
  wpE_of (t := tC v) (fun X hX => pe_glob (by show X.env.scope.names.lookup _ = _; rw [hX.sc]; exact hg) (by rw [hX.mg]; exact hm) r hd) (q v d ρ H0 H E (Ex.refl _) (hr _) k)
/-- x += e, ints -/
theorem ws_inc (i : Nat) {x : Str} {p' : Pos} (h : WE c F e ρ fun d ρ1 => ∃ m n : Int, ρ1[i]? = some (Sl.fz (.int m)) ∧ d = .int n ∧ D.nx (ρ1.set i (Sl.fz (.int (m + n))))) {m0 : Int} (h0 : ρ[i]? = some (Sl.fz (.int m0))) (hN : c.N[i]? = some x := by rfl) (hx : Loc c.sc x := by first | exact Or.inl rfl | exact Or.inr rfl)
    (hf : c.fn x = true ∨ c.sc.names.lookup x = some .local := by first | exact .inl rfl | exact .inr rfl) : WS c F (.AugAssign (.Name x p') .Add e pos) ρ D := fun B σ H0 H hF E Ed f =>
  wpS_of (t := tAug i (wpE c e) (ipI fun i j => i + j)) (fun X hX => ps_aug hX.nd (by rw [hX.N]; exact hN) (by rw [hX.sc]; exact hx) (peW hX) ip_add (by rw [hX.fn, hX.sc]; exact hf)) (by
    obtain ⟨v, g1, g2⟩ := E.fz i _ h0
    refine ⟨v, g1, h B σ H0 H hF E _ fun u d ρ1 H1 H1' E1 e1 r1 ⟨m, n, k1, k2, k3⟩ => ?_⟩
    subst k2
    cases r1
    obtain ⟨v', g3, g4⟩ := E1.fz i _ k1
    rw [g1] at g3
    cases g3
    cases g4
    exact ⟨m, n, rfl, rfl, f.nx _ _ H1 H1' (E1.set (.int _) (List.getElem?_eq_some_iff.mp k1).1) k3⟩)
/-- -a -/
theorem we_neg (h : WE c F a ρ fun d ρ1 => ∃ i : Int, d = .int i ∧ Φ (.int (-i)) ρ1) : WE c F (.UnaryOp .USub a pos) ρ Φ := fun B σ H0 H hF E Q q =>
  wpE_of (t := tUn (rU fun i => .int (-i)) (wpE c a)) (fun X hX => pe_un un_neg (peW hX)) (h B σ H0 H hF E _ fun v d ρ1 H1 H1' E1 e1 r1 ⟨i, k0, k1⟩ => by
    subst k0
    cases r1
    exact ⟨i, rfl, q _ _ ρ1 H1 H1' E1 e1 (.int _) k1⟩)
/-- xs[::-1] of a list -/
theorem we_rev {k : Nat} {p1 p2 p3 : Pos} (h : WE c F e ρ fun d ρ1 => ∃ xs, d = .list xs ∧ Φ (.list xs.reverse) ρ1) : WE c F (.Subscript e (.Slice none none (some (.UnaryOp .USub (.Constant (.int 1) k p1) p2)) p3) pos) ρ Φ := fun B σ H0 H hF E Q q =>
  wpE_of (t := tRevL c.K (wpE c e)) (fun X hX => by rw [← hX.K]; exact pe_revL (peW hX)) (h B σ H0 H hF E _ fun v d ρ1 H1 H1' E1 e1 r1 ⟨xs, k0, k1⟩ => by
    subst k0
    cases r1 with
    | @lst p vs _ g1 g2 =>
      refine ⟨p, vs, rfl, SqL.of (E1.ex _ _ g1), fun l hl => ?_⟩
      have g := Grow.laid E1.ex (o := .lst vs.reverse) hl
      refine q _ _ ρ1 _ _ (E1.grow g) (e1.trans g.fz) (.lst upd_same ?_) k1
      have rev : ∀ {us : List V} {ys : List PyData}, RpL H1 us ys → RpL H1 us.reverse ys.reverse := fun {us ys} r => by
        induction r using RpL.rec (motive_1 := fun _ _ _ => True) (motive_3 := fun _ _ _ => True) with
        | nil => exact .nil
        | cons h1 h2 _ ih =>
          rw [List.reverse_cons, List.reverse_cons]
          exact ih.append (.one h1)
        | _ => trivial
      exact (rev g2).mono g.fz)
end
end G

set_option Elab.async false
set_option linter.all false
set_option maxRecDepth 100000
set_option maxHeartbeats 1000000
namespace G
open PySem PySem.Spec PyProof.Rows L2
section
variable {c : Ct} {F : Fp} {ρ : List Sl} {pos apos cpos : Pos} {a b e : Expr} {es : List Expr} {D : SE} {Φ : PyData → List Sl → Prop} {Ψ : Bool → List Sl → Prop}
/-! ### a text, sign by sign -/
def signsD (x : Str) : List PyData := x.cps.toList.map fun (k : Nat) => PyData.str ⟨#[k]⟩
theorem Src.str {x : Str} {Z : Hp} : Src (Its x) (signsD x) Z := fun i H0 H e0 e => by
  have hl : (signsD x).length = x.cps.size := by unfold signsD; rw [List.length_map, Array.length_toList]
  refine ⟨fun d hd => ?_, fun hi => by rw [hl] at hi; exact Nat.le_of_eq hi.symm⟩
  have h1 : i < x.cps.size := by rw [← hl]; exact (List.getElem?_eq_some_iff.mp hd).1
  refine ⟨h1, fun v H' ⟨e1, k, e2, e3⟩ => ?_⟩
  subst e1 e3
  unfold signsD at hd
  rw [List.getElem?_map, Array.getElem?_toList, e2] at hd
  cases hd
  exact ⟨H0, Grow.refl e, .str _⟩
theorem wi_str {Ξ : List PyData → List Sl → Prop} {tg iter : Expr} (h : WE c F iter ρ fun d ρ1 => ∃ x, d = .str x ∧ Ξ (signsD x) ρ1) : WI c F tg iter ρ Ξ := fun B σ H0 H hF E R q =>
  wpI_of (t := iStr (wpE c iter)) (fun X hX => pi_str (peW hX)) (h B σ H0 H hF E _ fun v d ρ1 H1 H1' E1 e1 r1 ⟨x, k0, k1⟩ => by
    subst k0
    cases r1
    exact ⟨x, rfl, q _ _ ρ1 H1 H1' E1 e1 Src.str k1⟩)
theorem wc_inS (h : WE c F a ρ fun d ρ1 => WE c F b ρ1 fun y ρ2 => ∃ (k : Nat) (z : Str), d = .str ⟨#[k]⟩ ∧ y = .str z ∧ Φ (.bool (decide (k ∈ z.cps.toList))) ρ2) : WC c F .In a b ρ Φ :=
  ⟨_, fun X hX => op_in_sign, h.imp fun d ρ1 k => k.imp fun y ρ2 ⟨n, z, e1, e2, q⟩ => .flat q (fun H => .bl _) fun H0 H x u ex rx ru Q qq => by
    subst e1 e2; cases rx; cases ru; exact ⟨n, z, rfl, rfl, qq⟩⟩
/-! ### a <= b <= c of ints -/
def rLe2 : R2 := rI0 fun i j => .bl (decide (i ≤ j))
def rLt2 : R2 := rI0 fun i j => .bl (decide (i < j))
theorem we_chain {r r' : R2} {op op' : CmpOp} {g g' : Int → Int → Bool} {d : Expr} (hr : r = rI0 fun i j => .bl (g i j)) (hr' : r' = rI0 fun i j => .bl (g' i j)) (ho : ∀ X, OpR X (compareOp op) r) (ho' : ∀ X, OpR X (compareOp op') r')
    (h : WE c F a ρ fun x ρ1 => WE c F b ρ1 fun y ρ2 => ∃ i j : Int, x = .int i ∧ y = .int j ∧ (g i j = true → WE c F d ρ2 fun z ρ3 => ∃ m : Int, z = .int m ∧ Φ (.bool (g' j m)) ρ3) ∧ (g i j = false → Φ (.bool false) ρ2)) (hm : lastMarks [op, op'] [b, d] = false := by with_unfolding_all rfl) :
    WE c F (.Compare a [op, op'] [b, d] pos) ρ Φ := fun B σ H0 H hF E Q q =>
  wpE_of (fun X hX => pe_chain (ho X) (ho' X) (peW hX) (peW hX) (peW hX) hm) (h B σ H0 H hF E _ fun v x ρ1 H1 H1' E1 e1 r1 k1 => k1 B σ H1 H1' hF E1 _ fun u y ρ2 H2 H2' E2 e2 r2 ⟨i, j, k2, k3, k4, k5⟩ => by
    subst k2 k3 hr hr'
    cases r1
    cases r2
    refine ⟨i, j, rfl, rfl, g i j, rfl, ?_⟩
    cases hg : g i j with
    | true => exact iteT (k4 hg B σ H2 H2' hF E2 _ fun w z ρ3 H3 H3' E3 e3 r3 ⟨m, k6, k7⟩ => by
        subst k6
        cases r3
        exact ⟨j, m, rfl, rfl, q _ _ ρ3 H3 H3' E3 ((e1.trans e2).trans e3) (.bl _) k7⟩)
    | false => exact iteF (q _ _ ρ2 H2 H2' E2 (e1.trans e2) (.bl _) (k5 hg)))
theorem wt_chain {r r' : R2} {op op' : CmpOp} {g g' : Int → Int → Bool} {d : Expr} (hr : r = rI0 fun i j => .bl (g i j)) (hr' : r' = rI0 fun i j => .bl (g' i j)) (ho : ∀ X, OpR X (compareOp op) r) (ho' : ∀ X, OpR X (compareOp op') r')
    (h : WE c F a ρ fun x ρ1 => WE c F b ρ1 fun y ρ2 => ∃ i j : Int, x = .int i ∧ y = .int j ∧ (g i j = true → WE c F d ρ2 fun z ρ3 => ∃ m : Int, z = .int m ∧ Ψ (g' j m) ρ3) ∧ (g i j = false → Ψ false ρ2)) (hm : lastMarks [op, op'] [b, d] = false := by with_unfolding_all rfl) :
    WT c F (.Compare a [op, op'] [b, d] pos) ρ Ψ := fun B σ H0 H hF E Q q =>
  wpT_of (fun X hX => pt_chain (ho X) (ho' X) (peW hX) (peW hX) (peW hX) hm) (h B σ H0 H hF E _ fun v x ρ1 H1 H1' E1 e1 r1 k1 => k1 B σ H1 H1' hF E1 _ fun u y ρ2 H2 H2' E2 e2 r2 ⟨i, j, k2, k3, k4, k5⟩ => by
    subst k2 k3 hr hr'
    cases r1
    cases r2
    refine ⟨i, j, rfl, rfl, g i j, rfl, ?_⟩
    cases hg : g i j with
    | true => exact iteT (k4 hg B σ H2 H2' hF E2 _ fun w z ρ3 H3 H3' E3 e3 r3 ⟨m, k6, k7⟩ => by
        subst k6
        cases r3
        exact ⟨j, m, rfl, rfl, _, rfl, q _ ρ3 H3 H3' E3 ((e1.trans e2).trans e3) k7⟩)
    | false => exact iteF ⟨_, rfl, q _ ρ2 H2 H2' E2 (e1.trans e2) (k5 hg)⟩)
/-- a <= b <= d -/
theorem wt_lele {d : Expr} (h : WE c F a ρ fun x ρ1 => WE c F b ρ1 fun y ρ2 => ∃ i j : Int, x = .int i ∧ y = .int j ∧ (decide (i ≤ j) = true → WE c F d ρ2 fun z ρ3 => ∃ m : Int, z = .int m ∧ Ψ (decide (j ≤ m)) ρ3) ∧ (decide (i ≤ j) = false → Ψ false ρ2)) (hm : lastMarks [.LtE, .LtE] [b, d] = false := by with_unfolding_all rfl) : WT c F (.Compare a [.LtE, .LtE] [b, d] pos) ρ Ψ :=
  wt_chain rfl rfl (fun X => op_le) (fun X => op_le) h hm
theorem we_lele {d : Expr} (h : WE c F a ρ fun x ρ1 => WE c F b ρ1 fun y ρ2 => ∃ i j : Int, x = .int i ∧ y = .int j ∧ (decide (i ≤ j) = true → WE c F d ρ2 fun z ρ3 => ∃ m : Int, z = .int m ∧ Φ (.bool (decide (j ≤ m))) ρ3) ∧ (decide (i ≤ j) = false → Φ (.bool false) ρ2)) (hm : lastMarks [.LtE, .LtE] [b, d] = false := by with_unfolding_all rfl) : WE c F (.Compare a [.LtE, .LtE] [b, d] pos) ρ Φ :=
  we_chain rfl rfl (fun X => op_le) (fun X => op_le) h hm
theorem we_lelt {d : Expr} (h : WE c F a ρ fun x ρ1 => WE c F b ρ1 fun y ρ2 => ∃ i j : Int, x = .int i ∧ y = .int j ∧ (decide (i ≤ j) = true → WE c F d ρ2 fun z ρ3 => ∃ m : Int, z = .int m ∧ Φ (.bool (decide (j < m))) ρ3) ∧ (decide (i ≤ j) = false → Φ (.bool false) ρ2)) (hm : lastMarks [.LtE, .Lt] [b, d] = false := by with_unfolding_all rfl) : WE c F (.Compare a [.LtE, .Lt] [b, d] pos) ρ Φ :=
  we_chain rfl rfl (fun X => op_le) (fun X => op_lt) h hm

/-! ### a * b -/
def rMulT1 (K : PySem.W.Frag) : R2 := fun x y H Q => ∃ l k xs, x = .ref l ∧ y = .int k ∧ SqT K H l xs ∧ xs ≠ [] ∧ ((k = 1 ∧ Q (.ref l) H) ∨ (k = 0 ∧ ∀ p, H p = none → Q (.ref p) (upd H p (.tup []))))
theorem op_mulT1 {X : Cx} : OpR X (binaryOp .Mult) (rMulT1 X.K) := by
  intro pins s σ H x y v u Q I rx ry h
  obtain ⟨l, k, xs, rfl, rfl, hT, hne, h⟩ := h
  cases rx
  obtain ⟨t, rfl⟩ := ry
  obtain ⟨its, r, ⟨⟨cls, dd, data, sl⟩, ho, hc, n, hd⟩, hs⟩ := I.tuple hT
  simp only at hc hd
  subst hc hd
  have hn : its.toArray.isEmpty = false := by
    cases its with
    | nil => cases r; exact absurd rfl hne
    | cons _ _ => rfl
  rcases h with ⟨rfl, q⟩ | ⟨rfl, q⟩
  · refine wpAny_binaryOp_repeat_ref (T := "tuple") (U := "int") (by decide) ⟨_, ho, rfl⟩ (fun s' => typeIs_int s' 1 t) noFill_tuple_mul F.fills_int_mul F.slot_int_rmul repeat_tuple F.slot_int_index.lookup
      (call_meets F.slot_int_rmul (typeIs_int s 1 t) F.entry_int_rmul (F.args_int_rmul_2 _ _) (int_rmul_tuple 1 t l its.toArray n dd sl)
        ⟨ho, rfl, ⟨_, ho, rfl⟩, call_meets F.slot_tuple_mul ⟨_, ho, rfl⟩ F.entry_tuple_mul (F.args_tuple_mul_2 _ _) (mulOne l its.toArray n dd sl t) ⟨ho, ⟨.ref l, H, I, rfl, q⟩⟩⟩)
  · refine wpAny_binaryOp_repeat_ref (T := "tuple") (U := "int") (by decide) ⟨_, ho, rfl⟩ (fun s' => typeIs_int s' 0 t) noFill_tuple_mul F.fills_int_mul F.slot_int_rmul repeat_tuple F.slot_int_index.lookup
      (call_meets F.slot_int_rmul (typeIs_int s 0 t) F.entry_int_rmul (F.args_int_rmul_2 _ _) (int_rmul_tuple 0 t l its.toArray n dd sl)
        ⟨ho, rfl, ⟨_, ho, rfl⟩, call_meets F.slot_tuple_mul ⟨_, ho, rfl⟩ F.entry_tuple_mul (F.args_tuple_mul_2 _ _) (mulNone l its.toArray n dd sl t hn) ⟨ho, ?_⟩⟩)
    refine ⟨.ref s.heap.objs.size, _, I.laid (t' := s.toks) (o := .tup []) (fun b ob q => Heap.get?_push_of_some _ q) (Nat.le_refl _) ?_, rfl, q _ (I.hok.fresh (Nat.le_refl _))⟩
    exact ⟨Nat.zero_le _, [], .nil, IsTup.new _ _⟩
/-- what * is worth -/
def MulD (d y z : PyData) : Prop := (∃ i j : Int, d = .int i ∧ y = .int j ∧ z = .int (i * j) ∧ ∃ m n : Nat, i.natAbs < 2 ^ m ∧ j.natAbs < 2 ^ n ∧ 0 < m ∧ 0 < n ∧ m + n ≤ 1000000) ∨
  (∃ (xs : List PyData) (k : Nat), d = .tuple xs ∧ y = .int (k : Int) ∧ z = .tuple (List.replicate k xs).flatten ∧ xs ≠ [] ∧ xs.length ≤ 100 ∧ k ≤ 100) ∨
  (∃ (xs : List PyData) (k : Nat), d = .list xs ∧ y = .int (k : Int) ∧ z = .list (List.replicate k xs).flatten ∧ xs.length ≤ 100 ∧ k ≤ 100)
def rMulD (K : PySem.W.Frag) : R2 := fun x y H Q => (rI CMulW fun i j => .int (i * j)) x y H Q ∨ rRepT K x y H Q ∨ rMulT1 K x y H Q ∨ rRep x y H Q
theorem flat_len {α : Type} (xs : List α) : ∀ k : Nat, (List.replicate k xs).flatten.length = k * xs.length
  | 0 => by simp
  | k + 1 => by rw [List.replicate_succ, List.flatten_cons, List.length_append, flat_len xs k, Nat.succ_mul, Nat.add_comm]
theorem we_mul (h : WE c F a ρ fun d ρ1 => WE c F b ρ1 fun y ρ2 => ∃ z, MulD d y z ∧ Φ z ρ2) : WE c F (.BinOp a .Mult b pos) ρ Φ :=
  we_op (r := rMulD c.K) (fun X hX => by rw [← hX.K]; exact op_mulW.or (op_repT.or (op_mulT1.or op_rep))) (h.imp fun d ρ1 hb => hb.imp fun y ρ2 hz => by
    obtain ⟨z, hz, q⟩ := hz
    rcases hz with ⟨i, j, rfl, rfl, rfl, m, n, b1, b2, b3, b4, b5⟩ | ⟨xs, k, rfl, rfl, rfl, hne, hl, hk⟩ | ⟨xs, k, rfl, rfl, rfl, hl, hk⟩
    · exact .flat q (fun H => .int _) fun H0 H x u ex rx ru Q qq => by
        cases rx; cases ru; exact .inl ⟨i, j, rfl, rfl, wide_mul b1 b2 b3 b4 b5, qq⟩
    · intro H0 H x u ex rx ru Q qq
      cases rx with
      | @tup p vs _ g1 g2 =>
        cases ru
        have hv : vs ≠ [] := fun e => hne (by subst e; cases g2; rfl)
        have lv : vs.length ≤ 100 := by rw [g2.length]; exact hl
        by_cases h2 : 2 ≤ k
        · refine .inr (.inl ⟨p, _, vs, rfl, rfl, SqT.of (ex _ _ g1), hv, by omega, by omega, by omega, fun l hl => ?_⟩)
          have g := Grow.laid ex (o := .tup (List.replicate (k : Int).toNat vs).flatten) hl
          exact qq _ _ _ _ g (.tup upd_same (by rw [Int.toNat_natCast]; exact ((g2.flatten_rep k).mono g.fz))) q
        · refine .inr (.inr (.inl ⟨p, _, vs, rfl, rfl, SqT.of (ex _ _ g1), hv, ?_⟩))
          match k, h2 with
          | 0, _ =>
            refine .inr ⟨rfl, fun l hl => ?_⟩
            have g := Grow.laid ex (o := .tup []) hl
            exact qq _ _ _ _ g (.tup upd_same .nil) q
          | 1, _ =>
            refine .inl ⟨rfl, qq _ _ H0 H (Grow.refl ex) (.tup g1 ?_) q⟩
            show RpL H0 vs (xs ++ [])
            rw [List.append_nil]
            exact g2
          | k + 2, h2 => omega
    · intro H0 H x u ex rx ru Q qq
      cases rx with
      | @lst p vs _ g1 g2 =>
        cases ru
        have lv : vs.length ≤ 100 := by rw [g2.length]; exact hl
        refine .inr (.inr (.inr ⟨p, _, vs, rfl, rfl, ex _ _ g1, by omega, by omega, sz (by rw [Int.toNat_natCast]; have : vs.length * k ≤ 100 * 100 := Nat.mul_le_mul lv hk; omega), fun l hl => ?_⟩))
        have g := Grow.laid ex (o := .lst (List.replicate (k : Int).toNat vs).flatten) hl
        exact qq _ _ _ _ g (.lst upd_same (by rw [Int.toNat_natCast]; exact ((g2.flatten_rep k).mono g.fz))) q)
/-! ### divmod -/
theorem we_divmod {p : Pos} (h : WE c F a ρ fun d ρ1 => WE c F b ρ1 fun y ρ2 => ∃ i j : Int, d = .int i ∧ y = .int j ∧ (0 < j ∧ j.natAbs.log2 < 9000) ∧ Φ (.tuple [.int (i / j), .int (i % j)]) ρ2) (hm : c.mg "divmod" = none) (hg : c.sc.names.lookup ("divmod" : Str) = some NameKind.globalImplicit := by rfl)
    (hs : ∀ env, starEach [a, b] env = (false, eval a env) :: starEach [b] env := by intro _; rfl) (hs2 : ∀ env, starEach [b] env = (false, eval b env) :: starEach [] env := by intro _; rfl) (hpl : ∀ env, (backTo pos (starEach [b] env)).any (·.1) = false := by intro _; rfl) : WE c F (.Call (.Name "divmod" p) [a, b] [] pos) ρ Φ :=
  we_callB (fun X hX => call_divmodW) (wa_cons (h.imp fun d ρ1 k => wa_cons (k.imp fun y ρ2 ⟨i, j, e1, e2, b1, q⟩ => wa_nil (fun H0 H vs ex rs Q qq => by
    subst e1 e2
    cases rs with
    | cons r1 r2 =>
      cases r2 with
      | cons r2 r3 =>
        cases r3
        cases r1
        cases r2
        refine ⟨i, j, rfl, ⟨b1.1, PyProof.noPylong_of_log2 b1.2⟩, fun l hl => ?_⟩
        have g := Grow.laid ex (o := .tup [.int (i / j), .int (i % j)]) hl
        exact qq _ _ _ _ g (.tup upd_same (.cons (.int _) (.one (.int _)))) q)) hs2) hs) hg hm (by decide +kernel) (by decide) (by decide) hs hpl
/-! ### a, b = x, y -/
theorem ws_par (i j : Nat) {x y : Str} {px py pt pt2 : Pos} {kt k2 : Nat} (h : WA c F [a, b] ρ fun ds ρ1 => ∃ d e, ds = [d, e] ∧ D.nx ((ρ1.set i (Sl.fz d)).set j (Sl.fz e)) ∧ i < ρ1.length ∧ j < ρ1.length) (hN : c.N[i]? = some x := by rfl) (hM : c.N[j]? = some y := by rfl) (hij : i ≠ j := by decide)
    (hx : c.sc.names.lookup x = some .local := by rfl) (hy : c.sc.names.lookup y = some .local := by rfl) (hw : ∀ env : Env, env.scope = c.sc → swappedStores [.Tuple [.Name x px, .Name y py] kt pt] (.Tuple [a, b] k2 pt2) env = pure (some [x, y]))
    (hs : ∀ env, swapsWithSole [.Tuple [.Name x px, .Name y py] kt pt] (.Tuple [a, b] k2 pt2) pos.line env = pure false := by intro _; rfl) : WS c F (.Assign [.Tuple [.Name x px, .Name y py] kt pt] (.Tuple [a, b] k2 pt2) pos) ρ D := fun B σ H0 H hF E Ed f =>
  wpS_of (fun X hX => ps_par hX.calm hX.nd (by rw [hX.N]; exact hN) (by rw [hX.N]; exact hM) hij (by rw [hX.sc]; exact hx) (by rw [hX.sc]; exact hy) (paW hX) (hw _ hX.sc) (hs _)) (h B σ H0 H hF E _ fun vs ds ρ1 H1 H1' E1 e1 r1 ⟨d, e, k0, k1, k2, k3⟩ => by
    subst k0
    cases r1 with
    | cons r1 r2 =>
      cases r2 with
      | cons r2 r3 =>
        cases r3
        exact ⟨_, _, rfl, f.nx _ _ H1 H1' ((E1.set r1 k2).set r2 (by rw [List.length_set]; exact k3)) k1⟩)
end
end G

set_option Elab.async false
set_option linter.all false
set_option maxRecDepth 100000
set_option maxHeartbeats 1000000
namespace G
open PySem PySem.Spec PyProof.Rows L2
section
variable {c : Ct} {F : Fp} {ρ : List Sl} {pos apos cpos : Pos} {a b e : Expr} {es : List Expr} {D : SE}
theorem take_snoc {α : Type} {l : List α} {i : Nat} {x : α} (h : l[i]? = some x) : l.take (i + 1) = l.take i ++ [x] := by
  rw [List.take_add_one, h]
  rfl
/-- [f(x) for x in xs]: any target -/
theorem wl_mapG {elt tg iter : Expr} {scope : Scope} {g : TG} {Φ : List PyData → List Sl → Prop} (own : List (Str × Nat)) (f : PyData → PyData) (st : List Sl → PyData → List Sl) (hg : ∀ X, Has (c.blk scope) X → PG X tg g) (ok : blkC c.N c.sc scope own = true)
    (h : WI c F tg iter ρ fun ds ρ1 => ds.length ≤ 90000 ∧ (∀ d ∈ ds, GD g (own.map (·.2)) (unset ρ1 (own.map (·.2))) d (st (unset ρ1 (own.map (·.2))) d) ∧ WE (c.blk scope) F elt (st (unset ρ1 (own.map (·.2))) d) fun z ρ4 => z = f d ∧ unset ρ4 (own.map (·.2)) = unset ρ1 (own.map (·.2))) ∧ Φ (ds.map f) (unset (unset ρ1 (own.map (·.2))) (own.map (·.2)))) (hs : ∀ env x, foldedSetIterable iter env x = pure x := by intro _ _; rfl) :
    WL c F (.ListComp elt [⟨tg, iter, [], 0⟩] scope pos) ρ Φ := by
  refine wl_lc own hg ok (fun B σ H0 H hF E R q => h B σ H0 H hF E R fun J ds ρ1 H0' H' E' e' src ⟨lim, step, fin⟩ => q J ds ρ1 H0' H' E' e' src ?_) hs
  refine ⟨fun i acc ρ' => acc = (ds.take i).map f ∧ ρ' = unset ρ1 (own.map (·.2)), lim, ⟨by simp, rfl⟩, ?_, ?_⟩
  · rintro i d acc _ hd _ ⟨rfl, rfl⟩
    obtain ⟨s1, s2⟩ := step d (List.mem_of_getElem? hd)
    refine ⟨_, s1, wts_nil ⟨fun _ => s2.imp fun z ρ4 ⟨e1, e2⟩ => ⟨?_, e2⟩, fun h => nomatch h⟩⟩
    rw [take_snoc hd, List.map_append, e1]
    rfl
  · rintro acc _ _ ⟨rfl, rfl⟩
    rw [List.take_length]
    exact fin
/-- .. the target a name -/
theorem wl_map {elt iter : Expr} {scope : Scope} {x : Str} {px : Pos} {Φ : List PyData → List Sl → Prop} (own : List (Str × Nat)) (j : Nat) (f : PyData → PyData) (ok : blkC c.N c.sc scope own = true)
    (h : WI c F (.Name x px) iter ρ fun ds ρ1 => ds.length ≤ 90000 ∧ j < ρ1.length ∧ (∀ d ∈ ds, WE (c.blk scope) F elt ((unset ρ1 (own.map (·.2))).set j (Sl.fz d)) fun z ρ4 => z = f d ∧ unset ρ4 (own.map (·.2)) = unset ρ1 (own.map (·.2))) ∧ Φ (ds.map f) (unset (unset ρ1 (own.map (·.2))) (own.map (·.2)))) (hs : ∀ env x, foldedSetIterable iter env x = pure x := by intro _ _; rfl)
    (hj : j ∈ own.map (·.2) := by decide) (hN : (c.blk scope).N[j]? = some x := by rfl) (hx : Loc (c.blk scope).sc x := by first | exact Or.inl rfl | exact Or.inr rfl) (hf : (c.blk scope).fn x = true ∨ (c.blk scope).sc.names.lookup x = some .local := by first | exact .inl rfl | exact .inr rfl) :
    WL c F (.ListComp elt [⟨.Name x px, iter, [], 0⟩] scope pos) ρ Φ := by
  refine wl_mapG own f (fun ρ1 d => ρ1.set j (Sl.fz d)) (fun X hX => pg_name hX.nd (by rw [hX.N]; exact hN) (by rw [hX.sc]; exact hx) (by rw [hX.fn, hX.sc]; exact hf)) ok ?_ hs
  exact fun B σ H0 H hF E R q => h B σ H0 H hF E R fun J ds ρ1 H0' H' E' e' src ⟨lim, hl, step, fin⟩ => q J ds ρ1 H0' H' E' e' src ⟨lim, fun d hd => ⟨gd_name j hj (by rw [unset_len]; exact hl), step d hd⟩, fin⟩
end
end G

set_option Elab.async false
set_option linter.all false
set_option maxRecDepth 100000
set_option maxHeartbeats 1000000
namespace G
open PySem PySem.Spec PyProof.Rows L2
/-! ### sorted(xs), over data -/
def rSortD (K : PySem.W.Frag) (xs : List V) (H : Hp) (Q : VK) : Prop := ∃ (a : Addr) (bs : List (V × PyData)), xs = [.ref a] ∧ SqL K H a (bs.map (·.1)) ∧ (∀ b ∈ bs, Dp K H b.1 b.2) ∧ PySem.W.AllAlike (bs.map (·.2)) ∧ PySem.W.Sortable (bs.map (·.2)) ∧ (∀ b ∈ bs, b.2.depth ≤ 60) ∧
  ∀ p, H p = none → Q (.ref p) (upd H p (.lst ((bs.mergeSort (PySem.W.dataLe false Prod.snd)).map (·.1))))
theorem each_of {X : Cx} {pins : List (Addr × Obj)} {σ : L2.St} {H : Hp} {s : Shared} (I : Inv X pins σ H s) : ∀ {bs : List (V × PyData)} {its : List Value}, Vals (bs.map (·.1)) its → (∀ b ∈ bs, Dp X.K H b.1 b.2) →
    PySem.W.EachIs (fun v (b : V × PyData) => RelV b.1 v) its bs ∧ PySem.W.EachIs (fun v (b : V × PyData) => ∃ as, Reads s.heap v b.2 as) its bs
  | [], its, h, _ => by cases h; exact ⟨.nil, .nil⟩
  | b :: bs, its, h, hd => by
    cases h with
    | cons h1 h2 =>
      obtain ⟨q1, q2⟩ := each_of I h2 fun c hc => hd c (List.mem_cons_of_mem _ hc)
      exact ⟨.cons h1 q1, .cons (Dp.reads I _ _ _ (hd b List.mem_cons_self) h1) q2⟩
theorem vals_of_each : ∀ {out : List Value} {bs : List (V × PyData)}, PySem.W.EachIs (fun v (b : V × PyData) => RelV b.1 v) out bs → Vals (bs.map (·.1)) out
  | _, _, .nil => .nil
  | _, _, .cons h t => .cons h (vals_of_each t)
theorem cr_sortedD {X : Cx} (hu : X.A.units + 64 < cLine) : CallR X (.builtin "sorted") (rSortD X.K) := by
  intro pins s σ H xs us Q I r h
  obtain ⟨a, bs, rfl, hS, hD, hA, hT, hd, q⟩ := h
  obtain ⟨u, rfl, ru⟩ := vals1 r
  cases ru
  obtain ⟨its, rv, hl, hz⟩ := I.list hS
  obtain ⟨e1, e2⟩ := each_of I rv hD
  have hlen : its.length = bs.length := by rw [← rv.length, List.length_map]
  refine PySem.W.sorted_data (vs := its) (bs := bs) (enc := Prod.snd) (R := fun v (b : V × PyData) => RelV b.1 v) hl.isList e1 e2 hA hT (by rw [List.length_map] at hz; exact hz) (fun b hb => by have := hd b hb; omega) fun out ho hr => ?_
  refine ⟨.ref (s.heap.objs.size + 1), _, I.laid (t' := s.toks) (o := .lst ((bs.mergeSort (PySem.W.dataLe false Prod.snd)).map (·.1))) ?_ (Nat.le_succ _) ?_, rfl, q _ (I.hok.fresh (Nat.le_succ _))⟩
  · intro b ob h
    exact sortedAll_old h
  · obtain ⟨e, he⟩ := PyProof.Rows.sortedAll_at s.heap its out.toArray
    refine ⟨?_, out, e, vals_of_each hr, he⟩
    rw [List.length_map, List.length_mergeSort, ← List.length_map (f := (·.1)) (as := bs)]
    exact hz
theorem rpl_zip {H : Hp} : ∀ {vs : List V} {ds : List PyData}, RpL H vs ds → (∀ b ∈ List.zip vs ds, Rp H b.1 b.2) ∧ (List.zip vs ds).map (·.1) = vs ∧ (List.zip vs ds).map (·.2) = ds
  | _, _, .nil => ⟨fun b h => (by cases h), rfl, rfl⟩
  | _, _, .cons h t => by
    obtain ⟨q1, q2, q3⟩ := rpl_zip t
    refine ⟨fun b hb => ?_, by rw [List.zip_cons_cons, List.map_cons, q2], by rw [List.zip_cons_cons, List.map_cons, q3]⟩
    rcases List.mem_cons.mp hb with hb | hb
    · subst hb; exact h
    · exact q1 b hb
theorem rpl_pairs {H : Hp} : ∀ {bs : List (V × PyData)}, (∀ b ∈ bs, Rp H b.1 b.2) → RpL H (bs.map (·.1)) (bs.map (·.2))
  | [], _ => .nil
  | b :: bs, h => .cons (h b List.mem_cons_self) (rpl_pairs fun c hc => h c (List.mem_cons_of_mem _ hc))
theorem plainL_mem : ∀ {ds : List PyData}, plainL ds = true → ∀ d ∈ ds, plain d = true
  | [], _, d, h => by cases h
  | e :: ds, p, d, h => by
    have p' : (plain e && plainL ds) = true := p
    rw [Bool.and_eq_true] at p'
    rcases List.mem_cons.mp h with h | h
    · subst h; exact p'.1
    · exact plainL_mem p'.2 d h
/-- what sorted gives -/
def sortD (ds : List PyData) : List PyData := ds.mergeSort (PySem.W.dataLe false id)
structure CanSort (ds : List PyData) : Prop where
  pl : plainL ds = true
  al : PySem.W.AllAlike ds
  so : PySem.W.Sortable ds
  dp : ∀ d ∈ ds, d.depth ≤ 60
section
variable {c : Ct} {F : Fp} {ρ : List Sl} {pos : Pos} {e : Expr} {Φ : PyData → List Sl → Prop}
theorem we_sorted {p : Pos} (h : WE c F e ρ fun d ρ1 => ∃ ds, d = .list ds ∧ CanSort ds ∧ Φ (.list (sortD ds)) ρ1) (hm : c.mg "sorted" = none) (hg : c.sc.names.lookup ("sorted" : Str) = some NameKind.globalImplicit := by rfl) (hs : ∀ env, starEach [e] env = (false, eval e env) :: starEach [] env := by intro _; rfl)
    (hpl : ∀ env, (backTo pos (starEach [] env)).any (·.1) = false := by intro _; rfl) : WE c F (.Call (.Name "sorted" p) [e] [] pos) ρ Φ :=
  we_callB (r := rSortD c.K) (fun X hX => by rw [← hX.K]; exact cr_sortedD hX.room.units) (wa_cons (h.imp fun d ρ1 ⟨ds, h1, h2, h3⟩ => wa_nil (by
    subst h1
    intro H0 H vs ex rs Q q
    cases rs with
    | cons r1 r2 =>
      cases r2
      cases r1 with
      | lst g1 g2 =>
        rename_i a xs
        obtain ⟨z1, z2, z3⟩ := rpl_zip g2
        refine ⟨a, List.zip xs ds, rfl, by rw [z2]; exact SqL.of (ex _ _ g1), fun b hb => ?_, by rw [z3]; exact h2.al, by rw [z3]; exact h2.so, fun b hb => ?_, fun p hp => ?_⟩
        · have hb2 : b.2 ∈ ds := by rw [← z3]; exact List.mem_map_of_mem hb
          exact ((z1 b hb).mono ex).dp (plainL_mem h2.pl _ hb2)
        · exact h2.dp _ (by rw [← z3]; exact List.mem_map_of_mem hb)
        · have g := Grow.laid ex (o := .lst (((List.zip xs ds).mergeSort (PySem.W.dataLe false Prod.snd)).map (·.1))) hp
          refine q _ _ _ _ g (.lst upd_same ?_) h3
          have e : sortD ds = ((List.zip xs ds).mergeSort (PySem.W.dataLe false Prod.snd)).map (·.2) := by
            have w := List.map_mergeSort (r := PySem.W.dataLe false Prod.snd) (s := PySem.W.dataLe false id) (f := Prod.snd) (l := List.zip xs ds) (fun a _ b _ => rfl)
            have z3' : List.map Prod.snd (List.zip xs ds) = ds := z3
            rw [z3'] at w
            exact w.symm
          rw [e]
          exact rpl_pairs fun b hb => (z1 b (List.mem_mergeSort.mp hb)).mono g.fz)) hs) hg hm (by decide +kernel) (by decide) (by decide) hs hpl
end
end G

set_option Elab.async false
set_option linter.all false
set_option maxRecDepth 100000
set_option maxHeartbeats 1000000
namespace G
open PySem PySem.Spec PyProof.Rows L2
theorem RpL.strs {H : Hp} : ∀ {vs : List V} {ns : List Str}, RpL H vs (ns.map PyData.str) → vs = ns.map V.str
  | [], [], _ => rfl
  | v :: vs, n :: ns, h => by
    cases h with
    | cons h t =>
      cases h
      rw [RpL.strs t]
      rfl
section
variable {c : Ct} {F : Fp} {ρ : List Sl} {pos apos cpos : Pos} {e o : Expr} {Φ : PyData → List Sl → Prop}
theorem we_join (h : WE c F o ρ fun d ρ1 => ∃ a, d = .str a ∧ WE c F e ρ1 fun y ρ2 => ∃ ys : List Str, y = .list (ys.map PyData.str) ∧ (ys.map (·.length)).sum + ys.length * a.length ≤ 16777216 ∧ Φ (.str (Txt.join a ys)) ρ2)
    (hs : ∀ env, starEach [e] env = [(false, eval e env)] := by intro _; rfl) (hb : ∀ env, attributeBase o "join" env (eval o env) = eval o env := by intro _; rfl) (hl : (apos.endLine == pos.line) = true := by rfl) : WE c F (.Call (.Attribute o "join" apos) [e] [] pos) ρ Φ := fun B σ H0 H hF E Q q =>
  wpE_of (t := tM1 (fun x xs H Q => ∃ (a : Str) (p : Addr) (ys : List Str), x = .str a ∧ xs = [.ref p] ∧ (SqL c.K H p (ys.map V.str) ∨ SqT c.K H p (ys.map V.str)) ∧ (ys.map (·.length)).sum + ys.length * a.length ≤ 16777216 ∧ Q (.str (Txt.join a ys)) H) (wpE c o) (wpE c e)) (fun X hX => by rw [← hX.K]; exact pe_join (X := X) (peW hX) (peW hX) (hs _) (hb _) hl) (h B σ H0 H hF E _ fun v d ρ1 H1 H1' E1 e1 r1 ⟨a, k0, k1⟩ => by
    subst k0
    cases r1
    refine ⟨⟨a, rfl⟩, k1 B σ H1 H1' hF E1 _ fun u y ρ2 H2 H2' E2 e2 r2 ⟨ys, k2, k3, k4⟩ => ?_⟩
    subst k2
    cases r2 with
    | lst g1 g2 =>
      refine ⟨a, _, ys, rfl, rfl, .inl ?_, k3, q _ _ ρ2 H2 H2' E2 (e1.trans e2) (.str _) k4⟩
      rw [← g2.strs]
      exact SqL.of (E2.ex _ _ g1))
theorem we_sindex (h : WE c F o ρ fun d ρ1 => ∃ a, d = .str a ∧ WE c F e ρ1 fun y ρ2 => ∃ (b : Str) (i : Nat) (rest : List Nat), y = .str b ∧ PySem.Builtin.Str.occurrences a b 0 a.length 1 = i :: rest ∧ Φ (.int (i : Int)) ρ2)
    (hs : ∀ env, starEach [e] env = (false, eval e env) :: starEach [] env := by intro _; rfl) (hb : ∀ env, attributeBase o "index" env (eval o env) = eval o env := by intro _; rfl) (hl : (apos.endLine == cpos.line) = true := by rfl)
    (hfew : ∀ env, ((backTo cpos (starEach [e] env)).all (fun x => !x.1) && (backToKw cpos (keywordEach [] env)).all (fun x => x.1.isSome) && decide ([e].length + ([] : List Keyword).length + (if ([] : List Keyword).isEmpty then 0 else 1) < 30)) = true := by intro _; rfl) (hpl : ∀ env, (backTo cpos (starEach [] env)).any (·.1) = false := by intro _; rfl) : WE c F (.Call (.Attribute o "index" apos) [e] [] cpos) ρ Φ := fun B σ H0 H hF E Q q =>
  wpE_of (t := tBM c.K "str" (fun x xs H Q => ∃ (a b : Str) (i : Nat) (rest : List Nat), x = .str a ∧ xs = [.str b] ∧ PySem.Builtin.Str.occurrences a b 0 a.length 1 = i :: rest ∧ Q (.int (i : Int)) H) (wpE c o) (tCons (wpE c e) tNil)) (fun X hX => by rw [← hX.K]; exact pe_bm PySem.F.plainAttrs_str PySem.F.slot_str_index PySem.F.type_str_index mt_sindex (peW hX) (pa_cons (peW hX) pa_nil (hs _)) (hb _) (hfew _) hl (hs _) (hpl _)) (h B σ H0 H hF E _ fun v d ρ1 H1 H1' E1 e1 r1 ⟨a, k0, k1⟩ => by
    subst k0
    cases r1
    refine ⟨rfl, k1 B σ H1 H1' hF E1 _ fun u y ρ2 H2 H2' E2 e2 r2 ⟨b, i, rest, k2, k3, k4⟩ => ?_⟩
    subst k2
    cases r2
    exact ⟨a, b, i, rest, rfl, rfl, k3, q _ _ ρ2 H2 H2' E2 (e1.trans e2) (.int _) k4⟩)
end
end G

set_option Elab.async false
set_option linter.all false
set_option maxRecDepth 100000
set_option maxHeartbeats 1000000
namespace G
open PySem PySem.Spec PyProof.Rows L2
/-- something laid that nobody names -/
theorem En.junk {B : Bs} {ρ : List Sl} {σ : L2.St} {H0 H : Hp} {p : Addr} {o : HO} (E : En B ρ σ H0 H) (h : H p = none) : En B ρ σ H0 (upd H p o) where
  len := E.len
  e0 := E.e0
  ex := E.ex.trans (Ex.new h)
  kp := fun a ob h1 h2 h3 => by
    obtain ⟨q1, q2⟩ := E.kp a ob h1 h2 h3
    exact ⟨by rw [upd_ne (ne_of_none q1 h)]; exact q1, q2⟩
  fF := fun a ha => by
    obtain ⟨q1, ob, q2⟩ := E.fF a ha
    exact ⟨q1, ob, by rw [upd_ne (ne_of_none q2 h)]; exact q2⟩
  fz := E.fz
  ow := fun i ds q => by
    obtain ⟨l, vs, z1, z2, z3, z4, z5, z6⟩ := E.ow i ds q
    exact ⟨l, vs, z1, by rw [upd_ne (ne_of_none z2 h)]; exact z2, z3, z4, z5, z6⟩
  sep := E.sep
  dk := fun i n q => by
    obtain ⟨a, z1, z2⟩ := E.dk i n q
    exact ⟨a, z1, z2.grow (Ex.new h)⟩
  one := E.one
  pn := E.pn
  od := fun i ds q => by
    obtain ⟨l, vs, z1, z2, z3, z4, z5, z6⟩ := E.od i ds q
    exact ⟨l, vs, z1, by rw [upd_ne (ne_of_none z2 h)]; exact z2, z3, z4, z5, z6⟩
  oned := E.oned
theorem Fresh.junk {B : Bs} {ρ : List Sl} {σ : L2.St} {H0 H : Hp} {p l : Addr} {vs : List V} {ds : List PyData} {o : HO} (f : Fresh B ρ σ H0 H l vs ds) (h : H p = none) : Fresh B ρ σ H0 (upd H p o) l vs ds :=
  ⟨by rw [upd_ne (ne_of_none f.at_ h)]; exact f.at_, f.nf, f.nb, f.nF, f.no, f.rp⟩
theorem Fresh.set {B : Bs} {ρ : List Sl} {σ : L2.St} {H0 H : Hp} {l : Addr} {vs : List V} {ds : List PyData} {i : Nat} {d : PyData} {v : V} (E : En B ρ σ H0 H) (f : Fresh B ρ σ H0 H l vs ds) (hi : i < ρ.length) : Fresh B (ρ.set i (Sl.fz d)) (σ.set i (some v)) H0 H l vs ds :=
  f.of_eq fun j es q => by
    by_cases hj : i = j
    · subst hj
      rw [List.getElem?_set_self hi] at q
      cases q
    · rw [List.getElem?_set_ne hj] at q
      rw [List.getElem?_set_ne hj]
      exact f.no j es q
section
variable {c : Ct} {F : Fp} {ρ : List Sl} {pos pl p1 p2 p3 p4 pt pt2 : Pos} {a b d0 : Expr} {D : SE} {kt k2 : Nat}
/-- w, x, y, z = a, b, d, []: z is a list of the def's own -/
theorem ws_par4 (i j k l : Nat) {w x y z : Str} (h : WE c F a ρ fun d1 ρ1 => WE c F b ρ1 fun d2 ρ2 => WE c F d0 ρ2 fun d3 ρ3 => i < ρ3.length ∧ j < ρ3.length ∧ k < ρ3.length ∧ l < ρ3.length ∧ D.nx ((((ρ3.set i (Sl.fz d1)).set j (Sl.fz d2)).set k (Sl.fz d3)).set l (Sl.ow [])))
    (hN1 : c.N[i]? = some w := by rfl) (hN2 : c.N[j]? = some x := by rfl) (hN3 : c.N[k]? = some y := by rfl) (hN4 : c.N[l]? = some z := by rfl)
    (hx1 : Loc c.sc w := by first | exact Or.inl rfl | exact Or.inr rfl) (hx2 : Loc c.sc x := by first | exact Or.inl rfl | exact Or.inr rfl) (hx3 : Loc c.sc y := by first | exact Or.inl rfl | exact Or.inr rfl) (hx4 : Loc c.sc z := by first | exact Or.inl rfl | exact Or.inr rfl)
    (hf1 : c.fn w = true ∨ c.sc.names.lookup w = some .local := by first | exact .inl rfl | exact .inr rfl) (hf2 : c.fn x = true ∨ c.sc.names.lookup x = some .local := by first | exact .inl rfl | exact .inr rfl) (hf3 : c.fn y = true ∨ c.sc.names.lookup y = some .local := by first | exact .inl rfl | exact .inr rfl) (hf4 : c.fn z = true ∨ c.sc.names.lookup z = some .local := by first | exact .inl rfl | exact .inr rfl)
    (hs1 : ∀ env, starEach [a, b, d0, .List [] pl] env = (false, eval a env) :: starEach [b, d0, .List [] pl] env := by intro _; rfl) (hs2 : ∀ env, starEach [b, d0, .List [] pl] env = (false, eval b env) :: starEach [d0, .List [] pl] env := by intro _; rfl) (hs3 : ∀ env, starEach [d0, .List [] pl] env = (false, eval d0 env) :: starEach [.List [] pl] env := by intro _; rfl)
    (hw : ∀ env : Env, env.scope = c.sc → swappedStores [.Tuple [.Name w p1, .Name x p2, .Name y p3, .Name z p4] kt pt] (.Tuple [a, b, d0, .List [] pl] k2 pt2) env = pure none := by intro _ _; rfl)
    (hs : ∀ env, swapsWithSole [.Tuple [.Name w p1, .Name x p2, .Name y p3, .Name z p4] kt pt] (.Tuple [a, b, d0, .List [] pl] k2 pt2) pos.line env = pure false := by intro _; rfl) :
    WS c F (.Assign [.Tuple [.Name w p1, .Name x p2, .Name y p3, .Name z p4] kt pt] (.Tuple [a, b, d0, .List [] pl] k2 pt2) pos) ρ D := fun B σ H0 H hF E Ed f =>
  wpS_of (t := tAsg (tTup (tCons (wpE c a) (tCons (wpE c b) (tCons (wpE c d0) (tCons (tLst tNil) tNil))))) (gTup c.K 4 (gCons (gName i) (gCons (gName j) (gCons (gName k) (gCons (gName l) gNil))))))
    (fun X hX => by
      have n1 : PG X (.Name w p1) (gName i) := pg_name hX.nd (by rw [hX.N]; exact hN1) (by rw [hX.sc]; exact hx1) (by rw [hX.fn, hX.sc]; exact hf1)
      have n2 : PG X (.Name x p2) (gName j) := pg_name hX.nd (by rw [hX.N]; exact hN2) (by rw [hX.sc]; exact hx2) (by rw [hX.fn, hX.sc]; exact hf2)
      have n3 : PG X (.Name y p3) (gName k) := pg_name hX.nd (by rw [hX.N]; exact hN3) (by rw [hX.sc]; exact hx3) (by rw [hX.fn, hX.sc]; exact hf3)
      have n4 : PG X (.Name z p4) (gName l) := pg_name hX.nd (by rw [hX.N]; exact hN4) (by rw [hX.sc]; exact hx4) (by rw [hX.fn, hX.sc]; exact hf4)
      rw [← hX.K]
      exact ps_asg (pe_tup (pa_cons (peW hX) (pa_cons (peW hX) (pa_cons (peW hX) (pa_cons (pe_lst pa_nil) pa_nil) (hs3 _)) (hs2 _)) (hs1 _))) (pg_tup hX.calm (pgs_cons n1 (pgs_cons n2 (pgs_cons n3 (pgs_cons n4 pgs_nil))))) (hs _) (hw _ hX.sc)) (by
    refine h B σ H0 H hF E _ fun v1 d1 ρ1 H1 H1' E1 e1 r1 g1 => g1 B σ H1 H1' hF E1 _ fun v2 d2 ρ2 H2 H2' E2 e2 r2 g2 => g2 B σ H2 H2' hF E2 _ fun v3 d3 ρ3 H3 H3' E3 e3 r3 ⟨i1, i2, i3, i4, g3⟩ => ?_
    refine ⟨(by show 0 ≤ sizeLine; decide), fun q hq => ?_⟩
    obtain ⟨E4, f4⟩ := E3.newL hq (vs := []) (ds := []) .nil
    refine ⟨(by show 4 ≤ sizeLine; decide), fun p hp => ?_⟩
    have E5 := E4.junk (o := .tup [v1, v2, v3, .ref q]) hp
    have f5 := f4.junk (o := .tup [v1, v2, v3, .ref q]) hp
    refine ⟨p, _, rfl, SqT.of upd_same, rfl, ?_⟩
    have f6 := Fresh.set (d := d1) (v := v1) E5 f5 i1
    have E6 := E5.set ((r1.mono e2).mono e3) i1
    have f7 := Fresh.set (d := d2) (v := v2) E6 f6 (by rw [List.length_set]; exact i2)
    have E7 := E6.set (r2.mono e3) (by rw [List.length_set]; exact i2)
    have f8 := Fresh.set (d := d3) (v := v3) E7 f7 (by rw [List.length_set, List.length_set]; exact i3)
    have E8 := E7.set r3 (by rw [List.length_set, List.length_set]; exact i3)
    exact ⟨_, _, rfl, _, _, rfl, _, _, rfl, _, _, rfl, rfl, f.nx _ _ _ _ (E8.own f8 (by rw [List.length_set, List.length_set, List.length_set]; exact i4)) g3⟩)
end
end G

set_option Elab.async false
set_option linter.all false
set_option maxRecDepth 100000
set_option maxHeartbeats 1000000
namespace G
open PySem PySem.Spec PyProof.Rows L2
/-! ### defs that are called where no repr is under way: inside them repr may be asked -/
/-- the promise of a def, for such calls alone -/
def FnG (P : Program) (w : World) (K : PySem.W.Frag) (mg : Str → Option Value) (base : Heap) (k : Nat) (f : Addr) (fd : FuncData) (ps : List Str) (sp : Sp) : Prop :=
  (∀ vs H Q E, sp vs H Q E → vs.length = ps.length) ∧ ∀ (B : Around) (lower : List Env) (t : Shared) (H : Hp) (args : Args) (us : List Value) (vs : List V) (Q : VK), Room k B ∧ B.guards = some [] → Env0 P w K mg base B lower t H →
    BindsTo t fd args (ps.zip us) → Vals vs us → sp vs H Q E0 → codeAny (model P w) B (.call (.ref f) args) (CR CX0 lower P w H t Q E0) t
section
variable {P : Program} {w : World} {K : PySem.W.Frag} {mg : Str → Option Value} {base : Heap} {k : Nat} {f : Addr} {fd : FuncData} {sp : Sp} {N ps : List Str} {x qual : Str} {st : Stmt}
/-- by its body, read in a place of which this is known -/
theorem fnG_of (Fu : Fun K x qual st f fd) (sc : FnScope N ps (defScope st)) (len : ∀ vs H Q E, sp vs H Q E → vs.length = ps.length)
    (body : ∀ (cdv : Value) (B : Around) (lower : List Env) (t : Shared) (H : Hp) (vs : List V) (Q : VK), Room k (B.deeper (envOfC qual (defScope st) t.heap.objs.size f cdv)) → B.guards = some [] → sp vs H Q E0 →
      ∃ r, PSs (cxOf CX0 P w K mg base N qual (defScope st) f cdv B lower t H E0) (defBody st) r ∧ r { nx := fun _ H' => Q .non H', rt := Q } (L2.start N vs) H) : FnG P w K mg base (k + 1) f fd ps sp := by
  obtain ⟨ocl, odict, vk, vdoc, vpm, van, vcd, vct, vsl, efd, look, code⟩ := Fu.ex
  subst efd
  refine ⟨len, ?_⟩
  intro B lower t H args us vs Q room env bind rel good
  have ready : K.In t.heap := env.mod.kin.keeps fun b o e => (env.bs b o e).1
  have names : ∀ y ∈ ps.zip us, (defScope st).names.lookup y.1 = some .local ∨ ((defScope st).names.lookup y.1 = some .cell ∧ ((cellsFrom (t.heap.objs.size + 1) (defScope st).names []).lookup y.1).isSome = true) := by
    rintro ⟨n, v⟩ hy
    cases sc.par n (List.of_mem_zip hy).1 with
    | inl q => exact Or.inl q
    | inr q => exact Or.inr ⟨q, PySem.W.cellsFrom_some _ _ _ (Or.inl q)⟩
  apply codeAny_call_function room.1.depth (ready _ _ look) rfl sc.co sc.gen rfl (PySem.W.codeRec_of ready code)
  apply bind
  apply wpAny_newFunctionEnv_cells sc.kind names
  intro env1 he t1 inn
  subst he
  constructor
  · exact (env.mod.nolimit.keeps fun b o e => (env.bs b o e).1).keeps inn.toInCall.keep
  apply codeAny_func
  obtain ⟨r, runs, rd⟩ := body vcd B lower t H vs Q (room.1.deeper _) room.2 good
  have inv0 := inv_start (CX := CX0) (E := E0) sc room.1.hd env (len _ _ _ _ good) rel inn
  refine wpAny_mono (runs.run [] t1 (L2.start N vs) H _ inv0 rd) (fun way t2 fin => ?_) (fun _ _ z => z)
  cases way with
  | brk => exact fin.choose_spec.choose_spec.2.elim
  | cont => exact fin.choose_spec.choose_spec.2.elim
  | next =>
    obtain ⟨σ2, H2, inv2, q⟩ := fin
    exact ⟨.non, H2, inv2.os, inv2.bare, inv2.base, inv2.hok, rfl, q⟩
  | ret u =>
    obtain ⟨v, σ2, H2, inv2, ru, q⟩ := fin
    exact ⟨v, H2, inv2.os, inv2.bare, inv2.base, inv2.hok, ru, q⟩
/-- the callee of such a promise -/
theorem peG_call {X : Cx} {p pos : Pos} {e : Expr} {es : List Expr} {t : TA} (Fg : FnG X.prog X.w X.K X.mg X.base k f fd ps sp) (room : Room k X.A) (quiet : X.A.guards = some []) (hg : Gl X x) (hm : X.mg x = some (.ref f)) (kp : PySem.W.keepIn X.K (.ref f) = true) (hb : Binds X.K fd ps []) (args : PA X (e :: es) t)
    (hdb : (x == ("__debug__" : Str)) = false := by decide) (he : starEach (e :: es) X.env = (false, eval e X.env) :: starEach es X.env := by rfl) (hpl : (backTo pos (starEach es X.env)).any (·.1) = false := by rfl) : PE X (.Call (.Name x p) (e :: es) [] pos) (tCall sp [] E0 t) := by
  constructor
  intro pins s σ H Q I h
  apply wpAny_Call_Name_kw
  apply ld_glob I hg hm _ hdb
  apply PySem.W.callWith_K (h₀ := X.base) I.ok.mod.kin kp _ he hpl
  apply thn (args.run pos pins s σ H _ I h)
  rintro us s1 ⟨vs, H1, I1, rel, q⟩
  rw [List.append_nil] at q
  have bound := hb s1 us I1.kIn (by rw [List.append_nil, ← rel.length]; exact Fg.1 _ _ _ _ q)
  rw [List.append_nil] at bound
  refine ⟨I1.kIn, wpAny_call (codeAny_mono (Fg.2 X.A X.stack s1 H1 ⟨us, []⟩ us vs Q ⟨room, quiet⟩ I1.env0 bound rel q) fun out s2 hq => ?_)⟩
  match out, hq with
  | .ok (.ret u), hq => exact I1.after hq
/-- the module's name of such a def -/
def CalG (P : Program) (w : World) (K : PySem.W.Frag) (mg : Str → Option Value) (base : Heap) (k : Nat) (x : Str) (sp : Sp) : Prop :=
  ∃ (f : Addr) (fd : FuncData) (ps : List Str), FnG P w K mg base k f fd ps sp ∧ mg x = some (.ref f) ∧ PySem.W.keepIn K (.ref f) = true ∧ Binds K fd ps []
end
section
variable {c : Ct} {F : Fp} {ρ : List Sl} {pos apos cpos : Pos} {a b e : Expr} {es : List Expr} {Φ : PyData → List Sl → Prop} {Ψ : Bool → List Sl → Prop}
theorem we_callG {S : List PyData → (PyData → Prop) → Prop} {k : Nat} {x : Str} {p : Pos} (f : CalG c.P c.w c.K c.mg c.base k x (PF S)) (h : WA c F (e :: es) ρ fun ds ρ1 => S ds fun d => Φ d ρ1) (hk : k ≤ c.k := by exact of_decide_eq_true rfl) (hq : c.g = true := by rfl) (hg : c.sc.names.lookup x = some NameKind.globalImplicit := by rfl)
    (hst : ∀ env, starEach (e :: es) env = (false, eval e env) :: starEach es env := by intro _; rfl) (hpl : ∀ env, (backTo pos (starEach es env)).any (·.1) = false := by intro _; rfl) (hdb : (x == ("__debug__" : Str)) = false := by decide) :
    WE c F (.Call (.Name x p) (e :: es) [] pos) ρ Φ := fun B σ H0 H hF E Q q => by
  obtain ⟨fa, fd, ps, G, hm, kp, hb⟩ := f
  refine wpE_of (t := tCall (PF S) [] E0 (wpA c (e :: es))) (fun X hX => peG_call (fd := fd) (ps := ps) (k := k) ?_ (hX.room.mono hk) (hX.gd hq) ?_ (by rw [hX.mg]; exact hm) (by rw [hX.K]; exact kp) (by rw [hX.K]; exact hb) (paW hX) hdb (hst _) (hpl _)) ?_
  · rw [hX.P, hX.w, hX.K, hX.mg, hX.base]
    exact G
  · show X.env.scope.names.lookup x = _
    rw [hX.sc]
    exact hg
  · refine h B σ H0 H hF E _ fun vs ds ρ1 H1 H1' E1 e1 r1 k1 => ⟨H1, ds, _, E1.ex, by rw [List.append_nil]; exact r1, k1, fun v d H2 H2' g r2 k2 => ?_⟩
    exact q v d ρ1 H2 H2' (E1.grow g) (e1.trans g.fz) r2 k2
/-- .. that draws -/
theorem we_callDG {S : Nat → List PyData → (PyData → Nat → Prop) → Prop} {k : Nat} {x y : Str} {p py : Pos} (i : Nat) (f : CalG c.P c.w c.K c.mg c.base k x (DF S)) (h : WA c F es ρ fun ds ρ1 => ∃ n, ρ1[i]? = some (Sl.dk n) ∧ S n ds fun d m => Φ d (ρ1.set i (Sl.dk m))) {n0 : Nat} (h0 : ρ[i]? = some (Sl.dk n0)) (hk : k ≤ c.k := by exact of_decide_eq_true rfl) (hq : c.g = true := by rfl)
    (hN : c.N[i]? = some y := by rfl) (hv : Vis c.sc y := by first | exact Or.inl rfl | exact Or.inr (Or.inl rfl) | exact Or.inr (Or.inr rfl)) (hd : (y == ("__debug__" : Str)) = false := by decide) (hcd : (y == ("__classdict__" : Str)) = false := by decide)
    (hg : c.sc.names.lookup x = some NameKind.globalImplicit := by rfl) (hst : ∀ env, starEach (.Name y py :: es) env = (false, eval (.Name y py) env) :: starEach es env := by intro _; rfl) (hpl : ∀ env, (backTo pos (starEach es env)).any (·.1) = false := by intro _; rfl) (hdb : (x == ("__debug__" : Str)) = false := by decide) :
    WE c F (.Call (.Name x p) (.Name y py :: es) [] pos) ρ Φ := fun B σ H0 H hF E Q q => by
  obtain ⟨fa, fd, ps, G, hm, kp, hb⟩ := f
  refine wpE_of (t := tCall (DF S) [] E0 (tCons (tVar i) (wpA c es))) (fun X hX => peG_call (fd := fd) (ps := ps) (k := k) ?_ (hX.room.mono hk) (hX.gd hq) ?_ (by rw [hX.mg]; exact hm) (by rw [hX.K]; exact kp) (by rw [hX.K]; exact hb) (pa_cons (pe_var (by rw [hX.N]; exact hN) (by rw [hX.sc]; exact hv) hd hcd) (paW hX) (hst _)) hdb (hst _) (hpl _)) ?_
  · rw [hX.P, hX.w, hX.K, hX.mg, hX.base]
    exact G
  · show X.env.scope.names.lookup x = _
    rw [hX.sc]
    exact hg
  · obtain ⟨da, g1, g2⟩ := E.dk i n0 h0
    refine ⟨_, g1, h B σ H0 H hF E _ fun vs ds ρ1 H1 H1' E1 e1 r1 k1 => ?_⟩
    obtain ⟨n, k2, k3⟩ := k1
    obtain ⟨da', g3, g4⟩ := E1.dk i n k2
    rw [g1] at g3
    cases g3
    exact ⟨B.F, H1, da, vs, ds, n, _, by rw [List.append_nil], E1.ex, E1.fF, g4, r1, k3, fun v d m H2 H2' g dk r2 k4 => q v d _ H2 H2' (E1.drawn k2 g1 g dk) (e1.trans g.fz) r2 k4⟩
end
section
variable {P : Program} {w : World} {K : PySem.W.Frag} {mg : Str → Option Value} {base : Heap}
/-- where such a def's body stands -/
abbrev ctOfG (P : Program) (w : World) (K : PySem.W.Frag) (mg : Str → Option Value) (base : Heap) (N : List Str) (st : Stmt) (k : Nat) : Ct := ⟨P, w, K, mg, base, N, defScope st, fun _ => true, k, true⟩
theorem hasG_of {qual : Str} {N ps : List Str} {st : Stmt} {k : Nat} {f : Addr} {cd : Value} {A : Around} {outer : List Env} {s : Shared} {H : Hp} {E : XK} (S : FnScope N ps (defScope st)) (hr : Room k (A.deeper (envOfC qual (defScope st) s.heap.objs.size f cd))) (hg : A.guards = some []) :
    Has (ctOfG P w K mg base N st k) (cxOf CX0 P w K mg base N qual (defScope st) f cd A outer s H E).nox :=
  ⟨rfl, rfl, rfl, rfl, rfl, rfl, S.nd, rfl, rfl, rfl, hr, rfl, fun _ => hg⟩
theorem pf_okG {x qual : Str} {N ps : List Str} {st : Stmt} {k : Nat} {f : Addr} {fd : FuncData} {S : List PyData → (PyData → Prop) → Prop} (Fu : Fun K x qual st f fd) (sc : FnScope N ps (defScope st)) (len : ∀ ds Ψ, S ds Ψ → ds.length = ps.length)
    (body : ∀ ds Ψ, S ds Ψ → WSs (ctOfG P w K mg base N st k) noF (defBody st) (ds.map Sl.fz ++ List.replicate (N.length - ds.length) Sl.un) { nx := fun _ => Ψ .none, rt := fun d _ => Ψ d }) : FnG P w K mg base (k + 1) f fd ps (PF S) := by
  have hpl : ps.length ≤ N.length := by have := congrArg List.length sc.pre; rw [List.length_take] at this; omega
  refine fnG_of Fu sc (fun vs H Q E ⟨H0, ds, Ψ, e, r, s, _⟩ => by rw [r.length]; exact len ds Ψ s) fun cdv A outer s H vs Q hr hgd ⟨H0, ds, Ψ, e, r, hs, q⟩ => ?_
  have hX : Has (ctOfG P w K mg base N st k) (cxOf CX0 P w K mg base N qual (defScope st) f cdv A outer s H E0).nox := hasG_of sc hr hgd
  refine ⟨_, PSs.nox (pssW hX), ?_⟩
  have hl := len ds Ψ hs
  have gr : ∀ {ρ σ H1 H1'}, En ⟨H0, H, noF⟩ ρ σ H1 H1' → Grow H0 H H1 H1' := fun {ρ σ H1 H1'} E1 => ⟨E1.e0, fun a o h => by
    cases z : H0 a with
    | none => exact (E1.kp a o h z (fun f => f)).1
    | some o' =>
      have h1 := e a o' z
      rw [h] at h1
      cases h1
      exact E1.ex _ _ (E1.e0 a o z), E1.ex, fun a o h z => (E1.kp a o h z fun f => f).2⟩
  refine body ds Ψ hs ⟨H0, H, noF⟩ _ H0 H rfl (En.start e r (by omega)) _ ⟨fun ρ σ H1 H1' E1 k1 => q .non .none H1 H1' (gr E1) .non k1, fun v d ρ σ H1 H1' E1 r1 k1 => q v d H1 H1' (gr E1) r1 k1, fun ρ σ H1 H1' E1 k1 => k1.elim, fun ρ σ H1 H1' E1 k1 => k1.elim, fun _ _ _ _ _ _ _ _ _ k => k.elim⟩
theorem df_okG {x qual : Str} {N ps : List Str} {st : Stmt} {k : Nat} {f : Addr} {fd : FuncData} {S : Nat → List PyData → (PyData → Nat → Prop) → Prop} (Fu : Fun K x qual st f fd) (sc : FnScope N ps (defScope st)) (len : ∀ n ds Ψ, S n ds Ψ → ds.length + 1 = ps.length)
    (body : ∀ F n ds Ψ, S n ds Ψ → WSs (ctOfG P w K mg base N st k) F (defBody st) (Sl.dk n :: (ds.map Sl.fz ++ List.replicate (N.length - (ds.length + 1)) Sl.un)) { nx := fun _ => False, rt := fun d ρ => ∃ i m, ρ[i]? = some (Sl.dk m) ∧ i = 0 ∧ Ψ d m }) : FnG P w K mg base (k + 1) f fd ps (DF S) := by
  have hpl : ps.length ≤ N.length := by have := congrArg List.length sc.pre; rw [List.length_take] at this; omega
  refine fnG_of Fu sc (fun vs H Q E ⟨Fd, H0, a, ws, ds, n, Ψ, e0, e, hf, dk, r, s, _⟩ => by rw [e0, List.length_cons, r.length]; exact len n ds Ψ s) fun cdv A outer s H vs Q hr hgd ⟨Fd, H0, a, ws, ds, n, Ψ, e0, e, hf, dk, r, hs, q⟩ => ?_
  subst e0
  have hX : Has (ctOfG P w K mg base N st k) (cxOf CX0 P w K mg base N qual (defScope st) f cdv A outer s H E0).nox := hasG_of sc hr hgd
  refine ⟨_, PSs.nox (pssW hX), ?_⟩
  have hl := len n ds Ψ hs
  refine body Fd n ds Ψ hs ⟨H0, H, Fd⟩ _ H0 H rfl (En.startD e hf dk r (by omega)) _ ⟨fun ρ σ H1 H1' E1 k1 => k1.elim, fun v d ρ σ H1 H1' E1 r1 k1 => ?_, fun ρ σ H1 H1' E1 k1 => k1.elim, fun ρ σ H1 H1' E1 k1 => k1.elim, fun _ _ _ _ _ _ _ _ _ k => k.elim⟩
  obtain ⟨i, m, k2, rfl, k3⟩ := k1
  obtain ⟨a', g1, g2⟩ := E1.dk 0 m k2
  have ha : a' = a := g2.self.2.trans dk.self.2.symm
  subst ha
  exact q v d m H1 H1' ⟨E1.e0, E1.ex, fun x o h1 h2 h3 => E1.kp x o h1 h2 h3, E1.fF⟩ g2 r1 k3
/-- a promise for all calls is one for these -/
theorem Cal.toG {k : Nat} {x : Str} {sp : Sp} (f : Cal P w K mg base k x sp) : CalG P w K mg base k x sp := by
  obtain ⟨a, fd, ps, G, h⟩ := f
  exact ⟨a, fd, ps, ⟨G.len, fun B lower t H args us vs Q hr he hb hv hs => G.run B lower t H args us vs Q E0 hr.1 he hb hv hs⟩, h⟩
end
end G
namespace G
open PySem PySem.Spec PyProof.Rows L2
/-! ### repr, of lists and tuples -/
def isSeq : PyData → Bool
  | .list _ => true
  | .tuple _ => true
  | _ => false
structure CanShow (d : PyData) : Prop where
  pl : plain d = true
  cl : d.canLay0 = true
  sh : d.showable = true
  dp : d.depth ≤ 60
  sz : d.shown.length ≤ sizeLine
def rReprD (K : PySem.W.Frag) (xs : List V) (H : Hp) (Q : VK) : Prop := ∃ (v : V) (d : PyData), xs = [v] ∧ isSeq d = true ∧ Dp K H v d ∧ CanShow d ∧ Q (.str d.shown) H
theorem cr_reprD {X : Cx} (hu : X.A.units + 64 < cLine) (quiet : X.A.guards = some []) : CallR X (.builtin "repr") (rReprD X.K) := by
  intro pins s σ H xs us Q I r h
  obtain ⟨v, d, rfl, hseq, hD, hC, q⟩ := h
  obtain ⟨u, rfl, ru⟩ := vals1 r
  obtain ⟨as, hr⟩ := Dp.reads I d v u hD ru
  have go : ∀ a : Addr, u = .ref a → wpAny (model X.prog X.w) X.A (call (.builtin "repr") [u]) (EP X pins σ Q) X.xe s := fun a e => by
    subst e
    refine repr_of_reads' (h₀ := s.heap) hr hC.sh (PyData.noDict_hsm (PyData.hasDict_of_canLay d hC.cl)) quiet (by have := hC.dp; omega) (fun _ _ h => h) (fun h' u tk keep => ?_) hC.sz
    exact ⟨.str d.shown, H, I.kept keep, ⟨u, rfl⟩, q⟩
  cases d with
  | list xs =>
    cases hr with
    | list => exact go _ rfl
  | tuple xs =>
    cases hr with
    | tuple => exact go _ rfl
  | none => cases hseq
  | bool _ => cases hseq
  | int _ => cases hseq
  | str _ => cases hseq
  | dict _ => cases hseq
section
variable {c : Ct} {F : Fp} {ρ : List Sl} {pos : Pos} {e : Expr} {Φ : PyData → List Sl → Prop}
theorem we_repr {p : Pos} (h : WE c F e ρ fun d ρ1 => isSeq d = true ∧ CanShow d ∧ Φ (.str d.shown) ρ1) (hm : c.mg "repr" = none) (hq : c.g = true := by rfl) (hg : c.sc.names.lookup ("repr" : Str) = some NameKind.globalImplicit := by rfl) (hs : ∀ env, starEach [e] env = (false, eval e env) :: starEach [] env := by intro _; rfl)
    (hpl : ∀ env, (backTo pos (starEach [] env)).any (·.1) = false := by intro _; rfl) : WE c F (.Call (.Name "repr" p) [e] [] pos) ρ Φ :=
  we_callB (r := rReprD c.K) (fun X hX => by rw [← hX.K]; exact cr_reprD hX.room.units (hX.gd hq)) (wa_cons (h.imp fun d ρ1 ⟨h1, h2, h3⟩ => wa_nil (by
    intro H0 H vs ex rs Q q
    cases rs with
    | cons r1 r2 =>
      cases r2
      exact ⟨_, d, rfl, h1, (r1.mono ex).dp h2.pl, h2, q _ _ H0 H (Grow.refl ex) (.str _) h3⟩)) hs) hg hm (by decide +kernel) (by decide) (by decide) hs hpl
end
end G

set_option Elab.async false
set_option linter.all false
set_option maxRecDepth 100000
set_option maxHeartbeats 1000000
namespace G
open PySem PySem.Spec PyProof.Rows L2
/-! ### the law's own call, for a law that asks repr somewhere -/
/-- the heap that the law's call begins with: the script, unless the module has it -/
def scriptH (K : PySem.W.Frag) (a : Addr) (vs : List Value) (ns : List Int) : Hp := fun b => if b = a ∧ K.lookup a = none then some (.frz { cls := .type "list", data := .seq vs.toArray } (.lst (ns.map V.int))) else none
theorem scriptH_no {K : PySem.W.Frag} {a b : Addr} {vs : List Value} {ns : List Int} (h : ¬ (b = a ∧ K.lookup a = none)) : scriptH K a vs ns b = none := if_neg h
theorem scriptH_at {K : PySem.W.Frag} {a b : Addr} {vs : List Value} {ns : List Int} {o : HO} (h : scriptH K a vs ns b = some o) : b = a ∧ K.lookup a = none ∧ o = .frz { cls := .type "list", data := .seq vs.toArray } (.lst (ns.map V.int)) := by
  by_cases q : b = a ∧ K.lookup a = none
  · unfold scriptH at h
    rw [if_pos q] at h
    exact ⟨q.1, q.2, (Option.some.inj h).symm⟩
  · rw [scriptH_no q] at h
    cases h
theorem script_only (K : PySem.W.Frag) (a : Addr) (vs : List Value) (ns : List Int) : Only (scriptH K a vs ns) := fun b => by
  cases q : scriptH K a vs ns b with
  | none => exact Or.inl rfl
  | some o => exact Or.inr ⟨_, _, congrArg some (scriptH_at q).2.2⟩
theorem law_runs {P : Program} {w : World} {K : PySem.W.Frag} {mg mb : Str → Option Value} {k : Nat} {fa a : Addr} {fd : FuncData} {x : Str} {sp : Sp} {t : Shared} {vs : List Value} {ns : List Int} (hk : K.In t.heap) (hm : t.heap.Ns mainGlobals mg) (hb : t.heap.Ns builtinsNs mb)
    (boot : ∀ x : Str, x ≠ "__name__" → mb x = bootBuiltins x) (free : t.heap.NoLimit) (still : t.gens = #[]) (script : t.heap.get? a = some { cls := .type "list", data := .seq vs.toArray }) (whole : IntsAre vs ns) (few : ns.length ≤ sizeLine) (room : Room k callerA)
    (law : ∀ base : Heap, K.In base → base.Ns mainGlobals mg → FnG P w K mg base k fa fd [x] sp) (bind : ∀ (s : Shared) (u : Value), BindsTo s fd ⟨[u], []⟩ [(x, u)]) (good : ∀ H : Hp, Only H → SqL K H a (ns.map V.int) → sp [.ref a] H (fun v _ => v = .bl true) E0) :
    codeAny (model P w) callerA (.call (.ref fa) ⟨[.ref a], []⟩) (fun r s' => r = .ok (.ret (.bool true)) ∧ OldK t.heap s'.heap ∧ s'.os = t.os ∧ AllBare s'.gens) t := by
  have same := vals_ints whole
  have many := whole.length
  generalize eH : scriptH K a vs ns = H
  have at_ : ∀ {b : Addr} {o : HO}, H b = some o → b = a ∧ K.lookup a = none ∧ o = .frz { cls := .type "list", data := .seq vs.toArray } (.lst (ns.map V.int)) := fun {b o} h => scriptH_at (by rw [eH]; exact h)
  have only : Only H := by
    rw [← eH]
    exact script_only K a vs ns
  -- what the module's part of the heap holds stays
  have stays : ∀ {b : Addr} {o : Obj}, t.heap.get? b = some o → H b = none → (hidT t.heap H).get? b = some o := fun e n => hidT_get e n
  have dicts : ∀ {b : Addr} {m : Str → Option Value}, t.heap.Ns b m → (hidT t.heap H).Ns b m := by
    rintro b m ⟨o, es, ep, e, d, r⟩
    refine ⟨o, es, ep, stays e ?_, d, r⟩
    cases q : H b with
    | none => rfl
    | some u =>
      obtain ⟨rfl, _, _⟩ := at_ q
      rw [script] at e
      cases e
      cases d
  have known : K.In (hidT t.heap H) := by
    intro b o e
    refine stays (hk b o e) ?_
    cases q : H b with
    | none => rfl
    | some u =>
      obtain ⟨rfl, z, _⟩ := at_ q
      rw [z] at e
      cases e
  have fine : HOk P w H t.heap := by
    intro b u q
    obtain ⟨rfl, _, rfl⟩ := at_ q
    exact ⟨script, by rw [List.length_map]; exact few, vs, _, same, script⟩
  have listed : SqL K H a (ns.map V.int) := by
    cases q : K.lookup a with
    | none => exact Or.inl (Or.inr ⟨{ cls := .type "list", data := .seq vs.toArray }, by rw [← eH]; exact if_pos ⟨rfl, q⟩⟩)
    | some o =>
      have e := hk a o q
      rw [script] at e
      cases e
      exact Or.inr ⟨_, vs.toArray, _, q, rfl, rfl, rfl, by rw [List.size_toArray, many]; exact few, by simpa using same⟩
  have entry : Env0 P w K mg (hidT t.heap H) callerA [] t H := by
    obtain ⟨mc, l1, l2⟩ := free
    exact ⟨rfl, ⟨known, dicts hm, ⟨mb, dicts hb, boot⟩, ⟨mc, dicts l1, l2⟩⟩, fun b o e => of_hidT e, Nat.le_of_eq (hidT_size _ _), trivial, fun b z => absurd (show b ∈ ([] : List Addr) from z) (by simp), fine, .of_eq still⟩
  have run := (law _ known (dicts hm)).2 callerA [] t H ⟨[.ref a], []⟩ [.ref a] [.ref a] (fun v _ => v = .bl true) ⟨room, rfl⟩ entry (bind t (.ref a)) (.cons rfl .nil) (good H only listed)
  refine codeAny_mono run fun out t2 fin => ?_
  match out, fin with
  | .ok (.ret u), fin =>
    obtain ⟨v, H2, os, bare, un, ok2, ru, hv⟩ := fin
    have hv : v = .bl true := hv
    subst hv
    have hu : u = Value.bool true := ru
    subst hu
    refine ⟨rfl, OldK.of_keep fun b o e => ?_, os, bare⟩
    cases q : H b with
    | none => exact un.keep b o e q (fun z => absurd (show b ∈ ([] : List Addr) from z) (by simp)) (by simp)
    | some u =>
      obtain ⟨rfl, _, rfl⟩ := at_ q
      obtain ⟨e2, _⟩ := ok2 b _ (un.frzs b _ _ q)
      rw [script] at e
      cases e
      exact e2
/-- the walk's goal, from such a promise of the law -/
theorem walk_ofG {l : PySem.W.OpenLaw} {n k : Nat} {q : Program} {loose : List Str} {XP : (Str → Option Value) → Heap → Prop} {YP : World → Heap → Prop} {d : DefRec} {K : Params → PySem.W.Frag} {sp : World → Sp} {x : Str} (hn : l.most = some n) (hn2 : n ≤ sizeLine) (hdf : d.params.defaults = []) (room : Room k callerA)
    (reach : ∀ (w : World) (h : Heap), YP w h → (K w.params).In h)
    (law : ∀ (w : World) (mg : Str → Option Value) (fa : Addr) (h : Heap), (K w.params).In h → h.Ns mainGlobals mg → mg d.name = some (.ref fa) → ∃ fd : FuncData, (∀ (s : Shared) (u : Value), BindsTo s fd ⟨[u], []⟩ [(x, u)]) ∧ ∀ base : Heap, (K w.params).In base → base.Ns mainGlobals mg → FnG l.prog w (K w.params) mg base k fa fd [x] (sp w))
    (good : ∀ (w : World) (H : Hp) (a : Addr) (ns : List Int), ns.length ≤ n → Only H → SqL (K w.params) H a (ns.map V.int) → sp w [.ref a] H (fun v _ => v = .bl true) E0) : PySem.W.WalkO q loose XP YP l.row.toRowW d [] (fun f vs => PySem.call f vs) := by
  apply Att.attach_call hn hdf
  intro w s₀ t mg mb fa o pm cd doc a vs ns ground Y ho hd hcd hmg hobj hints hlen still
  have known := reach w _ Y
  obtain ⟨fd, bind, runs⟩ := law w mg fa _ known ground.T.g hmg
  exact law_runs known ground.T.g ground.T.b ground.T.builtins ground.T.nolimit still hobj hints (Nat.le_trans hlen hn2) room runs bind fun H only listed => good w H a ns hlen only listed
end G

set_option Elab.async false
set_option linter.all false
set_option maxRecDepth 100000
set_option maxHeartbeats 1000000
namespace G
open PySem PySem.Spec PyProof.Rows L2
/-! ### isinstance(x, (A, B)) -/
theorem kit_two {K : PySem.W.Frag} {T A B : String} {a b : Bool} (h1 : kitB T A = some a) (h2 : kitB T B = some b) : PySem.W.kitAny K (.type T) [.type A, .type B] = some (a || b) := by
  unfold PySem.W.kitAny
  rw [kit_ty h1]
  cases a with
  | true => rfl
  | false =>
    unfold PySem.W.kitAny
    rw [kit_ty h2]
    cases b <;> rfl
section
variable {c : Ct} {F : Fp} {ρ : List Sl} {pos apos cpos : Pos} {e : Expr} {es : List Expr} {Φ : PyData → List Sl → Prop}
theorem we_isi2 {p pa pb tp : Pos} {kt : Nat} {x y : Str} {A B : String} (h : WE c F e ρ fun d ρ1 => ∃ a b, kitB (tyN d) A = some a ∧ kitB (tyN d) B = some b ∧ Φ (.bool (a || b)) ρ1) (hm : c.mg "isinstance" = none) (hA : c.mg x = none) (hB : c.mg y = none) (hv : bootBuiltins x = some (.type A)) (hw : bootBuiltins y = some (.type B)) (hg : c.sc.names.lookup ("isinstance" : Str) = some NameKind.globalImplicit := by rfl)
    (hgA : c.sc.names.lookup x = some NameKind.globalImplicit := by rfl) (hgB : c.sc.names.lookup y = some NameKind.globalImplicit := by rfl) (hs : ∀ env, starEach [e, .Tuple [.Name x pa, .Name y pb] kt tp] env = (false, eval e env) :: starEach [.Tuple [.Name x pa, .Name y pb] kt tp] env := by intro _; rfl) (hs2 : ∀ env, starEach [.Tuple [.Name x pa, .Name y pb] kt tp] env = (false, eval (.Tuple [.Name x pa, .Name y pb] kt tp) env) :: starEach [] env := by intro _; rfl)
    (hs3 : ∀ env, starEach [.Name x pa, .Name y pb] env = (false, eval (.Name x pa) env) :: starEach [.Name y pb] env := by intro _; rfl) (hs4 : ∀ env, starEach [.Name y pb] env = (false, eval (.Name y pb) env) :: starEach [] env := by intro _; rfl)
    (hpl : ∀ env, (backTo pos (starEach [.Tuple [.Name x pa, .Name y pb] kt tp] env)).any (·.1) = false := by intro _; rfl) (hn : x ≠ "__name__" := by decide) (hd : (x == ("__debug__" : Str)) = false := by decide) (hn2 : y ≠ "__name__" := by decide) (hd2 : (y == ("__debug__" : Str)) = false := by decide) :
    WE c F (.Call (.Name "isinstance" p) [e, .Tuple [.Name x pa, .Name y pb] kt tp] [] pos) ρ Φ := fun Bs σ H0 H hF E Q q =>
  wpE_of (t := tCB (rIsiT c.K) (tCons (wpE c e) (tCons (tTup (tCons (tC (.ty A)) (tCons (tC (.ty B)) tNil))) tNil))) (fun X hX => by
      have ga : Gl X x := by show X.env.scope.names.lookup _ = _; rw [hX.sc]; exact hgA
      have gb : Gl X y := by show X.env.scope.names.lookup _ = _; rw [hX.sc]; exact hgB
      rw [← hX.K]
      exact pe_callB call_isiT (by show X.env.scope.names.lookup _ = _; rw [hX.sc]; exact hg) (by rw [hX.mg]; exact hm) (by decide +kernel) (pa_cons (peW hX) (pa_cons (pe_tup (pa_cons (pe_bltn ga (by rw [hX.mg]; exact hA) hv rfl hn hd) (pa_cons (pe_bltn gb (by rw [hX.mg]; exact hB) hw rfl hn2 hd2) pa_nil (hs4 _)) (hs3 _))) pa_nil (hs2 _)) (hs _)) (by decide) (by decide) (hs _) (hpl _))
    (h Bs σ H0 H hF E _ fun v d ρ1 H1 H1' E1 e1 r1 ⟨a, b, k1, k2, k3⟩ => ⟨(by show 2 ≤ sizeLine; decide), fun q' hq' => by
      have E2 := E1.junk (o := .tup [.ty A, .ty B]) hq'
      exact ⟨v, q', [.ty A, .ty B], _, [.type A, .type B], a || b, rfl, upd_same, .cons (.ty A) (.cons (.ty B) .nil), r1.ty E2.ex, kit_two k1 k2, q _ _ ρ1 H1 _ E2 e1 (.bl _) k3⟩⟩)
end
/-! ### f(a = e), f(a = e, b = e2): by name alone -/
/-- the values given by name stand, in the parameters' order, as ord puts them -/
def ByName (K : PySem.W.Frag) (fd : FuncData) (ps ks : List Str) (ord : {α : Type} → List α → List α) : Prop :=
  (∀ (s : Shared) (ws : List Value), K.In s.heap → (ord ws).length = ps.length → BindsTo s fd ⟨[], ks.zip ws⟩ (ps.zip (ord ws))) ∧ ∀ {vs : List V} {us : List Value}, Vals vs us → Vals (ord vs) (ord us)
theorem peK_call {X : Cx} {k : Nat} {f : Addr} {fd : FuncData} {ps ks : List Str} {sp : Sp} {x : Str} {p pos : Pos} {kws : List Keyword} {tk : TA} {ord : {α : Type} → List α → List α} (Fk : FnOk X.prog X.w X.K X.mg X.base CX0 k f fd ps sp) (room : Room k X.A) (hg : Gl X x) (hm : X.mg x = some (.ref f)) (kp : PySem.W.keepIn X.K (.ref f) = true) (hb : ByName X.K fd ps ks ord) (given : PK X kws tk)
    (hall : (backToKw pos (keywordEach kws X.env)).all (·.1.isSome) = true := by rfl) (hks : (backToKw pos (keywordEach kws X.env)).filterMap (·.1) = ks := by rfl) (hdb : (x == ("__debug__" : Str)) = false := by decide) (hpl : ((backTo pos (starEach [] X.env)).any (·.1) || (backToKw pos (keywordEach kws X.env)).any (·.1.isNone)) = false := by rfl) :
    PE X (.Call (.Name x p) [] kws pos) (fun σ H Q => tk σ H fun zs H2 => sp (ord zs) H2 Q E0) := by
  constructor
  intro pins s σ H Q I h
  apply wpAny_Call_Name_kw
  apply ld_glob I hg hm _ hdb
  apply PySem.W.callWith_KW0 (h₀ := X.base) I.ok.mod.kin kp hall _ hpl
  apply thn (given.run pos pins s σ H _ I h)
  rintro ws s1 ⟨zs, H1, I1, rel, q⟩
  refine ⟨I1.kIn, ?_⟩
  rw [hks]
  have rel2 := hb.2 rel
  have hl : (ord ws).length = ps.length := by rw [← rel2.length]; exact Fk.len _ _ _ _ q
  refine wpAny_call (codeAny_mono (Fk.run X.A X.stack s1 H1 ⟨[], ks.zip ws⟩ (ord ws) (ord zs) Q E0 room I1.env0 (hb.1 s1 ws I1.kIn hl) rel2 q) fun out s2 hq => ?_)
  match out, hq with
  | .ok (.ret u), hq => exact I1.after hq
def CalK (P : Program) (w : World) (K : PySem.W.Frag) (mg : Str → Option Value) (base : Heap) (k : Nat) (x : Str) (ks : List Str) (ord : {α : Type} → List α → List α) (sp : Sp) : Prop :=
  ∃ (f : Addr) (fd : FuncData) (ps : List Str), FnOk P w K mg base CX0 k f fd ps sp ∧ mg x = some (.ref f) ∧ PySem.W.keepIn K (.ref f) = true ∧ ByName K fd ps ks ord
section
variable {c : Ct} {F : Fp} {ρ : List Sl} {pos apos cpos : Pos} {e e2 : Expr} {es : List Expr} {Φ : PyData → List Sl → Prop}
theorem we_callK1 {S : List PyData → (PyData → Prop) → Prop} {k : Nat} {x a : Str} {p kp : Pos} (f : CalK c.P c.w c.K c.mg c.base k x [a] (fun xs => xs) (PF S)) (h : WE c F e ρ fun d ρ1 => S [d] fun z => Φ z ρ1) (hk : k ≤ c.k := by exact of_decide_eq_true rfl) (hg : c.sc.names.lookup x = some NameKind.globalImplicit := by rfl)
    (hall : ∀ env, (backToKw pos (keywordEach [⟨some a, e, kp⟩] env)).all (·.1.isSome) = true := by intro _; rfl) (hks : ∀ env, (backToKw pos (keywordEach [⟨some a, e, kp⟩] env)).filterMap (·.1) = [a] := by intro _; rfl) (hpl : ∀ env, ((backTo pos (starEach [] env)).any (·.1) || (backToKw pos (keywordEach [⟨some a, e, kp⟩] env)).any (·.1.isNone)) = false := by intro _; rfl) (hdb : (x == ("__debug__" : Str)) = false := by decide) :
    WE c F (.Call (.Name x p) [] [⟨some a, e, kp⟩] pos) ρ Φ := fun B σ H0 H hF E Q q => by
  obtain ⟨fa, fd, ps, G, hm, kp', hb⟩ := f
  refine wpE_of (t := fun σ H Q => tCons (wpE c e) tNil σ H fun zs H2 => PF S zs H2 Q E0) (fun X hX => peK_call (fd := fd) (ps := ps) (k := k) (ks := [a]) (ord := fun xs => xs) ?_ (hX.room.mono hk) ?_ (by rw [hX.mg]; exact hm) (by rw [hX.K]; exact kp') (by rw [hX.K]; exact hb) (pk_cons (peW hX) pk_nil) (hall _) (hks _) hdb (hpl _)) ?_
  · rw [hX.P, hX.w, hX.K, hX.mg, hX.base]
    exact G
  · show X.env.scope.names.lookup x = _
    rw [hX.sc]
    exact hg
  · refine h B σ H0 H hF E _ fun v d ρ1 H1 H1' E1 e1 r1 k1 => ⟨H1, [d], _, E1.ex, .one r1, k1, fun v d H2 H2' g r2 k2 => ?_⟩
    exact q v d ρ1 H2 H2' (E1.grow g) (e1.trans g.fz) r2 k2
/-- two by name; ord: as they stand, or the other way round -/
theorem we_callK2 {S : List PyData → (PyData → Prop) → Prop} {k : Nat} {x a b : Str} {p kp kp2 : Pos} (ord : {α : Type} → List α → List α) (f : CalK c.P c.w c.K c.mg c.base k x [a, b] ord (PF S)) (ho : ∀ {H : Hp} {vs : List V} {ds : List PyData}, RpL H vs ds → RpL H (ord vs) (ord ds)) (h : WE c F e ρ fun d ρ1 => WE c F e2 ρ1 fun y ρ2 => S (ord [d, y]) fun z => Φ z ρ2) (hk : k ≤ c.k := by exact of_decide_eq_true rfl) (hg : c.sc.names.lookup x = some NameKind.globalImplicit := by rfl)
    (hall : ∀ env, (backToKw pos (keywordEach [⟨some a, e, kp⟩, ⟨some b, e2, kp2⟩] env)).all (·.1.isSome) = true := by intro _; rfl) (hks : ∀ env, (backToKw pos (keywordEach [⟨some a, e, kp⟩, ⟨some b, e2, kp2⟩] env)).filterMap (·.1) = [a, b] := by intro _; rfl)
    (hpl : ∀ env, ((backTo pos (starEach [] env)).any (·.1) || (backToKw pos (keywordEach [⟨some a, e, kp⟩, ⟨some b, e2, kp2⟩] env)).any (·.1.isNone)) = false := by intro _; rfl) (hdb : (x == ("__debug__" : Str)) = false := by decide) :
    WE c F (.Call (.Name x p) [] [⟨some a, e, kp⟩, ⟨some b, e2, kp2⟩] pos) ρ Φ := fun B σ H0 H hF E Q q => by
  obtain ⟨fa, fd, ps, G, hm, kp', hb⟩ := f
  refine wpE_of (t := fun σ H Q => tCons (wpE c e) (tCons (wpE c e2) tNil) σ H fun zs H2 => PF S (ord zs) H2 Q E0) (fun X hX => peK_call (fd := fd) (ps := ps) (k := k) (ks := [a, b]) (ord := ord) ?_ (hX.room.mono hk) ?_ (by rw [hX.mg]; exact hm) (by rw [hX.K]; exact kp') (by rw [hX.K]; exact hb) (pk_cons (peW hX) (pk_cons (peW hX) pk_nil)) (hall _) (hks _) hdb (hpl _)) ?_
  · rw [hX.P, hX.w, hX.K, hX.mg, hX.base]
    exact G
  · show X.env.scope.names.lookup x = _
    rw [hX.sc]
    exact hg
  · refine h B σ H0 H hF E _ fun v d ρ1 H1 H1' E1 e1 r1 k0 => k0 B σ H1 H1' hF E1 _ fun u y ρ2 H2 H2' E2 e2 r2 k1 => ?_
    exact ⟨H2, ord [d, y], _, E2.ex, ho (.cons (r1.mono e2) (.one r2)), k1, fun v d H3 H3' g r3 k2 => q v d ρ2 H3 H3' (E2.grow g) ((e1.trans e2).trans g.fz) r3 k2⟩
end
end G

set_option Elab.async false
set_option linter.all false
set_option maxRecDepth 100000
set_option maxHeartbeats 2000000
namespace G
open PySem PySem.Spec PyProof.Rows L2
/-! ### pages as plain lists -/
abbrev Cell := Option Str
def cellD : Cell → PyData
  | none => .none
  | some s => .str s
def rowD (r : List Cell) : PyData := .tuple (r.map cellD)
def pageD (p : List (List Cell)) : PyData := .tuple (p.map rowD)
def intsD (ns : List Int) : PyData := .list (ns.map PyData.int)
def natsD (ns : List Nat) : PyData := .list (ns.map fun (n : Nat) => PyData.int (n : Int))
def signsS : Str := "abcdefghijklmnopqrstuvwxyz0123456789"
def okV (s : Str) : Prop := 1 ≤ s.length ∧ s.length ≤ 8 ∧ ∀ k ∈ s.cps.toList, k ∈ signsS.cps.toList
def lead : List Cell → Nat
  | none :: r => lead r + 1
  | _ => 0
def okRow (r : List Cell) : Prop := 1 ≤ r.length ∧ r.length ≤ 6 ∧ ∀ x ∈ r.drop (lead r), ∃ s, x = some s ∧ okV s
structure OkRows (p : List (List Cell)) (n : Nat) : Prop where
  lo : 1 ≤ p.length
  hi : p.length ≤ 60
  row : ∀ r ∈ p, okRow r
  wide : ∀ r ∈ p, r.length = n
structure OkPage (p : List (List Cell)) (n : Nat) : Prop extends OkRows p n where
  first : ∀ r, p.head? = some r → lead r = 0
structure OkTable (p : List (List Cell)) (n : Nat) : Prop extends OkRows p n where
  full : ∀ r ∈ p, lead r = 0
theorem lead_le : ∀ r : List Cell, lead r ≤ r.length
  | [] => Nat.le_refl _
  | none :: r => Nat.succ_le_succ (lead_le r)
  | some _ :: r => Nat.zero_le _
theorem lead_get : ∀ {r : List Cell} {i : Nat}, i < lead r → r[i]? = some none
  | none :: r, 0, _ => rfl
  | none :: r, i + 1, h => lead_get (r := r) (i := i) (Nat.lt_of_succ_lt_succ h)
theorem lead_end : ∀ {r : List Cell}, lead r < r.length → ∃ s, r[lead r]? = some (some s)
  | none :: r, h => lead_end (r := r) (Nat.lt_of_succ_lt_succ h)
  | some s :: r, _ => ⟨s, rfl⟩
/-! ### the module's names that are built-ins, its constants -/
structure Mgs (mg : Str → Option Value) : Prop where
  len : mg "len" = none
  isi : mg "isinstance" = none
  int : mg "int" = none
  bool : mg "bool" = none
  str : mg "str" = none
  tuple : mg "tuple" = none
  list : mg "list" = none
  all : mg "all" = none
  sum : mg "sum" = none
  enum : mg "enumerate" = none
  zip : mg "zip" = none
  range : mg "range" = none
  divmod : mg "divmod" = none
  min : mg "min" = none
  max : mg "max" = none
  sorted : mg "sorted" = none
  signs : ∃ t, mg "SIGNS" = some (.str signsS t)
  ms : ∃ t, mg "MOST_SIGNS" = some (.int 8 t)
  mc : ∃ t, mg "MOST_CELLS" = some (.int 6 t)
  mr : ∃ t, mg "MOST_ROWS" = some (.int 60 t)
/-- a comprehension's target: a name, two names -/
theorem pg_own {c : Ct} (j : Nat) {x : Str} {pos : Pos} (hN : c.N[j]? = some x := by rfl) (hx : Loc c.sc x := by first | exact Or.inl rfl | exact Or.inr rfl) (hf : c.fn x = true ∨ c.sc.names.lookup x = some .local := by first | exact .inl rfl | exact .inr rfl) :
    ∀ X, Has c X → PG X (.Name x pos) (gName j) := fun X hX => pg_name hX.nd (by rw [hX.N]; exact hN) (by rw [hX.sc]; exact hx) (by rw [hX.fn, hX.sc]; exact hf)
theorem pg_own2 {c : Ct} (j k : Nat) {x y : Str} {p1 p2 pos : Pos} {n : Nat} (hN : c.N[j]? = some x := by rfl) (hx : Loc c.sc x := by first | exact Or.inl rfl | exact Or.inr rfl) (hf : c.fn x = true ∨ c.sc.names.lookup x = some .local := by first | exact .inl rfl | exact .inr rfl)
    (hM : c.N[k]? = some y := by rfl) (hy : Loc c.sc y := by first | exact Or.inl rfl | exact Or.inr rfl) (hg : c.fn y = true ∨ c.sc.names.lookup y = some .local := by first | exact .inl rfl | exact .inr rfl) :
    ∀ X, Has c X → PG X (.Tuple [.Name x p1, .Name y p2] n pos) (gTup c.K 2 (gCons (gName j) (gCons (gName k) gNil))) := fun X hX => by
  rw [← hX.K]
  exact pg_tup hX.calm (pgs_cons (pg_own j hN hx hf X hX) (pgs_cons (pg_own k hM hy hg X hX) pgs_nil))
theorem we_globI {c : Ct} {F : Fp} {ρ : List Sl} {Φ : PyData → List Sl → Prop} {x : Str} {n : Int} {pos : Pos} (h : ∃ t, c.mg x = some (.int n t)) (q : Φ (.int n) ρ) (hg : c.sc.names.lookup x = some NameKind.globalImplicit := by rfl) (hd : (x == ("__debug__" : Str)) = false := by decide) : WE c F (.Name x pos) ρ Φ := by
  obtain ⟨t, ht⟩ := h
  exact we_glob (v := .int n) (d := .int n) ht ⟨t, rfl⟩ (fun H => .int n) q hg hd
theorem we_globS {c : Ct} {F : Fp} {ρ : List Sl} {Φ : PyData → List Sl → Prop} {x n : Str} {pos : Pos} (h : ∃ t, c.mg x = some (.str n t)) (q : Φ (.str n) ρ) (hg : c.sc.names.lookup x = some NameKind.globalImplicit := by rfl) (hd : (x == ("__debug__" : Str)) = false := by decide) : WE c F (.Name x pos) ρ Φ := by
  obtain ⟨t, ht⟩ := h
  exact we_glob (v := .str n) (d := .str n) ht ⟨t, rfl⟩ (fun H => .str n) q hg hd
section
variable {P : Program} {w : World} {K : PySem.W.Frag} {mg : Str → Option Value} {base : Heap} {f : Addr} {fd : FuncData} {k : Nat}
/-! ### leading_blanks -/
def S_lead (ds : List PyData) (Ψ : PyData → Prop) : Prop := ∃ r : List Cell, ds = [rowD r] ∧ Ψ (.int (lead r : Int))
/-! ### is_value, of a value -/
def S_isv (ds : List PyData) (Ψ : PyData → Prop) : Prop := ∃ s : Str, ds = [.str s] ∧ okV s ∧ Ψ (.bool true)
theorem all_true (n : Nat) : (List.replicate n true).all id = true := by
  rw [List.all_eq_true]
  intro x hx
  exact (List.eq_of_mem_replicate hx)
end
end G
namespace G
open PySem PySem.Spec PyProof.Rows L2
theorem cutD_from (xs : List PyData) (n : Nat) : cutD xs (some (n : Int)) none = xs.drop n := by
  unfold cutD
  rw [HT.sIx_nat, HT.sIx_none]
  by_cases h : n ≤ xs.length
  · rw [Nat.min_eq_left h, List.take_of_length_le (by rw [List.length_drop]; omega)]
  · rw [Nat.min_eq_right (by omega), List.drop_of_length_le (Nat.le_refl _), List.drop_of_length_le (by omega)]
    simp
theorem cutD_to (xs : List PyData) (n : Nat) : cutD xs none (some (n : Int)) = xs.take n := by
  unfold cutD
  rw [HT.sIx_nat]
  show (xs.drop 0).take (min n xs.length - 0) = _
  rw [List.drop_zero, Nat.sub_zero]
  by_cases h : n ≤ xs.length
  · rw [Nat.min_eq_left h]
  · rw [Nat.min_eq_right (by omega), List.take_length, List.take_of_length_le (by omega)]
theorem okD_int (i : Int) : okD (.int i) := ⟨rfl, by unfold SeqAt.shaped; simp [PyData.canLay0, PyData.depth]⟩
theorem okD_none : okD .none := ⟨rfl, by unfold SeqAt.shaped; simp [PyData.canLay0, PyData.depth]⟩
theorem eqv_int (i j : Int) : PyData.eqv (.int i) (.int j) = decide (i = j) := by simp only [PyData.eqv]; exact PySem.W.beq_decide i j
theorem eqv_cell (x y : Cell) : PyData.eqv (cellD x) (cellD y) = decide (x = y) := by
  cases x <;> cases y
  · rfl
  · simp [cellD, PyData.eqv]
  · simp [cellD, PyData.eqv]
  · rename_i a b
    simp only [cellD, PyData.eqv]
    rw [PySem.W.beq_decide]
    simp
theorem all_const (xs : List PyData) {Θ : PyData → Prop} (h : Θ (.bool true)) : ∃ bs : List Bool, PyData.list (xs.map fun _ => .bool true) = .list (bs.map .bool) ∧ Θ (.bool (bs.all id)) := by
  refine ⟨List.replicate xs.length true, by rw [List.map_const', List.map_replicate], ?_⟩
  rw [all_true]
  exact h
section
variable {P : Program} {w : World} {K : PySem.W.Frag} {mg : Str → Option Value} {base : Heap} {f : Addr} {fd : FuncData}
/-! ### is_printed_row, are_printed_rows, is_page, is_table, of what they are -/
def S_ipr (ds : List PyData) (Ψ : PyData → Prop) : Prop := ∃ r : List Cell, ds = [rowD r] ∧ okRow r ∧ Ψ (.bool true)
def S_apr (ds : List PyData) (Ψ : PyData → Prop) : Prop := ∃ (p : List (List Cell)) (n : Nat), ds = [pageD p] ∧ OkRows p n ∧ Ψ (.bool true)
theorem OkRows.head {p : List (List Cell)} {n : Nat} (h : OkRows p n) : ∃ r, p[0]? = some r ∧ r ∈ p ∧ r.length = n := by
  have h1 : 0 < p.length := h.lo
  exact ⟨p[0], List.getElem?_eq_getElem h1, List.getElem_mem h1, h.wide _ (List.getElem_mem h1)⟩
theorem page_at {p : List (List Cell)} {i : Nat} {r : List Cell} (h : p[i]? = some r) : idxD (pageD p) (.int (i : Int)) = some (rowD r) := by
  show atI (p.map rowD) (i : Int) = _
  exact atI_nat (by rw [List.getElem?_map, h]; rfl)
def S_isp (ds : List PyData) (Ψ : PyData → Prop) : Prop := ∃ (p : List (List Cell)) (n : Nat), ds = [pageD p] ∧ OkPage p n ∧ Ψ (.bool true)
def S_ist (ds : List PyData) (Ψ : PyData → Prop) : Prop := ∃ (p : List (List Cell)) (n : Nat), ds = [pageD p] ∧ OkTable p n ∧ Ψ (.bool true)
def S_chp (ds : List PyData) (Ψ : PyData → Prop) : Prop := ∃ (p : List (List Cell)) (n : Nat), ds = [pageD p] ∧ OkPage p n ∧ Ψ .none
def S_cht (ds : List PyData) (Ψ : PyData → Prop) : Prop := ∃ (p : List (List Cell)) (n : Nat), ds = [pageD p] ∧ OkTable p n ∧ Ψ .none
end
end G
namespace G
open PySem PySem.Spec PyProof.Rows L2
/-! ### data that == takes -/
theorem strOk_of {s : Str} (h : okV s) : PyData.strOk s = true := by
  unfold PyData.strOk
  rw [← Array.all_toList, List.all_eq_true]
  intro k hk
  exact decide_eq_true (by
    have hs : signsS.cps.toList.all (fun k => decide (k < 1114112)) = true := by decide +kernel
    exact of_decide_eq_true (List.all_eq_true.mp hs k (h.2.2 k hk)))
structure okN (n : Nat) (d : PyData) : Prop where
  pl : plain d = true
  cl : d.canLay0 = true
  dp : d.depth ≤ n
theorem okN.okD {n : Nat} {d : PyData} (h : okN n d) (hn : n ≤ 64 := by decide) : okD d := ⟨h.pl, by
  unfold SeqAt.shaped
  rw [h.cl, Bool.true_and]
  exact decide_eq_true (Nat.le_trans h.dp hn)⟩
theorem okN.mono {n m : Nat} {d : PyData} (h : okN n d) (hn : n ≤ m) : okN m d := ⟨h.pl, h.cl, Nat.le_trans h.dp hn⟩
theorem okN_all {n : Nat} : ∀ {xs : List PyData}, (∀ x ∈ xs, okN n x) → PyData.canLayAll0 xs = true ∧ PyData.depthAll xs ≤ n ∧ plainL xs = true
  | [], _ => ⟨by simp [PyData.canLayAll0], by simp [PyData.depthAll], rfl⟩
  | x :: xs, h => by
    obtain ⟨h1, h2, h3⟩ := okN_all (fun y hy => h y (List.mem_cons_of_mem _ hy))
    have hx := h x List.mem_cons_self
    have := hx.dp
    refine ⟨by simp [PyData.canLayAll0, h1, hx.cl], by simp [PyData.depthAll]; omega, ?_⟩
    show (plain x && plainL xs) = true
    rw [hx.pl, h3]
    rfl
theorem okN_tup {n : Nat} {xs : List PyData} (h : ∀ x ∈ xs, okN n x) : okN (n + 1) (.tuple xs) := by
  obtain ⟨h1, h2, h3⟩ := okN_all h
  exact ⟨h3, by simp [PyData.canLay0, h1], by simp [PyData.depth]; omega⟩
theorem okN_list {n : Nat} {xs : List PyData} (h : ∀ x ∈ xs, okN n x) : okN (n + 1) (.list xs) := by
  obtain ⟨h1, h2, h3⟩ := okN_all h
  exact ⟨h3, by simp [PyData.canLay0, h1], by simp [PyData.depth]; omega⟩
theorem okN_int (i : Int) : okN 0 (.int i) := ⟨rfl, by simp [PyData.canLay0], by simp [PyData.depth]⟩
theorem okN_none : okN 0 .none := ⟨rfl, by simp [PyData.canLay0], by simp [PyData.depth]⟩
theorem okN_str {s : Str} (h : PyData.strOk s = true) : okN 0 (.str s) := ⟨rfl, by simp [PyData.canLay0, h], by simp [PyData.depth]⟩
/-- a cell that is None or a value -/
def okC (x : Cell) : Prop := ∀ s, x = some s → okV s
theorem okN_cell {x : Cell} (h : okC x) : okN 0 (cellD x) := by
  cases x with
  | none => exact okN_none
  | some s => exact okN_str (strOk_of (h s rfl))
theorem okRow.cells {r : List Cell} (h : okRow r) : ∀ x ∈ r, okC x := by
  intro x hx s e
  subst e
  have h1 : r = r.take (lead r) ++ r.drop (lead r) := (List.take_append_drop _ _).symm
  rw [h1] at hx
  rcases List.mem_append.mp hx with h2 | h2
  · exfalso
    obtain ⟨i, hi, e⟩ := List.mem_iff_getElem.mp h2
    rw [List.length_take] at hi
    rw [List.getElem_take] at e
    have := lead_get (r := r) (i := i) (by omega)
    rw [List.getElem?_eq_getElem (by omega), e] at this
    cases this
  · obtain ⟨t, e, ht⟩ := h.2.2 _ h2
    cases e
    exact ht
theorem okN_row {r : List Cell} (h : ∀ x ∈ r, okC x) : okN 1 (rowD r) := okN_tup fun d hd => by
  obtain ⟨x, hx, rfl⟩ := List.mem_map.mp hd
  exact okN_cell (h x hx)
theorem okN_page {p : List (List Cell)} (h : ∀ r ∈ p, ∀ x ∈ r, okC x) : okN 2 (pageD p) := okN_tup fun d hd => by
  obtain ⟨r, hr, rfl⟩ := List.mem_map.mp hd
  exact okN_row (h r hr)
theorem okN_ints (ns : List Int) : okN 1 (intsD ns) := okN_list fun d hd => by
  obtain ⟨x, hx, rfl⟩ := List.mem_map.mp hd
  exact okN_int x
theorem okN_nats (ns : List Nat) : okN 1 (natsD ns) := okN_list fun d hd => by
  obtain ⟨x, hx, rfl⟩ := List.mem_map.mp hd
  exact okN_int _
/-! ### == -/
theorem eqv_tup (xs ys : List PyData) : PyData.eqv (.tuple xs) (.tuple ys) = PyData.eqvAll xs ys := by simp only [PyData.eqv]
theorem eqv_list (xs ys : List PyData) : PyData.eqv (.list xs) (.list ys) = PyData.eqvAll xs ys := by simp only [PyData.eqv]
theorem eqvAll_map {α : Type} [DecidableEq α] (f : α → PyData) (hf : ∀ x y, PyData.eqv (f x) (f y) = decide (x = y)) : ∀ xs ys : List α, PyData.eqvAll (xs.map f) (ys.map f) = decide (xs = ys)
  | [], [] => by simp [PyData.eqvAll]
  | [], y :: ys => by simp [PyData.eqvAll]
  | x :: xs, [] => by simp [PyData.eqvAll]
  | x :: xs, y :: ys => by
    simp only [List.map_cons, PyData.eqvAll, hf, eqvAll_map f hf xs ys]
    by_cases h1 : x = y <;> by_cases h2 : xs = ys <;> simp [h1, h2]
theorem eqv_row (r s : List Cell) : PyData.eqv (rowD r) (rowD s) = decide (r = s) := by
  unfold rowD
  rw [eqv_tup, eqvAll_map cellD eqv_cell]
theorem eqv_page (p q : List (List Cell)) : PyData.eqv (pageD p) (pageD q) = decide (p = q) := by
  unfold pageD
  rw [eqv_tup, eqvAll_map rowD eqv_row]
theorem eqv_ints (p q : List Int) : PyData.eqv (intsD p) (intsD q) = decide (p = q) := by
  unfold intsD
  rw [eqv_list, eqvAll_map PyData.int eqv_int]
theorem eqv_nat (i j : Nat) : PyData.eqv (.int (i : Int)) (.int (j : Int)) = decide (i = j) := by
  rw [eqv_int]
  by_cases h : i = j
  · rw [decide_eq_true h, decide_eq_true (by rw [h])]
  · rw [decide_eq_false h, decide_eq_false (fun e => h (Int.ofNat_inj.mp e))]
theorem eqv_nats (p q : List Nat) : PyData.eqv (natsD p) (natsD q) = decide (p = q) := by
  unfold natsD
  rw [eqv_list, eqvAll_map (fun (n : Nat) => PyData.int (n : Int)) eqv_nat]
/-! ### what the helpers mean -/
def sh : List Cell → List Cell → Nat
  | x :: xs, y :: ys => if x = y then sh xs ys + 1 else 0
  | _, _ => 0
theorem sh_le : ∀ xs ys : List Cell, sh xs ys ≤ xs.length ∧ sh xs ys ≤ ys.length
  | [], _ => ⟨Nat.zero_le _, Nat.zero_le _⟩
  | x :: xs, [] => ⟨Nat.zero_le _, Nat.zero_le _⟩
  | x :: xs, y :: ys => by
    have := sh_le xs ys
    unfold sh
    split <;> simp only [List.length_cons] <;> omega
theorem sh_get : ∀ {xs ys : List Cell} {i : Nat}, i < sh xs ys → xs[i]? = ys[i]?
  | [], _, _, h => absurd h (Nat.not_lt_zero _)
  | x :: xs, [], _, h => absurd h (Nat.not_lt_zero _)
  | x :: xs, y :: ys, i, h => by
    unfold sh at h
    split at h
    · next e =>
      subst e
      cases i with
      | zero => rfl
      | succ i => exact sh_get (xs := xs) (ys := ys) (by omega)
    · exact absurd h (Nat.not_lt_zero _)
theorem sh_end : ∀ {xs ys : List Cell}, sh xs ys < xs.length → sh xs ys < ys.length → xs[sh xs ys]? ≠ ys[sh xs ys]?
  | [], _, h, _ => absurd h (Nat.not_lt_zero _)
  | x :: xs, [], _, h => absurd h (Nat.not_lt_zero _)
  | x :: xs, y :: ys, h, h' => by
    unfold sh at h h' ⊢
    by_cases e : x = y
    · rw [if_pos e] at h h' ⊢
      exact sh_end (xs := xs) (ys := ys) (Nat.lt_of_succ_lt_succ h) (Nat.lt_of_succ_lt_succ h')
    · rw [if_neg e]
      intro z
      exact e (Option.some.inj z)
/-- the row that is read: the blanks from the row above -/
def readOne (ab r : List Cell) : List Cell := ab.take (lead r) ++ r.drop (lead r)
def readR : List Cell → List (List Cell) → List (List Cell)
  | _, [] => []
  | ab, r :: rs => readOne ab r :: readR (readOne ab r) rs
/-- the row above, behind all rows -/
def readE : List Cell → List (List Cell) → List Cell
  | ab, [] => ab
  | ab, r :: rs => readE (readOne ab r) rs
theorem readR_append (ab : List Cell) : ∀ (p q : List (List Cell)), readR ab (p ++ q) = readR ab p ++ readR (readE ab p) q
  | [], q => rfl
  | r :: p, q => by
    show readOne ab r :: readR (readOne ab r) (p ++ q) = _
    rw [readR_append (readOne ab r) p q]
    rfl
theorem readE_append (ab : List Cell) : ∀ (p q : List (List Cell)), readE ab (p ++ q) = readE (readE ab p) q
  | [], q => rfl
  | r :: p, q => readE_append (readOne ab r) p q
theorem readR_length (ab : List Cell) : ∀ p : List (List Cell), (readR ab p).length = p.length
  | [] => rfl
  | r :: p => by
    show (readR (readOne ab r) p).length + 1 = _
    rw [readR_length (readOne ab r) p]
    rfl
def blankRow (n : Nat) : List Cell := List.replicate n none
def fill (p : List (List Cell)) : List (List Cell) := readR (blankRow (p.head?.elim 0 List.length)) p
/-- sizes and indexes -/
def prodN (ns : List Nat) : Nat := ns.foldl (· * ·) 1
def digs : Nat → List Nat → List Nat
  | _, [] => []
  | n, s :: ss => n % s :: digs (n / s) ss
def restN : Nat → List Nat → Nat
  | n, [] => n
  | n, s :: ss => restN (n / s) ss
def nth (n : Nat) (ss : List Nat) : List Nat := (digs n ss.reverse).reverse
def numN (ds ss : List Nat) : Nat := (List.zip ds ss).foldl (fun a z => a * z.2 + z.1) 0
end G
namespace G
open PySem PySem.Spec PyProof.Rows L2
theorem row_at {r : List Cell} {i : Nat} {x : Cell} (h : r[i]? = some x) : idxD (rowD r) (.int (i : Int)) = some (cellD x) := by
  show atI (r.map cellD) (i : Int) = _
  exact atI_nat (by rw [List.getElem?_map, h]; rfl)
theorem len_row (r : List Cell) : lenD (rowD r) = some r.length := by simp [rowD, lenD]
theorem len_page (p : List (List Cell)) : lenD (pageD p) = some p.length := by simp [pageD, lenD]
theorem cut_row_to (r : List Cell) (n : Nat) : sliceD (rowD r) none (some (n : Int)) = some (rowD (r.take n)) := by
  show some (PyData.tuple (cutD (r.map cellD) none (some (n : Int)))) = _
  rw [cutD_to, ← List.map_take]
  rfl
theorem cut_row_from (r : List Cell) (n : Nat) : sliceD (rowD r) (some (n : Int)) none = some (rowD (r.drop n)) := by
  show some (PyData.tuple (cutD (r.map cellD) (some (n : Int)) none)) = _
  rw [cutD_from, ← List.map_drop]
  rfl
theorem cut_page_to (r : List (List Cell)) (n : Nat) : sliceD (pageD r) none (some (n : Int)) = some (pageD (r.take n)) := by
  show some (PyData.tuple (cutD (r.map rowD) none (some (n : Int)))) = _
  rw [cutD_to, ← List.map_take]
  rfl
theorem cut_page_from (r : List (List Cell)) (n : Nat) : sliceD (pageD r) (some (n : Int)) none = some (pageD (r.drop n)) := by
  show some (PyData.tuple (cutD (r.map rowD) (some (n : Int)) none)) = _
  rw [cutD_from, ← List.map_drop]
  rfl
theorem cat_row {r s : List Cell} (h : r.length + s.length ≤ 100000) : addD (rowD r) (rowD s) = some (rowD (r ++ s)) := by
  unfold rowD
  rw [addD_tup (by rw [List.length_map, List.length_map]; exact h), List.map_append]
theorem cat_page {r s : List (List Cell)} (h : r.length + s.length ≤ 100000) : addD (pageD r) (pageD s) = some (pageD (r ++ s)) := by
  unfold pageD
  rw [addD_tup (by rw [List.length_map, List.length_map]; exact h), List.map_append]
theorem flat_one {α : Type} (x : α) : ∀ n : Nat, (List.replicate n [x]).flatten = List.replicate n x
  | 0 => rfl
  | n + 1 => by rw [List.replicate_succ, List.flatten_cons, flat_one x n]; rfl
theorem blankRow_D (n : Nat) : PyData.tuple (List.replicate n [PyData.none]).flatten = rowD (blankRow n) := by
  rw [flat_one]
  unfold rowD blankRow
  rw [List.map_replicate]
  rfl
section
variable {P : Program} {w : World} {K : PySem.W.Frag} {mg : Str → Option Value} {base : Heap} {f : Addr} {fd : FuncData}
/-! ### values_shared -/
def S_vs (ds : List PyData) (Ψ : PyData → Prop) : Prop := ∃ r s : List Cell, ds = [rowD r, rowD s] ∧ (∀ x ∈ r, okC x) ∧ (∀ x ∈ s, okC x) ∧ r.length ≤ s.length ∧ Ψ (.int (sh r s : Int))
/-! ### read_rows -/
def S_rr (ds : List PyData) (Ψ : PyData → Prop) : Prop := ∃ (p : List (List Cell)) (n : Nat), ds = [pageD p] ∧ OkRows p n ∧ Ψ (.list ((readR (blankRow n) p).map rowD))
theorem readOne_len {ab r : List Cell} {n : Nat} (h1 : ab.length = n) (h2 : r.length = n) : (readOne ab r).length = n := by
  unfold readOne
  have := lead_le r
  rw [List.length_append, List.length_take, List.length_drop]
  omega
theorem readE_len {n : Nat} : ∀ {p : List (List Cell)} {ab : List Cell}, ab.length = n → (∀ r ∈ p, r.length = n) → (readE ab p).length = n
  | [], ab, h, _ => h
  | r :: p, ab, h, hp => readE_len (p := p) (readOne_len h (hp r List.mem_cons_self)) fun s hs => hp s (List.mem_cons_of_mem _ hs)
/-! ### count_choices, nth_choice, choice_number -/
theorem prodN_append (a b : List Nat) : prodN (a ++ b) = prodN a * prodN b := by
  unfold prodN
  rw [List.foldl_append]
  suffices h : ∀ (b : List Nat) (k : Nat), b.foldl (· * ·) k = k * b.foldl (· * ·) 1 from h b _
  intro b
  induction b with
  | nil => intro k; simp
  | cons x b ih =>
    intro k
    rw [List.foldl_cons, List.foldl_cons, ih, ih (1 * x), Nat.one_mul, Nat.mul_assoc]
theorem prodN_cons (x : Nat) (b : List Nat) : prodN (x :: b) = x * prodN b := by
  have := prodN_append [x] b
  rw [List.singleton_append] at this
  rw [this]
  simp [prodN]
theorem prodN_bits {ns : List Nat} (h : ∀ s ∈ ns, s < 2 ^ 200) : prodN ns < 2 ^ (200 * ns.length + 1) := by
  induction ns with
  | nil => simp [prodN]
  | cons x ns ih =>
    rw [prodN_cons, List.length_cons]
    have h1 := ih fun s hs => h s (List.mem_cons_of_mem _ hs)
    have h2 := h x List.mem_cons_self
    calc x * prodN ns ≤ 2 ^ 200 * prodN ns := Nat.mul_le_mul_right _ (Nat.le_of_lt h2)
      _ < 2 ^ 200 * 2 ^ (200 * ns.length + 1) := (Nat.mul_lt_mul_left (Nat.two_pow_pos _)).mpr h1
      _ = 2 ^ (200 * (ns.length + 1) + 1) := by rw [← Nat.pow_add]; congr 1; omega
structure Sizes (ns : List Nat) : Prop where
  few : ns.length ≤ 200
  pos : ∀ s ∈ ns, 0 < s
  bits : ∀ s ∈ ns, s < 2 ^ 200
theorem Sizes.prod {ns : List Nat} (h : Sizes ns) : prodN ns < 2 ^ 40001 := Nat.lt_of_lt_of_le (prodN_bits h.bits) (Nat.pow_le_pow_right (by decide) (by have := h.few; omega))
theorem Sizes.take {ns : List Nat} (h : Sizes ns) (i : Nat) : Sizes (ns.take i) := ⟨by rw [List.length_take]; have := h.few; omega, fun s hs => h.pos s (List.mem_of_mem_take hs), fun s hs => h.bits s (List.mem_of_mem_take hs)⟩
theorem nats_get {ns : List Nat} {i : Nat} {d : PyData} (h : (ns.map fun (n : Nat) => PyData.int (n : Int))[i]? = some d) : ∃ n, ns[i]? = some n ∧ d = .int (n : Int) := by
  rw [List.getElem?_map] at h
  obtain ⟨n, h1, h2⟩ := Option.map_eq_some_iff.mp h
  exact ⟨n, h1, h2.symm⟩
def S_cc (ds : List PyData) (Ψ : PyData → Prop) : Prop := ∃ ns : List Nat, ds = [natsD ns] ∧ Sizes ns ∧ Ψ (.int (prodN ns : Int))
end
end G
namespace G
open PySem PySem.Spec PyProof.Rows L2
theorem digs_append : ∀ (n : Nat) (a b : List Nat), digs n (a ++ b) = digs n a ++ digs (restN n a) b
  | n, [], b => rfl
  | n, s :: a, b => by
    show n % s :: digs (n / s) (a ++ b) = _
    rw [digs_append (n / s) a b]
    rfl
theorem restN_append : ∀ (n : Nat) (a b : List Nat), restN n (a ++ b) = restN (restN n a) b
  | n, [], b => rfl
  | n, s :: a, b => restN_append (n / s) a b
theorem digs_length : ∀ (n : Nat) (a : List Nat), (digs n a).length = a.length
  | n, [] => rfl
  | n, s :: a => by
    show (digs (n / s) a).length + 1 = _
    rw [digs_length (n / s) a]
    rfl
theorem log2_lt {n k : Nat} (h : n < 2 ^ k) (hk : 0 < k) : n.log2 < k := by
  by_cases h0 : n = 0
  · subst h0
    simpa using hk
  · exact (Nat.log2_lt h0).mpr h
section
variable {P : Program} {w : World} {K : PySem.W.Frag} {mg : Str → Option Value} {base : Heap} {f : Addr} {fd : FuncData}
def S_nc (ds : List PyData) (Ψ : PyData → Prop) : Prop := ∃ (n : Nat) (ns : List Nat), ds = [.int (n : Int), natsD ns] ∧ Sizes ns ∧ Ψ (natsD (nth n ns))
def numNI (ds ss : List Nat) : Int := (numN ds ss : Int)
def S_cn (ds : List PyData) (Ψ : PyData → Prop) : Prop := ∃ is ns : List Nat, ds = [natsD is, natsD ns] ∧ Sizes ns ∧ is.length = ns.length ∧ (∀ (j : Nat) (i s : Nat), is[j]? = some i → ns[j]? = some s → i < s) ∧ Ψ (.int (numN is ns : Int))
theorem zip_get {α β : Type} {xs : List α} {ys : List β} {i : Nat} {x : α} {y : β} (h1 : xs[i]? = some x) (h2 : ys[i]? = some y) : (List.zip xs ys)[i]? = some (x, y) := by
  rw [List.getElem?_zip_eq_some]
  exact ⟨h1, h2⟩
/-- a prefix number stays below the product -/
theorem numZ_lt : ∀ (zs : List (Nat × Nat)), (∀ z ∈ zs, z.1 < z.2) → ∀ k, zs.foldl (fun a z => a * z.2 + z.1) k < (k + 1) * prodN (zs.map (·.2))
  | [], _, k => by simp [prodN]
  | z :: zs, h, k => by
    rw [List.foldl_cons, List.map_cons, prodN_cons]
    refine Nat.lt_of_lt_of_le (numZ_lt zs (fun y hy => h y (List.mem_cons_of_mem _ hy)) _) ?_
    rw [← Nat.mul_assoc]
    refine Nat.mul_le_mul_right _ ?_
    have := h z List.mem_cons_self
    rw [Nat.succ_mul]
    omega
/-! ### is_number, check_number: of integers -/
def S_inn (ds : List PyData) (Ψ : PyData → Prop) : Prop := ∃ i n : Int, ds = [.int i, .int n] ∧ Ψ (.bool (decide (0 ≤ i) && decide (i < n)))
def S_chn (ds : List PyData) (Ψ : PyData → Prop) : Prop := ∃ i n : Int, ds = [.int i, .int n] ∧ 0 ≤ i ∧ i < n ∧ Ψ .none
end
end G
namespace G
open PySem PySem.Spec PyProof.Rows L2
/-! ### a comprehension whose list is known -/
section
variable {c : Ct} {F : Fp} {ρ : List Sl} {pos apos cpos : Pos} {a b e : Expr} {es : List Expr} {D : SE}
theorem wlc_to {elt tg iter : Expr} {scope : Scope} {g : TG} {Φ : List PyData → List Sl → Prop} (own : List (Str × Nat)) (st : List Sl → PyData → List Sl) (hg : ∀ X, Has (c.blk scope) X → PG X tg g) (ok : blkC c.N c.sc scope own = true)
    (h : WI c F tg iter ρ fun ds ρ1 => ∃ zs : List PyData, ds.length ≤ 90000 ∧ zs.length = ds.length ∧ (∀ (i : Nat) (d : PyData), ds[i]? = some d → GD g (own.map (·.2)) (unset ρ1 (own.map (·.2))) d (st (unset ρ1 (own.map (·.2))) d) ∧ WE (c.blk scope) F elt (st (unset ρ1 (own.map (·.2))) d) fun z ρ4 => zs[i]? = some z ∧ unset ρ4 (own.map (·.2)) = unset ρ1 (own.map (·.2))) ∧ Φ zs (unset (unset ρ1 (own.map (·.2))) (own.map (·.2)))) (hs : ∀ env x, foldedSetIterable iter env x = pure x := by intro _ _; rfl) :
    WLC c F elt (tg) iter [] scope ρ Φ := by
  refine wlc own hg ok (fun B σ H0 H hF E R q => h B σ H0 H hF E R fun J ds ρ1 H0' H' E' e' src ⟨zs, lim, hl, step, fin⟩ => q J ds ρ1 H0' H' E' e' src ?_) hs
  refine ⟨fun i acc ρ' => acc = zs.take i ∧ ρ' = unset ρ1 (own.map (·.2)), lim, ⟨by simp, rfl⟩, ?_, ?_⟩
  · rintro i d acc _ hd _ ⟨rfl, rfl⟩
    obtain ⟨s1, s2⟩ := step i d hd
    refine ⟨_, s1, wts_nil ⟨fun _ => s2.imp fun z ρ4 ⟨e1, e2⟩ => ⟨?_, e2⟩, fun h => nomatch h⟩⟩
    rw [take_snoc e1]
  · rintro acc _ _ ⟨rfl, rfl⟩
    rw [← hl, List.take_length]
    exact fin
/-- .. the target two names -/
theorem wlc_to2 {elt iter : Expr} {scope : Scope} {x y : Str} {p1 p2 pt : Pos} {n : Nat} {Φ : List PyData → List Sl → Prop} (own : List (Str × Nat)) (j k : Nat) (ok : blkC c.N c.sc scope own = true)
    (h : WI c F (.Tuple [.Name x p1, .Name y p2] n pt) iter ρ fun ds ρ1 => ∃ zs : List PyData, ds.length ≤ 90000 ∧ zs.length = ds.length ∧ j < ρ1.length ∧ k < ρ1.length ∧ (∀ (i : Nat) (d : PyData), ds[i]? = some d → ∃ u v, d = .tuple [u, v] ∧ WE (c.blk scope) F elt (((unset ρ1 (own.map (·.2))).set j (Sl.fz u)).set k (Sl.fz v)) fun z ρ4 => zs[i]? = some z ∧ unset ρ4 (own.map (·.2)) = unset ρ1 (own.map (·.2))) ∧ Φ zs (unset (unset ρ1 (own.map (·.2))) (own.map (·.2)))) (hs : ∀ env x, foldedSetIterable iter env x = pure x := by intro _ _; rfl)
    (hj : j ∈ own.map (·.2) := by decide) (hk : k ∈ own.map (·.2) := by decide) (hN : (c.blk scope).N[j]? = some x := by rfl) (hx : Loc (c.blk scope).sc x := by first | exact Or.inl rfl | exact Or.inr rfl) (hf : (c.blk scope).fn x = true ∨ (c.blk scope).sc.names.lookup x = some .local := by first | exact .inl rfl | exact .inr rfl)
    (hM : (c.blk scope).N[k]? = some y := by rfl) (hy : Loc (c.blk scope).sc y := by first | exact Or.inl rfl | exact Or.inr rfl) (hg : (c.blk scope).fn y = true ∨ (c.blk scope).sc.names.lookup y = some .local := by first | exact .inl rfl | exact .inr rfl) :
    WLC c F elt (.Tuple [.Name x p1, .Name y p2] n pt) iter [] scope ρ Φ := by
  refine wlc_to own (fun ρ1 d => match d with
    | .tuple [u, v] => (ρ1.set j (Sl.fz u)).set k (Sl.fz v)
    | _ => ρ1) (pg_own2 (c := c.blk scope) j k hN hx hf hM hy hg) ok ?_ hs
  exact fun B σ H0 H hF E R q => h B σ H0 H hF E R fun J ds ρ1 H0' H' E' e' src ⟨zs, lim, hl, l1, l2, step, fin⟩ => q J ds ρ1 H0' H' E' e' src ⟨zs, lim, hl, fun i d hd => by
    obtain ⟨u, v, rfl, w⟩ := step i d hd
    exact ⟨gd_tup2 j k hj hk (by rw [unset_len]; exact l1) (by rw [unset_len]; exact l2), w⟩, fin⟩
theorem wlc_to1 {elt iter : Expr} {scope : Scope} {x : Str} {px : Pos} {Φ : List PyData → List Sl → Prop} (own : List (Str × Nat)) (j : Nat) (ok : blkC c.N c.sc scope own = true)
    (h : WI c F (.Name x px) iter ρ fun ds ρ1 => ∃ zs : List PyData, ds.length ≤ 90000 ∧ zs.length = ds.length ∧ j < ρ1.length ∧ (∀ (i : Nat) (d : PyData), ds[i]? = some d → WE (c.blk scope) F elt ((unset ρ1 (own.map (·.2))).set j (Sl.fz d)) fun z ρ4 => zs[i]? = some z ∧ unset ρ4 (own.map (·.2)) = unset ρ1 (own.map (·.2))) ∧ Φ zs (unset (unset ρ1 (own.map (·.2))) (own.map (·.2)))) (hs : ∀ env x, foldedSetIterable iter env x = pure x := by intro _ _; rfl)
    (hj : j ∈ own.map (·.2) := by decide) (hN : (c.blk scope).N[j]? = some x := by rfl) (hx : Loc (c.blk scope).sc x := by first | exact Or.inl rfl | exact Or.inr rfl) (hf : (c.blk scope).fn x = true ∨ (c.blk scope).sc.names.lookup x = some .local := by first | exact .inl rfl | exact .inr rfl) :
    WLC c F elt (.Name x px) iter [] scope ρ Φ := by
  refine wlc_to own (fun ρ1 d => ρ1.set j (Sl.fz d)) (pg_own (c := c.blk scope) j hN hx hf) ok ?_ hs
  exact fun B σ H0 H hF E R q => h B σ H0 H hF E R fun J ds ρ1 H0' H' E' e' src ⟨zs, lim, hl, l1, step, fin⟩ => q J ds ρ1 H0' H' E' e' src ⟨zs, lim, hl, fun i d hd => ⟨gd_name j hj (by rw [unset_len]; exact l1), step i d hd⟩, fin⟩
theorem wl_to {elt tg iter : Expr} {scope : Scope} {g : TG} {Φ : List PyData → List Sl → Prop} (own : List (Str × Nat)) (st : List Sl → PyData → List Sl) (hg : ∀ X, Has (c.blk scope) X → PG X tg g) (ok : blkC c.N c.sc scope own = true)
    (h : WI c F tg iter ρ fun ds ρ1 => ∃ zs : List PyData, ds.length ≤ 90000 ∧ zs.length = ds.length ∧ (∀ (i : Nat) (d : PyData), ds[i]? = some d → GD g (own.map (·.2)) (unset ρ1 (own.map (·.2))) d (st (unset ρ1 (own.map (·.2))) d) ∧ WE (c.blk scope) F elt (st (unset ρ1 (own.map (·.2))) d) fun z ρ4 => zs[i]? = some z ∧ unset ρ4 (own.map (·.2)) = unset ρ1 (own.map (·.2))) ∧ Φ zs (unset (unset ρ1 (own.map (·.2))) (own.map (·.2)))) (hs : ∀ env x, foldedSetIterable iter env x = pure x := by intro _ _; rfl) :
    WL c F (.ListComp elt [⟨tg, iter, [], 0⟩] scope pos) ρ Φ := (wlc_to own st hg ok h hs).wl
theorem wl_to2 {elt iter : Expr} {scope : Scope} {x y : Str} {p1 p2 pt : Pos} {n : Nat} {Φ : List PyData → List Sl → Prop} (own : List (Str × Nat)) (j k : Nat) (ok : blkC c.N c.sc scope own = true)
    (h : WI c F (.Tuple [.Name x p1, .Name y p2] n pt) iter ρ fun ds ρ1 => ∃ zs : List PyData, ds.length ≤ 90000 ∧ zs.length = ds.length ∧ j < ρ1.length ∧ k < ρ1.length ∧ (∀ (i : Nat) (d : PyData), ds[i]? = some d → ∃ u v, d = .tuple [u, v] ∧ WE (c.blk scope) F elt (((unset ρ1 (own.map (·.2))).set j (Sl.fz u)).set k (Sl.fz v)) fun z ρ4 => zs[i]? = some z ∧ unset ρ4 (own.map (·.2)) = unset ρ1 (own.map (·.2))) ∧ Φ zs (unset (unset ρ1 (own.map (·.2))) (own.map (·.2)))) (hs : ∀ env x, foldedSetIterable iter env x = pure x := by intro _ _; rfl)
    (hj : j ∈ own.map (·.2) := by decide) (hk : k ∈ own.map (·.2) := by decide) (hN : (c.blk scope).N[j]? = some x := by rfl) (hx : Loc (c.blk scope).sc x := by first | exact Or.inl rfl | exact Or.inr rfl) (hf : (c.blk scope).fn x = true ∨ (c.blk scope).sc.names.lookup x = some .local := by first | exact .inl rfl | exact .inr rfl)
    (hM : (c.blk scope).N[k]? = some y := by rfl) (hy : Loc (c.blk scope).sc y := by first | exact Or.inl rfl | exact Or.inr rfl) (hg : (c.blk scope).fn y = true ∨ (c.blk scope).sc.names.lookup y = some .local := by first | exact .inl rfl | exact .inr rfl) :
    WL c F (.ListComp elt [⟨.Tuple [.Name x p1, .Name y p2] n pt, iter, [], 0⟩] scope pos) ρ Φ := (wlc_to2 own j k ok h hs hj hk hN hx hf hM hy hg).wl
theorem wl_to1 {elt iter : Expr} {scope : Scope} {x : Str} {px : Pos} {Φ : List PyData → List Sl → Prop} (own : List (Str × Nat)) (j : Nat) (ok : blkC c.N c.sc scope own = true)
    (h : WI c F (.Name x px) iter ρ fun ds ρ1 => ∃ zs : List PyData, ds.length ≤ 90000 ∧ zs.length = ds.length ∧ j < ρ1.length ∧ (∀ (i : Nat) (d : PyData), ds[i]? = some d → WE (c.blk scope) F elt ((unset ρ1 (own.map (·.2))).set j (Sl.fz d)) fun z ρ4 => zs[i]? = some z ∧ unset ρ4 (own.map (·.2)) = unset ρ1 (own.map (·.2))) ∧ Φ zs (unset (unset ρ1 (own.map (·.2))) (own.map (·.2)))) (hs : ∀ env x, foldedSetIterable iter env x = pure x := by intro _ _; rfl)
    (hj : j ∈ own.map (·.2) := by decide) (hN : (c.blk scope).N[j]? = some x := by rfl) (hx : Loc (c.blk scope).sc x := by first | exact Or.inl rfl | exact Or.inr rfl) (hf : (c.blk scope).fn x = true ∨ (c.blk scope).sc.names.lookup x = some .local := by first | exact .inl rfl | exact .inr rfl) :
    WL c F (.ListComp elt [⟨.Name x px, iter, [], 0⟩] scope pos) ρ Φ := (wlc_to1 own j ok h hs hj hN hx hf).wl
end
/-! ### what pages mean -/
def withB (t : List (List Cell)) (ns : List Nat) : List (List Cell) := List.zipWith (fun r b => blankRow b ++ r.drop b) t ns
def shFrom : List Cell → List (List Cell) → List Nat
  | _, [] => []
  | ab, r :: rs => sh ab r :: shFrom r rs
def sharedN : List (List Cell) → List Nat
  | [] => []
  | r :: rs => 0 :: shFrom r rs
theorem shFrom_length (ab : List Cell) : ∀ p : List (List Cell), (shFrom ab p).length = p.length
  | [] => rfl
  | r :: p => by
    show (shFrom r p).length + 1 = _
    rw [shFrom_length r p]
    rfl
theorem sharedN_length : ∀ p : List (List Cell), (sharedN p).length = p.length
  | [] => rfl
  | r :: p => by
    show (shFrom r p).length + 1 = _
    rw [shFrom_length r p]
    rfl
theorem shFrom_get : ∀ {p : List (List Cell)} {ab : List Cell} {i : Nat} {r : List Cell}, p[i]? = some r → ∃ a, (ab :: p)[i]? = some a ∧ (shFrom ab p)[i]? = some (sh a r)
  | [], _, i, _, h => by cases i <;> cases h
  | r0 :: p, ab, 0, r, h => by cases h; exact ⟨ab, rfl, rfl⟩
  | r0 :: p, ab, i + 1, r, h => shFrom_get (p := p) (ab := r0) (i := i) h
section
variable {P : Program} {w : World} {K : PySem.W.Frag} {mg : Str → Option Value} {base : Heap} {f : Addr} {fd : FuncData}
def tableOf (p : List (List Cell)) (n : Nat) : List (List Cell) := readR (blankRow n) p
def S_fil (ds : List PyData) (Ψ : PyData → Prop) : Prop := ∃ (p : List (List Cell)) (n : Nat), ds = [pageD p] ∧ OkPage p n ∧ Ψ (pageD (tableOf p n))
def S_blo (ds : List PyData) (Ψ : PyData → Prop) : Prop := ∃ (p : List (List Cell)) (n : Nat), ds = [pageD p] ∧ OkPage p n ∧ Ψ (natsD (p.map lead))
def S_ceo (ds : List PyData) (Ψ : PyData → Prop) : Prop := ∃ (p : List (List Cell)) (n : Nat), ds = [pageD p] ∧ OkPage p n ∧ Ψ (.int (p.map fun r => (r.length : Int) - (lead r : Int)).sum)
def S_sha (ds : List PyData) (Ψ : PyData → Prop) : Prop := ∃ (p : List (List Cell)) (n : Nat), ds = [pageD p] ∧ OkTable p n ∧ Ψ (natsD (sharedN p))
end
end G
namespace G
open PySem PySem.Spec PyProof.Rows L2
/-! ### full rows -/
theorem full_row {r : List Cell} (h : okRow r) (z : lead r = 0) : ∀ x ∈ r, ∃ s, x = some s ∧ okV s := by
  have := h.2.2
  rw [z] at this
  exact this
theorem row_full {r : List Cell} (h1 : 1 ≤ r.length) (h2 : r.length ≤ 6) (h : ∀ x ∈ r, ∃ s, x = some s ∧ okV s) : okRow r ∧ lead r = 0 := by
  have z : lead r = 0 := by
    cases r with
    | nil => rfl
    | cons x r =>
      obtain ⟨s, rfl, _⟩ := h x List.mem_cons_self
      rfl
  exact ⟨⟨h1, h2, by rw [z]; exact h⟩, z⟩
theorem readOne_full {ab r : List Cell} {n : Nat} (h1 : ab.length = n) (ha : ∀ x ∈ ab, ∃ s, x = some s ∧ okV s) (hr : okRow r) : ∀ x ∈ readOne ab r, ∃ s, x = some s ∧ okV s := by
  intro x hx
  rcases List.mem_append.mp hx with h | h
  · exact ha x (List.mem_of_mem_take h)
  · exact hr.2.2 x h
theorem lead_le_sh : ∀ {ab r : List Cell}, lead r ≤ ab.length → lead r ≤ sh ab (readOne ab r)
  | ab, [], _ => Nat.zero_le _
  | ab, some x :: r, _ => Nat.zero_le _
  | [], none :: r, h => absurd h (Nat.not_succ_le_zero _)
  | a :: ab, none :: r, h => by
    have ih := lead_le_sh (ab := ab) (r := r) (Nat.le_of_succ_le_succ h)
    show lead r + 1 ≤ sh (a :: ab) (a :: readOne ab r)
    unfold sh
    rw [if_pos rfl]
    exact Nat.succ_le_succ ih
/-- what the rows behind a full row mean -/
theorem readR_table {n : Nat} (hn : 1 ≤ n ∧ n ≤ 6) : ∀ {p : List (List Cell)} {ab : List Cell}, ab.length = n → (∀ x ∈ ab, ∃ s, x = some s ∧ okV s) → (∀ r ∈ p, okRow r ∧ r.length = n) → ∀ t ∈ readR ab p, (okRow t ∧ lead t = 0) ∧ t.length = n
  | [], ab, _, _, _, t, h => by cases h
  | r :: p, ab, h1, ha, hp, t, h => by
    obtain ⟨q1, q2⟩ := hp r List.mem_cons_self
    have l1 := readOne_len h1 q2
    have f1 := readOne_full h1 ha q1
    rcases List.mem_cons.mp h with h | h
    · subst h
      exact ⟨row_full (by omega) (by omega) f1, l1⟩
    · exact readR_table hn l1 f1 (fun s hs => hp s (List.mem_cons_of_mem _ hs)) t h
theorem readOne_zero {ab r : List Cell} (h : lead r = 0) : readOne ab r = r := by
  unfold readOne
  rw [h]
  rfl
theorem OkPage.split {p : List (List Cell)} {n : Nat} (h : OkPage p n) : ∃ r0 q, p = r0 :: q ∧ lead r0 = 0 ∧ (∀ x ∈ r0, ∃ s, x = some s ∧ okV s) ∧ r0.length = n ∧ (∀ r ∈ q, okRow r ∧ r.length = n) ∧ (1 ≤ n ∧ n ≤ 6) ∧ tableOf p n = r0 :: readR r0 q := by
  have lo := h.lo
  cases p with
  | nil => exact absurd lo (by decide)
  | cons r0 q =>
    have z := h.first r0 rfl
    have k := h.row r0 List.mem_cons_self
    have l := h.wide r0 List.mem_cons_self
    refine ⟨r0, q, rfl, z, full_row k z, l, fun r hr => ⟨h.row r (List.mem_cons_of_mem _ hr), h.wide r (List.mem_cons_of_mem _ hr)⟩, by rw [← l]; exact ⟨k.1, k.2.1⟩, ?_⟩
    show readOne (blankRow n) r0 :: readR (readOne (blankRow n) r0) q = _
    rw [readOne_zero z]
theorem OkPage.table {p : List (List Cell)} {n : Nat} (h : OkPage p n) : OkTable (tableOf p n) n := by
  obtain ⟨r0, q, rfl, z, f, l, hq, hn, e⟩ := h.split
  have hi := h.hi
  have hall : ∀ t ∈ tableOf (r0 :: q) n, (okRow t ∧ lead t = 0) ∧ t.length = n := by
    intro t ht
    rw [e] at ht
    rcases List.mem_cons.mp ht with ht | ht
    · subst ht
      exact ⟨row_full (by omega) (by omega) f, l⟩
    · exact readR_table hn l f hq t ht
  have hl : (tableOf (r0 :: q) n).length = (r0 :: q).length := readR_length _ _
  exact ⟨⟨by rw [hl]; exact h.lo, by rw [hl]; exact hi, fun t ht => (hall t ht).1.1, fun t ht => (hall t ht).2⟩, fun t ht => (hall t ht).1.2⟩
theorem OkTable.page {t : List (List Cell)} {n : Nat} (h : OkTable t n) : OkPage t n := ⟨h.toOkRows, fun r hr => h.full r (by
  cases t with
  | nil => cases hr
  | cons a t => cases hr; exact List.mem_cons_self)⟩
/-- blanks stay within what is shared -/
theorem leads_le : ∀ {p : List (List Cell)} {ab : List Cell} {n : Nat}, ab.length = n → (∀ r ∈ p, okRow r ∧ r.length = n) → ∀ (i b : Nat), (p.map lead)[i]? = some b → ∃ m, (shFrom ab (readR ab p))[i]? = some m ∧ b ≤ m
  | [], _, _, _, _, i, b, h => by cases i <;> cases h
  | r :: p, ab, n, h1, hp, 0, b, h => by
    cases h
    have h2 := (hp r List.mem_cons_self).2
    exact ⟨sh ab (readOne ab r), rfl, lead_le_sh (by have := lead_le r; omega)⟩
  | r :: p, ab, n, h1, hp, i + 1, b, h => leads_le (p := p) (readOne_len h1 (hp r List.mem_cons_self).2) (fun s hs => hp s (List.mem_cons_of_mem _ hs)) i b h
theorem OkPage.leads {p : List (List Cell)} {n : Nat} (h : OkPage p n) (i b : Nat) (hb : (p.map lead)[i]? = some b) : ∃ m, (sharedN (tableOf p n))[i]? = some m ∧ b ≤ m := by
  obtain ⟨r0, q, rfl, z, f, l, hq, hn, e⟩ := h.split
  rw [e]
  cases i with
  | zero =>
    cases hb
    exact ⟨0, rfl, by rw [z]; exact Nat.le_refl _⟩
  | succ i => exact leads_le l hq i b hb
theorem shFrom_le : ∀ {p : List (List Cell)} {ab : List Cell} {n : Nat}, ab.length ≤ n → (∀ r ∈ p, r.length ≤ n) → ∀ m ∈ shFrom ab p, m ≤ n
  | [], _, _, _, _, m, h => by cases h
  | r :: p, ab, n, h1, hp, m, h => by
    rcases List.mem_cons.mp h with h | h
    · subst h
      exact Nat.le_trans (sh_le _ _).1 h1
    · exact shFrom_le (p := p) (hp r List.mem_cons_self) (fun s hs => hp s (List.mem_cons_of_mem _ hs)) m h
theorem sharedN_le {p : List (List Cell)} {n : Nat} (h : ∀ r ∈ p, r.length ≤ n) : ∀ m ∈ sharedN p, m ≤ n := by
  cases p with
  | nil => intro m h; cases h
  | cons r p =>
    intro m hm
    rcases List.mem_cons.mp hm with h' | h'
    · subst h'; exact Nat.zero_le _
    · exact shFrom_le (h r List.mem_cons_self) (fun s hs => h s (List.mem_cons_of_mem _ hs)) m h'
/-- how many numbers of blanks each row can have -/
def choicesN (t : List (List Cell)) : List Nat := (sharedN t).map (· + 1)
theorem OkRows.choices {t : List (List Cell)} {n : Nat} (h : OkRows t n) : Sizes (choicesN t) := by
  have hn : n ≤ 6 := by
    obtain ⟨r0, _, m0, w0⟩ := h.head
    rw [← w0]
    exact (h.row r0 m0).2.1
  refine ⟨?_, fun s hs => ?_, fun s hs => ?_⟩
  · unfold choicesN
    rw [List.length_map, sharedN_length]
    have := h.hi
    omega
  · obtain ⟨m, hm, rfl⟩ := List.mem_map.mp hs
    omega
  · obtain ⟨m, hm, rfl⟩ := List.mem_map.mp hs
    have := sharedN_le (fun r hr => Nat.le_of_eq (h.wide r hr)) m hm
    exact Nat.lt_of_le_of_lt (by omega : m + 1 ≤ 7) (by decide)
section
variable {P : Program} {w : World} {K : PySem.W.Frag} {mg : Str → Option Value} {base : Heap} {f : Addr} {fd : FuncData}
def S_wb (ds : List PyData) (Ψ : PyData → Prop) : Prop := ∃ (t : List (List Cell)) (ns : List Nat), ds = [pageD t, natsD ns] ∧ t.length ≤ 60 ∧ (∀ r ∈ t, r.length ≤ 6) ∧ (∀ b ∈ ns, b ≤ 6) ∧ Ψ (pageD (withB t ns))
def S_pri (ds : List PyData) (Ψ : PyData → Prop) : Prop := ∃ (p : List (List Cell)) (n : Nat), ds = [pageD p] ∧ OkTable p n ∧ Ψ (pageD (withB p (sharedN p)))
theorem OkRows.le6 {t : List (List Cell)} {n : Nat} (h : OkRows t n) : ∀ r ∈ t, r.length ≤ 6 := fun r hr => (h.row r hr).2.1
def S_bch (ds : List PyData) (Ψ : PyData → Prop) : Prop := ∃ (p : List (List Cell)) (n : Nat), ds = [pageD p] ∧ OkTable p n ∧ Ψ (natsD (choicesN p))
def S_cop (ds : List PyData) (Ψ : PyData → Prop) : Prop := ∃ (p : List (List Cell)) (n : Nat), ds = [pageD p] ∧ OkTable p n ∧ Ψ (.int (prodN (choicesN p) : Int))
def S_ntp (ds : List PyData) (Ψ : PyData → Prop) : Prop := ∃ (p : List (List Cell)) (n j : Nat), ds = [pageD p, .int (j : Int)] ∧ OkTable p n ∧ j < prodN (choicesN p) ∧ Ψ (pageD (withB p (nth j (choicesN p))))
theorem nth_lt {j : Nat} {ns : List Nat} (h : ∀ s ∈ ns, 0 < s) : ∀ (i b s : Nat), (nth j ns)[i]? = some b → ns[i]? = some s → b < s := by
  have key : ∀ (ns : List Nat) (j : Nat), (∀ s ∈ ns, 0 < s) → ∀ (i b s : Nat), (digs j ns)[i]? = some b → ns[i]? = some s → b < s := by
    intro ns
    induction ns with
    | nil => intro j _ i b s h1 h2; cases i <;> cases h2
    | cons x ns ih =>
      intro j hp i b s h1 h2
      cases i with
      | zero =>
        cases h1
        cases h2
        exact Nat.mod_lt _ (hp _ List.mem_cons_self)
      | succ i => exact ih _ (fun y hy => hp y (List.mem_cons_of_mem _ hy)) i b s h1 h2
  intro i b s h1 h2
  unfold nth at h1
  have hi : i < ns.length := (List.getElem?_eq_some_iff.mp h2).1
  rw [List.getElem?_reverse (by rw [digs_length, List.length_reverse]; exact hi), digs_length, List.length_reverse] at h1
  refine key ns.reverse j (fun s hs => h s (List.mem_reverse.mp hs)) _ b s h1 ?_
  rw [List.getElem?_reverse (by omega)]
  rw [show ns.length - 1 - (ns.length - 1 - i) = i by omega]
  exact h2
theorem nth_length (j : Nat) (ns : List Nat) : (nth j ns).length = ns.length := by
  unfold nth
  rw [List.length_reverse, digs_length, List.length_reverse]
def S_pgn (ds : List PyData) (Ψ : PyData → Prop) : Prop := ∃ (p : List (List Cell)) (n : Nat), ds = [pageD p] ∧ OkPage p n ∧ Ψ (.int (numN (p.map lead) (choicesN (tableOf p n)) : Int))
end
end G
namespace G
open PySem PySem.Spec PyProof.Rows L2
/-! ### a draw -/
def CPowB (i j : Int) : Prop := 0 ≤ j ∧ ((PySem.Builtin.Int.intBits i : Nat) : Int) * j ≤ 2 ^ 27
theorem op_powB {X : Cx} : OpR X (binaryOp .Pow) (rI CPowB fun i j => .int (i ^ j.toNat)) := opI fun i j t u s Q E hc q => PyProof.Rows.pow_int hc.1 hc.2 q
theorem bits_lt {i : Int} {k : Nat} (h : i.natAbs < 2 ^ k) : PySem.Builtin.Int.intBits i ≤ k := by
  unfold PySem.Builtin.Int.intBits
  by_cases h0 : i = 0
  · subst h0; simp
  · have h1 : i.natAbs ≠ 0 := by omega
    rw [if_neg (by simpa using h0)]
    exact (Nat.log2_lt h1).mpr h
theorem pow3 {i : Int} {k : Nat} (h : i.natAbs < 2 ^ k) (hk : k ≤ 44739242) : CPowB i 3 := ⟨by decide, by
  have := bits_lt h
  omega⟩
theorem atI_0 {α : Type} {x : α} {xs : List α} : atI (x :: xs) (0 : Int) = some x := by
  unfold atI ixN
  rw [if_pos (by decide), if_pos (by rw [List.length_cons]; omega)]
  rfl
theorem atI_1 {α : Type} {x y : α} {xs : List α} : atI (x :: y :: xs) (1 : Int) = some y := by
  unfold atI ixN
  rw [if_pos (by decide), if_pos (by simp; omega)]
  rfl
theorem atI_2 {α : Type} {x y z : α} {xs : List α} : atI (x :: y :: z :: xs) (2 : Int) = some z := by
  unfold atI ixN
  rw [if_pos (by decide), if_pos (by simp; omega)]
  rfl
theorem atI_mod {α : Type} {xs : List α} (h : xs ≠ []) (c : Int) : ∃ x, atI xs (c % (xs.length : Int)) = some x ∧ x ∈ xs := by
  have h0 : 0 < xs.length := List.length_pos_iff.mpr h
  have h1 := Int.emod_nonneg c (b := (xs.length : Int)) (by omega)
  have h2 := Int.emod_lt_of_pos c (b := (xs.length : Int)) (by omega)
  obtain ⟨j, hj⟩ := Int.eq_ofNat_of_zero_le h1
  rw [hj] at h2 ⊢
  have hj' : j < xs.length := by omega
  exact ⟨xs[j], atI_nat (List.getElem?_eq_getElem hj'), List.getElem_mem hj'⟩
/-- the deck behind a draw -/
theorem DGrow.deck {Fd : Fp} {H0 H : Hp} {a p l : Addr} {c x y z : Int} {ps : List Addr} {n : Nat} {o1 o2 : HO} (e : Ex H0 H) (hf : ∀ x, Fd x → H0 x = none ∧ ∃ o, H x = some o) (ha : Fd a) (hp : Fd p) : DGrow Fd H0 H H0 (upd (upd H a o1) p o2) := by
  have na : H0 a = none := (hf a ha).1
  have np : H0 p = none := (hf p hp).1
  refine ⟨Ex.refl _, fun b o h => ?_, fun b o h h0 hn => ?_, fun b hb => ?_⟩
  · have : b ≠ a := fun z => by subst z; rw [na] at h; cases h
    have : b ≠ p := fun z => by subst z; rw [np] at h; cases h
    rw [upd_ne ‹b ≠ p›, upd_ne ‹b ≠ a›]
    exact e b o h
  · have : b ≠ a := fun z => by subst z; exact hn ha
    have : b ≠ p := fun z => by subst z; exact hn hp
    rw [upd_ne ‹b ≠ p›, upd_ne ‹b ≠ a›]
    exact ⟨h, h0⟩
  · refine ⟨(hf b hb).1, ?_⟩
    by_cases h1 : b = p
    · subst h1; exact ⟨_, upd_same⟩
    · rw [upd_ne h1]
      by_cases h2 : b = a
      · subst h2; exact ⟨_, upd_same⟩
      · rw [upd_ne h2]; exact (hf b hb).2
set_option exponentiation.threshold 3000
theorem mul_big {c z : Int} {n : Nat} (hc : 0 ≤ c ∧ c < 2 ^ 100) (h0 : 0 ≤ z) (hz : z ≤ (n : Int)) (hn : n < 2 ^ 1000) : 0 ≤ c * (z + 1) ∧ c * (z + 1) < 2 ^ 1101 := by
  have h1 : z + 1 ≤ 2 ^ 1000 := by
    have : (n : Int) < ((2 ^ 1000 : Nat) : Int) := Int.ofNat_lt.mpr hn
    have e : ((2 ^ 1000 : Nat) : Int) = 2 ^ 1000 := by simp
    omega
  refine ⟨Int.mul_nonneg hc.1 (by omega), ?_⟩
  have h2 : c * (z + 1) ≤ c * 2 ^ 1000 := Int.mul_le_mul_of_nonneg_left h1 hc.1
  have h3 : c * 2 ^ 1000 ≤ 2 ^ 100 * 2 ^ 1000 := Int.mul_le_mul_of_nonneg_right (Int.le_of_lt hc.2) (by decide +kernel)
  have h4 : (2 ^ 100 * 2 ^ 1000 : Int) < 2 ^ 1101 := by decide +kernel
  omega
theorem mulW_big {c z : Int} {n : Nat} (hc : 0 ≤ c ∧ c < 2 ^ 100) (h0 : 0 ≤ z) (hz : z ≤ (n : Int)) (hn : n < 2 ^ 1000) : CMulW c (z + 1) := by
  unfold CMulW
  have h1 : z + 1 ≤ 2 ^ 1000 := by
    have : (n : Int) < ((2 ^ 1000 : Nat) : Int) := Int.ofNat_lt.mpr hn
    have e : ((2 ^ 1000 : Nat) : Int) = 2 ^ 1000 := by simp
    omega
  have a1 : c.natAbs.log2 < 100 := log2_lt (by
    have e : ((2 ^ 100 : Nat) : Int) = 2 ^ 100 := by simp
    have := hc.1
    have := hc.2
    omega) (by decide)
  have a2 : (z + 1).natAbs.log2 < 1001 := log2_lt (by
    have e : ((2 ^ 1001 : Nat) : Int) = 2 * 2 ^ 1000 := by decide +kernel
    have e2 : (0 : Int) < 2 ^ 1000 := by decide +kernel
    omega) (by decide)
  omega
theorem powB_big {u v : Int} (h0 : 0 ≤ u) (h1 : u < 2 ^ 200) (h2 : 0 ≤ v) (h3 : v < 2 ^ 1101) : CPowB (u + v) 3 := by
  refine pow3 (k := 1102) ?_ (by decide)
  have e : ((2 ^ 1102 : Nat) : Int) = 2 * 2 ^ 1101 := by decide +kernel
  have e2 : (2 ^ 200 : Int) ≤ 2 ^ 1101 := by decide +kernel
  omega
theorem mod_big (u : Int) {j : Int} (h : 0 < j) (h1 : j < 2 ^ 200) : 0 ≤ u % j ∧ u % j < 2 ^ 200 := ⟨Int.emod_nonneg _ (by omega), Int.lt_trans (Int.emod_lt_of_pos _ h) h1⟩
/-- more than any script draws -/
def big : Nat := 2 ^ 1000
def S_draw (n : Nat) (ds : List PyData) (Ψ : PyData → Nat → Prop) : Prop := ∃ m : Int, ds = [.int m] ∧ 0 < m ∧ m.natAbs.log2 < 9000 ∧ n < big ∧ ∀ i : Int, 0 ≤ i → i < m → Ψ (.int i) (n + 1)
section
variable {P : Program} {w : World} {K : PySem.W.Frag} {mg : Str → Option Value} {base : Heap} {f : Addr} {fd : FuncData}
set_option exponentiation.threshold 3000
end
end G
namespace G
open PySem PySem.Spec PyProof.Rows L2
/-! ### the deck -/
def spDeck (K : PySem.W.Frag) : Sp := fun vs H Q _ => ∃ (a : Addr) (ns : List Int), vs = [.ref a] ∧ SqL K H a (ns.map V.int) ∧ ns.length ≤ 63 ∧
  ∀ (d : Addr) (Fd : Fp) (H' : Hp), Ex H H' → Deck Fd H' d 4000 → (∀ x, Fd x → H x = none ∧ ∃ o, H' x = some o) → Q (.ref d) H'
section
variable {P : Program} {w : World} {K : PySem.W.Frag} {mg : Str → Option Value} {base : Heap} {f : Addr} {fd : FuncData}
theorem pe_len1 {X : Cx} {p pos : Pos} {e : Expr} {t : TE} (hm : X.mg "len" = none) (hg : Gl X "len") (h : PE X e t) (hs : starEach [e] X.env = (false, eval e X.env) :: starEach [] X.env := by rfl) (hpl : (backTo pos (starEach [] X.env)).any (·.1) = false := by rfl) :
    PE X (.Call (.Name "len" p) [e] [] pos) (tCB (fun xs H Q => ∃ p ys, xs = [.ref p] ∧ (SqL X.K H p ys ∨ SqT X.K H p ys) ∧ Q (.int ys.length) H) (tCons t tNil)) :=
  pe_callB call_len_seq hg hm (by decide +kernel) (pa_cons h pa_nil hs) (by decide) (by decide) hs hpl
end
end G
namespace G
open PySem PySem.Spec PyProof.Rows L2
/-! ### drawn values -/
section
variable {c : Ct} {F : Fp} {ρ : List Sl} {pos : Pos} {py : Pos} {e : Expr} {Φ : PyData → List Sl → Prop}
/-- a draw: the deck in slot i, how many by e -/
theorem we_draw (i : Nat) {n0 : Nat} {y : Str} {p : Pos} (f : Cal c.P c.w c.K c.mg c.base 1 "_law_draw" (DF S_draw)) (h0 : ρ[i]? = some (Sl.dk n0)) (h : WE c F e ρ fun d ρ1 => ∃ (n : Nat) (m : Int), ρ1[i]? = some (Sl.dk n) ∧ d = .int m ∧ 0 < m ∧ m.natAbs.log2 < 9000 ∧ n < big ∧ ∀ k : Int, 0 ≤ k → k < m → Φ (.int k) (ρ1.set i (Sl.dk (n + 1))))
    (hk : 1 ≤ c.k := by exact of_decide_eq_true rfl) (hN : c.N[i]? = some y := by rfl) (hv : Vis c.sc y := by first | exact Or.inl rfl | exact Or.inr (Or.inl rfl) | exact Or.inr (Or.inr rfl)) (hd : (y == ("__debug__" : Str)) = false := by decide) (hcd : (y == ("__classdict__" : Str)) = false := by decide)
    (hg : c.sc.names.lookup ("_law_draw" : Str) = some NameKind.globalImplicit := by rfl) (hst : ∀ env, starEach (.Name y py :: [e]) env = (false, eval (.Name y py) env) :: starEach [e] env := by intro _; rfl) (hpl : ∀ env, (backTo pos (starEach [e] env)).any (·.1) = false := by intro _; rfl) (hs : ∀ env, starEach (e :: []) env = (false, eval e env) :: starEach [] env := by intro _; rfl) :
    WE c F (.Call (.Name "_law_draw" p) (.Name y py :: [e]) [] pos) ρ Φ :=
  we_callD i f (wa_cons (h.imp fun d ρ1 ⟨n, m, h1, h2, h3, h4, h5, h6⟩ => wa_nil ⟨n, h1, m, by rw [h2], h3, h4, h5, h6⟩) hs) h0 hk hN hv hd hcd hg hst hpl
end
/-- a sign's place -/
theorem signs_len : signsS.cps.toList.length = 36 := by decide +kernel
def toStr (ks : List Nat) : Str := ⟨ks.toArray⟩
theorem glued_acc : ∀ (ks : List Nat) (acc : Array Nat), (ks.map fun k => (⟨#[k]⟩ : Str)).foldl (fun acc p => acc ++ Str.empty.cps ++ p.cps) acc = acc ++ ks.toArray
  | [], acc => by simp
  | k :: ks, acc => by
    rw [List.map_cons, List.foldl_cons, glued_acc ks]
    have e : Str.empty.cps = #[] := rfl
    rw [e]
    simp
theorem glued_one (ks : List Nat) : Txt.join Str.empty (ks.map fun k => (⟨#[k]⟩ : Str)) = toStr ks := by
  unfold Txt.join PySem.Builtin.Str.glued toStr
  cases ks with
  | nil => rfl
  | cons k ks =>
    rw [List.map_cons, List.drop_one, List.tail_cons, glued_acc]
    simp
theorem toStr_ok {ks : List Nat} (h1 : 1 ≤ ks.length) (h8 : ks.length ≤ 8) (h : ∀ k ∈ ks, k ∈ signsS.cps.toList) : okV (toStr ks) :=
  ⟨h1, h8, h⟩
def okVb (s : Str) : Bool := decide (1 ≤ s.length) && decide (s.length ≤ 8) && s.cps.toList.all fun k => decide (k ∈ signsS.cps.toList)
theorem okV_of {s : Str} (h : okVb s = true) : okV s := by
  unfold okVb at h
  rw [Bool.and_eq_true, Bool.and_eq_true] at h
  exact ⟨of_decide_eq_true h.1.1, of_decide_eq_true h.1.2, fun k hk => of_decide_eq_true (List.all_eq_true.mp h.2 k hk)⟩
section
variable {P : Program} {w : World} {K : PySem.W.Frag} {mg : Str → Option Value} {base : Heap} {f : Addr} {fd : FuncData}
theorem lg {m : Int} (h0 : 0 ≤ m) (h : m < 1048576) : m.natAbs.log2 < 9000 := Nat.lt_trans (log2_lt (k := 20) (by omega) (by decide)) (by decide)
theorem idx_str {s : Str} {i : Int} (h : s.length ≤ 100000) : idxD (.str s) (.int i) = (atI s.cps.toList i).map fun (k : Nat) => PyData.str ⟨#[k]⟩ := if_pos h
theorem ones_sum : ∀ ks : List Nat, ((ks.map fun k => (⟨#[k]⟩ : Str)).map (·.length)).sum = ks.length
  | [] => rfl
  | k :: ks => by
    have e : (⟨#[k]⟩ : Str).length = 1 := rfl
    rw [List.map_cons, List.map_cons, List.sum_cons, ones_sum ks, List.length_cons, e]
    omega
theorem sign_at {j : Int} (h0 : 0 ≤ j) (h1 : j < 36) : ∃ k, k ∈ signsS.cps.toList ∧ idxD (.str signsS) (.int j) = some (.str ⟨#[k]⟩) := by
  obtain ⟨i, rfl⟩ := Int.eq_ofNat_of_zero_le h0
  have hi : i < signsS.cps.toList.length := by rw [signs_len]; omega
  refine ⟨signsS.cps.toList[i], List.getElem_mem hi, ?_⟩
  rw [idx_str (by decide +kernel), atI_nat (List.getElem?_eq_getElem hi)]
  rfl
def S_val (n : Nat) (ds : List PyData) (Ψ : PyData → Nat → Prop) : Prop := ∃ k : Int, ds = [.int k] ∧ 1 ≤ k ∧ k ≤ 7 ∧ n + 20 < big ∧ ∀ (s : Str) (m : Nat), okV s → m ≤ n + 20 → Ψ (.str s) m
end
end G
namespace G
open PySem PySem.Spec PyProof.Rows L2
/-! ### drawn tables -/
theorem few_ok {α : Type} {xs : List α} {n : Nat} (h : xs.length = n) (hn : n ≤ 100000 := by decide) : xs.length ≤ 100000 := h ▸ hn
def Full (r : List Cell) : Prop := ∀ x ∈ r, ∃ s, x = some s ∧ okV s
theorem Full.cells {r : List Cell} (h : Full r) : ∀ x ∈ r, okC x := fun x hx s e => by
  obtain ⟨t, e', ht⟩ := h x hx
  rw [e] at e'
  cases e'
  exact ht
theorem alike_rows {n : Nat} : ∀ {r s : List Cell}, Full r → Full s → r.length = n → s.length = n → PySem.W.alikeAll (r.map cellD) (s.map cellD) = true
  | [], [], _, _, _, _ => by simp [PySem.W.alikeAll]
  | [], y :: s, _, _, h1, h2 => by simp at h1 h2; omega
  | x :: r, [], _, _, h1, h2 => by simp at h1 h2; omega
  | x :: r, y :: s, h1, h2, h3, h4 => by
    obtain ⟨a, rfl, _⟩ := h1 x List.mem_cons_self
    obtain ⟨b, rfl, _⟩ := h2 y List.mem_cons_self
    have ih := alike_rows (n := n - 1) (fun z hz => h1 z (List.mem_cons_of_mem _ hz)) (fun z hz => h2 z (List.mem_cons_of_mem _ hz)) (by simp at h3; omega) (by simp at h4; omega)
    simp only [List.map_cons, PySem.W.alikeAll, ih, Bool.and_true]
    simp [cellD, PySem.W.alike]
theorem can_sort {t : List (List Cell)} {n : Nat} (hn : 1 ≤ n) (h : ∀ r ∈ t, Full r ∧ r.length = n) : CanSort (t.map rowD) := by
  have hk : ∀ d ∈ t.map rowD, okN 1 d := fun d hd => by
    obtain ⟨r, hr, rfl⟩ := List.mem_map.mp hd
    exact okN_row (h r hr).1.cells
  refine ⟨(okN_all hk).2.2, fun d hd e he => ?_, .inl fun d hd => ?_, fun d hd => Nat.le_trans (hk d hd).dp (by decide)⟩
  · obtain ⟨r, hr, rfl⟩ := List.mem_map.mp hd
    obtain ⟨s, hs, rfl⟩ := List.mem_map.mp he
    unfold rowD
    simp only [PySem.W.alike]
    exact alike_rows (h r hr).1 (h s hs).1 (h r hr).2 (h s hs).2
  · obtain ⟨r, hr, rfl⟩ := List.mem_map.mp hd
    cases r with
    | nil => have := (h _ hr).2; simp at this; omega
    | cons x r => exact ⟨_, _, rfl⟩
theorem sort_rows (t : List (List Cell)) : sortD (t.map rowD) = (t.mergeSort (PySem.W.dataLe false rowD)).map rowD := by
  unfold sortD
  exact (List.map_mergeSort (r := PySem.W.dataLe false rowD) (s := PySem.W.dataLe false id) (f := rowD) (l := t) (fun a _ b _ => rfl)).symm
theorem full_table {t : List (List Cell)} {n : Nat} (h1 : 1 ≤ t.length) (h60 : t.length ≤ 60) (hn : 1 ≤ n ∧ n ≤ 6) (h : ∀ r ∈ t, Full r ∧ r.length = n) : OkTable t n := by
  have k : ∀ r ∈ t, okRow r ∧ lead r = 0 := fun r hr => row_full (by have := (h r hr).2; omega) (by have := (h r hr).2; omega) (h r hr).1
  exact ⟨⟨h1, h60, fun r hr => (k r hr).1, fun r hr => (h r hr).2⟩, fun r hr => (k r hr).2⟩
theorem atI_last {α : Type} {xs : List α} (h : xs ≠ []) : ∃ x, atI xs (-1 : Int) = some x ∧ x ∈ xs := by
  have h0 : 0 < xs.length := List.length_pos_iff.mpr h
  have e : atI xs (-1 : Int) = xs[xs.length - 1]? := by
    unfold atI ixN
    rw [if_neg (by decide), if_pos (by omega)]
    show xs[(-1 + (xs.length : Int)).toNat]? = _
    rw [show (-1 + (xs.length : Int)).toNat = xs.length - 1 by omega]
  exact ⟨xs[xs.length - 1], by rw [e]; exact List.getElem?_eq_getElem (by omega), List.getElem_mem (by omega)⟩
theorem Full.take {r : List Cell} (h : Full r) (n : Nat) : Full (r.take n) := fun x hx => h x (List.mem_of_mem_take hx)
theorem Full.drop {r : List Cell} (h : Full r) (n : Nat) : Full (r.drop n) := fun x hx => h x (List.mem_of_mem_drop hx)
theorem Full.append {r s : List Cell} (h : Full r) (k : Full s) : Full (r ++ s) := fun x hx => by
  rcases List.mem_append.mp hx with hx | hx
  · exact h x hx
  · exact k x hx
section
variable {P : Program} {w : World} {K : PySem.W.Frag} {mg : Str → Option Value} {base : Heap} {f : Addr} {fd : FuncData}
def S_tab (n : Nat) (ds : List PyData) (Ψ : PyData → Nat → Prop) : Prop := ∃ most wide : Nat, ds = [.int (most : Int), .int (wide : Int)] ∧ 1 ≤ most ∧ most ≤ 60 ∧ 1 ≤ wide ∧ wide ≤ 6 ∧ n + 10000 < big ∧ ∀ (t : List (List Cell)) (m : Nat), OkTable t wide → t.length ≤ most → m ≤ n + 10000 → Ψ (pageD t) m
end
end G
namespace G
open PySem PySem.Spec PyProof.Rows L2
/-! ### pages of a table -/
theorem sh_comm : ∀ a b : List Cell, sh a b = sh b a
  | [], [] => rfl
  | [], y :: b => rfl
  | x :: a, [] => rfl
  | x :: a, y :: b => by
    unfold sh
    by_cases h : x = y
    · rw [if_pos h, if_pos h.symm, sh_comm a b]
    · rw [if_neg h, if_neg (fun e => h e.symm)]
def pRow (b : Nat) (r : List Cell) : List Cell := blankRow b ++ r.drop b
theorem lead_pRow : ∀ {b : Nat} {r : List Cell}, b ≤ r.length → Full r → lead (pRow b r) = b
  | 0, [], _, _ => rfl
  | 0, x :: r, _, h => by
    obtain ⟨s, rfl, _⟩ := h x List.mem_cons_self
    rfl
  | b + 1, [], h, _ => absurd h (Nat.not_succ_le_zero _)
  | b + 1, x :: r, h, hf => by
    have ih := lead_pRow (b := b) (r := r) (Nat.le_of_succ_le_succ h) fun y hy => hf y (List.mem_cons_of_mem _ hy)
    show lead (none :: pRow b r) = b + 1
    exact congrArg Nat.succ ih
theorem pRow_length {b : Nat} {r : List Cell} (h : b ≤ r.length) : (pRow b r).length = r.length := by
  unfold pRow blankRow
  rw [List.length_append, List.length_replicate, List.length_drop]
  omega
theorem pRow_drop {b : Nat} {r : List Cell} : (pRow b r).drop b = r.drop b := by
  unfold pRow blankRow
  rw [List.drop_append, List.length_replicate, List.drop_of_length_le (by rw [List.length_replicate]; exact Nat.le_refl _), Nat.sub_self]
  rfl
theorem pRow_ok {b : Nat} {r : List Cell} (h : b ≤ r.length) (hf : Full r) (h1 : 1 ≤ r.length) (h6 : r.length ≤ 6) : okRow (pRow b r) := by
  refine ⟨by rw [pRow_length h]; exact h1, by rw [pRow_length h]; exact h6, ?_⟩
  rw [lead_pRow h hf, pRow_drop]
  exact fun x hx => hf x (List.mem_of_mem_drop hx)
theorem take_sh : ∀ {b : Nat} {a r : List Cell}, b ≤ sh a r → a.take b = r.take b
  | 0, _, _, _ => rfl
  | b + 1, [], r, h => absurd h (Nat.not_succ_le_zero _)
  | b + 1, x :: a, [], h => absurd h (Nat.not_succ_le_zero _)
  | b + 1, x :: a, y :: r, h => by
    unfold sh at h
    by_cases e : x = y
    · rw [if_pos e] at h
      subst e
      rw [List.take_succ_cons, List.take_succ_cons, take_sh (Nat.le_of_succ_le_succ h)]
    · rw [if_neg e] at h
      exact absurd h (Nat.not_succ_le_zero _)
theorem read_pRow {b : Nat} {a r : List Cell} (h : b ≤ sh a r) (hf : Full r) : readOne a (pRow b r) = r := by
  have hb := Nat.le_trans h (sh_le a r).2
  unfold readOne
  rw [lead_pRow hb hf, pRow_drop, take_sh h, List.take_append_drop]
/-- numbers of blanks within what is shared -/
def Within : List Nat → List Nat → Prop
  | [], [] => True
  | b :: bs, m :: ms => b ≤ m ∧ Within bs ms
  | _, _ => False
theorem read_with : ∀ {t : List (List Cell)} {ns : List Nat} {ab : List Cell}, (∀ r ∈ t, Full r) → Within ns (shFrom ab t) → readR ab (withB t ns) = t
  | [], [], _, _, _ => rfl
  | [], n :: ns, _, _, h => h.elim
  | r :: t, [], _, _, h => h.elim
  | r :: t, b :: ns, ab, hf, h => by
    have e := read_pRow h.1 (hf r List.mem_cons_self)
    show readOne ab (pRow b r) :: readR (readOne ab (pRow b r)) (withB t ns) = r :: t
    rw [e, read_with (fun s hs => hf s (List.mem_cons_of_mem _ hs)) h.2]
theorem Within.length : ∀ {ns ms : List Nat}, Within ns ms → ns.length = ms.length
  | [], [], _ => rfl
  | _ :: _, [], h => h.elim
  | [], _ :: _, h => h.elim
  | _ :: ns, _ :: ms, h => congrArg Nat.succ (Within.length h.2)
theorem OkTable.fulls {t : List (List Cell)} {n : Nat} (h : OkTable t n) : ∀ r ∈ t, Full r ∧ r.length = n := fun r hr => ⟨full_row (h.row r hr) (h.full r hr), h.wide r hr⟩
theorem OkRows.cols {t : List (List Cell)} {n : Nat} (h : OkRows t n) : 1 ≤ n ∧ n ≤ 6 := by
  obtain ⟨r0, _, m0, w0⟩ := h.head
  rw [← w0]
  exact ⟨(h.row r0 m0).1, (h.row r0 m0).2.1⟩
theorem with_rows : ∀ {t : List (List Cell)} {ns ms : List Nat} {n : Nat}, (∀ r ∈ t, Full r ∧ r.length = n) → (1 ≤ n ∧ n ≤ 6) → (∀ m ∈ ms, m ≤ n) → Within ns ms → ∀ r ∈ withB t ns, okRow r ∧ r.length = n
  | [], _, _, _, _, _, _, _, r, h => by
    rw [show withB [] _ = [] from List.zipWith_nil_left] at h
    cases h
  | q :: t, [], _, _, _, _, _, _, r, h => by cases h
  | q :: t, b :: ns, [], _, _, _, _, h, _, _ => h.elim
  | q :: t, b :: ns, m :: ms, n, hf, hn, hm, h, r, hr => by
    have hr' : r ∈ pRow b q :: withB t ns := hr
    obtain ⟨qf, ql⟩ := hf q List.mem_cons_self
    have hb : b ≤ q.length := by have := hm m List.mem_cons_self; have := h.1; omega
    rcases List.mem_cons.mp hr' with hr' | hr'
    · subst hr'
      exact ⟨pRow_ok hb qf (by omega) (by omega), by rw [pRow_length hb]; exact ql⟩
    · exact with_rows (fun s hs => hf s (List.mem_cons_of_mem _ hs)) hn (fun k hk => hm k (List.mem_cons_of_mem _ hk)) h.2 r hr'
theorem with_page {t : List (List Cell)} {n : Nat} {ns : List Nat} (h : OkTable t n) (hw : Within ns (sharedN t)) : OkPage (withB t ns) n ∧ tableOf (withB t ns) n = t := by
  have hf := h.fulls
  have hl : (withB t ns).length = t.length := by
    unfold withB
    rw [List.length_zipWith, hw.length, sharedN_length, Nat.min_self]
  have hm := sharedN_le (fun r hr => Nat.le_of_eq (h.wide r hr))
  have rows := with_rows hf h.cols hm hw
  have lo := h.lo
  cases t with
  | nil => exact absurd lo (by decide)
  | cons r0 t =>
    cases ns with
    | nil => exact hw.elim
    | cons b ns =>
      have hb : b = 0 := Nat.le_zero.mp hw.1
      subst hb
      have hw2 : Within ns (shFrom r0 t) := hw.2
      have z : lead r0 = 0 := h.full r0 List.mem_cons_self
      refine ⟨⟨⟨by rw [hl]; exact lo, by rw [hl]; exact h.hi, fun r hr => (rows r hr).1, fun r hr => (rows r hr).2⟩, fun r hr => ?_⟩, ?_⟩
      · have e : pRow 0 r0 = r := Option.some.inj hr
        rw [← e]
        exact z
      · show readOne (blankRow n) (pRow 0 r0) :: readR (readOne (blankRow n) (pRow 0 r0)) (withB t ns) = r0 :: t
        have e : pRow 0 r0 = r0 := rfl
        rw [e, readOne_zero z, read_with (fun r hr => (hf r (List.mem_cons_of_mem _ hr)).1) hw2]
theorem Within.of_get : ∀ {ns ms : List Nat}, ns.length = ms.length → (∀ (i b m : Nat), ns[i]? = some b → ms[i]? = some m → b ≤ m) → Within ns ms
  | [], [], _, _ => trivial
  | _ :: _, [], h, _ => by cases h
  | [], _ :: _, h, _ => by cases h
  | b :: ns, m :: ms, h, k => ⟨k 0 b m rfl rfl, Within.of_get (Nat.succ.inj h) fun i b m h1 h2 => k (i + 1) b m h1 h2⟩
/-- a page is its table with its blanks -/
theorem OkPage.within {p : List (List Cell)} {n : Nat} (h : OkPage p n) : Within (p.map lead) (sharedN (tableOf p n)) :=
  Within.of_get (by rw [List.length_map, sharedN_length, tableOf, readR_length]) fun i b m h1 h2 => by
    obtain ⟨m', h3, h4⟩ := h.leads i b h1
    rw [h2] at h3
    cases h3
    exact h4
section
variable {P : Program} {w : World} {K : PySem.W.Frag} {mg : Str → Option Value} {base : Heap} {f : Addr} {fd : FuncData}
def S_lmo (ds : List PyData) (Ψ : PyData → Prop) : Prop := ∃ (t : List (List Cell)) (n : Nat), ds = [pageD t] ∧ OkTable t n ∧ Ψ (natsD (sharedN t))
def S_pag (n : Nat) (ds : List PyData) (Ψ : PyData → Nat → Prop) : Prop := ∃ (t : List (List Cell)) (k : Nat), ds = [pageD t] ∧ OkTable t k ∧ n + 200 < big ∧ ∀ (p : List (List Cell)) (m : Nat), OkPage p k → tableOf p k = t → m ≤ n + 200 → Ψ (pageD p) m
end
end G
namespace G
open PySem PySem.Spec PyProof.Rows L2
/-! ### values renamed -/
def sgn : List Nat := signsS.cps.toList
def ren (k : Nat) : Nat := sgn.getD ((sgn.idxOf k + 31) % 36) 0
theorem ren_all : (sgn.all fun k => decide (PySem.Builtin.Str.occurrences signsS ⟨#[k]⟩ 0 signsS.length 1 = [sgn.idxOf k]) && (decide (atI sgn ((sgn.idxOf k : Int) - 5) = some (ren k)) && decide (ren k ∈ sgn))) = true := by decide +kernel
theorem ren_inj_all : (sgn.all fun k => sgn.all fun l => decide (ren k = ren l → k = l)) = true := by decide +kernel
theorem ren_at {k : Nat} (h : k ∈ sgn) : PySem.Builtin.Str.occurrences signsS ⟨#[k]⟩ 0 signsS.length 1 = [sgn.idxOf k] ∧ idxD (.str signsS) (.int ((sgn.idxOf k : Int) - 5)) = some (.str ⟨#[ren k]⟩) ∧ ren k ∈ sgn := by
  have w := List.all_eq_true.mp ren_all k h
  rw [Bool.and_eq_true, Bool.and_eq_true] at w
  refine ⟨of_decide_eq_true w.1, ?_, of_decide_eq_true w.2.2⟩
  rw [idx_str (by decide +kernel)]
  have e : atI signsS.cps.toList ((sgn.idxOf k : Int) - 5) = some (ren k) := of_decide_eq_true w.2.1
  rw [e]
  rfl
theorem ren_inj {k l : Nat} (h : k ∈ sgn) (h' : l ∈ sgn) (e : ren k = ren l) : k = l :=
  of_decide_eq_true (List.all_eq_true.mp (List.all_eq_true.mp ren_inj_all k h) l h') e
def renS (s : Str) : Str := toStr (s.cps.toList.map ren)
def renC (x : Cell) : Cell := x.map renS
def renR (r : List Cell) : List Cell := r.map renC
def renP (p : List (List Cell)) : List (List Cell) := p.map renR
theorem renS_ok {s : Str} (h : okV s) : okV (renS s) := by
  obtain ⟨h1, h2, h3⟩ := h
  have e : s.length = s.cps.toList.length := rfl
  refine toStr_ok (by rw [List.length_map, ← e]; exact h1) (by rw [List.length_map, ← e]; exact h2) fun k hk => ?_
  obtain ⟨l, hl, rfl⟩ := List.mem_map.mp hk
  exact (ren_at (h3 l hl)).2.2
theorem map_inj_on {α β : Type} {f : α → β} : ∀ {xs ys : List α}, (∀ x ∈ xs, ∀ y ∈ ys, f x = f y → x = y) → xs.map f = ys.map f → xs = ys
  | [], [], _, _ => rfl
  | [], _ :: _, _, h => by cases h
  | _ :: _, [], _, h => by cases h
  | x :: xs, y :: ys, k, h => by
    rw [List.map_cons, List.map_cons] at h
    injection h with h1 h2
    rw [k x List.mem_cons_self y List.mem_cons_self h1, map_inj_on (fun a ha b hb => k a (List.mem_cons_of_mem _ ha) b (List.mem_cons_of_mem _ hb)) h2]
theorem renS_inj {s t : Str} (hs : okV s) (ht : okV t) (e : renS s = renS t) : s = t := by
  have e1 : (s.cps.toList.map ren).toArray = (t.cps.toList.map ren).toArray := congrArg Str.cps e
  have e2 : s.cps.toList.map ren = t.cps.toList.map ren := by simpa using congrArg Array.toList e1
  have e3 := map_inj_on (fun x hx y hy => ren_inj (hs.2.2 x hx) (ht.2.2 y hy)) e2
  cases s
  cases t
  simp only [Str.mk.injEq]
  exact Array.toList_inj.mp e3
theorem lead_ren : ∀ r : List Cell, lead (renR r) = lead r
  | [] => rfl
  | some _ :: r => rfl
  | none :: r => congrArg Nat.succ (lead_ren r)
theorem renR_length (r : List Cell) : (renR r).length = r.length := List.length_map ..
theorem okRow.ren {r : List Cell} (h : okRow r) : okRow (renR r) := by
  refine ⟨by rw [renR_length]; exact h.1, by rw [renR_length]; exact h.2.1, fun x hx => ?_⟩
  rw [lead_ren, renR, ← List.map_drop] at hx
  obtain ⟨y, hy, rfl⟩ := List.mem_map.mp hx
  obtain ⟨s, rfl, hs⟩ := h.2.2 y hy
  exact ⟨_, rfl, renS_ok hs⟩
theorem OkRows.ren {p : List (List Cell)} {n : Nat} (h : OkRows p n) : OkRows (renP p) n := by
  have e : (renP p).length = p.length := List.length_map ..
  refine ⟨by rw [e]; exact h.lo, by rw [e]; exact h.hi, fun r hr => ?_, fun r hr => ?_⟩
  all_goals
    obtain ⟨q, hq, rfl⟩ := List.mem_map.mp hr
  · exact (h.row q hq).ren
  · rw [renR_length]; exact h.wide q hq
theorem OkPage.ren {p : List (List Cell)} {n : Nat} (h : OkPage p n) : OkPage (renP p) n := ⟨h.toOkRows.ren, fun r hr => by
  cases p with
  | nil => cases hr
  | cons q p =>
    cases hr
    rw [lead_ren]
    exact h.first q rfl⟩
theorem OkTable.ren {p : List (List Cell)} {n : Nat} (h : OkTable p n) : OkTable (renP p) n := ⟨h.toOkRows.ren, fun r hr => by
  obtain ⟨q, hq, rfl⟩ := List.mem_map.mp hr
  rw [lead_ren]
  exact h.full q hq⟩
theorem ren_readOne (a r : List Cell) : readOne (renR a) (renR r) = renR (readOne a r) := by
  unfold readOne
  rw [lead_ren]
  unfold renR
  rw [← List.map_take, ← List.map_drop, List.map_append]
theorem ren_readR : ∀ (p : List (List Cell)) (a : List Cell), readR (renR a) (renP p) = renP (readR a p)
  | [], _ => rfl
  | r :: p, a => by
    show readOne (renR a) (renR r) :: readR (readOne (renR a) (renR r)) (renP p) = renR (readOne a r) :: renP (readR (readOne a r) p)
    rw [ren_readOne, ren_readR p]
theorem ren_blank (n : Nat) : renR (blankRow n) = blankRow n := by
  unfold renR blankRow
  rw [List.map_replicate]
  rfl
theorem ren_table (p : List (List Cell)) (n : Nat) : tableOf (renP p) n = renP (tableOf p n) := by
  unfold tableOf
  have := ren_readR p (blankRow n)
  rw [ren_blank] at this
  exact this
theorem ren_leads (p : List (List Cell)) : (renP p).map lead = p.map lead := by
  unfold renP
  rw [List.map_map]
  exact List.map_congr_left fun r _ => lead_ren r
theorem ren_sh : ∀ {a r : List Cell}, Full a → Full r → sh (renR a) (renR r) = sh a r
  | [], _, _, _ => rfl
  | x :: a, [], _, _ => rfl
  | x :: a, y :: r, ha, hr => by
    have ih := ren_sh (a := a) (r := r) (fun z hz => ha z (List.mem_cons_of_mem _ hz)) fun z hz => hr z (List.mem_cons_of_mem _ hz)
    obtain ⟨s, rfl, hs⟩ := ha x List.mem_cons_self
    obtain ⟨t, rfl, ht⟩ := hr y List.mem_cons_self
    show (if some (renS s) = some (renS t) then sh (renR a) (renR r) + 1 else 0) = if some s = some t then sh a r + 1 else 0
    by_cases e : s = t
    · subst e
      rw [if_pos rfl, if_pos rfl, ih]
    · rw [if_neg (fun z => e (renS_inj hs ht (Option.some.inj z))), if_neg (fun z => e (Option.some.inj z))]
theorem ren_shFrom : ∀ {t : List (List Cell)} {a : List Cell}, Full a → (∀ r ∈ t, Full r) → shFrom (renR a) (renP t) = shFrom a t
  | [], _, _, _ => rfl
  | r :: t, a, ha, h => by
    show sh (renR a) (renR r) :: shFrom (renR r) (renP t) = sh a r :: shFrom r t
    rw [ren_sh ha (h r List.mem_cons_self), ren_shFrom (h r List.mem_cons_self) fun s hs => h s (List.mem_cons_of_mem _ hs)]
theorem ren_shared {t : List (List Cell)} (h : ∀ r ∈ t, Full r) : sharedN (renP t) = sharedN t := by
  cases t with
  | nil => rfl
  | cons r t =>
    show 0 :: shFrom (renR r) (renP t) = 0 :: shFrom r t
    rw [ren_shFrom (h r List.mem_cons_self) fun s hs => h s (List.mem_cons_of_mem _ hs)]
section
variable {P : Program} {w : World} {K : PySem.W.Frag} {mg : Str → Option Value} {base : Heap} {f : Addr} {fd : FuncData}
def S_ren (ds : List PyData) (Ψ : PyData → Prop) : Prop := ∃ (p : List (List Cell)) (n : Nat), ds = [pageD p] ∧ OkRows p n ∧ Ψ (pageD (renP p))
end
end G
namespace G
open PySem PySem.Spec PyProof.Rows L2
/-! ### beginnings -/
theorem readR_take : ∀ (c : Nat) (p : List (List Cell)) (a : List Cell), readR a (p.take c) = (readR a p).take c
  | 0, _, _ => rfl
  | c + 1, [], _ => rfl
  | c + 1, r :: p, a => by
    show readOne a r :: readR (readOne a r) (p.take c) = readOne a r :: (readR (readOne a r) p).take c
    rw [readR_take c p]
theorem OkPage.take {p : List (List Cell)} {n : Nat} (h : OkPage p n) {c : Nat} (h1 : 1 ≤ c) : OkPage (p.take c) n := by
  have lo := h.lo
  refine ⟨⟨by rw [List.length_take]; omega, by rw [List.length_take]; have := h.hi; omega, fun r hr => h.row r (List.mem_of_mem_take hr), fun r hr => h.wide r (List.mem_of_mem_take hr)⟩, fun r hr => ?_⟩
  cases p with
  | nil => simp at hr
  | cons q p =>
    cases c with
    | zero => omega
    | succ c =>
      rw [List.take_succ_cons, List.head?_cons] at hr
      exact h.first r hr
theorem table_take (p : List (List Cell)) (n c : Nat) : tableOf (p.take c) n = (tableOf p n).take c := readR_take c p _
/-! ### one behind the other -/
theorem OkPage.append {p q : List (List Cell)} {n : Nat} (h : OkPage p n) (k : OkPage q n) (hl : p.length + q.length ≤ 60) : OkPage (p ++ q) n := by
  have lo := h.lo
  refine ⟨⟨by rw [List.length_append]; omega, by rw [List.length_append]; exact hl, fun r hr => ?_, fun r hr => ?_⟩, fun r hr => ?_⟩
  · rcases List.mem_append.mp hr with hr | hr
    · exact h.row r hr
    · exact k.row r hr
  · rcases List.mem_append.mp hr with hr | hr
    · exact h.wide r hr
    · exact k.wide r hr
  · cases p with
    | nil => simp at lo
    | cons s p => exact h.first r hr
theorem table_append {p q : List (List Cell)} {n : Nat} (k : OkPage q n) : tableOf (p ++ q) n = tableOf p n ++ tableOf q n := by
  unfold tableOf
  rw [readR_append]
  congr 1
  have lo := k.lo
  cases q with
  | nil => simp at lo
  | cons r q =>
    have z := k.first r rfl
    show readOne (readE (blankRow n) p) r :: readR (readOne (readE (blankRow n) p) r) q = readOne (blankRow n) r :: readR (readOne (blankRow n) r) q
    rw [readOne_zero z, readOne_zero z]
def cellsI (p : List (List Cell)) : Int := (p.map fun r => (r.length : Int) - (lead r : Int)).sum
theorem cells_append (p q : List (List Cell)) : cellsI (p ++ q) = cellsI p + cellsI q := by
  unfold cellsI
  rw [List.map_append, List.sum_append]
/-! ### the first columns -/
def colP (w : Nat) (p : List (List Cell)) : List (List Cell) := p.map (·.take w)
theorem lead_take : ∀ (w : Nat) (r : List Cell), lead (r.take w) = min w (lead r)
  | 0, r => by simp [lead]
  | w + 1, [] => by simp [lead]
  | w + 1, some s :: r => by simp [lead]
  | w + 1, none :: r => by
    have := lead_take w r
    show lead (r.take w) + 1 = min (w + 1) (lead r + 1)
    omega
theorem read_take : ∀ {r a : List Cell} (w : Nat), a.length = r.length → readOne (a.take w) (r.take w) = (readOne a r).take w
  | [], [], w, _ => by simp [readOne]
  | [], _ :: _, _, h => by cases h
  | _ :: _, [], _, h => by cases h
  | some s :: r, x :: a, w, _ => by
    have z : lead ((some s :: r).take w) = 0 := by rw [lead_take]; exact Nat.min_zero _
    rw [readOne_zero z, readOne_zero (rfl : lead (some s :: r) = 0)]
  | none :: r, x :: a, 0, _ => by simp [readOne]
  | none :: r, x :: a, w + 1, h => by
    have ih := read_take (r := r) (a := a) w (Nat.succ.inj h)
    show x :: readOne (a.take w) (r.take w) = x :: (readOne a r).take w
    rw [ih]
theorem readR_cols {n : Nat} (w : Nat) : ∀ {p : List (List Cell)} {a : List Cell}, a.length = n → (∀ r ∈ p, r.length = n) → readR (a.take w) (colP w p) = colP w (readR a p)
  | [], _, _, _ => rfl
  | r :: p, a, h, hp => by
    have hr := hp r List.mem_cons_self
    show readOne (a.take w) (r.take w) :: readR (readOne (a.take w) (r.take w)) (colP w p) = (readOne a r).take w :: colP w (readR (readOne a r) p)
    rw [read_take w (by rw [h, hr]), readR_cols w (readOne_len h hr) fun s hs => hp s (List.mem_cons_of_mem _ hs)]
theorem table_cols {p : List (List Cell)} {n w : Nat} (h : OkPage p n) (hw : w ≤ n) : tableOf (colP w p) w = colP w (tableOf p n) := by
  have := readR_cols (n := n) w (p := p) (a := blankRow n) (by simp [blankRow]) fun r hr => h.wide r hr
  rw [show (blankRow n).take w = blankRow w by unfold blankRow; rw [List.take_replicate, Nat.min_eq_left hw]] at this
  exact this
theorem okRow.take {r : List Cell} (h : okRow r) {w : Nat} (h1 : 1 ≤ w) : okRow (r.take w) := by
  have := h.1
  have := h.2.1
  refine ⟨by rw [List.length_take]; omega, by rw [List.length_take]; omega, fun x hx => ?_⟩
  rw [lead_take] at hx
  refine h.2.2 x ?_
  by_cases hl : lead r ≤ w
  · rw [Nat.min_eq_right hl, List.drop_take] at hx
    exact List.mem_of_mem_take hx
  · rw [Nat.min_eq_left (by omega), List.drop_of_length_le (by rw [List.length_take]; omega)] at hx
    cases hx
theorem OkPage.cols {p : List (List Cell)} {n w : Nat} (h : OkPage p n) (h1 : 1 ≤ w) (hw : w ≤ n) : OkPage (colP w p) w := by
  have e : (colP w p).length = p.length := List.length_map ..
  refine ⟨⟨by rw [e]; exact h.lo, by rw [e]; exact h.hi, fun r hr => ?_, fun r hr => ?_⟩, fun r hr => ?_⟩
  · obtain ⟨q, hq, rfl⟩ := List.mem_map.mp hr
    exact (h.row q hq).take h1
  · obtain ⟨q, hq, rfl⟩ := List.mem_map.mp hr
    rw [List.length_take, h.wide q hq]
    exact Nat.min_eq_left hw
  · cases p with
    | nil => cases hr
    | cons q p =>
      cases hr
      rw [lead_take, h.first q rfl]
      exact Nat.min_zero _
theorem sh_take : ∀ (w : Nat) (a r : List Cell), sh (a.take w) (r.take w) = min w (sh a r)
  | 0, a, r => by simp [sh]
  | w + 1, [], r => by simp [sh]
  | w + 1, x :: a, [] => by simp [sh]
  | w + 1, x :: a, y :: r => by
    have ih := sh_take w a r
    show (if x = y then sh (a.take w) (r.take w) + 1 else 0) = min (w + 1) (if x = y then sh a r + 1 else 0)
    by_cases e : x = y
    · rw [if_pos e, if_pos e]; omega
    · rw [if_neg e, if_neg e]; omega
theorem shFrom_cols (w : Nat) : ∀ (t : List (List Cell)) (a : List Cell), shFrom (a.take w) (colP w t) = (shFrom a t).map (min w)
  | [], _ => rfl
  | r :: t, a => by
    show sh (a.take w) (r.take w) :: shFrom (r.take w) (colP w t) = min w (sh a r) :: (shFrom r t).map (min w)
    rw [sh_take, shFrom_cols w t r]
theorem shared_cols (w : Nat) (t : List (List Cell)) : sharedN (colP w t) = (sharedN t).map (min w) := by
  cases t with
  | nil => rfl
  | cons r t =>
    show 0 :: shFrom (r.take w) (colP w t) = min w 0 :: (shFrom r t).map (min w)
    rw [shFrom_cols, Nat.min_zero]
/-! ### the first and the last number -/
theorem prodN_rev (ns : List Nat) : prodN ns.reverse = prodN ns := by
  induction ns with
  | nil => rfl
  | cons x ns ih => rw [List.reverse_cons, prodN_append, ih, prodN_cons, prodN_cons, Nat.mul_comm]; simp [prodN]
theorem prodN_pos {ns : List Nat} (h : ∀ s ∈ ns, 0 < s) : 0 < prodN ns := by
  induction ns with
  | nil => exact Nat.one_pos
  | cons x ns ih =>
    rw [prodN_cons]
    exact Nat.mul_pos (h x List.mem_cons_self) (ih fun s hs => h s (List.mem_cons_of_mem _ hs))
theorem prodN_8 {ns : List Nat} (h : ∀ s ∈ ns, s ≤ 8) : prodN ns ≤ 2 ^ (3 * ns.length) := by
  induction ns with
  | nil => exact Nat.le_refl _
  | cons x ns ih =>
    rw [prodN_cons, List.length_cons, Nat.mul_succ, Nat.pow_add, Nat.mul_comm]
    exact Nat.mul_le_mul (ih fun s hs => h s (List.mem_cons_of_mem _ hs)) (h x List.mem_cons_self)
theorem digs_last : ∀ {ns : List Nat}, (∀ s ∈ ns, 0 < s) → digs (prodN ns - 1) ns = ns.map (· - 1)
  | [], _ => rfl
  | x :: ns, h => by
    have hx := h x List.mem_cons_self
    have hp := prodN_pos fun s hs => h s (List.mem_cons_of_mem _ hs)
    have ih := digs_last fun s hs => h s (List.mem_cons_of_mem _ hs)
    have e : x * prodN ns - 1 = (x - 1) + x * (prodN ns - 1) := by
      obtain ⟨k, hk⟩ : ∃ k, prodN ns = k + 1 := ⟨prodN ns - 1, by omega⟩
      rw [hk, Nat.mul_succ]
      show x * k + x - 1 = x - 1 + x * k
      omega
    show (prodN (x :: ns) - 1) % x :: digs ((prodN (x :: ns) - 1) / x) ns = (x - 1) :: ns.map (· - 1)
    rw [prodN_cons, e, Nat.add_mul_mod_self_left, Nat.mod_eq_of_lt (by omega), Nat.add_mul_div_left _ _ hx, Nat.div_eq_of_lt (by omega), Nat.zero_add, ih]
theorem nth_last {ns : List Nat} (h : ∀ s ∈ ns, 0 < s) : nth (prodN ns - 1) ns = ns.map (· - 1) := by
  unfold nth
  have := digs_last (ns := ns.reverse) fun s hs => h s (List.mem_reverse.mp hs)
  rw [prodN_rev] at this
  rw [this, List.map_reverse, List.reverse_reverse]
theorem digs_zero : ∀ ns : List Nat, digs 0 ns = List.replicate ns.length 0
  | [] => rfl
  | x :: ns => by
    show 0 % x :: digs (0 / x) ns = 0 :: List.replicate ns.length 0
    rw [Nat.zero_mod, Nat.zero_div, digs_zero ns]
theorem nth_zero (ns : List Nat) : nth 0 ns = List.replicate ns.length 0 := by
  unfold nth
  rw [digs_zero, List.length_reverse, List.reverse_replicate]
theorem with_zeros : ∀ t : List (List Cell), withB t (List.replicate t.length 0) = t
  | [] => rfl
  | r :: t => by
    show pRow 0 r :: withB t (List.replicate t.length 0) = r :: t
    rw [with_zeros t]
    rfl
theorem last_page {t : List (List Cell)} {n : Nat} (h : OkTable t n) : nth (prodN (choicesN t) - 1) (choicesN t) = sharedN t := by
  rw [nth_last h.choices.pos]
  unfold choicesN
  rw [List.map_map]
  have : ((fun x => x - 1) ∘ fun x : Nat => x + 1) = id := by funext x; simp
  rw [this, List.map_id]
theorem nth_within {t : List (List Cell)} {n : Nat} (h : OkTable t n) (j : Nat) : Within (nth j (choicesN t)) (sharedN t) :=
  Within.of_get (by rw [nth_length, choicesN, List.length_map]) fun i b m h1 h2 => by
    have := nth_lt (j := j) h.choices.pos i b (m + 1) h1 (by rw [choicesN, List.getElem?_map, h2]; rfl)
    omega
theorem Within.refl : ∀ ns : List Nat, Within ns ns
  | [] => trivial
  | n :: ns => ⟨Nat.le_refl _, Within.refl ns⟩
theorem Within.zeros : ∀ ns : List Nat, Within (List.replicate ns.length 0) ns
  | [] => trivial
  | n :: ns => ⟨Nat.zero_le _, Within.zeros ns⟩
theorem cells_with {n : Nat} : ∀ {t : List (List Cell)} {ns ms : List Nat}, (∀ r ∈ t, Full r ∧ r.length = n) → (∀ m ∈ ms, m ≤ n) → Within ns ms → cellsI (withB t ms) ≤ cellsI (withB t ns)
  | [], _, _, _, _, _ => Int.le_refl _
  | r :: t, [], [], _, _, _ => Int.le_refl _
  | r :: t, [], _ :: _, _, _, h => h.elim
  | r :: t, _ :: _, [], _, _, h => h.elim
  | r :: t, b :: ns, m :: ms, hf, hm, h => by
    have ih := cells_with (t := t) (fun s hs => hf s (List.mem_cons_of_mem _ hs)) (fun k hk => hm k (List.mem_cons_of_mem _ hk)) h.2
    obtain ⟨rf, rl⟩ := hf r List.mem_cons_self
    have hm1 := hm m List.mem_cons_self
    have hb := h.1
    have e : ∀ (x : List Cell) (xs : List (List Cell)), cellsI (x :: xs) = ((x.length : Int) - (lead x : Int)) + cellsI xs := fun x xs => by
      unfold cellsI
      rw [List.map_cons, List.sum_cons]
    show cellsI (pRow m r :: withB t ms) ≤ cellsI (pRow b r :: withB t ns)
    rw [e, e, lead_pRow (by omega) rf, lead_pRow (by omega) rf, pRow_length (by omega), pRow_length (by omega)]
    omega
end G
namespace G
open PySem PySem.Spec PyProof.Rows L2
theorem cut_nats_to (ns : List Nat) (n : Nat) : sliceD (natsD ns) none (some (n : Int)) = some (natsD (ns.take n)) := by
  show some (PyData.list (cutD (ns.map fun (n : Nat) => PyData.int (n : Int)) none (some (n : Int)))) = _
  rw [cutD_to, ← List.map_take]
  rfl
/-- data that is as itself -/
structure Ok0 (d : PyData) : Prop where
  ok : okD d
  eq : PyData.eqv d d = true
theorem Ok0.page {p : List (List Cell)} (h : ∀ r ∈ p, ∀ x ∈ r, okC x) : Ok0 (pageD p) := ⟨(okN_page h).okD, by rw [eqv_page]; exact decide_eq_true rfl⟩
theorem Ok0.nats (ns : List Nat) : Ok0 (natsD ns) := ⟨(okN_nats ns).okD, by rw [eqv_nats]; exact decide_eq_true rfl⟩
theorem Ok0.int (i : Int) : Ok0 (.int i) := ⟨okD_int i, by rw [eqv_int]; exact decide_eq_true rfl⟩
theorem OkRows.cells {p : List (List Cell)} {n : Nat} (h : OkRows p n) : ∀ r ∈ p, ∀ x ∈ r, okC x := fun r hr => (h.row r hr).cells
section
variable {c : Ct} {F : Fp} {ρ : List Sl} {pos : Pos} {a b : Expr} {Φ : PyData → List Sl → Prop} {Ψ : Bool → List Sl → Prop}
theorem wt_same (h : WE c F a ρ fun d ρ1 => WE c F b ρ1 fun y ρ2 => y = d ∧ Ok0 d ∧ Ψ false ρ2) (hm : behindInMarks .NotEq b = false := by first | exact nobehind _ (by decide) (by decide) | rfl) : WT c F (.Compare a [.NotEq] [b] pos) ρ Ψ :=
  wt_c (wc_neq (h.imp fun d ρ1 k => k.imp fun y ρ2 ⟨e, o, q⟩ => by
    subst e
    refine ⟨o.ok, o.ok, false, ?_, q⟩
    rw [o.eq]
    rfl)) hm
theorem we_same (h : WE c F a ρ fun d ρ1 => WE c F b ρ1 fun y ρ2 => y = d ∧ Ok0 d ∧ Φ (.bool true) ρ2) (hm : behindInMarks .Eq b = false := by first | exact nobehind _ (by decide) (by decide) | rfl) : WE c F (.Compare a [.Eq] [b] pos) ρ Φ :=
  we_c (wc_eq (h.imp fun d ρ1 k => k.imp fun y ρ2 ⟨e, o, q⟩ => by
    subst e
    refine ⟨o.ok, o.ok, ?_⟩
    rw [o.eq]
    exact q)) hm
end
section
variable {P : Program} {w : World} {K : PySem.W.Frag} {mg : Str → Option Value} {base : Heap} {f : Addr} {fd : FuncData}
def S_rig (n : Nat) (ds : List PyData) (Ψ : PyData → Nat → Prop) : Prop := ∃ (p q : List (List Cell)) (k : Nat), ds = [pageD p, pageD q] ∧ OkPage p k ∧ OkPage q k ∧ p.length + q.length ≤ 60 ∧ n + 10 < big ∧ ∀ m, m ≤ n + 10 → Ψ (.bool true) m
end
end G
namespace G
open PySem PySem.Spec PyProof.Rows L2
theorem big_lt : 1000000 < big := by decide +kernel
theorem OkRows.logs {t : List (List Cell)} {n : Nat} (h : OkRows t n) {m : Int} (h0 : 0 ≤ m) (hm : m ≤ (prodN (choicesN t) : Int)) : m.natAbs.log2 < 9000 := by
  have h1 : prodN (choicesN t) ≤ 2 ^ (3 * (choicesN t).length) := prodN_8 fun s hs => by
    obtain ⟨x, hx, rfl⟩ := List.mem_map.mp hs
    have := sharedN_le h.le6 x hx
    omega
  have h2 : (choicesN t).length ≤ 60 := by
    unfold choicesN
    rw [List.length_map, sharedN_length]
    exact h.hi
  have h3 : 2 ^ (3 * (choicesN t).length) ≤ 2 ^ 180 := Nat.pow_le_pow_right (by decide) (by omega)
  have h4 : (2 ^ 180 : Nat) < 2 ^ 181 := by decide +kernel
  exact Nat.lt_trans (log2_lt (k := 181) (by omega) (by decide)) (by decide)
section
variable {P : Program} {w : World} {K : PySem.W.Frag} {mg : Str → Option Value} {base : Heap} {f : Addr} {fd : FuncData}
def S_nri (n : Nat) (ds : List PyData) (Ψ : PyData → Nat → Prop) : Prop := ∃ (t : List (List Cell)) (k : Nat), ds = [pageD t] ∧ OkTable t k ∧ n + 10 < big ∧ ∀ m, m ≤ n + 10 → Ψ (.bool true) m
end
end G
namespace G
open PySem PySem.Spec PyProof.Rows L2
/-! ### the law -/
def spLaw (K : PySem.W.Frag) : Sp := fun vs H Q _ => ∃ (a : Addr) (ns : List Int), vs = [.ref a] ∧ SqL K H a (ns.map V.int) ∧ ns.length ≤ 63 ∧ ∀ H', Q (.bl true) H'
def Hp0 : Hp := fun _ => none
theorem En.first {H : Hp} {Fd : Fp} {d : Addr} {n : Nat} {v : Option V} (dk : Deck Fd H d n) (hf : ∀ x, Fd x → ∃ o, H x = some o) (m : Nat) : En ⟨Hp0, H, Fd⟩ (Sl.un :: Sl.dk n :: List.replicate m Sl.un) (v :: some (.ref d) :: List.replicate m none) Hp0 H := by
  have pick : ∀ {i : Nat} {s : Sl}, (Sl.un :: Sl.dk n :: List.replicate m Sl.un)[i]? = some s → s = .un ∨ (i = 1 ∧ s = .dk n) := fun {i s} h => by
    match i, h with
    | 0, h => cases h; exact .inl rfl
    | 1, h => cases h; exact .inr ⟨rfl, rfl⟩
    | i + 2, h =>
      have h' : (List.replicate m Sl.un)[i]? = some s := h
      exact .inl (List.eq_of_mem_replicate (List.mem_of_getElem? h'))
  refine ⟨?_, Ex.refl _, fun a o h => (by cases h), fun a o h _ _ => ⟨h, rfl⟩, fun a ha => ⟨rfl, hf a ha⟩, fun i e h => ?_, fun i e h => ?_, fun i j e e' l h => ?_, fun i k h => ?_, fun i j k k' h h' => ?_, fun i u h => ?_, fun i u h => ?_, fun i j u v _ h => ?_⟩
  · simp only [List.length_cons, List.length_replicate]
  · rcases pick h with h | ⟨_, h⟩ <;> cases h
  · rcases pick h with h | ⟨_, h⟩ <;> cases h
  · rcases pick h with h | ⟨_, h⟩ <;> cases h
  · rcases pick h with h | ⟨rfl, h⟩
    · cases h
    · cases h
      exact ⟨d, rfl, dk⟩
  · rcases pick h with h | ⟨rfl, h⟩
    · cases h
    · rcases pick h' with h' | ⟨rfl, h'⟩
      · cases h'
      · rfl
  · rcases pick h with h | ⟨_, h⟩ <;> cases h
  · rcases pick h with h | ⟨_, h⟩ <;> cases h
  · rcases pick h with h | ⟨_, h⟩ <;> cases h
section
variable {P : Program} {w : World} {K : PySem.W.Frag} {mg : Str → Option Value} {base : Heap} {f : Addr} {fd : FuncData}
/-- the body of a lap -/
def forBody : Stmt → List Stmt
  | .For _ _ b _ _ => b
  | _ => []
end
end G

set_option Elab.async false
set_option linter.all false
set_option maxRecDepth 100000
set_option maxHeartbeats 1000000
namespace G
open PySem PySem.Spec PyProof.Rows L2
/-! ### for _law_same: the same data twice -/
def S_same (k : Nat) (ds : List PyData) (Ψ : PyData → Prop) : Prop := ∃ d : PyData, ds = [d, d] ∧ okN k d ∧ d.weight ≤ 80000 ∧ Ψ (.bool true)
theorem weightAll_len : ∀ xs : List PyData, xs.length ≤ PyData.weightAll xs
  | [] => Nat.zero_le _
  | x :: xs => by
    have := weightAll_len xs
    simp only [PyData.weightAll, List.length_cons]
    omega
theorem weightAll_mem : ∀ {xs : List PyData} {x : PyData}, x ∈ xs → x.weight ≤ PyData.weightAll xs
  | y :: xs, x, h => by
    rcases List.mem_cons.mp h with h | h
    · subst h
      simp only [PyData.weightAll]
      omega
    · have := weightAll_mem h
      simp only [PyData.weightAll]
      omega
theorem okN_mem {n : Nat} : ∀ {xs : List PyData}, PyData.canLayAll0 xs = true → PyData.depthAll xs ≤ n → plainL xs = true → ∀ x ∈ xs, okN n x
  | y :: xs, h1, h2, h3, x, hx => by
    have p : (plain y && plainL xs) = true := h3
    simp only [PyData.canLayAll0, Bool.and_eq_true] at h1
    simp only [PyData.depthAll] at h2
    rw [Bool.and_eq_true] at p
    rcases List.mem_cons.mp hx with hx | hx
    · subst hx
      exact ⟨p.1, h1.1, by omega⟩
    · exact okN_mem h1.2 (by omega) p.2 x hx
theorem okN_items {n : Nat} {xs : List PyData} (h : okN (n + 1) (.list xs) ∨ okN (n + 1) (.tuple xs)) : ∀ x ∈ xs, okN n x := by
  rcases h with h | h
  · exact okN_mem (by simpa [PyData.canLay0] using h.cl) (by have := h.dp; simp only [PyData.depth] at this; omega) h.pl
  · exact okN_mem (by simpa [PyData.canLay0] using h.cl) (by have := h.dp; simp only [PyData.depth] at this; omega) h.pl
theorem eqv_self_scalar {d : PyData} (h : plain d = true) (hs : isSeq d = false) : PyData.eqv d d = true := by
  cases d with
  | none => rfl
  | bool b => cases b <;> simp [PyData.eqv]
  | int i => rw [eqv_int]; exact decide_eq_true rfl
  | str s => simp [PyData.eqv]
  | list _ => cases hs
  | tuple _ => cases hs
  | dict _ => cases h
theorem Ok0.bool (b : Bool) : Ok0 (.bool b) := ⟨⟨rfl, by unfold SeqAt.shaped; simp [PyData.canLay0, PyData.depth]⟩, by cases b <;> simp [PyData.eqv]⟩
theorem Ok0.nil : Ok0 (.list []) := ⟨(okN_list (n := 1) fun d hd => (by cases hd)).okD, by simp [PyData.eqv, PyData.eqvAll]⟩
theorem pairs_self : ∀ {xs : List PyData} {i : Nat} {d : PyData}, (pairsD xs xs)[i]? = some d → ∃ x, x ∈ xs ∧ d = .tuple [x, x] := fun {xs i d} h => by
  obtain ⟨x, y, h1, h2, e⟩ := pairsD_get h
  rw [h1] at h2
  cases h2
  exact ⟨x, List.mem_of_getElem? h1, e⟩
end G

set_option Elab.async false
set_option linter.all false
set_option maxRecDepth 100000
set_option maxHeartbeats 1000000
namespace G
open PySem PySem.Spec PyProof.Rows L2
/-! ### numbers of choices: there and back, and their order -/
def fromN (k : Nat) (zs : List (Nat × Nat)) : Nat := zs.foldl (fun a z => a * z.2 + z.1) k
theorem numN_eq (ds ss : List Nat) : numN ds ss = fromN 0 (List.zip ds ss) := rfl
theorem fromN_cons (k : Nat) (z : Nat × Nat) (zs : List (Nat × Nat)) : fromN k (z :: zs) = fromN (k * z.2 + z.1) zs := rfl
theorem fromN_snoc (k : Nat) (zs : List (Nat × Nat)) (z : Nat × Nat) : fromN k (zs ++ [z]) = fromN k zs * z.2 + z.1 := by
  unfold fromN
  rw [List.foldl_append]
  rfl
theorem fromN_le : ∀ (zs : List (Nat × Nat)) (k : Nat), k * prodN (zs.map (·.2)) ≤ fromN k zs
  | [], k => by simp [prodN, fromN]
  | z :: zs, k => by
    rw [fromN_cons, List.map_cons, prodN_cons]
    refine Nat.le_trans ?_ (fromN_le zs _)
    rw [← Nat.mul_assoc]
    exact Nat.mul_le_mul_right _ (Nat.le_add_right _ _)
/-- the rest behind all digits -/
theorem digs_val : ∀ (ss : List Nat) (j : Nat), (∀ s ∈ ss, 0 < s) → fromN (restN j ss) (List.zip (digs j ss) ss).reverse = j
  | [], j, _ => rfl
  | s :: ss, j, h => by
    have ih := digs_val ss (j / s) fun x hx => h x (List.mem_cons_of_mem _ hx)
    show fromN (restN (j / s) ss) ((j % s, s) :: List.zip (digs (j / s) ss) ss).reverse = j
    rw [List.reverse_cons, fromN_snoc, ih, Nat.mul_comm]
    exact Nat.div_add_mod j s
theorem restN_zero : ∀ (ss : List Nat) (j : Nat), j < prodN ss → restN j ss = 0
  | [], j, h => by
    have : j < 1 := h
    show j = 0
    omega
  | s :: ss, j, h => by
    rw [prodN_cons] at h
    exact restN_zero ss (j / s) (Nat.div_lt_of_lt_mul h)
theorem zip_rev {α β : Type} : ∀ {xs : List α} {ys : List β}, xs.length = ys.length → (List.zip xs ys).reverse = List.zip xs.reverse ys.reverse
  | [], [], _ => rfl
  | [], _ :: _, h => by cases h
  | _ :: _, [], h => by cases h
  | x :: xs, y :: ys, h => by
    rw [List.zip_cons_cons, List.reverse_cons, List.reverse_cons, List.reverse_cons, zip_rev (Nat.succ.inj h), List.zip_append (by rw [List.length_reverse, List.length_reverse]; exact Nat.succ.inj h)]
    rfl
theorem num_nth {ss : List Nat} {j : Nat} (h : ∀ s ∈ ss, 0 < s) (hj : j < prodN ss) : numN (nth j ss) ss = j := by
  have e := digs_val ss.reverse j fun s hs => h s (List.mem_reverse.mp hs)
  rw [restN_zero _ _ (by rw [prodN_rev]; exact hj)] at e
  rw [numN_eq]
  have z : (List.zip (digs j ss.reverse) ss.reverse).reverse = List.zip (nth j ss) ss := by
    unfold nth
    rw [zip_rev (by rw [digs_length]), List.reverse_reverse]
  rw [z] at e
  exact e
/-- lists of digits within their sizes -/
def Digits : List Nat → List Nat → Prop
  | [], [] => True
  | d :: ds, s :: ss => d < s ∧ Digits ds ss
  | _, _ => False
theorem Digits.of_nth {ss : List Nat} (h : ∀ s ∈ ss, 0 < s) (j : Nat) : Digits (nth j ss) ss := by
  have key : ∀ (ds ss : List Nat), ds.length = ss.length → (∀ (i b s : Nat), ds[i]? = some b → ss[i]? = some s → b < s) → Digits ds ss := by
    intro ds
    induction ds with
    | nil => intro ss hl _; cases ss with
      | nil => trivial
      | cons _ _ => cases hl
    | cons d ds ih => intro ss hl k; cases ss with
      | nil => cases hl
      | cons s ss => exact ⟨k 0 d s rfl rfl, ih ss (Nat.succ.inj hl) fun i b t h1 h2 => k (i + 1) b t h1 h2⟩
  exact key _ _ (nth_length j ss) (nth_lt h)
theorem fromN_lt_add : ∀ {ds ss : List Nat}, Digits ds ss → ∀ k, fromN k (List.zip ds ss) < (k + 1) * prodN ss
  | [], [], _, k => by simp [fromN, prodN]
  | [], _ :: _, h, _ => h.elim
  | _ :: _, [], h, _ => h.elim
  | d :: ds, s :: ss, h, k => by
    rw [List.zip_cons_cons, fromN_cons, prodN_cons]
    refine Nat.lt_of_lt_of_le (fromN_lt_add h.2 _) ?_
    rw [← Nat.mul_assoc]
    refine Nat.mul_le_mul_right _ ?_
    have := h.1
    show k * s + d + 1 ≤ (k + 1) * s
    rw [Nat.succ_mul]
    omega
theorem fromN_ge : ∀ {ds ss : List Nat}, Digits ds ss → ∀ k, k * prodN ss ≤ fromN k (List.zip ds ss)
  | [], [], _, k => by simp [fromN, prodN]
  | [], _ :: _, h, _ => h.elim
  | _ :: _, [], h, _ => h.elim
  | d :: ds, s :: ss, h, k => by
    rw [List.zip_cons_cons, fromN_cons, prodN_cons]
    refine Nat.le_trans ?_ (fromN_ge h.2 _)
    rw [← Nat.mul_assoc]
    exact Nat.mul_le_mul_right _ (Nat.le_add_right _ _)
theorem fromN_mono {ds es ss : List Nat} (h : Digits ds ss) (h' : Digits es ss) {k l : Nat} (hk : k < l) : fromN k (List.zip ds ss) < fromN l (List.zip es ss) :=
  Nat.lt_of_lt_of_le (fromN_lt_add h k) (Nat.le_trans (Nat.mul_le_mul_right _ hk) (fromN_ge h' l))
/-- greater lists have greater numbers -/
theorem fromN_lex : ∀ {ds es ss : List Nat}, Digits ds ss → Digits es ss → ∀ k, (fromN k (List.zip ds ss) < fromN k (List.zip es ss) ↔ (ds.map fun (n : Nat) => (n : Int)) < es.map fun (n : Nat) => (n : Int))
  | [], [], [], _, _, k => by simp
  | [], _, _ :: _, h, _, _ => h.elim
  | _ :: _, _, [], h, _, _ => h.elim
  | [], _ :: _, [], _, h, _ => h.elim
  | _ :: _, [], _ :: _, _, h, _ => h.elim
  | d :: ds, e :: es, s :: ss, h, h', k => by
    rw [List.zip_cons_cons, List.zip_cons_cons, fromN_cons, fromN_cons, List.map_cons, List.map_cons, List.cons_lt_cons_iff]
    show fromN (k * s + d) (List.zip ds ss) < fromN (k * s + e) (List.zip es ss) ↔ _
    rcases Nat.lt_trichotomy d e with hl | hl | hl
    · have := fromN_mono h.2 h'.2 (k := k * s + d) (l := k * s + e) (by omega)
      exact ⟨fun _ => .inl (by omega), fun _ => this⟩
    · subst hl
      rw [fromN_lex h.2 h'.2 (k * s + d)]
      exact ⟨fun q => .inr ⟨rfl, q⟩, fun q => by
        rcases q with q | q
        · omega
        · exact q.2⟩
    · have := fromN_mono h'.2 h.2 (k := k * s + e) (l := k * s + d) (by omega)
      exact ⟨fun q => by omega, fun q => by
        rcases q with q | q
        · omega
        · have := q.1; omega⟩
theorem with_leads : ∀ {t : List (List Cell)} {ns ms : List Nat}, (∀ r ∈ t, Full r) → (∀ r ∈ t, ∀ m ∈ ms, m ≤ r.length) → Within ns ms → t.length = ns.length → (withB t ns).map lead = ns
  | [], [], _, _, _, _, _ => rfl
  | [], _ :: _, _, _, _, _, h => by cases h
  | _ :: _, [], _, _, _, _, h => by cases h
  | r :: t, b :: ns, [], _, _, h, _ => h.elim
  | r :: t, b :: ns, m :: ms, hf, hm, h, hl => by
    have hb : b ≤ r.length := Nat.le_trans h.1 (hm r List.mem_cons_self m List.mem_cons_self)
    show lead (pRow b r) :: (withB t ns).map lead = b :: ns
    rw [lead_pRow hb (hf r List.mem_cons_self), with_leads (fun s hs => hf s (List.mem_cons_of_mem _ hs)) (fun s hs k hk => hm s (List.mem_cons_of_mem _ hs) k (List.mem_cons_of_mem _ hk)) h.2 (Nat.succ.inj hl)]
theorem table_leads {t : List (List Cell)} {n : Nat} (h : OkTable t n) (j : Nat) : (withB t (nth j (choicesN t))).map lead = nth j (choicesN t) :=
  with_leads (fun r hr => (h.fulls r hr).1) (fun r hr m hm => by rw [h.wide r hr]; exact sharedN_le (fun r hr => Nat.le_of_eq (h.wide r hr)) m hm) (nth_within h j) (by rw [nth_length, choicesN, List.length_map, sharedN_length])
/-! ### numbers with their lists, sorted -/
def pairD (ss : List Nat) (j : Nat) : PyData := .tuple [.int (j : Int), natsD (nth j ss)]
theorem natsD_ints (ns : List Nat) : natsD ns = .list ((ns.map fun (n : Nat) => (n : Int)).map PyData.int) := by
  unfold natsD
  rw [List.map_map]
  rfl
theorem pair_lt {ss : List Nat} (h : ∀ s ∈ ss, 0 < s) {i j : Nat} (hi : i < prodN ss) (hj : j < prodN ss) : PySem.W.dataLt (pairD ss i) (pairD ss j) = PySem.W.dataLt (natsD (nth i ss)) (natsD (nth j ss)) := by
  have al : PySem.W.alike (natsD (nth i ss)) (natsD (nth j ss)) = true := by
    rw [natsD_ints, natsD_ints]
    simp only [PySem.W.alike]
    exact PySem.W.alike_ints _ _
  have e : PySem.W.dataLt (natsD (nth i ss)) (natsD (nth j ss)) = decide (i < j) := by
    rw [natsD_ints, natsD_ints, PySem.W.dataLt_list]
    have := PySem.W.dataLt_ints ((nth i ss).map fun (n : Nat) => (n : Int)) ((nth j ss).map fun (n : Nat) => (n : Int))
    unfold PySem.W.rowLt at this
    rw [this]
    have lx := fromN_lex (Digits.of_nth h i) (Digits.of_nth h j) 0
    rw [← numN_eq, ← numN_eq, num_nth h hi, num_nth h hj] at lx
    by_cases q : i < j
    · rw [decide_eq_true q, decide_eq_true (lx.mp q)]
    · rw [decide_eq_false q, decide_eq_false (fun z => q (lx.mpr z))]
  unfold pairD
  rw [PySem.W.dataLt_pair (by simp [PySem.W.alike]) al, e, eqv_int, PySem.W.dataLt_int]
  by_cases q : (i : Int) = (j : Int)
  · have q' : i = j := Int.ofNat_inj.mp q
    subst q'
    rw [eqv_nats]
    simp
  · rw [if_neg (by rw [decide_eq_false q]; decide)]
    by_cases z : i < j
    · rw [decide_eq_true z, decide_eq_true (by omega)]
    · rw [decide_eq_false z, decide_eq_false (by omega)]
theorem pairs_sorted {ss : List Nat} (h : ∀ s ∈ ss, 0 < s) {js : List Nat} (hj : ∀ j ∈ js, j < prodN ss) : ∃ ks : List Nat, sortD (js.map (pairD ss)) = ks.map (pairD ss) ∧ sortD (js.map fun j => natsD (nth j ss)) = ks.map fun j => natsD (nth j ss) := by
  refine ⟨js.mergeSort (PySem.W.dataLe false (pairD ss)), ?_, ?_⟩
  · unfold sortD
    exact (List.map_mergeSort (r := PySem.W.dataLe false (pairD ss)) (s := PySem.W.dataLe false id) (f := pairD ss) (l := js) (fun a _ b _ => rfl)).symm
  · unfold sortD
    refine (List.map_mergeSort (r := PySem.W.dataLe false (pairD ss)) (s := PySem.W.dataLe false id) (f := fun j => natsD (nth j ss)) (l := js) (fun a ha b hb => ?_)).symm
    rw [PySem.W.dataLe_eq, PySem.W.dataLe_eq]
    show (!PySem.W.dataLt (pairD ss b) (pairD ss a)) = (!PySem.W.dataLt (natsD (nth b ss)) (natsD (nth a ss)))
    rw [pair_lt h (hj b hb) (hj a ha)]
end G

set_option Elab.async false
set_option linter.all false
set_option maxRecDepth 100000
set_option maxHeartbeats 1000000
namespace G
open PySem PySem.Spec PyProof.Rows L2
def S_lbl (ds : List PyData) (Ψ : PyData → Prop) : Prop := ∃ (p : List (List Cell)) (n : Nat), ds = [pageD p] ∧ OkRows p n ∧ Ψ (natsD (p.map lead))
theorem Digits.length : ∀ {ds ss : List Nat}, Digits ds ss → ds.length = ss.length
  | [], [], _ => rfl
  | [], _ :: _, h => h.elim
  | _ :: _, [], h => h.elim
  | _ :: ds, _ :: ss, h => congrArg Nat.succ (Digits.length h.2)
theorem Digits.take : ∀ {ds ss : List Nat} (_ : Digits ds ss) (i : Nat), Digits (ds.take i) (ss.take i)
  | _, _, _, 0 => trivial
  | [], [], _, i + 1 => trivial
  | [], _ :: _, h, _ => h.elim
  | _ :: _, [], h, _ => h.elim
  | d :: ds, s :: ss, h, i + 1 => ⟨h.1, Digits.take h.2 i⟩
theorem zip_take : ∀ (a b : List Nat) (i : Nat), (List.zip a b).take i = List.zip (a.take i) (b.take i)
  | _, _, 0 => rfl
  | [], _, i + 1 => rfl
  | _ :: _, [], i + 1 => rfl
  | x :: a, y :: b, i + 1 => by
    show (x, y) :: (List.zip a b).take i = (x, y) :: List.zip (a.take i) (b.take i)
    rw [zip_take a b i]
theorem fromN_lt_take {ds ss : List Nat} (h : Digits ds ss) (i : Nat) : fromN 0 ((List.zip ds ss).take i) < (0 + 1) * prodN (ss.take i) := by
  rw [zip_take]
  exact fromN_lt_add (h.take i) 0
def S_due (ds : List PyData) (Ψ : PyData → Prop) : Prop := ∃ ms bs : List Nat, ds = [natsD ms, natsD bs] ∧ (∀ m ∈ ms, m ≤ 6) ∧ ms.length ≤ 60 ∧ Digits bs (ms.map (· + 1)) ∧ Ψ (.int (numN bs (ms.map (· + 1)) : Int))
theorem Within.digits : ∀ {ns ms : List Nat}, Within ns ms → Digits ns (ms.map (· + 1))
  | [], [], _ => trivial
  | [], _ :: _, h => h.elim
  | _ :: _, [], h => h.elim
  | b :: ns, m :: ms, h => ⟨Nat.lt_succ_of_le h.1, Within.digits h.2⟩
theorem okN_pair (ss : List Nat) (j : Nat) : okN 2 (pairD ss j) := okN_tup fun d hd => by
  rcases List.mem_cons.mp hd with h | h
  · subst h; exact (okN_int _).mono (by decide)
  · cases List.mem_singleton.mp h
    exact okN_nats _
theorem alike_nats (a b : List Nat) : PySem.W.alike (natsD a) (natsD b) = true := by
  rw [natsD_ints, natsD_ints]
  simp only [PySem.W.alike]
  exact PySem.W.alike_ints _ _
theorem can_pairs (ss js : List Nat) : CanSort (js.map (pairD ss)) := by
  have hk : ∀ d ∈ js.map (pairD ss), okN 2 d := fun d hd => by
    obtain ⟨j, _, rfl⟩ := List.mem_map.mp hd
    exact okN_pair ss j
  refine ⟨(okN_all hk).2.2, fun d hd e he => ?_, .inl fun d hd => ?_, fun d hd => Nat.le_trans (hk d hd).dp (by decide)⟩
  · obtain ⟨i, _, rfl⟩ := List.mem_map.mp hd
    obtain ⟨j, _, rfl⟩ := List.mem_map.mp he
    unfold pairD
    simp [PySem.W.alike, PySem.W.alikeAll, alike_nats]
  · obtain ⟨i, _, rfl⟩ := List.mem_map.mp hd
    exact ⟨_, _, rfl⟩
theorem can_nats (f : Nat → List Nat) (js : List Nat) : CanSort (js.map fun j => natsD (f j)) := by
  have hk : ∀ d ∈ js.map (fun j => natsD (f j)), okN 1 d := fun d hd => by
    obtain ⟨j, _, rfl⟩ := List.mem_map.mp hd
    exact okN_nats _
  refine ⟨(okN_all hk).2.2, fun d hd e he => ?_, .inr fun d hd => ?_, fun d hd => Nat.le_trans (hk d hd).dp (by decide)⟩
  · obtain ⟨i, _, rfl⟩ := List.mem_map.mp hd
    obtain ⟨j, _, rfl⟩ := List.mem_map.mp he
    exact alike_nats _ _
  · obtain ⟨i, _, rfl⟩ := List.mem_map.mp hd
    exact ⟨(fun h => nomatch h), fun xs h => nomatch h⟩
theorem Ok0.natss (f : Nat → List Nat) (js : List Nat) : Ok0 (.list (js.map fun j => natsD (f j))) := by
  refine ⟨(okN_list (n := 1) fun d hd => ?_).okD, ?_⟩
  · obtain ⟨j, _, rfl⟩ := List.mem_map.mp hd
    exact okN_nats _
  · have e : (js.map fun j => natsD (f j)) = (js.map f).map natsD := by rw [List.map_map]; rfl
    rw [e, eqv_list, eqvAll_map natsD eqv_nats]
    exact decide_eq_true rfl
end G

set_option Elab.async false
set_option linter.all false
set_option maxRecDepth 100000
set_option maxHeartbeats 1000000
namespace G
open PySem PySem.Spec PyProof.Rows L2
section
variable {c : Ct} {F : Fp} {ρ : List Sl} {pos apos cpos : Pos} {a b e : Expr} {es : List Expr} {D : SE} {Φ : PyData → List Sl → Prop} {Ψ : Bool → List Sl → Prop}
theorem ws_extend (i : Nat) {x : Str} {px : Pos} (h : WE c F e ρ fun d ρ1 => ∃ ds es, ρ1[i]? = some (Sl.ow ds) ∧ d = .list es ∧ ds.length + es.length < 100000 ∧ D.nx (ρ1.set i (Sl.ow (ds ++ es)))) {ds0 : List PyData} (h0 : ρ[i]? = some (Sl.ow ds0)) (hN : c.N[i]? = some x := by rfl)
    (hv : Vis c.sc x := by first | exact Or.inl rfl | exact Or.inr (Or.inl rfl) | exact Or.inr (Or.inr rfl))
    (hd : (x == ("__debug__" : Str)) = false := by decide) (hcd : (x == ("__classdict__" : Str)) = false := by decide) (hs1 : ∀ env, starEach [e] env = (false, eval e env) :: starEach [] env := by intro _; rfl)
    (hfew : ∀ env, ((backTo cpos (starEach [e] env)).all (fun x => !x.1) && (backToKw cpos (keywordEach [] env)).all (fun x => x.1.isSome) && decide ([e].length + ([] : List Keyword).length + (if ([] : List Keyword).isEmpty then 0 else 1) < 30)) = true := by intro _; rfl)
    (hline : (apos.endLine == cpos.line) = true := by rfl) (hpl : ∀ env, (backTo cpos (starEach [] env)).any (·.1) = false := by intro _; rfl) :
    WS c F (.Expr (.Call (.Attribute (.Name x px) "extend" apos) [e] [] cpos) pos) ρ D := fun B σ H0 H hF E Ed f =>
  wpS_of (t := tDrop (tBM c.K "list" rExtend (tVar i) (tCons (wpE c e) tNil))) (fun X hX => by rw [← hX.K]; exact ps_expr (pe_bm PySem.F.plainAttrs_list PySem.F.slot_list_extend PySem.F.type_list_extend mt_extend (pe_var (by rw [hX.N]; exact hN) (by rw [hX.sc]; exact hv) hd hcd) (pa_cons (peW hX) pa_nil (hs1 _)) rfl (hfew _) hline (hs1 _) (hpl _))) (by
    obtain ⟨l, vs, h1, h2, h3⟩ := E.owAt h0
    refine ⟨_, h1, .inl ⟨rfl, _, SqL.of h2⟩, ?_⟩
    refine h B σ H0 H hF E _ fun v d ρ1 H1 H1' E1 e1 r1 ⟨ds, es, k1, k2, k3, k4⟩ => ?_
    subst k2
    obtain ⟨l', vs', g1, g2, g3⟩ := E1.owAt k1
    rw [h1] at g1
    cases g1
    cases r1 with
    | lst q1 q2 =>
      rename_i b' zs
      refine ⟨l, b', vs', zs, rfl, rfl, g2, E1.ex _ _ q1, Nat.le_trans (by rw [g3.length, q2.length]; exact Nat.le_of_lt k3) (by decide : 100000 ≤ sizeLine), ?_⟩
      exact f.nx _ σ H1 _ (E1.change k1 h1 (g3.append q2)) k4)
/-- == of strings -/
theorem wc_eqS (h : WE c F a ρ fun d ρ1 => WE c F b ρ1 fun y ρ2 => ∃ s t : Str, d = .str s ∧ y = .str t ∧ Φ (.bool (decide (s = t))) ρ2) : WC c F .Eq a b ρ Φ :=
  ⟨rEq, (fun X hX => op_eq), (h.imp fun d ρ1 k => k.imp fun y ρ2 ⟨s, t, e1, e2, q⟩ => .flat q (fun H => .bl _) fun H0 H x u ex rx ru Q qq => by
    subst e1 e2
    cases rx
    cases ru
    refine ⟨rfl, ?_⟩
    have e : decide (V.str s = V.str t) = decide (s = t) := by
      by_cases z : s = t
      · subst z; simp
      · rw [decide_eq_false z, decide_eq_false (fun w => z (V.str.inj w))]
    rw [e]
    exact qq)⟩
theorem wc_neqS (h : WE c F a ρ fun d ρ1 => WE c F b ρ1 fun y ρ2 => ∃ s t : Str, d = .str s ∧ y = .str t ∧ Φ (.bool (!decide (s = t))) ρ2) : WC c F .NotEq a b ρ Φ :=
  ⟨rNe, (fun X hX => op_ne), (h.imp fun d ρ1 k => k.imp fun y ρ2 ⟨s, t, e1, e2, q⟩ => .flat q (fun H => .bl _) fun H0 H x u ex rx ru Q qq => by
    subst e1 e2
    cases rx
    cases ru
    refine ⟨rfl, ?_⟩
    have e : decide (V.str s = V.str t) = decide (s = t) := by
      by_cases z : s = t
      · subst z; simp
      · rw [decide_eq_false z, decide_eq_false (fun w => z (V.str.inj w))]
    rw [e]
    exact qq)⟩
end
/-! ### pages can be shown -/
structure Light (k : Nat) (d : PyData) : Prop where
  w : d.weight ≤ k
  sh : d.showable = true
  sm : PyData.intsShort 13 d = true
theorem light_all {k : Nat} : ∀ {xs : List PyData}, (∀ x ∈ xs, Light k x) → PyData.weightAll xs ≤ (k + 1) * xs.length ∧ PyData.showableAll xs = true ∧ PyData.intsShortAll 13 xs = true
  | [], _ => ⟨Nat.zero_le _, by simp [PyData.showableAll], by simp [PyData.intsShortAll]⟩
  | x :: xs, h => by
    obtain ⟨h1, h2, h3⟩ := light_all fun y hy => h y (List.mem_cons_of_mem _ hy)
    have hx := h x List.mem_cons_self
    have := hx.w
    refine ⟨?_, by simp [PyData.showableAll, hx.sh, h2], by simp [PyData.intsShortAll, hx.sm, h3]⟩
    simp only [PyData.weightAll, List.length_cons, Nat.mul_succ]
    omega
theorem light_tup {k m : Nat} {xs : List PyData} (h : ∀ x ∈ xs, Light k x) (hl : xs.length ≤ m) : Light ((k + 1) * m) (.tuple xs) := by
  obtain ⟨h1, h2, h3⟩ := light_all h
  exact ⟨by simp only [PyData.weight]; exact Nat.le_trans h1 (Nat.mul_le_mul_left _ hl), by simp [PyData.showable, h2], by simp [PyData.intsShort, h3]⟩
theorem light_list {k m : Nat} {xs : List PyData} (h : ∀ x ∈ xs, Light k x) (hl : xs.length ≤ m) : Light ((k + 1) * m) (.list xs) := by
  obtain ⟨h1, h2, h3⟩ := light_all h
  exact ⟨by simp only [PyData.weight]; exact Nat.le_trans h1 (Nat.mul_le_mul_left _ hl), by simp [PyData.showable, h2], by simp [PyData.intsShort, h3]⟩
theorem light_cell {x : Cell} (h : okC x) : Light 8 (cellD x) := by
  cases x with
  | none => exact ⟨Nat.zero_le _, by simp [cellD, PyData.showable], by simp [cellD, PyData.intsShort]⟩
  | some s =>
    have := (h s rfl).2.1
    exact ⟨by simp only [cellD, PyData.weight]; exact this, by simp [cellD, PyData.showable], by simp [cellD, PyData.intsShort]⟩
theorem light_page {p : List (List Cell)} {n : Nat} (h : OkRows p n) : Light 3300 (pageD p) := by
  refine light_tup (k := 54) (m := 60) (fun d hd => ?_) (by rw [List.length_map]; exact h.hi)
  obtain ⟨r, hr, rfl⟩ := List.mem_map.mp hd
  refine light_tup (k := 8) (m := 6) (fun d hd => ?_) (by rw [List.length_map]; exact (h.row r hr).2.1)
  obtain ⟨x, hx, rfl⟩ := List.mem_map.mp hd
  exact light_cell ((h.row r hr).cells x hx)
theorem Light.show {k n : Nat} {d : PyData} (h : Light k d) (o : okN n d) (hn : n ≤ 60 := by decide) (hk : k ≤ 1000000 := by decide) : CanShow d := by
  refine ⟨o.pl, o.cl, h.sh, Nat.le_trans o.dp hn, ?_⟩
  have := PyData.shown_le 13 (by decide) d (PyData.leavesShort_of_canLay0 13 d o.cl h.sm)
  have hw := h.w
  have e : sizeLine = 16777216 := by decide
  omega
theorem show_page {p : List (List Cell)} {n : Nat} (h : OkRows p n) : CanShow (pageD p) := (light_page h).show (okN_page h.cells)
end G

set_option Elab.async false
set_option linter.all false
set_option maxRecDepth 100000
set_option maxHeartbeats 1000000
namespace G
open PySem PySem.Spec PyProof.Rows L2
/-! ### all lists of choices, one after another -/
theorem nth_snoc (ss : List Nat) (s j : Nat) : nth j (ss ++ [s]) = nth (j / s) ss ++ [j % s] := by
  unfold nth
  rw [List.reverse_append]
  show (j % s :: digs (j / s) ss.reverse).reverse = _
  rw [List.reverse_cons]
theorem range_mul {α : Type} (f : Nat → α) (s : Nat) : ∀ p : Nat, (List.range (p * s)).map f = (List.range p).flatMap fun q => (List.range s).map fun r => f (q * s + r)
  | 0 => by simp
  | p + 1 => by
    rw [Nat.succ_mul, List.range_add, List.map_append, range_mul f s p, List.range_succ, List.flatMap_append]
    congr 1
    rw [List.map_map, List.flatMap_singleton]
    rfl
def allN (ss : List Nat) : List (List Nat) := (List.range (prodN ss)).map fun j => nth j ss
theorem allN_nil : allN [] = [[]] := rfl
theorem allN_snoc (ss : List Nat) (s : Nat) (hs : 0 < s) : allN (ss ++ [s]) = (allN ss).flatMap fun row => (List.range s).map fun r => row ++ [r] := by
  unfold allN
  rw [prodN_append, prodN_cons, show prodN ([] : List Nat) = 1 from rfl, Nat.mul_one, range_mul, List.flatMap_map]
  congr 1
  funext q
  refine List.map_congr_left fun r hr => ?_
  have hr := List.mem_range.mp hr
  rw [nth_snoc, Nat.mul_comm q s, Nat.mul_add_div hs, Nat.mul_add_mod, Nat.div_eq_of_lt hr, Nat.mod_eq_of_lt hr, Nat.add_zero]
def listsD (ls : List (List Nat)) : PyData := .list (ls.map natsD)
def S_lis (ds : List PyData) (Ψ : PyData → Prop) : Prop := ∃ ms : List Nat, ds = [natsD ms] ∧ ms.length ≤ 60 ∧ prodN (ms.map (· + 1)) ≤ 1000 ∧ Ψ (listsD (allN (ms.map (· + 1))))
theorem prodN_take_le {ns : List Nat} (h : ∀ s ∈ ns, 0 < s) (i : Nat) : prodN (ns.take i) ≤ prodN ns := by
  have e := prodN_append (ns.take i) (ns.drop i)
  rw [List.take_append_drop] at e
  rw [e]
  exact Nat.le_mul_of_pos_right _ (prodN_pos fun s hs => h s (List.mem_of_mem_drop hs))
theorem allN_length (ss : List Nat) : (allN ss).length = prodN ss := by unfold allN; rw [List.length_map, List.length_range]
theorem RpL.reverse {H : Hp} : ∀ {vs : List V} {ds : List PyData}, RpL H vs ds → RpL H vs.reverse ds.reverse
  | _, _, .nil => .nil
  | _, _, .cons h t => by
    rw [List.reverse_cons, List.reverse_cons]
    exact (RpL.reverse t).append (.one h)
end G

set_option Elab.async false
set_option linter.all false
set_option maxRecDepth 100000
set_option maxHeartbeats 1000000
namespace G
open PySem PySem.Spec PyProof.Rows L2
theorem prodN_pow {B : Nat} : ∀ {ns : List Nat}, (∀ s ∈ ns, s ≤ B) → prodN ns ≤ B ^ ns.length
  | [], _ => Nat.le_refl _
  | x :: ns, h => by
    rw [prodN_cons, List.length_cons, Nat.pow_succ, Nat.mul_comm]
    exact Nat.mul_le_mul (prodN_pow fun s hs => h s (List.mem_cons_of_mem _ hs)) (h x List.mem_cons_self)
theorem few_pages {t : List (List Cell)} {n L : Nat} (h : OkTable t n) (hl : t.length ≤ L) : prodN (choicesN t) ≤ (n + 1) ^ L := by
  refine Nat.le_trans (prodN_pow (B := n + 1) fun s hs => ?_) (Nat.pow_le_pow_right (by omega) ?_)
  · obtain ⟨x, hx, rfl⟩ := List.mem_map.mp hs
    have := sharedN_le (fun r hr => Nat.le_of_eq (h.wide r hr)) x hx
    omega
  · unfold choicesN
    rw [List.length_map, sharedN_length]
    exact hl
section
variable {K : PySem.W.Frag} {x qual : Str} {st : Stmt} {f : Addr} {fd : FuncData}
theorem byName1 {p : Str} (Fu : Fun K x qual st f fd) (h : ∀ (kV doc pm : Value) (an : Option Addr) (cdv ct u : Value), bindArgs (PySem.W.fnOf x qual (defArgs st) (defBody st) (defScope st) .none kV doc pm an cdv ct) ⟨[], [(p, u)]⟩ = pure [(p, u)]) : ByName K fd [p] [p] (fun xs => xs) := by
  obtain ⟨oc, od, kV, doc, pm, an, cdv, ct, osl, rfl, lk, hcd⟩ := Fu.ex
  refine ⟨fun s ws _ hl => ?_, fun r => r⟩
  match ws, hl with
  | [u], _ => exact .of_eq (h kV doc pm an cdv ct u)
theorem byName2r {p q : Str} (Fu : Fun K x qual st f fd) (h : ∀ (kV doc pm : Value) (an : Option Addr) (cdv ct u v : Value), bindArgs (PySem.W.fnOf x qual (defArgs st) (defBody st) (defScope st) .none kV doc pm an cdv ct) ⟨[], [(q, u), (p, v)]⟩ = pure [(p, v), (q, u)]) : ByName K fd [p, q] [q, p] (fun xs => xs.reverse) := by
  obtain ⟨oc, od, kV, doc, pm, an, cdv, ct, osl, rfl, lk, hcd⟩ := Fu.ex
  have rev : ∀ {vs : List V} {us : List Value}, Vals vs us → Vals vs.reverse us.reverse := by
    intro vs us r
    induction r with
    | nil => exact .nil
    | cons a b ih =>
      rw [List.reverse_cons, List.reverse_cons]
      exact ih.append (.cons a .nil)
  refine ⟨fun s ws _ hl => ?_, rev⟩
  match ws, hl with
  | [u, v], _ => exact .of_eq (h kV doc pm an cdv ct u v)
  | [], hl => cases hl
  | [_], hl => cases hl
  | _ :: _ :: _ :: _, hl => simp at hl
end
theorem calK_of {P : Program} {w : World} {K : PySem.W.Frag} {mg : Str → Option Value} {base : Heap} {k : Nat} {x qual : Str} {st : Stmt} {f : Addr} {fd : FuncData} {ps ks : List Str} {sp : Sp} {ord : {α : Type} → List α → List α} (F : Fun K x qual st f fd) (m : mg x = some (.ref f)) (kp : PySem.W.keepIn K (.ref f) = true) (b : ByName K fd ps ks ord) (G : FnOk P w K mg base CX0 k f fd ps sp) : CalK P w K mg base k x ks ord sp := ⟨f, fd, ps, G, m, kp, b⟩
theorem calG_of {P : Program} {w : World} {K : PySem.W.Frag} {mg : Str → Option Value} {base : Heap} {k : Nat} {x qual : Str} {st : Stmt} {f : Addr} {fd : FuncData} {ps : List Str} {sp : Sp} (F : Fun K x qual st f fd) (m : mg x = some (.ref f)) (kp : PySem.W.keepIn K (.ref f) = true) (b : Binds K fd ps []) (G : FnG P w K mg base k f fd ps sp) : CalG P w K mg base k x sp := ⟨f, fd, ps, G, m, kp, b⟩
end G

set_option Elab.async false
set_option linter.all false
set_option maxRecDepth 100000
set_option maxHeartbeats 1000000
namespace G
open PySem PySem.Spec PyProof.Rows L2
/-! ### defs whose answer is a new list, that the caller may change -/
/-- the promise: the answer is a list that did not stand ahead of the call -/
def PFN (S : List PyData → (List PyData → Prop) → Prop) : Sp := fun vs H Q _ => ∃ (H0 : Hp) (ds : List PyData) (Ψ : List PyData → Prop), Ex H0 H ∧ RpL H0 vs ds ∧ S ds Ψ ∧ ∀ l us es H0' H', Grow H0 H H0' H' → H l = none → H' l = some (.lst us) → H0' l = none → RpL H0' us es → Ψ es → Q (.ref l) H'
/-- it is one of the plain kind too -/
theorem Cal.ofN {P : Program} {w : World} {K : PySem.W.Frag} {mg : Str → Option Value} {base : Heap} {k : Nat} {x : Str} {S : List PyData → (List PyData → Prop) → Prop} (f : Cal P w K mg base k x (PFN S)) : Cal P w K mg base k x (PF fun ds Ψ => S ds fun es => Ψ (.list es)) := by
  obtain ⟨a, fd, ps, G, h⟩ := f
  refine ⟨a, fd, ps, G.imp ?_, h⟩
  rintro vs H Q _ ⟨H0, ds, Ψ, e, r, s, q⟩
  refine ⟨H0, ds, fun es => Ψ (.list es), e, r, s, fun l us es H0' H' g n1 n2 n3 r2 k => ?_⟩
  have g2 : Grow H0 H (upd H0' l (.lst us)) H' := ⟨g.1.trans (Ex.new n3), g.2, fun b o hb => by
    by_cases z : b = l
    · subst z
      rw [upd_same] at hb
      cases hb
      exact n2
    · rw [upd_ne z] at hb
      exact g.3 b o hb, fun b o hb hn => by
    by_cases z : b = l
    · subst z
      rw [n1] at hb
      cases hb
    · rw [upd_ne z]
      exact g.4 b o hb hn⟩
  exact q _ _ _ _ g2 (.lst upd_same (r2.mono (Ex.new n3))) k
section
variable {c : Ct} {F : Fp} {ρ : List Sl} {pos apos cpos : Pos} {a b e : Expr} {es : List Expr} {D : SE} {Φ : List PyData → List Sl → Prop}
/-- return a new list -/
theorem ws_retN (h : WL c F e ρ fun ds ρ1 => D.rn ds ρ1) : WS c F (.Return (some e) pos) ρ D := fun B σ H0 H hF E Ed f =>
  wpS_of (fun X hX => ps_ret (peW hX)) (h B σ H0 H hF E _ fun l vs ds ρ1 H1 H1' E1 e1 fr k => f.rn l vs ds ρ1 σ H1 H1' E1 fr k)
/-- a call of such a def -/
theorem wl_callN {S : List PyData → (List PyData → Prop) → Prop} {k : Nat} {x : Str} {p : Pos} (f : Cal c.P c.w c.K c.mg c.base k x (PFN S)) (h : WA c F (e :: es) ρ fun ds ρ1 => S ds fun z => Φ z ρ1) (hk : k ≤ c.k := by exact of_decide_eq_true rfl) (hg : c.sc.names.lookup x = some NameKind.globalImplicit := by rfl)
    (hst : ∀ env, starEach (e :: es) env = (false, eval e env) :: starEach es env := by intro _; rfl) (hpl : ∀ env, (backTo pos (starEach es env)).any (·.1) = false := by intro _; rfl) (hdb : (x == ("__debug__" : Str)) = false := by decide) :
    WL c F (.Call (.Name x p) (e :: es) [] pos) ρ Φ := fun B σ H0 H hF E Q q => by
  obtain ⟨fa, fd, ps, G, hm, kp, hb⟩ := f
  refine wpE_of (t := tCall (PFN S) [] E0 (wpA c (e :: es))) (fun X hX => pe_call (fd := fd) (ps := ps) (CX := CX0) (k := k) ?_ (hX.room.mono hk) ?_ (by rw [hX.mg]; exact hm) (by rw [hX.K]; exact kp) (by rw [hX.K]; exact hb) .nil pass0 (paW hX) hdb (hst _) (hpl _)) ?_
  · rw [hX.P, hX.w, hX.K, hX.mg, hX.base]
    exact G
  · show X.env.scope.names.lookup x = _
    rw [hX.sc]
    exact hg
  · refine h B σ H0 H hF E _ fun vs ds ρ1 H1 H1' E1 e1 r1 k1 => ⟨H1, ds, _, E1.ex, by rw [List.append_nil]; exact r1, k1, fun l us zs H2 H2' g n1 n2 n3 r2 k2 => ?_⟩
    refine q l us zs ρ1 H2 H2' (E1.grow g) (e1.trans g.fz) ⟨n2, n3, ?_, ?_, ?_, r2⟩ k2
    · cases z : B.H l with
      | none => rfl
      | some o =>
        exfalso
        cases z0 : B.H0 l with
        | some o' =>
          have := E1.ex l o' (E1.e0 l o' z0)
          rw [n1] at this
          cases this
        | none =>
          by_cases hl : B.F l
          · obtain ⟨_, o2, w2⟩ := E1.fF l hl
            rw [n1] at w2
            cases w2
          · obtain ⟨w1, _⟩ := E1.kp l o z z0 hl
            rw [n1] at w1
            cases w1
    · intro hl
      obtain ⟨_, o2, w2⟩ := E1.fF l hl
      rw [n1] at w2
      cases w2
    · intro i zs' hi z
      obtain ⟨l', vs', w1, w2, _⟩ := E1.ow i zs' hi
      rw [z] at w1
      cases w1
      rw [n1] at w2
      cases w2
/-- xs + ys, as a new list -/
theorem wl_add (h : WE c F a ρ fun d ρ1 => WE c F b ρ1 fun y ρ2 => ∃ xs ys, d = .list xs ∧ y = .list ys ∧ xs.length + ys.length ≤ 100000 ∧ Φ (xs ++ ys) ρ2) : WL c F (.BinOp a .Add b pos) ρ Φ := fun B σ H0 H hF E Q q =>
  wpE_of (t := tOp rCat (wpE c a) (wpE c b)) (fun X hX => pe_op op_cat (peW hX) (peW hX)) (h B σ H0 H hF E _ fun v d ρ1 H1 H1' E1 e1 r1 k => k B σ H1 H1' hF E1 _ fun u y ρ2 H2 H2' E2 e2 r2 ⟨xs, ys, k1, k2, k3, k4⟩ => by
    subst k1 k2
    have r1' := r1.mono e2
    cases r1' with
    | lst g1 g2 =>
      cases r2 with
      | lst g3 g4 =>
        refine ⟨_, _, _, _, rfl, rfl, E2.ex _ _ g1, E2.ex _ _ g3, ?_, fun p hp => ?_⟩
        · rw [g2.length, g4.length]
          exact sz k3
        · obtain ⟨E3, f3⟩ := E2.newL hp (g2.append g4)
          exact q p _ _ ρ2 H2 _ E3 (e1.trans e2) f3 k4)
end
section
variable {P : Program} {w : World} {K : PySem.W.Frag} {mg : Str → Option Value} {base : Heap}
theorem pfn_ok {x qual : Str} {N ps : List Str} {st : Stmt} {k : Nat} {f : Addr} {fd : FuncData} {S : List PyData → (List PyData → Prop) → Prop} (Fu : Fun K x qual st f fd) (sc : FnScope N ps (defScope st)) (len : ∀ ds Ψ, S ds Ψ → ds.length = ps.length)
    (body : ∀ ds Ψ, S ds Ψ → WSs (ctOf P w K mg base N st k) noF (defBody st) (ds.map Sl.fz ++ List.replicate (N.length - ds.length) Sl.un) { rn := fun es _ => Ψ es }) : FnOk P w K mg base CX0 (k + 1) f fd ps (PFN S) := by
  have hpl : ps.length ≤ N.length := by have := congrArg List.length sc.pre; rw [List.length_take] at this; omega
  refine Fu.ok sc (fun vs H Q E ⟨H0, ds, Ψ, e, r, s, _⟩ => by rw [r.length]; exact len ds Ψ s) fun cdv A outer s H vs Q E hr ⟨H0, ds, Ψ, e, r, hs, q⟩ => ?_
  have hX : Has (ctOf P w K mg base N st k) (cxOf CX0 P w K mg base N qual (defScope st) f cdv A outer s H E).nox := has_of (x := x) sc hr
  refine ⟨_, pssW hX, ?_⟩
  have hl := len ds Ψ hs
  have gr : ∀ {ρ σ H1 H1'}, En ⟨H0, H, noF⟩ ρ σ H1 H1' → Grow H0 H H1 H1' := fun {ρ σ H1 H1'} E1 => ⟨E1.e0, fun a o h => by
    cases z : H0 a with
    | none => exact (E1.kp a o h z (fun f => f)).1
    | some o' =>
      have h1 := e a o' z
      rw [h] at h1
      cases h1
      exact E1.ex _ _ (E1.e0 a o z), E1.ex, fun a o h z => (E1.kp a o h z fun f => f).2⟩
  refine body ds Ψ hs ⟨H0, H, noF⟩ _ H0 H rfl (En.start e r (by omega)) _ ⟨fun ρ σ H1 H1' E1 k1 => k1.elim, fun v d ρ σ H1 H1' E1 r1 k1 => k1.elim, fun ρ σ H1 H1' E1 k1 => k1.elim, fun ρ σ H1 H1' E1 k1 => k1.elim, fun l vs ds ρ σ H1 H1' E1 fr k1 => q l vs ds H1 H1' (gr E1) fr.nb fr.at_ fr.nf fr.rp k1⟩
end
end G

set_option Elab.async false
set_option linter.all false
set_option maxRecDepth 100000
set_option maxHeartbeats 1000000
namespace G
open PySem PySem.Spec PyProof.Rows L2
/-! ### shared as a new list; is_page of rows; a page with a blank more -/
def S_shaN (ds : List PyData) (Ψ : List PyData → Prop) : Prop := ∃ (p : List (List Cell)) (n : Nat), ds = [pageD p] ∧ OkTable p n ∧ Ψ ((sharedN p).map fun (n : Nat) => PyData.int (n : Int))
theorem cal_sha {P : Program} {w : World} {K : PySem.W.Frag} {mg : Str → Option Value} {base : Heap} {k : Nat} {x : Str} (f : Cal P w K mg base k x (PFN S_shaN)) : Cal P w K mg base k x (PF S_sha) := f.ofN
def S_ispR (ds : List PyData) (Ψ : PyData → Prop) : Prop := ∃ (p : List (List Cell)) (n : Nat) (r0 : List Cell), ds = [pageD p] ∧ OkRows p n ∧ p[0]? = some r0 ∧ Ψ (.bool (decide (lead r0 = 0)))
/-- one more blank in a row -/
theorem more_rows {t : List (List Cell)} {n : Nat} {ns : List Nat} (h : OkTable t n) (hl : ns.length = t.length) (hn : ∀ m ∈ ns, m ≤ n) : OkRows (withB t ns) n ∧ (withB t ns).map lead = ns := by
  have hw : Within ns (List.replicate t.length n) := Within.of_get (by rw [List.length_replicate, hl]) fun i b m h1 h2 => by
    have := List.eq_of_mem_replicate (List.mem_of_getElem? h2)
    have := hn b (List.mem_of_getElem? h1)
    omega
  have rows := with_rows h.fulls h.cols (fun m hm => Nat.le_of_eq (List.eq_of_mem_replicate hm)) hw
  have e : (withB t ns).length = t.length := by
    unfold withB
    rw [List.length_zipWith, hl, Nat.min_self]
  refine ⟨⟨by rw [e]; exact h.lo, by rw [e]; exact h.hi, fun r hr => (rows r hr).1, fun r hr => (rows r hr).2⟩, ?_⟩
  refine with_leads (fun r hr => (h.fulls r hr).1) (ms := List.replicate t.length n) (fun r hr m hm => ?_) hw hl.symm
  rw [List.eq_of_mem_replicate hm, (h.fulls r hr).2]
  exact Nat.le_refl _
theorem more_page {t : List (List Cell)} {n at_ s : Nat} (h : OkTable t n) (h0 : 0 < at_) (hs : (sharedN t)[at_]? = some s) (hn : s < n) :
    OkPage (withB t ((sharedN t).set at_ (s + 1))) n ∧ tableOf (withB t ((sharedN t).set at_ (s + 1))) n ≠ t := by
  have hm := sharedN_le (fun r hr => Nat.le_of_eq (h.wide r hr))
  have hi : at_ < (sharedN t).length := (List.getElem?_eq_some_iff.mp hs).1
  obtain ⟨k1, k2⟩ := more_rows h (ns := (sharedN t).set at_ (s + 1)) (by rw [List.length_set, sharedN_length]) (fun m hmm => by
    rcases List.mem_or_eq_of_mem_set hmm with z | z
    · exact hm m z
    · omega)
  have pg : OkPage (withB t ((sharedN t).set at_ (s + 1))) n := ⟨k1, fun r hr => by
    have e : ((withB t ((sharedN t).set at_ (s + 1))).map lead)[0]? = some (lead r) := by
      rw [List.getElem?_map, ← List.head?_eq_getElem?, hr]
      rfl
    rw [k2, List.getElem?_set_ne (by omega)] at e
    cases t with
    | nil => cases hs
    | cons r0 t => exact (Option.some.inj e).symm⟩
  refine ⟨pg, fun z => ?_⟩
  obtain ⟨m, m1, m2⟩ := pg.leads at_ (s + 1) (by rw [k2, List.getElem?_set_self hi])
  rw [z, hs] at m1
  cases m1
  omega
theorem more_first {t : List (List Cell)} {n s : Nat} (h : OkTable t n) (hs : (sharedN t)[0]? = some s) (hn : s < n) :
    OkRows (withB t ((sharedN t).set 0 (s + 1))) n ∧ ∃ r, (withB t ((sharedN t).set 0 (s + 1)))[0]? = some r ∧ decide (lead r = 0) = false := by
  have hm := sharedN_le (fun r hr => Nat.le_of_eq (h.wide r hr))
  have hi : 0 < (sharedN t).length := (List.getElem?_eq_some_iff.mp hs).1
  obtain ⟨k1, k2⟩ := more_rows h (ns := (sharedN t).set 0 (s + 1)) (by rw [List.length_set, sharedN_length]) (fun m hmm => by
    rcases List.mem_or_eq_of_mem_set hmm with z | z
    · exact hm m z
    · omega)
  obtain ⟨r, h1, _, _⟩ := k1.head
  refine ⟨k1, r, h1, ?_⟩
  have e : ((withB t ((sharedN t).set 0 (s + 1))).map lead)[0]? = some (lead r) := by
    rw [List.getElem?_map, h1]
    rfl
  rw [k2, List.getElem?_set_self hi] at e
  have := Option.some.inj e
  exact decide_eq_false (by omega)
theorem cells_eq {n : Nat} : ∀ {t : List (List Cell)} {ns : List Nat}, (∀ r ∈ t, Full r ∧ r.length = n) → (∀ m ∈ ns, m ≤ n) → ns.length = t.length → cellsI (withB t ns) = (t.length : Int) * (n : Int) - (ns.map fun (k : Nat) => (k : Int)).sum
  | [], [], _, _, _ => by simp [cellsI, withB]
  | [], _ :: _, _, _, h => by cases h
  | _ :: _, [], _, _, h => by cases h
  | r :: t, b :: ns, hf, hm, h => by
    have ih := cells_eq (t := t) (ns := ns) (fun s hs => hf s (List.mem_cons_of_mem _ hs)) (fun k hk => hm k (List.mem_cons_of_mem _ hk)) (Nat.succ.inj h)
    obtain ⟨rf, rl⟩ := hf r List.mem_cons_self
    have hb := hm b List.mem_cons_self
    have e : ∀ (x : List Cell) (xs : List (List Cell)), cellsI (x :: xs) = ((x.length : Int) - (lead x : Int)) + cellsI xs := fun x xs => by
      unfold cellsI
      rw [List.map_cons, List.sum_cons]
    show cellsI (pRow b r :: withB t ns) = _
    rw [e, ih, lead_pRow (by omega) rf, pRow_length (by omega), rl, List.map_cons, List.sum_cons, List.length_cons, Int.natCast_succ, Int.add_mul, Int.one_mul]
    omega
theorem set_parts {α : Type} {xs : List α} {i : Nat} {y : α} (h : i < xs.length) : xs.take i ++ [y] ++ xs.drop (i + 1) = xs.set i y := by
  rw [List.set_eq_take_append_cons_drop, if_pos h, List.append_assoc]
  rfl
theorem weight_int {j m : Nat} (h : j < 2 ^ m) (hm : 0 < m) : (PyData.int (j : Int)).weight ≤ m := by
  have h4 : j.log2 < m := log2_lt h hm
  show (if ((j : Int) == 0) = true then 0 else (j : Int).natAbs.log2 + 1) ≤ m
  split
  · omega
  · rw [Int.natAbs_natCast]; omega
theorem weight_nats {m : Nat} (hm : 0 < m) : ∀ {ns : List Nat}, (∀ x ∈ ns, x < 2 ^ m) → (natsD ns).weight ≤ (m + 1) * ns.length
  | [], _ => by simp [natsD, PyData.weight, PyData.weightAll]
  | x :: ns, h => by
    have ih := weight_nats hm (ns := ns) fun y hy => h y (List.mem_cons_of_mem _ hy)
    have hx := weight_int (h x List.mem_cons_self) hm
    simp only [natsD, PyData.weight] at ih
    simp only [natsD, List.map_cons, PyData.weight, PyData.weightAll, List.length_cons, Nat.mul_succ]
    simp only [PyData.weight] at hx
    omega
end G

set_option Elab.async false
set_option linter.all false
set_option maxRecDepth 100000
set_option maxHeartbeats 1000000
namespace G
open PySem PySem.Spec PyProof.Rows L2
/-! ### lists that were returned anew, and are changed: a zone of statements whose lists are given up -/
mutual
def noList : PyData → Bool
  | .none => true
  | .bool _ => true
  | .int _ => true
  | .str _ => true
  | .list _ => false
  | .tuple ds => noLists ds
  | .dict _ => false
def noLists : List PyData → Bool
  | [] => true
  | d :: ds => noList d && noLists ds
end
mutual
/-- v means d, and each list of it stands where S has nothing -/
inductive Rn (S H : Hp) : V → PyData → Prop
  | old {v : V} {d : PyData} : noList d = true → Rp H v d → Rn S H v d
  | lst {a : Addr} {xs : List V} {ds : List PyData} : S a = none → H a = some (.lst xs) → RnL S H xs ds → Rn S H (.ref a) (.list ds)
inductive RnL (S H : Hp) : List V → List PyData → Prop
  | nil : RnL S H [] []
  | cons {v : V} {vs : List V} {d : PyData} {ds : List PyData} : Rn S H v d → RnL S H vs ds → RnL S H (v :: vs) (d :: ds)
end
mutual
theorem Rn.rp {S H : Hp} : ∀ {v : V} {d : PyData}, Rn S H v d → Rp H v d
  | _, _, .old _ r => r
  | _, _, .lst _ h t => .lst h (RnL.rp t)
theorem RnL.rp {S H : Hp} : ∀ {vs : List V} {ds : List PyData}, RnL S H vs ds → RpL H vs ds
  | _, _, .nil => .nil
  | _, _, .cons h t => .cons (Rn.rp h) (RnL.rp t)
end
mutual
theorem Rn.mono {S T H H' : Hp} (s : ∀ a, S a = none → T a = none) (e : Ex H H') : ∀ {v : V} {d : PyData}, Rn S H v d → Rn T H' v d
  | _, _, .old n r => .old n (r.mono e)
  | _, _, .lst n h t => .lst (s _ n) (e _ _ h) (RnL.mono s e t)
theorem RnL.mono {S T H H' : Hp} (s : ∀ a, S a = none → T a = none) (e : Ex H H') : ∀ {vs : List V} {ds : List PyData}, RnL S H vs ds → RnL T H' vs ds
  | _, _, .nil => .nil
  | _, _, .cons h t => .cons (Rn.mono s e h) (RnL.mono s e t)
end
theorem RnL.get {S H : Hp} : ∀ {vs : List V} {ds : List PyData} {i : Nat} {d : PyData}, RnL S H vs ds → ds[i]? = some d → ∃ v, vs[i]? = some v ∧ Rn S H v d
  | _, _, i, d, .nil, e => by simp at e
  | _, _, 0, d, .cons (v := v) h t, e => ⟨v, rfl, by simp at e; subst e; exact h⟩
  | _, _, i + 1, d, .cons h t, e => RnL.get (i := i) t (by simpa using e)
theorem RnL.length {S H : Hp} : ∀ {vs : List V} {ds : List PyData}, RnL S H vs ds → vs.length = ds.length
  | _, _, .nil => rfl
  | _, _, .cons _ t => by
    rw [List.length_cons, List.length_cons, RnL.length t]
theorem RnL.old {S H : Hp} : ∀ {vs : List V} {ds : List PyData}, (∀ d ∈ ds, noList d = true) → RpL H vs ds → RnL S H vs ds
  | _, _, _, .nil => .nil
  | _, _, n, .cons h t => .cons (.old (n _ List.mem_cons_self) h) (RnL.old (fun d hd => n d (List.mem_cons_of_mem _ hd)) t)
theorem Rn.list {S H : Hp} {v : V} {ds : List PyData} (r : Rn S H v (.list ds)) : ∃ a xs, v = .ref a ∧ S a = none ∧ H a = some (.lst xs) ∧ RnL S H xs ds := by
  cases r with
  | old n r => simp [noList] at n
  | lst n h t => exact ⟨_, _, rfl, n, h, t⟩
theorem En.fresh {B : Bs} {ρ : List Sl} {σ : L2.St} {H0 H : Hp} (E : En B ρ σ H0 H) {p : Addr} (h : H p = none) : B.H p = none := by
  cases z : B.H p with
  | none => rfl
  | some o =>
    exfalso
    cases z0 : B.H0 p with
    | some o' =>
      have := E.ex p o' (E.e0 p o' z0)
      rw [h] at this
      cases this
    | none =>
      by_cases hl : B.F p
      · obtain ⟨_, o2, w2⟩ := E.fF p hl
        rw [h] at w2
        cases w2
      · obtain ⟨w1, _⟩ := E.kp p o z z0 hl
        rw [h] at w1
        cases w1
section
variable (c : Ct) (F : Fp)
/-- an expression whose lists are all new -/
def WN (e : Expr) (ρ : List Sl) (Φ : PyData → List Sl → Prop) : Prop := ∀ (B : Bs) (σ : L2.St) (H0 H : Hp), B.F = F → En B ρ σ H0 H → ∀ Q : VK,
  (∀ v d ρ' H0' H', En B ρ' σ H0' H' → Ex H0 H0' → Rn B.H H0' v d → Φ d ρ' → Q v H') → wpE c e σ H Q
def WNA (es : List Expr) (ρ : List Sl) (Φ : List PyData → List Sl → Prop) : Prop := ∀ (B : Bs) (σ : L2.St) (H0 H : Hp), B.F = F → En B ρ σ H0 H → ∀ Q : List V → Hp → Prop,
  (∀ vs ds ρ' H0' H', En B ρ' σ H0' H' → Ex H0 H0' → RnL B.H H0' vs ds → Φ ds ρ' → Q vs H') → wpA c es σ H Q
end
section
variable {c : Ct} {F : Fp} {ρ : List Sl} {pos apos cpos : Pos} {a b e : Expr} {es : List Expr} {Φ : PyData → List Sl → Prop}
theorem wn_old (h : WE c F e ρ fun d ρ1 => noList d = true ∧ Φ d ρ1) : WN c F e ρ Φ := fun B σ H0 H hF E Q q =>
  h B σ H0 H hF E Q fun v d ρ1 H1 H1' E1 e1 r1 ⟨n, k⟩ => q v d ρ1 H1 H1' E1 e1 (.old n r1) k
theorem wn_wl (h : WL c F e ρ fun ds ρ1 => (∀ d ∈ ds, noList d = true) ∧ Φ (.list ds) ρ1) : WN c F e ρ Φ := fun B σ H0 H hF E Q q =>
  h B σ H0 H hF E Q fun l vs ds ρ1 H1 H1' E1 e1 f ⟨n, k⟩ => by
    obtain ⟨E2, r2⟩ := E1.seal f
    exact q _ _ ρ1 _ H1' E2 (e1.trans (Ex.new f.nf)) (.lst f.nb upd_same (.old n (f.rp.mono (Ex.new f.nf)))) k
theorem wna_nil {Φ : List PyData → List Sl → Prop} (k : Φ [] ρ) : WNA c F [] ρ Φ := fun B σ H0 H hF E Q q => wpA_of (fun X hX => pa_nil) (q [] [] ρ H0 H E (Ex.refl _) .nil k)
theorem wna_cons {Φ : List PyData → List Sl → Prop} (h : WN c F e ρ fun d ρ1 => WNA c F es ρ1 fun ds ρ2 => Φ (d :: ds) ρ2) (hs : ∀ env, starEach (e :: es) env = (false, eval e env) :: starEach es env := by exact star_cons rfl) : WNA c F (e :: es) ρ Φ := fun B σ H0 H hF E Q q =>
  wpA_of (fun X hX => pa_cons (peW hX) (paW hX) (hs _)) (h B σ H0 H hF E _ fun v d ρ1 H1 H1' E1 e1 r1 k1 => k1 B σ H1 H1' hF E1 _ fun vs ds ρ2 H2 H2' E2 e2 r2 k2 =>
    q (v :: vs) (d :: ds) ρ2 H2 H2' E2 (e1.trans e2) (.cons (r1.mono (fun _ h => h) e2) r2) k2)
theorem wn_lst (h : WNA c F es ρ fun ds ρ1 => ds.length ≤ 100000 ∧ Φ (.list ds) ρ1) : WN c F (.List es pos) ρ Φ := fun B σ H0 H hF E Q q =>
  wpE_of (fun X hX => pe_lst (paW hX)) (h B σ H0 H hF E _ fun vs ds ρ1 H1 H1' E1 e1 r1 k1 => ⟨Nat.le_trans (by rw [r1.length]; exact k1.1) (by decide : 100000 ≤ sizeLine), fun p hp => by
    have g := Grow.laid E1.ex (o := .lst vs) hp
    exact q _ _ ρ1 _ _ (E1.grow g) (e1.trans g.fz) (.lst (E1.fresh hp) upd_same (r1.mono (fun _ h => h) g.fz)) k1.2⟩)
end
/-! ### the zone -/
def fzOnly (ρ : List Sl) : Bool := ρ.all fun s => match s with
  | .un => true
  | .fz _ => true
  | _ => false
def FzO (ρ : List Sl) : Prop := fzOnly ρ = true
theorem FzO.at {ρ : List Sl} (h : FzO ρ) {i : Nat} {s : Sl} (hs : ρ[i]? = some s) : s = .un ∨ ∃ d, s = .fz d := by
  have := List.all_eq_true.mp h s (List.mem_of_getElem? hs)
  cases s with
  | un => exact .inl rfl
  | fz d => exact .inr ⟨d, rfl⟩
  | ow ds => cases this
  | dk n => cases this
  | pn v => cases this
  | od es => cases this
theorem FzO.set {ρ : List Sl} (h : FzO ρ) (i : Nat) {s : Sl} (hs : s = .un ∨ ∃ d, s = .fz d) : FzO (ρ.set i s) := by
  refine List.all_eq_true.mpr fun x hx => ?_
  rcases List.mem_or_eq_of_mem_set hx with z | z
  · exact List.all_eq_true.mp h x z
  · subst z
    rcases hs with rfl | ⟨d, rfl⟩ <;> rfl
theorem FzO.no_ow {ρ : List Sl} (h : FzO ρ) {i : Nat} {ds : List PyData} (hs : ρ[i]? = some (Sl.ow ds)) {p : Prop} : p := by
  rcases h.at hs with z | ⟨d, z⟩ <;> cases z
theorem FzO.no_pn {ρ : List Sl} (h : FzO ρ) {i : Nat} {v : V} (hs : ρ[i]? = some (Sl.pn v)) {p : Prop} : p := by
  rcases h.at hs with z | ⟨d, z⟩ <;> cases z
theorem FzO.no_dk {ρ : List Sl} (h : FzO ρ) {i n : Nat} (hs : ρ[i]? = some (Sl.dk n)) {p : Prop} : p := by
  rcases h.at hs with z | ⟨d, z⟩ <;> cases z
theorem FzO.no_od {ρ : List Sl} (h : FzO ρ) {i : Nat} {es : List (PyData × PyData)} (hs : ρ[i]? = some (Sl.od es)) {p : Prop} : p := by
  rcases h.at hs with z | ⟨d, z⟩ <;> cases z
theorem En.setUn {B : Bs} {ρ : List Sl} {σ : L2.St} {H0 H : Hp} {i : Nat} {v : V} (E : En B ρ σ H0 H) (hf : FzO ρ) : En B (ρ.set i .un) (σ.set i (some v)) H0 H where
  len := by rw [List.length_set, List.length_set, E.len]
  e0 := E.e0
  ex := E.ex
  kp := E.kp
  fF := E.fF
  fz := fun j d' h => by
    by_cases hj : i = j
    · subst hj
      by_cases hi : i < ρ.length
      · rw [List.getElem?_set_self hi] at h
        cases h
      · rw [List.getElem?_eq_none (by rw [List.length_set]; omega)] at h
        cases h
    · rw [List.getElem?_set_ne hj] at h
      obtain ⟨u, h1, h2⟩ := E.fz j d' h
      exact ⟨u, by rw [List.getElem?_set_ne hj]; exact h1, h2⟩
  ow := fun j ds h => (hf.set i (.inl rfl)).no_ow h
  sep := fun j k ds es l h1 h2 h3 h4 => (hf.set i (.inl rfl)).no_ow h1
  dk := fun j n h => (hf.set i (.inl rfl)).no_dk h
  one := fun j k n m h1 h2 => (hf.set i (.inl rfl)).no_dk h1
  pn := fun j u h => (hf.set i (.inl rfl)).no_pn h
  od := fun j u h => (hf.set i (.inl rfl)).no_od h
  oned := fun j k u v _ h1 _ _ _ => (hf.set i (.inl rfl)).no_od h1
structure Zn (B : Bs) (ρ ρp : List Sl) (Hz S : Hp) (nw : List (Nat × PyData)) (σ : L2.St) (Hx H : Hp) : Prop where
  lo : En B ρ σ Hz H
  hi : En B ρp σ Hx H
  zx : Ex Hz Hx
  sz : ∀ a, S a = none → Hz a = none
  sb : ∀ a, S a = none → B.H a = none
  sf : ∀ a, S a = none → ¬ B.F a
  sd : ∀ a, H a = none → S a = none
  fo : FzO ρ
  fp : FzO ρp
  nw : ∀ (i : Nat) (d : PyData), (i, d) ∈ nw → ∃ v, σ[i]? = some (some v) ∧ Rn S Hx v d
theorem Zn.up {B : Bs} {ρ ρp : List Sl} {Hz S Hx H : Hp} {nw : List (Nat × PyData)} {σ : L2.St} (Z : Zn B ρ ρp Hz S nw σ Hx H) : En ⟨Hx, H, B.F⟩ ρp σ Hx H where
  len := Z.hi.len
  e0 := Ex.refl _
  ex := Z.hi.ex
  kp := fun a o h n f => ⟨h, n⟩
  fF := Z.hi.fF
  fz := Z.hi.fz
  ow := fun j ds h => Z.fp.no_ow h
  sep := fun j k ds es l h1 h2 h3 h4 => Z.fp.no_ow h1
  dk := fun j n h => Z.fp.no_dk h
  one := fun j k n m h1 h2 => Z.fp.no_dk h1
  pn := fun j u h => Z.fp.no_pn h
  od := fun j u h => Z.fp.no_od h
  oned := fun j k u v _ h1 _ _ _ => Z.fp.no_od h1
theorem Zn.step {B : Bs} {ρ ρp : List Sl} {Hz S Hx H Hx' H' : Hp} {nw : List (Nat × PyData)} {σ : L2.St} (Z : Zn B ρ ρp Hz S nw σ Hx H) (E : En ⟨Hx, H, B.F⟩ ρp σ Hx' H') : Zn B ρ ρp Hz S nw σ Hx' H' := by
  have ex1 : Ex Hx Hx' := E.e0
  have kept : ∀ a o, H a = some o → ¬ B.F a → H' a = some o := fun a o h f => by
    cases z : Hx a with
    | none => exact (E.kp a o h z f).1
    | some o' =>
      have h1 := Z.hi.ex a o' z
      rw [h] at h1
      cases h1
      exact E.ex _ _ (ex1 _ _ z)
  refine ⟨⟨Z.lo.len, Z.lo.e0, (Z.zx.trans ex1).trans E.ex, fun a o h n f => ?_, fun a f => ⟨(Z.lo.fF a f).1, (E.fF a f).2⟩, Z.lo.fz, fun j ds h => Z.fo.no_ow h, fun j k ds es l h1 h2 h3 h4 => Z.fo.no_ow h1, fun j n h => Z.fo.no_dk h, (fun j k n m h1 h2 => Z.fo.no_dk h1), fun j u h => Z.fo.no_pn h, fun j u h => Z.fo.no_od h, fun j k u v _ h1 _ _ _ => Z.fo.no_od h1⟩,
    ⟨Z.hi.len, Z.hi.e0.trans ex1, E.ex, fun a o h n f => ?_, E.fF, E.fz, fun j ds h => Z.fp.no_ow h, fun j k ds es l h1 h2 h3 h4 => Z.fp.no_ow h1, fun j n h => Z.fp.no_dk h, (fun j k n m h1 h2 => Z.fp.no_dk h1), fun j u h => Z.fp.no_pn h, fun j u h => Z.fp.no_od h, fun j k u v _ h1 _ _ _ => Z.fp.no_od h1⟩, Z.zx.trans ex1, Z.sz, Z.sb, Z.sf, fun a h => ?_, Z.fo, Z.fp, fun i d h => ?_⟩
  · obtain ⟨h1, h2⟩ := Z.lo.kp a o h n f
    exact ⟨kept a o h1 f, h2⟩
  · obtain ⟨h1, h2⟩ := Z.hi.kp a o h n f
    exact E.kp a o h1 h2 f
  · apply Z.sd
    cases z : H a with
    | none => rfl
    | some o =>
      exfalso
      by_cases f : B.F a
      · obtain ⟨_, o', w⟩ := E.fF a f
        rw [h] at w
        cases w
      · rw [kept a o z f] at h
        cases h
  · obtain ⟨v, h1, h2⟩ := Z.nw i d h
    exact ⟨v, h1, h2.mono (fun _ h => h) ex1⟩
def ZSs (c : Ct) (F : Fp) (sts : List Stmt) (ρ ρp : List Sl) (nw : List (Nat × PyData)) (D : SE) : Prop := ∀ (B : Bs) (σ : L2.St) (Hz S Hx H : Hp), B.F = F → Zn B ρ ρp Hz S nw σ Hx H → ∀ E : Ends, Fits B D E → wpSs c sts E σ H
section
variable {c : Ct} {F : Fp} {ρ ρp : List Sl} {nw : List (Nat × PyData)} {pos apos cpos : Pos} {a b e : Expr} {es : List Expr} {st : Stmt} {sts : List Stmt} {D : SE}
theorem wss_zone (h : ZSs c F sts ρ ρ [] D) (ho : FzO ρ := by rfl) : WSs c F sts ρ D := fun B σ H0 H hF E Ed f =>
  h B σ H0 H H0 H hF ⟨E, E, Ex.refl _, fun a h => E.ex.free h, (fun a h => E.fresh h), (fun a h hf => by
    obtain ⟨_, o, w⟩ := E.fF a hf
    rw [h] at w
    cases w), (fun a h => h), ho, ho, (fun i d h => by cases h)⟩ Ed f
theorem zn_set {B : Bs} {Hz S Hx H : Hp} {σ : L2.St} {i : Nat} {v : V} {d : PyData} (Z : Zn B ρ ρp Hz S nw σ Hx H) (r : Rp Hx v d) (hi : i < ρp.length) (n : List (Nat × PyData)) (hn : ∀ (j : Nat) (d' : PyData), (j, d') ∈ n → (j, d') ∈ nw ∧ j ≠ i ∨ (j = i ∧ d' = d ∧ Rn S Hx v d)) :
    Zn B (ρ.set i .un) (ρp.set i (.fz d)) Hz S n (σ.set i (some v)) Hx H :=
  ⟨Z.lo.setUn Z.fo, Z.hi.set r hi, Z.zx, Z.sz, Z.sb, Z.sf, Z.sd, Z.fo.set i (.inl rfl), Z.fp.set i (.inr ⟨d, rfl⟩), fun j d' h => by
    rcases hn j d' h with ⟨h1, h2⟩ | ⟨rfl, rfl, h3⟩
    · obtain ⟨u, h3, h4⟩ := Z.nw j d' h1
      exact ⟨u, by rw [List.getElem?_set_ne (fun z => h2 z.symm)]; exact h3, h4⟩
    · exact ⟨v, List.getElem?_set_self (by rw [Z.hi.len]; exact hi), h3⟩⟩
/-- x = a value whose lists are new -/
theorem zss_new (i : Nat) {x : Str} {pos' : Pos} (h : WN c F e ρp fun d ρ1 => ρ1 = ρp ∧ i < ρp.length ∧ ZSs c F sts (ρ.set i .un) (ρp.set i (.fz d)) ((i, d) :: nw.filter fun p => p.1 != i) D) (hN : c.N[i]? = some x := by rfl) (hx : Loc c.sc x := by first | exact Or.inl rfl | exact Or.inr rfl)
    (hs : ∀ env, swapsWith e (some (.Name x pos')) pos.line env = pure false := by intro _; rfl) (hf : c.fn x = true ∨ c.sc.names.lookup x = some .local := by first | exact .inl rfl | exact .inr rfl) : ZSs c F (.Assign [.Name x pos'] e pos :: sts) ρ ρp nw D := fun B σ Hz S Hx H hF Z Ed f =>
  wpSs_of (fun X hX => pss_cons (ps_set hX.nd (by rw [hX.N]; exact hN) (by rw [hX.sc]; exact hx) (peW hX) (hs _) (by rw [hX.fn, hX.sc]; exact hf)) (pssW hX)) (h ⟨Hx, H, B.F⟩ σ Hx H hF Z.up _ fun v d ρ1 H1 H1' E1 e1 r1 ⟨k1, k2, k3⟩ => by
    subst k1
    have Z1 := Z.step E1
    refine k3 B _ Hz S H1 H1' hF (zn_set Z1 r1.rp k2 _ fun j d' hj => ?_) Ed f
    rcases List.mem_cons.mp hj with z | z
    · cases z
      exact .inr ⟨rfl, rfl, r1.mono Z.sd (Ex.refl _)⟩
    · obtain ⟨z1, z2⟩ := List.mem_filter.mp z
      exact .inl ⟨z1, by simpa using z2⟩)
/-- x = any value -/
theorem zss_asg (i : Nat) {x : Str} {pos' : Pos} (h : WE c F e ρp fun d ρ1 => ρ1 = ρp ∧ i < ρp.length ∧ ZSs c F sts (ρ.set i .un) (ρp.set i (.fz d)) (nw.filter fun p => p.1 != i) D) (hN : c.N[i]? = some x := by rfl) (hx : Loc c.sc x := by first | exact Or.inl rfl | exact Or.inr rfl)
    (hs : ∀ env, swapsWith e (some (.Name x pos')) pos.line env = pure false := by intro _; rfl) (hf : c.fn x = true ∨ c.sc.names.lookup x = some .local := by first | exact .inl rfl | exact .inr rfl) : ZSs c F (.Assign [.Name x pos'] e pos :: sts) ρ ρp nw D := fun B σ Hz S Hx H hF Z Ed f =>
  wpSs_of (fun X hX => pss_cons (ps_set hX.nd (by rw [hX.N]; exact hN) (by rw [hX.sc]; exact hx) (peW hX) (hs _) (by rw [hX.fn, hX.sc]; exact hf)) (pssW hX)) (h ⟨Hx, H, B.F⟩ σ Hx H hF Z.up _ fun v d ρ1 H1 H1' E1 e1 r1 ⟨k1, k2, k3⟩ => by
    subst k1
    have Z1 := Z.step E1
    refine k3 B _ Hz S H1 H1' hF (zn_set Z1 r1 k2 _ fun j d' hj => ?_) Ed f
    obtain ⟨z1, z2⟩ := List.mem_filter.mp hj
    exact .inl ⟨z1, by simpa using z2⟩)
/-- a test that does not apply -/
theorem zss_skip {t : Expr} {sa : List Stmt} (h : WT c F t ρp fun k ρ1 => ρ1 = ρp ∧ k = false ∧ ZSs c F sts ρ ρp nw D) : ZSs c F (.If t sa [] pos :: sts) ρ ρp nw D := fun B σ Hz S Hx H hF Z Ed f =>
  wpSs_of (fun X hX => pss_cons (ps_if (ptW hX) (pssW hX) (pssW hX)) (pssW (sts := sts) hX)) (h ⟨Hx, H, B.F⟩ σ Hx H hF Z.up _ fun k ρ1 H1 H1' E1 e1 ⟨k1, k2, k3⟩ => by
    subst k1 k2
    exact iteF (wpSs_of (fun X hX => pss_nil) (k3 B σ Hz S H1 H1' hF (Z.step E1) Ed f)))
theorem En.trash {B : Bs} {σ : L2.St} {H0 H : Hp} {l : Addr} {o : HO} (E : En B ρ σ H0 H) (hf : FzO ρ) (h0 : H0 l = none) (hB : B.H l = none) (hF : ¬ B.F l) : En B ρ σ H0 (upd H l o) where
  len := E.len
  e0 := E.e0
  ex := E.ex.mut h0
  kp := fun a o' h n f => by
    obtain ⟨h1, h2⟩ := E.kp a o' h n f
    refine ⟨?_, h2⟩
    rw [upd_ne (fun z => by subst z; rw [hB] at h; cases h)]
    exact h1
  fF := fun a f => by
    obtain ⟨h1, o', h2⟩ := E.fF a f
    refine ⟨h1, o', ?_⟩
    rw [upd_ne (fun z => by subst z; exact hF f)]
    exact h2
  fz := E.fz
  ow := fun j ds h => hf.no_ow h
  sep := fun j k ds es l h1 h2 h3 h4 => hf.no_ow h1
  dk := fun j n h => hf.no_dk h
  one := fun j k n m h1 h2 => hf.no_dk h1
  pn := fun j u h => hf.no_pn h
  od := fun j u h => hf.no_od h
  oned := fun j k u v _ h1 _ _ _ => hf.no_od h1
/-- x[j].append(e): the zone ends -/
theorem zss_append (i : Nat) {x : Str} {px pi ps : Pos} {j : Int} {ji} {ds ys : List PyData} (hn : (i, PyData.list ds) ∈ nw) (hj : atI ds j = some (.list ys)) (hl : ys.length < 100000) (h : WE c F e ρp fun d ρ1 => ρ1 = ρp ∧ WSs c F sts ρ D) (hN : c.N[i]? = some x := by rfl)
    (hv : Vis c.sc x := by first | exact Or.inl rfl | exact Or.inr (Or.inl rfl) | exact Or.inr (Or.inr rfl))
    (hd : (x == ("__debug__" : Str)) = false := by decide) (hcd : (x == ("__classdict__" : Str)) = false := by decide) (hs1 : ∀ env, starEach [e] env = (false, eval e env) :: starEach [] env := by intro _; rfl)
    (hbase : ∀ env, attributeBase (.Subscript (.Name x px) (.Constant (.int j) ji pi) ps) "append" env (eval (.Subscript (.Name x px) (.Constant (.int j) ji pi) ps) env) = eval (.Subscript (.Name x px) (.Constant (.int j) ji pi) ps) env := by intro _; rfl)
    (hfew : ∀ env, ((backTo cpos (starEach [e] env)).all (fun x => !x.1) && (backToKw cpos (keywordEach [] env)).all (fun x => x.1.isSome) && decide ([e].length + ([] : List Keyword).length + (if ([] : List Keyword).isEmpty then 0 else 1) < 30)) = true := by intro _; rfl)
    (hline : (apos.endLine == cpos.line) = true := by rfl) (hpl : ∀ env, (backTo cpos (starEach [] env)).any (·.1) = false := by intro _; rfl) (hix : PlainIx (.Constant (.int j) ji pi) := by intro _ _; rfl) (hsw : ∀ env, swapsWith (.Call (.Attribute (.Subscript (.Name x px) (.Constant (.int j) ji pi) ps) "append" apos) [e] [] cpos) none pos.line env = pure false := by intro _; rfl) :
    ZSs c F (.Expr (.Call (.Attribute (.Subscript (.Name x px) (.Constant (.int j) ji pi) ps) "append" apos) [e] [] cpos) pos :: sts) ρ ρp nw D := fun B σ Hz S Hx H hF Z Ed f =>
  wpSs_of (t := fun D' σ' H' => tDrop (tBM c.K "list" rAppend (tOp (rIx c.K) (tVar i) (tC (.int j))) (tCons (wpE c e) tNil)) { D' with nx := wpSs c sts D' } σ' H') (fun X hX => by
    rw [← hX.K]
    exact pss_cons (ps_expr (pe_bm PySem.F.plainAttrs_list PySem.F.slot_list_append PySem.F.type_list_append mt_append (pe_ix ix_seq (pe_var (by rw [hX.N]; exact hN) (by rw [hX.sc]; exact hv) hd hcd) pe_int hix) (pa_cons (peW hX) pa_nil (hs1 _)) (hbase _) (hfew _) hline (hs1 _) (hpl _)) (hsw _)) (pssW hX)) (by
    obtain ⟨v, h1, h2⟩ := Z.nw i _ hn
    obtain ⟨a, xs, rfl, na, ha, hxs⟩ := h2.list
    obtain ⟨u, w1, w2⟩ : ∃ u, atI xs j = some u ∧ Rn S Hx u (.list ys) := by
      unfold atI at hj ⊢
      rw [hxs.length]
      cases q : ixN ds.length j with
      | none => rw [q] at hj; cases hj
      | some m =>
        rw [q] at hj
        exact hxs.get hj
    obtain ⟨l, vs, rfl, nl, hlv, hvs⟩ := w2.list
    refine ⟨_, h1, .inl ⟨a, xs, j, _, rfl, rfl, SqL.of (Z.hi.ex _ _ ha), w1, .inl ⟨rfl, _, SqL.of (Z.hi.ex _ _ hlv)⟩, ?_⟩⟩
    refine h ⟨Hx, H, B.F⟩ σ Hx H hF Z.up _ fun v d ρ1 H1 H1' E1 e1 r1 ⟨k1, k2⟩ => ?_
    subst k1
    have Z1 := Z.step E1
    refine ⟨l, vs, v, rfl, rfl, Z1.hi.ex _ _ (e1 _ _ hlv), Nat.lt_of_lt_of_le (by rw [hvs.length]; exact hl) (by decide : 100000 ≤ sizeLine), ?_⟩
    exact k2 B σ Hz _ hF (Z1.lo.trash Z1.fo (Z1.sz l nl) (Z1.sb l nl) (Z1.sf l nl)) Ed f)
end
end G

set_option Elab.async false
set_option linter.all false
set_option maxRecDepth 100000
set_option maxHeartbeats 2000000
/-! enumerate of a tuple -/
namespace G
open PySem PySem.Spec PyProof.Rows L2
open PySem.Sem (wp)
/-- the two cells that it writes -/
def enumCells (hp : Heap) (o : Obj) : Heap := (hp.push o).push ⟨.type "enumerate", none, .fields #[.none, .bool false, .ref hp.objs.size, rawInt 0, .none, .none], #[]⟩
theorem meets_enum1 {v : Value} {o : Obj} {Hh : Heap → Prop} (B : Begins v o Hh) : Meets (Builtin.«enumerate.__new__» ⟨[.type "enumerate", v], []⟩)
    (fun _ R s => Hh s.heap ∧ R (.ok (.ret (.ref (s.heap.push o).objs.size))) { s with heap := enumCells s.heap o }) :=
  .of_wp fun prg wd Ar Rr sh hsh => by
    obtain ⟨hp, gg, dd, tt, oo⟩ := sh
    obtain ⟨b1, hsh⟩ := hsh
    have hsub := sub_enumerate
    have it1 : ∀ {A' : Around} {E : Value → Shared → Prop} {Q : Value → Shared → Prop}, Q (.ref hp.objs.size) ⟨hp.push o, gg, dd, tt, oo⟩ → wpAny (model prg wd) A' (pyIter v) Q E ⟨hp, gg, dd, tt, oo⟩ :=
      fun q => B.iter prg wd _ _ ⟨hp, gg, dd, tt, oo⟩ _ b1 q
    wp_walk using it1
    refine wpAny_stack_any fun _ => wpAny_pure ?_
    split
    · rename_i cc _ _ _ _ _
      cases (cc == Value.type "enumerate") <;> (wp_walk using it1; exact ⟨_, rfl, hsh⟩)
    · wp_walk using it1; exact ⟨_, rfl, hsh⟩
theorem enum1_begins {prog : Program} {w : World} {A : Around} {E : Value → Shared → Prop} {s : Shared} {v : Value} {o : Obj} {Hh : Heap → Prop} {Q : Value → Shared → Prop} (B : Begins v o Hh) (b1 : Hh s.heap)
    (h : ∀ h', IsEnum h' (s.heap.objs.size + 1) s.heap.objs.size 0 .none → h'.get? s.heap.objs.size = some o → h'.objs.size = s.heap.objs.size + 2 → (∀ b u, s.heap.get? b = some u → h'.get? b = some u) → Q (.ref (s.heap.objs.size + 1)) { s with heap := h' }) :
    wpAny (model prog w) A (call (.type "enumerate") [v]) Q E s := by
  refine callType_new F.called_enumerate (by decide) (F.typeCall_enumerate_1 _) (F.newCall_enumerate_1 _) (fun x => F.args_object_init_2 x _) F.entry_enumerate_new (meets_enum1 B) ⟨b1, ?_⟩
  have z1 : (s.heap.push o).objs.size = s.heap.objs.size + 1 := Heap.size_push ..
  have cell : (enumCells s.heap o).get? (s.heap.push o).objs.size = some ⟨.type "enumerate", none, .fields #[.none, .bool false, .ref s.heap.objs.size, rawInt 0, .none, .none], #[]⟩ := Heap.get?_push_size _ rfl
  show _ ∧ _
  rw [z1] at cell ⊢
  exact ⟨⟨_, cell, rfl⟩, h _ cell (Heap.get?_push_of_some _ (Heap.get?_push_size _ B.free)) (by unfold enumCells; rw [Heap.size_push, z1]) fun b u x => Heap.get?_push_of_some _ (Heap.get?_push_of_some _ x)⟩
/-- what each turn gives: the number and the i-th item of the tuple at a, in a new pair -/
def IteT (K : PySem.W.Frag) (a : Addr) (xs : List V) : It :=
  ⟨fun i H => SqT K H a xs ∧ i < xs.length, fun i H v H' => ∃ T x, v = .ref T ∧ H T = none ∧ H' = upd H T (.tup [.int (i : Nat), x]) ∧ xs[i]? = some x, fun i H => SqT K H a xs ∧ i = xs.length⟩
theorem turn_enumT {P : Program} {w : World} {K : PySem.W.Frag} {elts : List Expr} {kk : Nat} {tpos : Pos} (a e it : Addr) (xs : List V) (hei : e ≠ it) (hea : e ≠ a) :
    Turn P w K (.Tuple elts kk tpos) (IteT K a xs) [e, it] e (fun i h => (∃ old, IsEnum h e it ((i : Nat) : Int) old) ∧ ItX true h it a i) where
  mem := List.mem_cons_self
  obj := fun i h ⟨⟨old, he⟩, hi⟩ b hb => by
    simp only [List.mem_cons, List.not_mem_nil, or_false] at hb
    rcases hb with z | z <;> subst z
    · exact ⟨_, he, fun v q => nomatch q⟩
    · exact hi.live
  keep := fun i h h' ⟨⟨old, he⟩, hi⟩ k => ⟨⟨old, k e (by simp) _ he⟩, hi.same fun o q => k it (by simp) o q⟩
  item := fun X hP hw hK hc i pins s σ H E I hf ⟨⟨old, he⟩, hi⟩ ⟨hq, hl⟩ => by
    subst hP hw hK
    obtain ⟨us, rv, p⟩ := seqX (k := true) I hq
    obtain ⟨u, hu, ru⟩ := rv.get (List.getElem?_eq_getElem hl)
    have el : e < s.heap.objs.size := Heap.lt_size he
    have il : it < s.heap.objs.size := by obtain ⟨o, q, _⟩ := hi.live; exact Heap.lt_size q
    have na : a ≠ it := neX hi p
    have hn : X.A.in1.handled = none := I.ok.hd hc
    have hsz0 : us.toArray.size = us.length := List.size_toArray ..
    refine wpAny_pyNext_enum_itemC (drawsX true hn it a na us.toArray) he ⟨hi, p⟩ (by rw [hsz0, ← rv.length]; exact hl) hei (by simp [hei, hea]) fun v h' tk hv ho st hT hsz hk => ?_
    have hv' : us[i]? = some v := by simpa using hv
    rw [hu] at hv'
    cases hv'
    refine ⟨_, rfl, wpAny_letOwnedTupleGo_enum (s := { s with heap := h', toks := tk + 1 }) ho fun h'' he' sb => ?_⟩
    have hT2 : h''.get? s.heap.objs.size = some { cls := .type "tuple", data := .seq #[.int (i : Nat) tk, u] } := (sb.2 _ (Nat.ne_of_gt el)).trans hT
    have new : ObjOk X.prog X.w (upd H s.heap.objs.size (.tup [.int (i : Nat), xs[i]])) h'' s.heap.objs.size (.tup [.int (i : Nat), xs[i]]) := ⟨by show 2 ≤ sizeLine; decide, [.int (i : Nat) tk, u], .cons ⟨_, rfl⟩ (.cons ru .nil), ⟨_, hT2, rfl, _, rfl⟩⟩
    have keep : ∀ c o, c ∉ [e, it] → s.heap.get? c = some o → h''.get? c = some o := fun c o hm q => by
      simp only [List.mem_cons, List.not_mem_nil, or_false, not_or] at hm
      exact (sb.2 c hm.1).trans (hk c o hm.1 hm.2 q)
    have I1 : Inv X pins σ (upd H s.heap.objs.size (.tup [.int (i : Nat), xs[i]])) { s with heap := h'', toks := tk + 1 } := I.turnedNew (ch := [e, it]) keep hf (Nat.le_refl _) new
    refine ⟨.ref s.heap.objs.size, _, I1, rfl, ⟨_, xs[i], rfl, I.hok.fresh (Nat.le_refl _), rfl, List.getElem?_eq_getElem hl⟩, ⟨⟨u, ?_⟩, st.1.same fun o q => (sb.2 it (Ne.symm hei)).trans q⟩, fun b hb => ?_⟩
    · rw [show ((i + 1 : Nat) : Int) = (i : Int) + 1 by omega]
      exact he'
    · have hb' : b < s.heap.objs.size := by
        simp only [List.mem_cons, List.not_mem_nil, or_false] at hb
        rcases hb with z | z <;> subst z
        · exact el
        · exact il
      rw [upd_ne (Nat.ne_of_lt hb')]
      exact (hf b hb).1
  done := fun X hP hw hK hc i pins s σ H E I hf ⟨⟨old, he⟩, hi⟩ ⟨hq, hl⟩ => by
    subst hP hw hK
    obtain ⟨us, rv, p⟩ := seqX (k := true) I hq
    have na : a ≠ it := neX hi p
    have hn : X.A.in1.handled = none := I.ok.hd hc
    have e1 : i = us.toArray.size := by rw [List.size_toArray, ← rv.length]; exact hl
    refine wpAny_pyNext_enum_endD (drawsX true hn it a na us.toArray) he (by rw [← e1]; exact ⟨hi, p⟩) fun h' hx => ?_
    exact ⟨rfl, I.turnedL (ch := [e, it]) (t' := s.toks) (fun c o hm q => by
      simp only [List.mem_cons, List.not_mem_nil, or_false, not_or] at hm
      exact hx c o hm.2 q) hf⟩
  self := fun A i s Q E ⟨⟨old, he⟩, hi⟩ h => wpAny_pyIter_enum he h
def iEnumT (K : PySem.W.Frag) (ta : TA) : TI := fun σ H R => ta σ H fun vs H1 => ∃ a xs, vs = [.ref a] ∧ SqT K H1 a xs ∧ R (IteT K a xs) H1
theorem pi_enumT {X : Cx} {e : Expr} {ta : TA} {p pos tpos : Pos} {elts : List Expr} {kk : Nat} (hg : Gl X "enumerate") (hm : X.mg "enumerate" = none) (ha : PA X [e] ta) (hs : starEach [e] X.env = [(false, eval e X.env)] := by rfl) :
    PI X (.Tuple elts kk tpos) (.Call (.Name "enumerate" p) [e] [] pos) (iEnumT X.K ta) := by
  refine ⟨fun pins s σ H R I hw => ?_⟩
  refine Call_ (ld_blt I hg hm boot_enumerate (PyProof.Rows.callWith_type1 (thn (ha.run pos pins s σ H _ I hw) fun us s1 ⟨vs, H1, I1, rr, a, xs, ev, q1, q⟩ => ?_) hs rfl))
  subst ev
  cases rr with
  | cons ra rr =>
    cases rr
    cases ra
    obtain ⟨its, rv, p1⟩ := seqX (k := true) I1 q1
    have la : a < s1.heap.objs.size := by obtain ⟨o, e, _⟩ := (show s1.heap.IsTuple a its.toArray from p1); exact Heap.lt_size e
    refine enum1_begins (begins_tuple a its.toArray) p1 fun h' he hit hsz hk => wpAny_pyIter_enum he ?_
    have I2 : Inv X pins σ H1 { s1 with heap := h' } := I1.kept (t' := s1.toks) hk
    refine ⟨s1.heap.objs.size + 1, [s1.heap.objs.size + 1, s1.heap.objs.size], _, _, H1, rfl, I2, turn_enumT a _ _ xs (Nat.succ_ne_self _) (Nat.ne_of_gt (Nat.lt_succ_of_lt la)), ⟨⟨.none, he⟩, (show h'.IsTupleIter _ _ _ from ⟨_, hit, rfl, rfl⟩)⟩, fun b hb => ?_, q⟩
    have hle : s1.heap.objs.size ≤ b := by
      simp only [List.mem_cons, List.not_mem_nil, or_false] at hb
      rcases hb with z | z <;> rw [z]
      · exact Nat.le_add_right _ _
      · exact Nat.le_refl _
    exact I1.fpOk hle (I1.hok.fresh hle)
end G

set_option Elab.async false
set_option linter.all false
set_option maxRecDepth 100000
set_option maxHeartbeats 1000000
namespace G
open PySem PySem.Spec PyProof.Rows L2
section
variable {c : Ct} {F : Fp} {ρ : List Sl} {pos : Pos} {a : Expr}
/-- enumerate of a tuple -/
theorem wi_enumT {ts : List Expr} {n : Nat} {tpos p : Pos} {Ξ : List PyData → List Sl → Prop} (h : WE c F a ρ fun d ρ1 => ∃ xs, d = .tuple xs ∧ Ξ (enumD 0 xs) ρ1) (hm : c.mg "enumerate" = none) (hg : c.sc.names.lookup ("enumerate" : Str) = some NameKind.globalImplicit := by rfl)
    (hs : ∀ env, starEach [a] env = [(false, eval a env)] := by intro _; rfl) (hs2 : ∀ env, starEach [a] env = (false, eval a env) :: starEach [] env := by intro _; rfl) : WI c F (.Tuple ts n tpos) (.Call (.Name "enumerate" p) [a] [] pos) ρ Ξ := fun B σ H0 H hF E R q =>
  wpI_of (t := iEnumT c.K (tCons (wpE c a) tNil)) (fun X hX => by rw [← hX.K]; exact pi_enumT (by show X.env.scope.names.lookup _ = _; rw [hX.sc]; exact hg) (by rw [hX.mg]; exact hm) (pa_cons (peW hX) pa_nil (hs2 _)) (hs _))
    (h B σ H0 H hF E _ fun v d ρ1 H1 H1' E1 e1 r1 ⟨xs, k0, k1⟩ => by
    subst k0
    cases r1 with
    | @tup p vs _ g1 g2 =>
      refine ⟨p, vs, rfl, SqT.of (E1.ex _ _ g1), q _ _ ρ1 H1 H1' E1 e1 (fun i Z0 Z e0 e => ?_) k1⟩
      have hq : SqT c.K Z p vs := SqT.of (e _ _ (e0 _ _ g1))
      refine ⟨fun d hd => ?_, fun hi => ⟨hq, by rw [enumD_len] at hi; rw [g2.length]; exact hi⟩⟩
      obtain ⟨x, w1, rfl⟩ := enumD_get hd
      obtain ⟨v, w2, w3⟩ := g2.get w1
      refine ⟨⟨hq, (List.getElem?_eq_some_iff.mp w2).1⟩, fun z H' ⟨T, x', e1, e2, e3, e4⟩ => ?_⟩
      rw [w2] at e4
      cases e4
      subst e1 e3
      have g := Grow.laid e (o := .tup [.int (i : Nat), v]) e2
      refine ⟨_, g, .tup upd_same (.cons ?_ (.one ((w3.mono e0).mono g.fz)))⟩
      rw [Nat.zero_add]
      exact .int _)
end
/-! ### how the laws read -/
theorem atI_snoc {α : Type} (xs : List α) (x : α) : atI (xs ++ [x]) (-1 : Int) = some x := by
  have e : atI (xs ++ [x]) (-1 : Int) = (xs ++ [x])[xs.length]? := by
    unfold atI ixN
    rw [if_neg (by decide), if_pos (by rw [List.length_append, List.length_cons, List.length_nil]; omega)]
    show (xs ++ [x])[(-1 + ((xs ++ [x]).length : Int)).toNat]? = _
    rw [show (-1 + ((xs ++ [x]).length : Int)).toNat = xs.length by rw [List.length_append, List.length_cons, List.length_nil]; omega]
  rw [e, List.getElem?_append_right (Nat.le_refl _), Nat.sub_self]
  rfl
theorem readR_snoc (ab : List Cell) (p : List (List Cell)) (r : List Cell) : readR ab (p ++ [r]) = readR ab p ++ [readE ab (p ++ [r])] := by
  rw [readR_append, readE_append]
  rfl
theorem readOne_get {ab r : List Cell} (h : ab.length = r.length) (j : Nat) : (j < lead r → (readOne ab r)[j]? = ab[j]?) ∧ (lead r ≤ j → (readOne ab r)[j]? = r[j]?) := by
  have hl := lead_le r
  unfold readOne
  refine ⟨fun z => ?_, fun z => ?_⟩
  · rw [List.getElem?_append_left (by rw [List.length_take]; omega), List.getElem?_take, if_pos z]
  · rw [List.getElem?_append_right (by rw [List.length_take]; omega), List.length_take, Nat.min_eq_left (by omega), List.getElem?_drop, show lead r + (j - lead r) = j by omega]
theorem okRow.none_iff {r : List Cell} (h : okRow r) {j : Nat} {x : Cell} (hx : r[j]? = some x) : isNone (cellD x) = decide (j < lead r) := by
  by_cases z : j < lead r
  · rw [lead_get z] at hx
    cases hx
    rw [decide_eq_true z]
    rfl
  · rw [decide_eq_false z]
    have : x ∈ r.drop (lead r) := List.mem_iff_getElem?.mpr ⟨j - lead r, by rw [List.getElem?_drop, show lead r + (j - lead r) = j by omega]; exact hx⟩
    obtain ⟨s, e, _⟩ := h.2.2 x this
    rw [e]
    rfl
theorem readOne_cells {ab r : List Cell} (ha : ∀ x ∈ ab, okC x) (hr : ∀ x ∈ r, okC x) : ∀ x ∈ readOne ab r, okC x := fun x hx => by
  rcases List.mem_append.mp hx with h | h
  · exact ha x (List.mem_of_mem_take h)
  · exact hr x (List.mem_of_mem_drop h)
theorem readR_cells : ∀ {p : List (List Cell)} {ab : List Cell}, (∀ x ∈ ab, okC x) → (∀ r ∈ p, ∀ x ∈ r, okC x) → ∀ t ∈ readR ab p, ∀ x ∈ t, okC x
  | [], _, _, _, _, h => by cases h
  | r :: p, ab, ha, hp, t, h => by
    have k := readOne_cells ha (hp r List.mem_cons_self)
    rcases List.mem_cons.mp h with z | z
    · subst z
      exact k
    · exact readR_cells k (fun s hs => hp s (List.mem_cons_of_mem _ hs)) t z
def S_bloN (ds : List PyData) (Ψ : List PyData → Prop) : Prop := ∃ (p : List (List Cell)) (n : Nat), ds = [pageD p] ∧ OkPage p n ∧ Ψ ((p.map lead).map fun (n : Nat) => PyData.int (n : Int))
theorem cal_blo {P : Program} {w : World} {K : PySem.W.Frag} {mg : Str → Option Value} {base : Heap} {k : Nat} {x : Str} (f : Cal P w K mg base k x (PFN S_bloN)) : Cal P w K mg base k x (PF S_blo) := f.ofN
theorem cells_leads {n : Nat} : ∀ {p : List (List Cell)}, (∀ r ∈ p, r.length = n) → cellsI p = (p.length : Int) * (n : Int) - ((p.map lead).map fun (k : Nat) => (k : Int)).sum
  | [], _ => by simp [cellsI]
  | r :: p, h => by
    have ih := cells_leads (p := p) fun s hs => h s (List.mem_cons_of_mem _ hs)
    have hr := h r List.mem_cons_self
    unfold cellsI at ih ⊢
    rw [List.map_cons, List.sum_cons, ih, List.map_cons, List.map_cons, List.sum_cons, List.length_cons, Int.natCast_succ, Int.add_mul, Int.one_mul, hr]
    omega
def S_ri2 (ds : List PyData) (Ψ : PyData → Prop) : Prop := ∃ (p : List (List Cell)) (n : Nat), ds = [pageD p] ∧ OkPage p n ∧ Ψ (.bool true)
theorem noLists_map {α : Type} (f : α → PyData) (h : ∀ x, noList (f x) = true) : ∀ xs : List α, noLists (xs.map f) = true
  | [] => rfl
  | x :: xs => by
    show (noList (f x) && noLists (xs.map f)) = true
    rw [h x, noLists_map f h xs]
    rfl
theorem noList_page (p : List (List Cell)) : noList (pageD p) = true := noLists_map rowD (fun r => noLists_map cellD (fun x => by cases x <;> rfl) r) p
end G

set_option Elab.async false
set_option linter.all false
set_option maxRecDepth 100000
set_option maxHeartbeats 1000000
namespace G
open PySem PySem.Spec PyProof.Rows L2
/-! ### several values at once, some of them new lists -/
def owns : List V → List Sl → List V
  | v :: vs, .ow _ :: ss => v :: owns vs ss
  | _ :: vs, _ :: ss => owns vs ss
  | _, _ => []
inductive Fr (B : Bs) (ρ : List Sl) (σ : L2.St) (H0 H : Hp) : List V → List Sl → Prop
  | nil : Fr B ρ σ H0 H [] []
  | fz {v : V} {d : PyData} {vs : List V} {ss : List Sl} : Rp H0 v d → Fr B ρ σ H0 H vs ss → Fr B ρ σ H0 H (v :: vs) (.fz d :: ss)
  | ow {l : Addr} {ws : List V} {ds : List PyData} {vs : List V} {ss : List Sl} : Fresh B ρ σ H0 H l ws ds → V.ref l ∉ owns vs ss → Fr B ρ σ H0 H vs ss → Fr B ρ σ H0 H (.ref l :: vs) (.ow ds :: ss)
def setS : List Sl → List Nat → List Sl → List Sl
  | ρ, i :: is, s :: ss => setS (ρ.set i s) is ss
  | ρ, _, _ => ρ
def setV : L2.St → List Nat → List V → L2.St
  | σ, i :: is, v :: vs => setV (σ.set i (some v)) is vs
  | σ, _, _ => σ
theorem Fr.setF {B : Bs} {σ : L2.St} {H0 H : Hp} {i : Nat} {d : PyData} {v : V} : ∀ {vs : List V} {ss : List Sl} {ρ : List Sl}, En B ρ σ H0 H → i < ρ.length → Fr B ρ σ H0 H vs ss → Fr B (ρ.set i (.fz d)) (σ.set i (some v)) H0 H vs ss
  | _, _, _, _, _, .nil => .nil
  | _, _, _, E, hi, .fz r f => .fz r (f.setF E hi)
  | _, _, _, E, hi, .ow g n f => .ow (Fresh.set E g hi) n (f.setF E hi)
theorem Fr.setO {B : Bs} {σ : L2.St} {H0 H : Hp} {i : Nat} {l : Addr} {ds : List PyData} {vs : List V} {ss : List Sl} {ρ : List Sl} (n : V.ref l ∉ owns vs ss) (f : Fr B ρ σ H0 H vs ss) : Fr B (ρ.set i (.ow ds)) (σ.set i (some (.ref l))) H0 H vs ss := by
  induction f with
  | nil => exact .nil
  | fz r f ih => exact .fz r (ih n)
  | @ow l' ws es vs ss g n' f ih =>
    refine .ow (g.of_eq fun j es q => ?_) n' (ih (fun z => n (List.mem_cons_of_mem _ z)))
    have ne : l ≠ l' := fun z => n (by rw [z]; exact List.mem_cons_self)
    by_cases hj : i = j
    · subst hj
      intro w
      by_cases hl : i < σ.length
      · rw [List.getElem?_set_self hl] at w
        exact ne (V.ref.inj (Option.some.inj (Option.some.inj w)))
      · rw [List.getElem?_eq_none (by rw [List.length_set]; omega)] at w
        cases w
    · rw [List.getElem?_set_ne hj] at q
      rw [List.getElem?_set_ne hj]
      exact g.no j es q
theorem Fr.store {B : Bs} {H0 H : Hp} : ∀ {is : List Nat} {vs : List V} {ss : List Sl} {ρ : List Sl} {σ : L2.St}, En B ρ σ H0 H → Fr B ρ σ H0 H vs ss → (∀ i ∈ is, i < ρ.length) → En B (setS ρ is ss) (setV σ is vs) H0 H
  | [], _, _, _, _, E, .nil, _ => E
  | [], _, _, _, _, E, .fz _ _, _ => E
  | [], _, _, _, _, E, .ow _ _ _, _ => E
  | _ :: _, _, _, _, _, E, .nil, _ => E
  | i :: is, _, _, ρ, σ, E, .fz r f, h => Fr.store (is := is) (E.set r (h i List.mem_cons_self)) (f.setF E (h i List.mem_cons_self)) fun j hj => by rw [List.length_set]; exact h j (List.mem_cons_of_mem _ hj)
  | i :: is, _, _, ρ, σ, E, .ow g n f, h => Fr.store (is := is) (E.own g (h i List.mem_cons_self)) (f.setO n) fun j hj => by rw [List.length_set]; exact h j (List.mem_cons_of_mem _ hj)
section
variable (c : Ct) (F : Fp)
def WX (es : List Expr) (ρ : List Sl) (Φ : List Sl → List Sl → Prop) : Prop := ∀ (B : Bs) (σ : L2.St) (H0 H : Hp), B.F = F → En B ρ σ H0 H → ∀ Q : List V → Hp → Prop,
  (∀ vs ss ρ' H0' H', En B ρ' σ H0' H' → Ex H0 H0' → Fr B ρ' σ H0' H' vs ss → Φ ss ρ' → Q vs H') → wpA c es σ H Q
end
theorem Fr.len {B : Bs} {ρ : List Sl} {σ : L2.St} {H0 H : Hp} : ∀ {vs : List V} {ss : List Sl}, Fr B ρ σ H0 H vs ss → vs.length = ss.length
  | _, _, .nil => rfl
  | _, _, .fz _ f => congrArg Nat.succ f.len
  | _, _, .ow _ _ f => congrArg Nat.succ f.len
section
variable {c : Ct} {F : Fp} {ρ : List Sl} {pos apos cpos : Pos} {a b e : Expr} {es : List Expr} {D : SE} {Ω : List Sl → List Sl → Prop} {Φ : PyData → List Sl → Prop}
theorem wx_nil (k : Ω [] ρ) : WX c F [] ρ Ω := fun B σ H0 H hF E Q q => wpA_of (fun X hX => pa_nil) (q [] [] ρ H0 H E (Ex.refl _) .nil k)
theorem wx_fz (h : WE c F e ρ fun d ρ1 => WX c F es ρ1 fun ss ρ2 => Ω (.fz d :: ss) ρ2) (hs : ∀ env, starEach (e :: es) env = (false, eval e env) :: starEach es env := by exact star_cons rfl) : WX c F (e :: es) ρ Ω := fun B σ H0 H hF E Q q =>
  wpA_of (fun X hX => pa_cons (peW hX) (paW hX) (hs _)) (h B σ H0 H hF E _ fun v d ρ1 H1 H1' E1 e1 r1 k1 => k1 B σ H1 H1' hF E1 _ fun vs ss ρ2 H2 H2' E2 e2 f2 k2 =>
    q (v :: vs) (.fz d :: ss) ρ2 H2 H2' E2 (e1.trans e2) (.fz (r1.mono e2) f2) k2)
theorem Fr.under {B : Bs} {ρ : List Sl} {σ : L2.St} {H1 H0 H : Hp} {l : Addr} {ws : List V} : ∀ {vs : List V} {ss : List Sl}, Fr ⟨H1, upd B.H l (.lst ws), B.F⟩ ρ σ H0 H vs ss → Fr B ρ σ H0 H vs ss ∧ V.ref l ∉ owns vs ss
  | _, _, .nil => ⟨.nil, fun h => by cases h⟩
  | _, _, .fz r f => ⟨.fz r f.under.1, f.under.2⟩
  | _, _, .ow (l := l') g n f => by
    have nb : upd B.H l (.lst ws) l' = none := g.nb
    have ne : l' ≠ l := fun z => by subst z; rw [upd_same] at nb; cases nb
    rw [upd_ne ne] at nb
    refine ⟨.ow ⟨g.at_, g.nf, nb, g.nF, g.no, g.rp⟩ n f.under.1, fun h => ?_⟩
    rcases List.mem_cons.mp h with z | z
    · exact ne (V.ref.inj z).symm
    · exact f.under.2 z
theorem wx_ow (h : WL c F e ρ fun ds ρ1 => WX c F es ρ1 fun ss ρ2 => Ω (.ow ds :: ss) ρ2) (hs : ∀ env, starEach (e :: es) env = (false, eval e env) :: starEach es env := by exact star_cons rfl) : WX c F (e :: es) ρ Ω := fun B σ H0 H hF E Q q =>
  wpA_of (fun X hX => pa_cons (peW hX) (paW hX) (hs _)) (h B σ H0 H hF E _ fun l ws ds ρ1 H1 H1' E1 e1 f1 k1 => k1 ⟨H1, upd B.H l (.lst ws), B.F⟩ σ H1 H1' hF (E1.guard f1) _ fun vs ss ρ2 H2 H2' E2 e2 f2 k2 => by
    obtain ⟨E3, f3⟩ := E1.unguard f1 E2
    obtain ⟨f4, n4⟩ := f2.under
    exact q (.ref l :: vs) (.ow ds :: ss) ρ2 H2 H2' E3 (e1.trans e2) (.ow f3 n4 f4) k2)
/-- x, y = a, b -/
theorem ws_x2 (i j : Nat) {x y : Str} {px py pt pt2 : Pos} {kt k2 : Nat} (h : WX c F [a, b] ρ fun ss ρ1 => ss.length = 2 ∧ i < ρ1.length ∧ j < ρ1.length ∧ D.nx (setS ρ1 [i, j] ss)) (hN : c.N[i]? = some x := by rfl) (hM : c.N[j]? = some y := by rfl) (hij : i ≠ j := by decide)
    (hx : c.sc.names.lookup x = some .local := by rfl) (hy : c.sc.names.lookup y = some .local := by rfl) (hw : ∀ env : Env, env.scope = c.sc → swappedStores [.Tuple [.Name x px, .Name y py] kt pt] (.Tuple [a, b] k2 pt2) env = pure (some [x, y]) := by rintro ⟨⟩ rfl; rfl)
    (hs : ∀ env, swapsWithSole [.Tuple [.Name x px, .Name y py] kt pt] (.Tuple [a, b] k2 pt2) pos.line env = pure false := by intro _; rfl) : WS c F (.Assign [.Tuple [.Name x px, .Name y py] kt pt] (.Tuple [a, b] k2 pt2) pos) ρ D := fun B σ H0 H hF E Ed f =>
  wpS_of (fun X hX => ps_par hX.calm hX.nd (by rw [hX.N]; exact hN) (by rw [hX.N]; exact hM) hij (by rw [hX.sc]; exact hx) (by rw [hX.sc]; exact hy) (paW hX) (hw _ hX.sc) (hs _)) (h B σ H0 H hF E _ fun vs ss ρ1 H1 H1' E1 e1 r1 ⟨n, k1, k2, k3⟩ => by
    have E2 := r1.store (is := [i, j]) E1 fun m hm => by
      simp only [List.mem_cons, List.mem_nil_iff, or_false] at hm
      rcases hm with rfl | rfl
      · exact k1
      · exact k2
    have hl := r1.len
    match vs, hl.trans n with
    | [u, v], _ => exact ⟨u, v, rfl, f.nx _ _ H1 H1' E2 k3⟩)
/-- x, y, z = a, b, d -/
theorem ws_x3 (i j l : Nat) {x y z : Str} {d0 : Expr} {px py pz pt pt2 : Pos} {kt k2 : Nat} (h : WX c F [a, b, d0] ρ fun ss ρ1 => ss.length = 3 ∧ i < ρ1.length ∧ j < ρ1.length ∧ l < ρ1.length ∧ D.nx (setS ρ1 [i, j, l] ss)) (hN : c.N[i]? = some x := by rfl) (hM : c.N[j]? = some y := by rfl) (hL : c.N[l]? = some z := by rfl)
    (hij : i ≠ j := by decide) (hil : i ≠ l := by decide) (hjl : j ≠ l := by decide) (hx : c.sc.names.lookup x = some .local := by rfl) (hy : c.sc.names.lookup y = some .local := by rfl) (hz : c.sc.names.lookup z = some .local := by rfl)
    (hw : ∀ env : Env, env.scope = c.sc → swappedStores [.Tuple [.Name x px, .Name y py, .Name z pz] kt pt] (.Tuple [a, b, d0] k2 pt2) env = pure (some [x, y, z]) := by rintro ⟨⟩ rfl; rfl)
    (hs : ∀ env, swapsWithSole [.Tuple [.Name x px, .Name y py, .Name z pz] kt pt] (.Tuple [a, b, d0] k2 pt2) pos.line env = pure false := by intro _; rfl) : WS c F (.Assign [.Tuple [.Name x px, .Name y py, .Name z pz] kt pt] (.Tuple [a, b, d0] k2 pt2) pos) ρ D := fun B σ H0 H hF E Ed f =>
  wpS_of (fun X hX => ps_par3 hX.calm hX.nd (by rw [hX.N]; exact hN) (by rw [hX.N]; exact hM) (by rw [hX.N]; exact hL) hij hil hjl (by rw [hX.sc]; exact hx) (by rw [hX.sc]; exact hy) (by rw [hX.sc]; exact hz) (paW hX) (hw _ hX.sc) (hs _)) (h B σ H0 H hF E _ fun vs ss ρ1 H1 H1' E1 e1 r1 ⟨n, k1, k2, k3, k4⟩ => by
    have E2 := r1.store (is := [i, j, l]) E1 fun m hm => by
      simp only [List.mem_cons, List.mem_nil_iff, or_false] at hm
      rcases hm with rfl | rfl | rfl
      · exact k1
      · exact k2
      · exact k3
    have hl := r1.len
    match vs, hl.trans n with
    | [u, v, w], _ => exact ⟨u, v, w, rfl, f.nx _ _ H1 H1' E2 k4⟩)
/-! ### a slice of a list is a new list -/
theorem wl_slice {lo hi : Option Expr} {p2 : Pos} {Ψ : List PyData → List Sl → Prop} (h : WE c F e ρ fun d ρ1 => WO c F lo ρ1 fun l ρ2 => WO c F hi ρ2 fun u ρ3 => ∃ ds, d = .list ds ∧ Ψ (cutD ds l u) ρ3) : WL c F (.Subscript e (.Slice lo hi none p2) pos) ρ Ψ := fun B σ H0 H hF E Q q =>
  wpE_of (t := tSl (fun x l u H Q => rSlL c.K x l u H Q) (wpE c e) (wpO c lo) (wpO c hi)) (fun X hX => by
      rw [← hX.K]
      exact pe_slice sl_list (peW hX) ⟨fun pins s σ H Q I q => q X hX pins s I⟩ ⟨fun pins s σ H Q I q => q X hX pins s I⟩)
    (h B σ H0 H hF E _ fun v d ρ1 H1 H1' E1 e1 r1 k1 => k1 B σ H1 H1' hF E1 _ fun l ρ2 H2 H2' E2 e2 k2 => k2 B σ H2 H2' hF E2 _ fun u ρ3 H3 H3' E3 e3 ⟨ds, k3, k4⟩ => by
      subst k3
      cases (r1.mono e2).mono e3 with
      | @lst a1 ws _ h1 h2 =>
        refine ⟨_, _, rfl, SqL.of (E3.ex _ _ h1), fun p hp => ?_⟩
        obtain ⟨E4, f4⟩ := E3.newL hp (h2.cut l u)
        exact q p _ _ ρ3 H3 _ E4 ((e1.trans e2).trans e3) f4 k4)
/-- x.pop(e), x a list of the def's own -/
theorem we_pop (i : Nat) {x : Str} {px : Pos} (h : WE c F e ρ fun d ρ1 => ∃ (k : Nat) (ds : List PyData) (z : PyData), d = .int (k : Int) ∧ ρ1[i]? = some (Sl.ow ds) ∧ k < 100000 ∧ ds[k]? = some z ∧ Φ z (ρ1.set i (Sl.ow (ds.eraseIdx k)))) {ds0 : List PyData} (h0 : ρ[i]? = some (Sl.ow ds0)) (hN : c.N[i]? = some x := by rfl)
    (hv : Vis c.sc x := by first | exact Or.inl rfl | exact Or.inr (Or.inl rfl) | exact Or.inr (Or.inr rfl))
    (hd : (x == ("__debug__" : Str)) = false := by decide) (hcd : (x == ("__classdict__" : Str)) = false := by decide) (hs1 : ∀ env, starEach [e] env = (false, eval e env) :: starEach [] env := by exact star_cons rfl)
    (hfew : ∀ env, ((backTo cpos (starEach [e] env)).all (fun x => !x.1) && (backToKw cpos (keywordEach [] env)).all (fun x => x.1.isSome) && decide ([e].length + ([] : List Keyword).length + (if ([] : List Keyword).isEmpty then 0 else 1) < 30)) = true := by intro _; rfl)
    (hline : (apos.endLine == cpos.line) = true := by rfl) (hpl : ∀ env, (backTo cpos (starEach [] env)).any (·.1) = false := by intro _; rfl) :
    WE c F (.Call (.Attribute (.Name x px) "pop" apos) [e] [] cpos) ρ Φ := fun B σ H0 H hF E Q q =>
  wpE_of (t := tBM c.K "list" rPopAt (tVar i) (tCons (wpE c e) tNil)) (fun X hX => by rw [← hX.K]; exact pe_bm PySem.F.plainAttrs_list PySem.F.slot_list_pop PySem.F.type_list_pop mt_popAt (pe_var (by rw [hX.N]; exact hN) (by rw [hX.sc]; exact hv) hd hcd) (pa_cons (peW hX) pa_nil (hs1 _)) rfl (hfew _) hline (hs1 _) (hpl _)) (by
    obtain ⟨l, vs, h1, h2, h3⟩ := E.owAt h0
    refine ⟨_, h1, .inl ⟨rfl, _, SqL.of h2⟩, ?_⟩
    refine h B σ H0 H hF E _ fun v d ρ1 H1 H1' E1 e1 r1 ⟨k, ds, z, k0, k1, k2, k3, k4⟩ => ?_
    subst k0
    cases r1
    obtain ⟨l', vs', g1, g2, g3⟩ := E1.owAt k1
    rw [h1] at g1
    cases g1
    obtain ⟨u, w1, w2⟩ := g3.get k3
    have hk : k < vs'.length := (List.getElem?_eq_some_iff.mp w1).1
    refine ⟨l, vs', (k : Int), k, u, rfl, rfl, g2, by omega, by omega, ?_, w1, ?_⟩
    · unfold seqIndex?
      simp only [show ¬ ((k : Int) < 0) by omega, if_false]
      rw [if_pos (by simp; omega)]
      rfl
    · have r2 : RpL H1 (vs'.eraseIdx k) (ds.eraseIdx k) := by
        rw [List.eraseIdx_eq_take_drop_succ, List.eraseIdx_eq_take_drop_succ]
        exact (g3.take k).append (g3.drop (k + 1))
      exact q u z _ H1 _ (E1.change k1 h1 r2) e1 w2 k4)
end
end G

set_option Elab.async false
set_option linter.all false
set_option maxRecDepth 100000
set_option maxHeartbeats 1000000
namespace G
open PySem PySem.Spec PyProof.Rows L2
/-! ### list(range(n)), tuple(range(n)) -/
def natL (ns : List Nat) : List PyData := ns.map fun (n : Nat) => PyData.int (n : Int)
def ordD (os : List Nat) : PyData := .tuple (natL os)
theorem rp_range {H : Hp} (n : Nat) : RpL H (rgV 0 (n : Int)) (natL (List.range n)) := by
  have e : rgV 0 (n : Int) = (List.range n).map fun (i : Nat) => V.int (i : Int) := by
    unfold rgV
    rw [show ((n : Int) - 0).toNat = n by omega]
    exact List.map_congr_left fun i _ => by rw [Int.zero_add]
  rw [e]
  unfold natL
  generalize List.range n = xs
  induction xs with
  | nil => exact .nil
  | cons x xs ih => exact .cons (.int _) ih
section
variable {c : Ct} {F : Fp} {ρ : List Sl} {pos p rp : Pos} {e : Expr} {Ψ : List PyData → List Sl → Prop} {Φ : PyData → List Sl → Prop}
theorem wl_listRg (h : WE c F e ρ fun d ρ1 => ∃ n : Nat, d = .int (n : Int) ∧ n ≤ 100000 ∧ Ψ (natL (List.range n)) ρ1) (hm : c.mg "list" = none) (hr : c.mg "range" = none) (hg : c.sc.names.lookup ("list" : Str) = some NameKind.globalImplicit := by rfl) (hg2 : c.sc.names.lookup ("range" : Str) = some NameKind.globalImplicit := by rfl)
    (na : ∀ env, starEach [e] env = (false, eval e env) :: starEach [] env := by exact star_cons rfl) (nb : ∀ env, starEach [Expr.Call (.Name "range" rp) [e] [] p] env = (false, eval (Expr.Call (.Name "range" rp) [e] [] p) env) :: starEach [] env := by exact star_cons rfl) {lp : Pos} :
    WL c F (.Call (.Name "list" lp) [.Call (.Name "range" rp) [e] [] p] [] pos) ρ Ψ := fun B σ H0 H hF E Q q =>
  wpE_of (t := tLstRg (tRg1 (wpE c e))) (fun X hX => pe_listRg hX.calm (by show X.env.scope.names.lookup _ = _; rw [hX.sc]; exact hg) (by rw [hX.mg]; exact hm) (prg_1 (by show X.env.scope.names.lookup _ = _; rw [hX.sc]; exact hg2) (by rw [hX.mg]; exact hr) (peW hX) (na _)) (nb _)) (h B σ H0 H hF E _ fun v d ρ1 H1 H1' E1 e1 r1 ⟨n, k0, k1, k2⟩ => by
    subst k0
    cases r1
    refine ⟨(n : Int), rfl, RgOk.of_le (Int.le_refl _) (by omega) (by omega) (by omega), fun l hl => ?_⟩
    obtain ⟨E2, f2⟩ := E1.newL hl (rp_range n)
    exact q l _ _ ρ1 H1 _ E2 e1 f2 k2)
theorem we_tupRg (h : WE c F e ρ fun d ρ1 => ∃ n : Nat, d = .int (n : Int) ∧ n ≤ 100000 ∧ Φ (ordD (List.range n)) ρ1) (hm : c.mg "tuple" = none) (hr : c.mg "range" = none) (hg : c.sc.names.lookup ("tuple" : Str) = some NameKind.globalImplicit := by rfl) (hg2 : c.sc.names.lookup ("range" : Str) = some NameKind.globalImplicit := by rfl)
    (na : ∀ env, starEach [e] env = (false, eval e env) :: starEach [] env := by exact star_cons rfl) (nb : ∀ env, starEach [Expr.Call (.Name "range" rp) [e] [] p] env = (false, eval (Expr.Call (.Name "range" rp) [e] [] p) env) :: starEach [] env := by exact star_cons rfl) {lp : Pos} :
    WE c F (.Call (.Name "tuple" lp) [.Call (.Name "range" rp) [e] [] p] [] pos) ρ Φ := fun B σ H0 H hF E Q q =>
  wpE_of (t := tTupRg (tRg1 (wpE c e))) (fun X hX => pe_tupRg hX.calm (by show X.env.scope.names.lookup _ = _; rw [hX.sc]; exact hg) (by rw [hX.mg]; exact hm) (prg_1 (by show X.env.scope.names.lookup _ = _; rw [hX.sc]; exact hg2) (by rw [hX.mg]; exact hr) (peW hX) (na _)) (nb _)) (h B σ H0 H hF E _ fun v d ρ1 H1 H1' E1 e1 r1 ⟨n, k0, k1, k2⟩ => by
    subst k0
    cases r1
    refine ⟨(n : Int), rfl, RgOk.of_le (Int.le_refl _) (by omega) (by omega) (by omega), fun l hl => ?_⟩
    have g := Grow.laid E1.ex (o := .tup (rgV 0 (n : Int))) hl
    exact q _ _ ρ1 _ _ (E1.grow g) (e1.trans g.fz) (.tup upd_same (rp_range n)) k2)
end
/-! ### read from a row above that may be longer -/
theorem readOne_get2 {ab r : List Cell} (h : lead r ≤ ab.length) (j : Nat) : (j < lead r → (readOne ab r)[j]? = ab[j]?) ∧ (lead r ≤ j → (readOne ab r)[j]? = r[j]?) := by
  unfold readOne
  refine ⟨fun z => ?_, fun z => ?_⟩
  · rw [List.getElem?_append_left (by rw [List.length_take]; omega), List.getElem?_take, if_pos z]
  · rw [List.getElem?_append_right (by rw [List.length_take]; omega), List.length_take, Nat.min_eq_left (by omega), List.getElem?_drop, show lead r + (j - lead r) = j by omega]
theorem readOne_len2 {ab r : List Cell} (h : lead r ≤ ab.length) : (readOne ab r).length = r.length := by
  have := lead_le r
  unfold readOne
  rw [List.length_append, List.length_take, List.length_drop]
  omega
theorem readR_six {p : List (List Cell)} {n : Nat} (h : OkRows p n) : readR (blankRow 6) p = readR (blankRow n) p := by
  have hn := h.cols
  cases p with
  | nil => rfl
  | cons r p =>
    have hr := h.wide r List.mem_cons_self
    have hl := lead_le r
    have e : readOne (blankRow 6) r = readOne (blankRow n) r := by
      unfold readOne blankRow
      rw [List.take_replicate, List.take_replicate, Nat.min_eq_left (by omega), Nat.min_eq_left (by omega)]
    show readOne (blankRow 6) r :: readR (readOne (blankRow 6) r) p = _
    rw [e]
    rfl
/-- how long the row above is -/
theorem readE_six {n : Nat} (hn : n ≤ 6) : ∀ {p : List (List Cell)} {ab : List Cell}, n ≤ ab.length → (∀ r ∈ p, r.length = n) → n ≤ (readE ab p).length
  | [], _, h, _ => h
  | r :: p, ab, h, hp => by
    have hr := hp r List.mem_cons_self
    have hl := lead_le r
    refine readE_six hn (p := p) (ab := readOne ab r) ?_ fun s hs => hp s (List.mem_cons_of_mem _ hs)
    rw [readOne_len2 (by omega), hr]
    exact Nat.le_refl _
/-- the row above, none above the first one -/
def prevRow (t : List (List Cell)) (i : Nat) : List Cell := if i = 0 then [] else t.getD (i - 1) []
theorem shared_prev {t : List (List Cell)} {i : Nat} {r : List Cell} (h : t[i]? = some r) : (sharedN t)[i]? = some (sh r (prevRow t i)) := by
  cases t with
  | nil => cases h
  | cons r0 q =>
    cases i with
    | zero =>
      cases h
      unfold prevRow
      rw [if_pos rfl]
      have : sh r [] = 0 := by cases r <;> rfl
      rw [this]
      rfl
    | succ i =>
      obtain ⟨a, h1, h2⟩ := shFrom_get (ab := r0) (p := q) (i := i) h
      show (shFrom r0 q)[i]? = _
      rw [h2, sh_comm a r]
      unfold prevRow
      rw [if_neg (Nat.succ_ne_zero i), Nat.add_sub_cancel, List.getD_eq_getElem?_getD, h1]
      rfl
theorem prev_succ {t : List (List Cell)} {i : Nat} {r : List Cell} (h : t[i]? = some r) : prevRow t (i + 1) = r := by
  unfold prevRow
  rw [if_neg (Nat.succ_ne_zero i), Nat.add_sub_cancel, List.getD_eq_getElem?_getD, h]
  rfl
def S_com (ds : List PyData) (Ψ : PyData → Prop) : Prop := ∃ r s : List Cell, ds = [rowD r, rowD s] ∧ (∀ x ∈ r, okC x) ∧ (∀ x ∈ s, okC x) ∧ r.length ≤ 90000 ∧ s.length ≤ 90000 ∧ Ψ (.int (sh r s : Int))
def S_shu (n : Nat) (ds : List PyData) (Ψ : PyData → Nat → Prop) : Prop := ∃ many : Nat, ds = [.int (many : Int)] ∧ 1 ≤ many ∧ many ≤ 60 ∧ n + 300 < big ∧ ∀ (os : List Nat) (m : Nat), os.Perm (List.range many) → m ≤ n + 300 → Ψ (ordD os) m
def S_full (n : Nat) (ds : List PyData) (Ψ : PyData → Nat → Prop) : Prop := ∃ most : Nat, ds = [.int (most : Int)] ∧ 1 ≤ most ∧ most ≤ 60 ∧ n + 1000 < big ∧ ∀ (t : List (List Cell)) (k m : Nat), OkTable t k → t.length ≤ most → m ≤ n + 1000 → Ψ (pageD t) m
theorem withB_snoc {t : List (List Cell)} {bs : List Nat} {r : List Cell} {b : Nat} (h : t.length = bs.length) : withB (t ++ [r]) (bs ++ [b]) = withB t bs ++ [pRow b r] := by
  unfold withB
  rw [List.zipWith_append h]
  rfl
theorem eraseIdx_nat (xs : List Nat) (j : Nat) : (natL xs).eraseIdx j = natL (xs.eraseIdx j) := by
  unfold natL
  rw [List.eraseIdx_eq_take_drop_succ, List.eraseIdx_eq_take_drop_succ, List.map_append, List.map_take, List.map_drop]
theorem erase_perm {xs : List Nat} {j : Nat} (h : j < xs.length) : (xs[j] :: xs.eraseIdx j).Perm xs := by
  rw [List.eraseIdx_eq_take_drop_succ]
  have e : xs.take j ++ xs[j] :: xs.drop (j + 1) = xs := by
    rw [List.getElem_cons_drop, List.take_append_drop]
  exact (List.perm_middle.symm).trans (List.Perm.of_eq e)
end G

set_option Elab.async false
set_option linter.all false
set_option maxRecDepth 100000
set_option maxHeartbeats 1000000
/-! sorted of a tuple of ints -/
namespace G
open PySem PySem.Spec PyProof.Rows L2
/-- the heap behind the collecting -/
abbrev gathered (hp : Heap) (us : List Value) : Heap := (hp.push (seqObj "list" #[] 0)).update hp.objs.size (Obj.mapSeq (· ++ us.toArray))
section
variable {prog : Program} {w : World} {A : Around} {E : Value → Shared → Prop} {s : Shared}
theorem collect_tup {a : Addr} {us : List Value} {Q : List Value → Shared → Prop} (ht : s.heap.IsTuple a us.toArray) (few : us.length ≤ sizeLine) (h : Q us { s with heap := gathered s.heap us }) : wpAny (model prog w) A (collect (.ref a)) Q E s := by
  obtain ⟨ob, h1, h2, k, h3⟩ := id ht
  have old : (s.heap.push (seqObj "list" #[] 0)).get? a = some ob := Heap.get?_push_of_some _ h1
  have new : (s.heap.push (seqObj "list" #[] 0)).get? s.heap.objs.size = some (seqObj "list" #[] 0) := Heap.get?_push_size _ rfl
  unfold collect
  apply wpAny_bind
  apply wpAny_runValue
  apply codeAny_builtin entry_proto_collect'
  show wpAny _ _ (do again (.builtin "list.__iadd__" ⟨[← newList [], .ref a], []⟩)) _ _ s
  apply wpAny_bind
  refine wpAny_newList ?_
  refine wpAny_pure ⟨Code.quiet_builtin _ (by decide +kernel), ?_⟩
  apply codeAny_builtin entry_list_iadd'
  show wpAny _ _ (Builtin.List.listExtendWith (.ref s.heap.objs.size) (.ref a) (.ref s.heap.objs.size)) _ _ ⟨s.heap.push (seqObj "list" #[] 0), _, _, _, _⟩
  unfold Builtin.List.listExtendWith
  apply wpAny_bind
  refine wpAny_typeOf (T := "tuple") ⟨ob, old, h2⟩ ?_
  rw [if_pos (by rw [show (Value.type "tuple" == Value.type "tuple") = true from by decide +kernel, Bool.or_true])]
  apply wpAny_bind
  refine listItems_at old h3 ?_
  apply wpAny_bind
  refine listItems_at (xs := #[]) (n := 0) new rfl ?_
  rw [if_neg (by simp)]
  apply wpAny_bind
  refine listUpdate_at (xs := #[]) (n := 0) new rfl ?_ (Nat.zero_le _) (by simpa using Nat.le_succ_of_le few)
  apply wpAny_pure
  show wpAny (model prog w) A (do
      let o ← load s.heap.objs.size
      match o.data with
      | .seq xs _ => pure xs.toList
      | _ => unsupported "internal:collect") Q E ⟨gathered s.heap us, _, _, _, _⟩
  apply wpAny_bind
  refine wpAny_load (get?_update_seq new _) ?_
  show wpAny _ _ (pure ((#[] : Array Value) ++ us.toArray).toList) Q E _
  have e : ((#[] : Array Value) ++ us.toArray).toList = us := by simp
  rw [e]
  exact wpAny_pure h
/-- sorted(t), t a tuple, over any order -/
theorem sorted_tup {a : Addr} {us : List Value} {ltv : Value → Value → Bool} {Q : Value → Shared → Prop} (O : SrtO.Swo ltv) (ht : s.heap.IsTuple a us.toArray) (few : us.length ≤ sizeLine)
    (able : 2 ≤ us.length → ∀ (h₁ : Heap) (l : Addr), SrtO.SortableO prog w A.in1.in1 { s with heap := h₁ } l us ltv)
    (h : ∀ out : List Value, SrtO.Srtd ltv out → SrtO.Stb ltv out us → Q (.ref (s.heap.objs.size + 1)) { s with heap := sortedAll s.heap us out.toArray }) : wpAny (model prog w) A (call (.builtin "sorted") [.ref a]) Q E s := by
  apply Calls.call_function_entry kind_sorted plain_sorted entry_sorted (args_sorted1 _)
  unfold Builtin.«sorted»
  apply wpAny_bind (m := checkCount "sorted" 1 1 _)
  apply wpAny_pure
  apply wpAny_bind
  refine collect_tup ht few ?_
  apply wpAny_bind
  refine wpAny_newList ?_ few
  have sz : (gathered s.heap us).objs.size = s.heap.objs.size + 1 := by rw [Heap.size_update, size_push']
  have at1 : ((gathered s.heap us).push (seqObj "list" us.toArray 0)).get? (s.heap.objs.size + 1) = some (seqObj "list" us.toArray 0) := by
    rw [← sz]
    exact Heap.get?_push_size _ rfl
  show wpAny _ _ _ _ _ ⟨(gathered s.heap us).push (seqObj "list" us.toArray 0), _, _, _, _⟩
  rw [sz]
  apply wpAny_bind
  apply wpAny_holding
  refine wpAny_call_entry slot_list_sort ⟨_, at1, rfl⟩ entry_list_sort (SrtO.list_sort_ord O at1 few (fun two => able two _ _) fun out o1 o2 => ⟨_, rfl, ?_⟩) (args_list_sort _)
  exact wpAny_pure ⟨_, rfl, h out o1 o2⟩
end
/-- sorted(t), t a tuple of ints -/
def rSortedTup (K : PySem.W.Frag) : List V → Hp → VK → Prop := fun vs H Q => ∃ (a : Addr) (ns : List Int), vs = [V.ref a] ∧ SqT K H a (ns.map V.int) ∧ ∀ (ks : List Int) (p : Addr), ks.Perm ns → ks.Pairwise (· ≤ ·) → H p = none → Q (.ref p) (upd H p (.lst (ks.map V.int)))
theorem cr_sortedTup {X : Cx} : CallR X (.builtin "sorted") (rSortedTup X.K) := by
  intro pins s σ H vs us Q I r h
  obtain ⟨a, ns, rfl, hs, q⟩ := h
  obtain ⟨its, rv, ht, hz⟩ := I.tuple hs
  rw [Vals.ref1 r]
  have hi := rv.ints
  refine sorted_tup SrtO.swo_int ht (by rw [← rv.length]; exact hz) (fun two h₁ l => SrtO.ints_sortable hi two) fun out o1 o2 => ?_
  obtain ⟨k1, k2, k3⟩ := SrtO.ints_out hi o1 o2
  obtain ⟨ep, he⟩ := PyProof.Rows.sortedAll_at s.heap its out.toArray
  have fits : ((out.map SrtO.iv).map V.int).length ≤ sizeLine := by
    rw [List.length_map, k2.length_eq, ← List.length_map (f := V.int)]
    exact hz
  have I1 := I.laid (t' := s.toks) (o := .lst ((out.map SrtO.iv).map V.int)) (fun _ _ => PyProof.Rows.sortedAll_old) (Nat.le_succ _) ⟨fits, out, ep, vals_of_ints k1, he⟩
  exact ⟨.ref _, _, I1, rfl, q _ _ k2 k3 (I.hok.fresh (Nat.le_succ _))⟩
end G

set_option Elab.async false
set_option linter.all false
set_option maxRecDepth 100000
set_option maxHeartbeats 1000000
namespace G
open PySem PySem.Spec PyProof.Rows L2
/-! ### sorted of a tuple of ints -/
theorem RpL.intsOf {H : Hp} : ∀ {vs : List V} {ns : List Int}, RpL H vs (ns.map PyData.int) → vs = ns.map V.int
  | _, [], .nil => rfl
  | _, n :: ns, .cons h t => by
    cases h
    rw [RpL.intsOf t]
    rfl
theorem rp_intsL {H : Hp} : ∀ ns : List Int, RpL H (ns.map V.int) (ns.map PyData.int)
  | [] => .nil
  | n :: ns => .cons (.int n) (rp_intsL ns)
section
variable {c : Ct} {F : Fp} {ρ : List Sl} {pos : Pos} {e : Expr} {Φ : PyData → List Sl → Prop}
theorem we_sortedTup {p : Pos} (h : WE c F e ρ fun d ρ1 => ∃ ns : List Int, d = .tuple (ns.map PyData.int) ∧ ∀ ks : List Int, ks.Perm ns → ks.Pairwise (· ≤ ·) → Φ (.list (ks.map PyData.int)) ρ1) (hm : c.mg "sorted" = none) (hg : c.sc.names.lookup ("sorted" : Str) = some NameKind.globalImplicit := by rfl)
    (hs : ∀ env, starEach [e] env = (false, eval e env) :: starEach [] env := by exact star_cons rfl) (hpl : ∀ env, (backTo pos (starEach [] env)).any (·.1) = false := by intro _; rfl) : WE c F (.Call (.Name "sorted" p) [e] [] pos) ρ Φ := fun B σ H0 H hF E Q q =>
  wpE_of (t := tCB (rSortedTup c.K) (tCons (wpE c e) tNil)) (fun X hX => by rw [← hX.K]; exact pe_callB cr_sortedTup (by show X.env.scope.names.lookup _ = _; rw [hX.sc]; exact hg) (by rw [hX.mg]; exact hm) (by decide +kernel) (pa_cons (peW hX) pa_nil (hs _)) (by decide) (by decide) (hs _) (hpl _)) (h B σ H0 H hF E _ fun v d ρ1 H1 H1' E1 e1 r1 ⟨ns, k0, k1⟩ => by
    subst k0
    cases r1 with
    | @tup a xs _ g1 g2 =>
      refine ⟨a, ns, rfl, by rw [← RpL.intsOf g2]; exact SqT.of (E1.ex _ _ g1), fun ks p hp hs hn => ?_⟩
      have g := Grow.laid E1.ex (o := .lst (ks.map V.int)) hn
      exact q _ _ ρ1 _ _ (E1.grow g) (e1.trans g.fz) (.lst upd_same (rp_intsL ks)) (k1 ks hp hs))
end
theorem sorted_unique : ∀ {xs ys : List Int}, xs.Perm ys → xs.Pairwise (· ≤ ·) → ys.Pairwise (· ≤ ·) → xs = ys
  | [], ys, h, _, _ => by rw [List.nil_perm.mp h]
  | x :: xs, [], h, _, _ => by
    have := h.length_eq
    simp at this
  | x :: xs, y :: ys, h, hx, hy => by
    obtain ⟨a1, a2⟩ := List.pairwise_cons.mp hx
    obtain ⟨b1, b2⟩ := List.pairwise_cons.mp hy
    have e : x = y := by
      have m1 : x ∈ y :: ys := h.mem_iff.mp List.mem_cons_self
      have m2 : y ∈ x :: xs := h.mem_iff.mpr List.mem_cons_self
      rcases List.mem_cons.mp m1 with m1 | m1
      · exact m1
      · rcases List.mem_cons.mp m2 with m2 | m2
        · exact m2.symm
        · have := a1 y m2
          have := b1 x m1
          omega
    subst e
    rw [sorted_unique (List.Perm.cons_inv h) a2 b2]
theorem range_sorted (n : Nat) : ((List.range n).map fun (k : Nat) => (k : Int)).Pairwise (· ≤ ·) := by
  refine List.pairwise_map.mpr ?_
  exact (List.pairwise_lt_range (n := n)).imp fun {a b} h => by omega
/-! ### rows in an order -/
theorem natL_ints (os : List Nat) : natL os = (os.map fun (k : Nat) => (k : Int)).map PyData.int := by
  unfold natL
  rw [List.map_map]
  rfl
theorem ord_lt {os : List Nat} {L : Nat} (h : os.Perm (List.range L)) : ∀ i ∈ os, i < L := fun i hi => List.mem_range.mp (h.mem_iff.mp hi)
theorem ord_len {os : List Nat} {L : Nat} (h : os.Perm (List.range L)) : os.length = L := by rw [h.length_eq, List.length_range]
def permT (T : List (List Cell)) (os : List Nat) : List (List Cell) := os.map fun i => T.getD i []
theorem getD_at {T : List (List Cell)} {i : Nat} (h : i < T.length) : T[i]? = some (T.getD i []) := by
  rw [List.getD_eq_getElem?_getD, List.getElem?_eq_getElem h]
  rfl
theorem permT_ok {T : List (List Cell)} {n : Nat} {os : List Nat} (h : OkTable T n) (ho : os.Perm (List.range T.length)) : OkTable (permT T os) n := by
  have hl := ord_len ho
  have lo := h.lo
  have hi := h.hi
  have e : (permT T os).length = os.length := List.length_map ..
  have mem : ∀ r ∈ permT T os, r ∈ T := fun r hr => by
    obtain ⟨i, hm, rfl⟩ := List.mem_map.mp hr
    exact List.mem_of_getElem? (getD_at (ord_lt ho i hm))
  exact ⟨⟨by omega, by omega, fun r hr => h.row r (mem r hr), fun r hr => h.wide r (mem r hr)⟩, fun r hr => h.full r (mem r hr)⟩
def keepN (p T : List (List Cell)) (os : List Nat) : List Nat := List.zipWith (fun i m => min (lead (p.getD i [])) m) os (sharedN (permT T os))
def needN (p T : List (List Cell)) (os : List Nat) : List Nat := List.zipWith (fun i m => lead (p.getD i []) - m) os (sharedN (permT T os))
def pairsN (os ns : List Nat) : List PyData := ((List.zip os ns).filter fun z => decide (0 < z.2)).map fun z => PyData.tuple [.int (z.1 : Int), .int (z.2 : Int)]
def S_iso (ds : List PyData) (Ψ : PyData → Prop) : Prop := ∃ (os : List Nat) (L : Nat), ds = [ordD os, .int (L : Int)] ∧ os.Perm (List.range L) ∧ L ≤ 60 ∧ Ψ (.bool true)
def S_cho (ds : List PyData) (Ψ : PyData → Prop) : Prop := ∃ (os : List Nat) (L : Nat), ds = [ordD os, .int (L : Int)] ∧ os.Perm (List.range L) ∧ L ≤ 60 ∧ Ψ .none
def S_ord (f : List (List Cell) → List (List Cell) → List Nat → PyData) (ds : List PyData) (Ψ : PyData → Prop) : Prop := ∃ (p : List (List Cell)) (n : Nat) (os : List Nat), ds = [pageD p, ordD os] ∧ OkPage p n ∧ os.Perm (List.range p.length) ∧ Ψ (f p (tableOf p n) os)
abbrev S_rin := S_ord fun _ T os => pageD (permT T os)
abbrev S_shi := S_ord fun p T os => .list (pairsN os (needN p T os))
abbrev S_few := S_ord fun p T os => .int (((needN p T os).sum : Nat) : Int)
abbrev S_wri := S_ord fun p T os => pageD (withB (permT T os) (keepN p T os))
theorem table_len (p : List (List Cell)) (n : Nat) : (tableOf p n).length = p.length := readR_length _ _
theorem OkPage.lead6 {p : List (List Cell)} {n : Nat} (h : OkPage p n) {i : Nat} (hi : i < p.length) : lead (p.getD i []) ≤ 6 := by
  have hm := List.mem_of_getElem? (getD_at hi)
  have := lead_le (p.getD i [])
  have := (h.row _ hm).2.1
  omega
theorem leads_at {p : List (List Cell)} {i : Nat} (hi : i < p.length) : idxD (natsD (p.map lead)) (.int (i : Int)) = some (.int (lead (p.getD i []) : Int)) := by
  show atI ((p.map lead).map fun (n : Nat) => PyData.int (n : Int)) (i : Int) = _
  exact atI_nat (by rw [List.getElem?_map, List.getElem?_map, getD_at hi]; rfl)
end G

set_option Elab.async false
set_option linter.all false
set_option maxRecDepth 100000
set_option maxHeartbeats 1000000
namespace G
open PySem PySem.Spec PyProof.Rows L2
/-! ### which blanks can stay -/
theorem take_eq_sh : ∀ {k : Nat} {a r : List Cell}, k ≤ a.length → k ≤ r.length → a.take k = r.take k → k ≤ sh a r
  | 0, _, _, _, _, _ => Nat.zero_le _
  | k + 1, [], _, h, _, _ => absurd h (Nat.not_succ_le_zero _)
  | k + 1, _ :: _, [], _, h, _ => absurd h (Nat.not_succ_le_zero _)
  | k + 1, x :: a, y :: r, h1, h2, h => by
    rw [List.take_succ_cons, List.take_succ_cons] at h
    injection h with e1 e2
    have := take_eq_sh (Nat.le_of_succ_le_succ h1) (Nat.le_of_succ_le_succ h2) e2
    unfold sh
    rw [if_pos e1]
    omega
theorem read_pRow_iff {b : Nat} {a r : List Cell} (ha : b ≤ a.length) (hb : b ≤ r.length) (hf : Full r) : readOne a (pRow b r) = r ↔ b ≤ sh a r := by
  refine ⟨fun h => ?_, fun h => read_pRow h hf⟩
  unfold readOne at h
  rw [lead_pRow hb hf, pRow_drop] at h
  refine take_eq_sh ha hb ?_
  have e : a.take b ++ r.drop b = r.take b ++ r.drop b := by rw [h, List.take_append_drop]
  exact List.append_cancel_right e
theorem read_with_iff {n : Nat} : ∀ {t : List (List Cell)} {ns : List Nat} {ab : List Cell}, ab.length = n → (∀ r ∈ t, Full r ∧ r.length = n) → ns.length = t.length → (∀ b ∈ ns, b ≤ n) → (readR ab (withB t ns) = t ↔ Within ns (shFrom ab t))
  | [], [], _, _, _, _, _ => ⟨fun _ => trivial, fun _ => rfl⟩
  | [], _ :: _, _, _, _, h, _ => by cases h
  | _ :: _, [], _, _, _, h, _ => by cases h
  | r :: t, b :: ns, ab, hab, hf, hl, hn => by
    obtain ⟨rf, rl⟩ := hf r List.mem_cons_self
    have hb := hn b List.mem_cons_self
    have i1 := read_pRow_iff (b := b) (a := ab) (r := r) (by omega) (by omega) rf
    have i2 := read_with_iff (t := t) (ns := ns) (ab := r) rl (fun s hs => hf s (List.mem_cons_of_mem _ hs)) (Nat.succ.inj hl) (fun c hc => hn c (List.mem_cons_of_mem _ hc))
    show readOne ab (pRow b r) :: readR (readOne ab (pRow b r)) (withB t ns) = r :: t ↔ b ≤ sh ab r ∧ Within ns (shFrom r t)
    constructor
    · intro h
      injection h with h1 h2
      rw [h1] at h2
      exact ⟨i1.mp h1, i2.mp h2⟩
    · rintro ⟨h1, h2⟩
      have e1 := i1.mpr h1
      rw [e1, i2.mpr h2]
theorem sh_blank {r : List Cell} {n : Nat} (h : Full r) : sh (blankRow n) r = 0 := by
  cases n with
  | zero => cases r <;> rfl
  | succ n =>
    cases r with
    | nil => rfl
    | cons x r =>
      obtain ⟨s, rfl, _⟩ := h x List.mem_cons_self
      rfl
theorem shFrom_blank {t : List (List Cell)} {n : Nat} (h : ∀ r ∈ t, Full r) : shFrom (blankRow n) t = sharedN t := by
  cases t with
  | nil => rfl
  | cons r t =>
    show sh (blankRow n) r :: shFrom r t = 0 :: shFrom r t
    rw [sh_blank (h r List.mem_cons_self)]
theorem OkTable.stays {t : List (List Cell)} {n : Nat} {ns : List Nat} (h : OkTable t n) (hl : ns.length = t.length) (hn : ∀ b ∈ ns, b ≤ n) : tableOf (withB t ns) n = t ↔ Within ns (sharedN t) := by
  have := read_with_iff (ab := blankRow n) (by simp [blankRow]) h.fulls hl hn
  rw [shFrom_blank fun r hr => (h.fulls r hr).1] at this
  exact this
/-! ### all ways -/
def wayStep (W : List (List Nat)) (s : Nat) : List (List Nat) := W.flatMap fun ks => (List.range s).map fun r => ks ++ [r]
def waysF (W : List (List Nat)) (ss : List Nat) : List (List Nat) := ss.foldl wayStep W
theorem mem_ways : ∀ {ss : List Nat} {W : List (List Nat)} {ks : List Nat}, ks ∈ waysF W ss ↔ ∃ w ∈ W, ∃ ds, ks = w ++ ds ∧ Digits ds ss
  | [], W, ks => by
    refine ⟨fun h => ⟨ks, h, [], (List.append_nil _).symm, trivial⟩, ?_⟩
    rintro ⟨w, hw, ds, rfl, hd⟩
    cases ds with
    | nil => rw [List.append_nil]; exact hw
    | cons d ds => exact hd.elim
  | s :: ss, W, ks => by
    show ks ∈ waysF (wayStep W s) ss ↔ _
    rw [mem_ways]
    constructor
    · rintro ⟨w', hw', ds, rfl, hd⟩
      obtain ⟨w, hw, h2⟩ := List.mem_flatMap.mp hw'
      obtain ⟨r, hr, rfl⟩ := List.mem_map.mp h2
      exact ⟨w, hw, r :: ds, by rw [List.append_assoc]; rfl, List.mem_range.mp hr, hd⟩
    · rintro ⟨w, hw, ds, rfl, hd⟩
      cases ds with
      | nil => exact hd.elim
      | cons r ds =>
        exact ⟨w ++ [r], List.mem_flatMap.mpr ⟨w, hw, List.mem_map.mpr ⟨r, List.mem_range.mpr hd.1, rfl⟩⟩, ds, by rw [List.append_assoc]; rfl, hd.2⟩
theorem nodup_step {W : List (List Nat)} (h : W.Nodup) (s : Nat) : (wayStep W s).Nodup := by
  unfold wayStep
  refine List.pairwise_flatMap.mpr ⟨fun ks _ => ?_, h.imp fun {a b} hab x hx y hy e => ?_⟩
  · refine List.pairwise_map.mpr ((List.pairwise_lt_range (n := s)).imp fun {i j} hij e => ?_)
    have := List.append_cancel_left e
    simp at this
    omega
  · obtain ⟨i, _, rfl⟩ := List.mem_map.mp hx
    obtain ⟨j, _, rfl⟩ := List.mem_map.mp hy
    have := List.append_inj_left' e rfl
    exact hab this
theorem nodup_ways : ∀ {ss : List Nat} {W : List (List Nat)}, W.Nodup → (waysF W ss).Nodup
  | [], _, h => h
  | s :: ss, _, h => nodup_ways (ss := ss) (nodup_step h s)
theorem filter_one {α : Type} [DecidableEq α] {a : α} : ∀ {l : List α}, l.Nodup → a ∈ l → l.filter (fun x => decide (x = a)) = [a]
  | [], _, h => by cases h
  | x :: l, hn, h => by
    obtain ⟨h1, h2⟩ := List.nodup_cons.mp hn
    by_cases e : x = a
    · subst e
      rw [List.filter_cons, if_pos (decide_eq_true rfl)]
      congr 1
      rw [List.filter_eq_nil_iff]
      intro y hy z
      have := of_decide_eq_true z
      subst this
      exact h1 hy
    · rw [List.filter_cons, if_neg (by rw [decide_eq_false e]; decide)]
      rcases List.mem_cons.mp h with h | h
      · exact absurd h.symm e
      · exact filter_one h2 h
theorem ways_len : ∀ (ss : List Nat) (W : List (List Nat)), (waysF W ss).length = W.length * prodN ss
  | [], W => by simp [waysF, prodN]
  | s :: ss, W => by
    show (waysF (wayStep W s) ss).length = _
    rw [ways_len ss, prodN_cons]
    have : (wayStep W s).length = W.length * s := by
      unfold wayStep
      induction W with
      | nil => simp
      | cons w W ih => rw [List.flatMap_cons, List.length_append, ih, List.length_map, List.length_range, List.length_cons, Nat.succ_mul, Nat.add_comm]
    rw [this, Nat.mul_assoc]
/-! ### how many cells -/
theorem within_sum : ∀ {ks ms : List Nat}, Within ks ms → ks.sum ≤ ms.sum ∧ (ks.sum = ms.sum → ks = ms)
  | [], [], _ => ⟨Nat.le_refl _, fun _ => rfl⟩
  | [], _ :: _, h => h.elim
  | _ :: _, [], h => h.elim
  | k :: ks, m :: ms, h => by
    obtain ⟨h1, h2⟩ := within_sum h.2
    have := h.1
    rw [List.sum_cons, List.sum_cons]
    exact ⟨by omega, fun e => by rw [h2 (by omega), show k = m by omega]⟩
def minL : List Nat → List Nat → List Nat := List.zipWith fun b m => min b m
theorem within_min : ∀ {ks bs ms : List Nat}, Within ks bs → Within ks ms → Within ks (minL bs ms)
  | [], [], [], _, _ => trivial
  | [], [], _ :: _, _, h => h.elim
  | [], _ :: _, _, h, _ => h.elim
  | _ :: _, [], _, h, _ => h.elim
  | _ :: _, _ :: _, [], _, h => h.elim
  | k :: ks, b :: bs, m :: ms, h1, h2 => ⟨Nat.le_min.mpr ⟨h1.1, h2.1⟩, within_min h1.2 h2.2⟩
theorem min_within : ∀ {bs ms : List Nat}, bs.length = ms.length → Within (minL bs ms) bs ∧ Within (minL bs ms) ms
  | [], [], _ => ⟨trivial, trivial⟩
  | [], _ :: _, h => by cases h
  | _ :: _, [], h => by cases h
  | b :: bs, m :: ms, h => by
    obtain ⟨h1, h2⟩ := min_within (Nat.succ.inj h)
    exact ⟨⟨Nat.min_le_left _ _, h1⟩, ⟨Nat.min_le_right _ _, h2⟩⟩
theorem min_sum : ∀ {bs ms : List Nat}, bs.length = ms.length → (List.zipWith (fun b m => b - m) bs ms).sum + (minL bs ms).sum = bs.sum
  | [], [], _ => rfl
  | [], _ :: _, h => by cases h
  | _ :: _, [], h => by cases h
  | b :: bs, m :: ms, h => by
    have := min_sum (Nat.succ.inj h)
    show (b - m + (List.zipWith (fun b m => b - m) bs ms).sum) + (min b m + (minL bs ms).sum) = b + bs.sum
    omega
theorem digits_within : ∀ {ks bs : List Nat}, Digits ks (bs.map (· + 1)) ↔ Within ks bs
  | [], [] => Iff.rfl
  | [], _ :: _ => Iff.rfl
  | _ :: _, [] => Iff.rfl
  | k :: ks, b :: bs => by
    show k < b + 1 ∧ Digits ks (bs.map (· + 1)) ↔ k ≤ b ∧ Within ks bs
    rw [digits_within, Nat.lt_succ_iff]
/-- the own blanks of the rows in an order -/
def ownB (p : List (List Cell)) (os : List Nat) : List Nat := os.map fun i => lead (p.getD i [])
theorem keep_eq (p T : List (List Cell)) (os : List Nat) : keepN p T os = minL (ownB p os) (sharedN (permT T os)) := by
  unfold keepN minL ownB
  rw [List.zipWith_map_left]
theorem need_eq (p T : List (List Cell)) (os : List Nat) : needN p T os = List.zipWith (fun b m => b - m) (ownB p os) (sharedN (permT T os)) := by
  unfold needN ownB
  rw [List.zipWith_map_left]
end G

set_option Elab.async false
set_option linter.all false
set_option maxRecDepth 100000
set_option maxHeartbeats 1000000
namespace G
open PySem PySem.Spec PyProof.Rows L2
section
variable {c : Ct} {F : Fp} {ρ : List Sl} {pos : Pos} {e : Expr} {Φ : PyData → List Sl → Prop}
/-- min of a list of ints -/
theorem we_minL {p : Pos} (h : WE c F e ρ fun d ρ1 => ∃ ns : List Int, d = .list (ns.map PyData.int) ∧ 0 < ns.length ∧ ∀ m : Int, m ∈ ns → (∀ y ∈ ns, m ≤ y) → Φ (.int m) ρ1) (hm : c.mg "min" = none) (hg : c.sc.names.lookup ("min" : Str) = some NameKind.globalImplicit := by rfl)
    (hs : ∀ env, starEach [e] env = (false, eval e env) :: starEach [] env := by exact star_cons rfl) (hpl : ∀ env, (backTo pos (starEach [] env)).any (·.1) = false := by intro _; rfl) : WE c F (.Call (.Name "min" p) [e] [] pos) ρ Φ := fun B σ H0 H hF E Q q =>
  wpE_of (t := tCB (rMin c.K) (tCons (wpE c e) tNil)) (fun X hX => by rw [← hX.K]; exact pe_callB (cr_min hX.calm) (by show X.env.scope.names.lookup _ = _; rw [hX.sc]; exact hg) (by rw [hX.mg]; exact hm) (by decide +kernel) (pa_cons (peW hX) pa_nil (hs _)) (by decide) (by decide) (hs _) (hpl _)) (h B σ H0 H hF E _ fun v d ρ1 H1 H1' E1 e1 r1 ⟨ns, k0, k1, k2⟩ => by
    subst k0
    cases r1 with
    | @lst a xs _ g1 g2 =>
      exact ⟨a, ns, rfl, by rw [← RpL.intsOf g2]; exact SqL.of (E1.ex _ _ g1), k1, fun m h1 h2 => q _ _ ρ1 H1 H1' E1 e1 (.int m) (k2 m h1 h2)⟩)
end
/-! ### the fewest cells that must be written -/
structure Ways (p : List (List Cell)) (n : Nat) (os : List Nat) : Prop where
  pg : OkPage p n
  pm : os.Perm (List.range p.length)
section
variable {p : List (List Cell)} {n : Nat} {os : List Nat}
def rowsO (p : List (List Cell)) (n : Nat) (os : List Nat) : List (List Cell) := permT (tableOf p n) os
def allW (p : List (List Cell)) (os : List Nat) : List (List Nat) := waysF [[]] ((ownB p os).map (· + 1))
def goodW (p : List (List Cell)) (n : Nat) (os : List Nat) (ks : List Nat) : Bool := decide (tableOf (withB (rowsO p n os) ks) n = rowsO p n os)
def keepW (p : List (List Cell)) (n : Nat) (os : List Nat) : List Nat := keepN p (tableOf p n) os
theorem Ways.tab (w : Ways p n os) : OkTable (rowsO p n os) n := permT_ok w.pg.table (by rw [table_len]; exact w.pm)
theorem Ways.len (w : Ways p n os) : (rowsO p n os).length = os.length := List.length_map ..
theorem own_len (p : List (List Cell)) (os : List Nat) : (ownB p os).length = os.length := List.length_map ..
theorem mem_allW {ks : List Nat} : ks ∈ allW p os ↔ Within ks (ownB p os) := by
  unfold allW
  rw [mem_ways]
  constructor
  · rintro ⟨w, hw, ds, rfl, hd⟩
    cases List.mem_singleton.mp hw
    exact digits_within.mp hd
  · exact fun h => ⟨[], List.mem_singleton.mpr rfl, ks, rfl, digits_within.mpr h⟩
theorem Ways.own_le (w : Ways p n os) : ∀ b ∈ ownB p os, b ≤ n := fun b hb => by
  obtain ⟨i, hi, rfl⟩ := List.mem_map.mp hb
  have hm := List.mem_of_getElem? (getD_at (ord_lt w.pm i hi))
  have := lead_le (p.getD i [])
  have := w.pg.wide _ hm
  omega
theorem within_le {n : Nat} : ∀ {ks bs : List Nat}, Within ks bs → (∀ b ∈ bs, b ≤ n) → ∀ k ∈ ks, k ≤ n
  | [], _, _, _, k, h => by cases h
  | _ :: _, [], h, _, _, _ => h.elim
  | x :: ks, b :: bs, h, hb, k, hk => by
    have := hb b List.mem_cons_self
    have := h.1
    rcases List.mem_cons.mp hk with z | z
    · omega
    · exact within_le h.2 (fun c hc => hb c (List.mem_cons_of_mem _ hc)) k z
theorem Ways.rows (w : Ways p n os) {ks : List Nat} (h : ks ∈ allW p os) : OkRows (withB (rowsO p n os) ks) n :=
  (more_rows w.tab (by rw [(mem_allW.mp h).length, own_len, w.len]) (within_le (mem_allW.mp h) w.own_le)).1
theorem Ways.good_iff (w : Ways p n os) {ks : List Nat} (h : ks ∈ allW p os) : goodW p n os ks = true ↔ Within ks (sharedN (rowsO p n os)) := by
  unfold goodW
  rw [decide_eq_true_eq]
  exact w.tab.stays (by rw [(mem_allW.mp h).length, own_len, w.len]) (within_le (mem_allW.mp h) w.own_le)
theorem Ways.lens (w : Ways p n os) : (ownB p os).length = (sharedN (rowsO p n os)).length := by rw [own_len, sharedN_length, w.len]
theorem Ways.keep (w : Ways p n os) : keepW p n os ∈ allW p os ∧ goodW p n os (keepW p n os) = true := by
  have e : keepW p n os = minL (ownB p os) (sharedN (rowsO p n os)) := keep_eq p (tableOf p n) os
  obtain ⟨h1, h2⟩ := min_within w.lens
  rw [e]
  have h3 := mem_allW.mpr h1
  exact ⟨h3, (w.good_iff h3).mpr h2⟩
theorem Ways.le (w : Ways p n os) {ks : List Nat} (h : ks ∈ allW p os) (g : goodW p n os ks = true) : ks.sum ≤ (keepW p n os).sum ∧ (ks.sum = (keepW p n os).sum → ks = keepW p n os) := by
  have e : keepW p n os = minL (ownB p os) (sharedN (rowsO p n os)) := keep_eq p (tableOf p n) os
  rw [e]
  exact within_sum (within_min (mem_allW.mp h) ((w.good_iff h).mp g))
theorem Ways.need (w : Ways p n os) : (((needN p (tableOf p n) os).sum : Nat) : Int) = ((ownB p os).sum : Int) - ((keepW p n os).sum : Int) := by
  have e : keepW p n os = minL (ownB p os) (sharedN (rowsO p n os)) := keep_eq p (tableOf p n) os
  have := min_sum w.lens
  rw [e, need_eq]
  show (((List.zipWith (fun b m => b - m) (ownB p os) (sharedN (rowsO p n os))).sum : Nat) : Int) = _
  omega
theorem Ways.one (w : Ways p n os) : (allW p os).filter (fun ks => goodW p n os ks && decide (((ownB p os).sum : Int) - (ks.sum : Int) = ((ownB p os).sum : Int) - ((keepW p n os).sum : Int))) = [keepW p n os] := by
  obtain ⟨h1, h2⟩ := w.keep
  rw [← filter_one (nodup_ways (ss := (ownB p os).map (· + 1)) (W := [[]]) (by simp)) h1]
  refine List.filter_congr fun ks hks => ?_
  by_cases e : ks = keepW p n os
  · subst e
    rw [h2, decide_eq_true rfl, decide_eq_true rfl]
    rfl
  · rw [decide_eq_false e]
    cases g : goodW p n os ks with
    | false => rfl
    | true =>
      obtain ⟨h3, h4⟩ := w.le hks g
      rw [Bool.true_and]
      exact decide_eq_false fun z => e (h4 (by omega))
end
end G

set_option Elab.async false
set_option linter.all false
set_option maxRecDepth 100000
set_option maxHeartbeats 1000000
namespace G
open PySem PySem.Spec PyProof.Rows L2
theorem En.newFresh {B : Bs} {ρ : List Sl} {σ : L2.St} {H2 H2' H3 H3' : Hp} {l : Addr} {us : List V} {zs : List PyData} (E : En B ρ σ H2 H2') (n1 : H2' l = none) (n2 : H3' l = some (.lst us)) (n3 : H3 l = none) (r : RpL H3 us zs) : Fresh B ρ σ H3 H3' l us zs :=
  ⟨n2, n3, E.fresh n1, (fun hl => by
    obtain ⟨_, o2, w2⟩ := E.fF l hl
    rw [n1] at w2
    cases w2), (fun i zs' hi z => by
    obtain ⟨l', vs', w1, w2, _⟩ := E.ow i zs' hi
    rw [z] at w1
    cases w1
    rw [n1] at w2
    cases w2), r⟩
section
variable {c : Ct} {F : Fp} {ρ : List Sl} {pos apos cpos pl : Pos} {a b d0 e e2 : Expr} {D : SE} {Φ : List PyData → List Sl → Prop}
/-- a call by two names, the answer a new list -/
theorem wl_callK2N {S : List PyData → (List PyData → Prop) → Prop} {k : Nat} {x a b : Str} {p kp kp2 : Pos} (ord : {α : Type} → List α → List α) (f : CalK c.P c.w c.K c.mg c.base k x [a, b] ord (PFN S)) (ho : ∀ {H : Hp} {vs : List V} {ds : List PyData}, RpL H vs ds → RpL H (ord vs) (ord ds)) (h : WE c F e ρ fun d ρ1 => WE c F e2 ρ1 fun y ρ2 => S (ord [d, y]) fun z => Φ z ρ2) (hk : k ≤ c.k := by exact of_decide_eq_true rfl) (hg : c.sc.names.lookup x = some NameKind.globalImplicit := by rfl)
    (hall : ∀ env, (backToKw pos (keywordEach [⟨some a, e, kp⟩, ⟨some b, e2, kp2⟩] env)).all (·.1.isSome) = true := by intro _; rfl) (hks : ∀ env, (backToKw pos (keywordEach [⟨some a, e, kp⟩, ⟨some b, e2, kp2⟩] env)).filterMap (·.1) = [a, b] := by intro _; rfl)
    (hpl : ∀ env, ((backTo pos (starEach [] env)).any (·.1) || (backToKw pos (keywordEach [⟨some a, e, kp⟩, ⟨some b, e2, kp2⟩] env)).any (·.1.isNone)) = false := by intro _; rfl) (hdb : (x == ("__debug__" : Str)) = false := by decide) :
    WL c F (.Call (.Name x p) [] [⟨some a, e, kp⟩, ⟨some b, e2, kp2⟩] pos) ρ Φ := fun B σ H0 H hF E Q q => by
  obtain ⟨fa, fd, ps, G, hm, kp', hb⟩ := f
  refine wpE_of (t := fun σ H Q => tCons (wpE c e) (tCons (wpE c e2) tNil) σ H fun zs H2 => PFN S (ord zs) H2 Q E0) (fun X hX => peK_call (fd := fd) (ps := ps) (k := k) (ks := [a, b]) (ord := ord) ?_ (hX.room.mono hk) ?_ (by rw [hX.mg]; exact hm) (by rw [hX.K]; exact kp') (by rw [hX.K]; exact hb) (pk_cons (peW hX) (pk_cons (peW hX) pk_nil)) (hall _) (hks _) hdb (hpl _)) ?_
  · rw [hX.P, hX.w, hX.K, hX.mg, hX.base]
    exact G
  · show X.env.scope.names.lookup x = _
    rw [hX.sc]
    exact hg
  · refine h B σ H0 H hF E _ fun v d ρ1 H1 H1' E1 e1 r1 k0 => k0 B σ H1 H1' hF E1 _ fun u y ρ2 H2 H2' E2 e2 r2 k1 => ?_
    exact ⟨H2, ord [d, y], _, E2.ex, ho (.cons (r1.mono e2) (.one r2)), k1, fun l us zs H3 H3' g n1 n2 n3 r3 k2 => q l us zs ρ2 H3 H3' (E2.grow g) ((e1.trans e2).trans g.fz) (E2.newFresh n1 n2 n3 r3) k2⟩
theorem Fr.junk {B : Bs} {ρ : List Sl} {σ : L2.St} {H0 H : Hp} {p : Addr} {o : HO} (h : H p = none) : ∀ {vs : List V} {ss : List Sl}, Fr B ρ σ H0 H vs ss → Fr B ρ σ H0 (upd H p o) vs ss
  | _, _, .nil => .nil
  | _, _, .fz r f => .fz r (f.junk h)
  | _, _, .ow g n f => .ow (g.junk h) n (f.junk h)
/-- w, x, y, z = a, b, d, e -/
theorem ws_x4 (i j k l : Nat) {w x y z : Str} {p1 p2 p3 p4 pt pt2 : Pos} {kt k2 : Nat} (h : WX c F [a, b, d0, e] ρ fun ss ρ1 => ss.length = 4 ∧ i < ρ1.length ∧ j < ρ1.length ∧ k < ρ1.length ∧ l < ρ1.length ∧ D.nx (setS ρ1 [i, j, k, l] ss))
    (hN1 : c.N[i]? = some w := by rfl) (hN2 : c.N[j]? = some x := by rfl) (hN3 : c.N[k]? = some y := by rfl) (hN4 : c.N[l]? = some z := by rfl)
    (hx1 : Loc c.sc w := by first | exact Or.inl rfl | exact Or.inr rfl) (hx2 : Loc c.sc x := by first | exact Or.inl rfl | exact Or.inr rfl) (hx3 : Loc c.sc y := by first | exact Or.inl rfl | exact Or.inr rfl) (hx4 : Loc c.sc z := by first | exact Or.inl rfl | exact Or.inr rfl)
    (hf1 : c.fn w = true ∨ c.sc.names.lookup w = some .local := by first | exact .inl rfl | exact .inr rfl) (hf2 : c.fn x = true ∨ c.sc.names.lookup x = some .local := by first | exact .inl rfl | exact .inr rfl) (hf3 : c.fn y = true ∨ c.sc.names.lookup y = some .local := by first | exact .inl rfl | exact .inr rfl) (hf4 : c.fn z = true ∨ c.sc.names.lookup z = some .local := by first | exact .inl rfl | exact .inr rfl)
    (hw : ∀ env : Env, env.scope = c.sc → swappedStores [.Tuple [.Name w p1, .Name x p2, .Name y p3, .Name z p4] kt pt] (.Tuple [a, b, d0, e] k2 pt2) env = pure none := by intro _ _; rfl)
    (hs : ∀ env, swapsWithSole [.Tuple [.Name w p1, .Name x p2, .Name y p3, .Name z p4] kt pt] (.Tuple [a, b, d0, e] k2 pt2) pos.line env = pure false := by intro _; rfl) :
    WS c F (.Assign [.Tuple [.Name w p1, .Name x p2, .Name y p3, .Name z p4] kt pt] (.Tuple [a, b, d0, e] k2 pt2) pos) ρ D := fun B σ H0 H hF E Ed f =>
  wpS_of (t := tAsg (tTup (wpA c [a, b, d0, e])) (gTup c.K 4 (gCons (gName i) (gCons (gName j) (gCons (gName k) (gCons (gName l) gNil))))))
    (fun X hX => by
      have n1 : PG X (.Name w p1) (gName i) := pg_name hX.nd (by rw [hX.N]; exact hN1) (by rw [hX.sc]; exact hx1) (by rw [hX.fn, hX.sc]; exact hf1)
      have n2 : PG X (.Name x p2) (gName j) := pg_name hX.nd (by rw [hX.N]; exact hN2) (by rw [hX.sc]; exact hx2) (by rw [hX.fn, hX.sc]; exact hf2)
      have n3 : PG X (.Name y p3) (gName k) := pg_name hX.nd (by rw [hX.N]; exact hN3) (by rw [hX.sc]; exact hx3) (by rw [hX.fn, hX.sc]; exact hf3)
      have n4 : PG X (.Name z p4) (gName l) := pg_name hX.nd (by rw [hX.N]; exact hN4) (by rw [hX.sc]; exact hx4) (by rw [hX.fn, hX.sc]; exact hf4)
      rw [← hX.K]
      exact ps_asg (pe_tup (paW hX)) (pg_tup hX.calm (pgs_cons n1 (pgs_cons n2 (pgs_cons n3 (pgs_cons n4 pgs_nil))))) (hs _) (hw _ hX.sc)) (h B σ H0 H hF E _ fun vs ss ρ1 H1 H1' E1 e1 r1 ⟨n, i1, i2, i3, i4, k5⟩ => by
    have hl := r1.len
    rw [n] at hl
    match vs, hl, r1 with
    | [v1, v2, v3, v4], _, r1 =>
      refine ⟨(by show 4 ≤ sizeLine; decide), fun p hp => ?_⟩
      have E2 := E1.junk (o := .tup [v1, v2, v3, v4]) hp
      have r2 := r1.junk (o := .tup [v1, v2, v3, v4]) hp
      have E3 := r2.store (is := [i, j, k, l]) E2 fun q hq => by
        simp only [List.mem_cons, List.mem_nil_iff, or_false] at hq
        rcases hq with rfl | rfl | rfl | rfl <;> assumption
      exact ⟨p, _, rfl, SqT.of upd_same, rfl, _, _, rfl, _, _, rfl, _, _, rfl, _, _, rfl, rfl, f.nx _ _ _ _ E3 k5⟩)
end
end G

set_option Elab.async false
set_option linter.all false
set_option maxRecDepth 100000
set_option maxHeartbeats 1000000
namespace G
open PySem PySem.Spec PyProof.Rows L2
theorem natL_vals {H : Hp} : ∀ {ns : List Nat} {vs : List V}, RpL H vs (natL ns) → vs = ns.map fun (n : Nat) => V.int (n : Int)
  | [], _, .nil => rfl
  | n :: ns, _, .cons h t => by
    cases h
    show _ :: _ = _ :: _
    rw [natL_vals (ns := ns) t]
abbrev rIns : V → List V → Hp → VK → Prop := fun x vs H Q => ∃ (l : Addr) (xs : List V) (i : Int) (y : V), x = .ref l ∧ vs = [.int i, y] ∧ H l = some (.lst xs) ∧ xs.length < sizeLine ∧ 0 ≤ i ∧ i < 2 ^ 63 ∧
    Q .non (upd H l (.lst (xs.take i.toNat ++ [y] ++ xs.drop i.toNat)))
section
variable {c : Ct} {F : Fp} {ρ : List Sl} {pos apos cpos : Pos} {a b e : Expr} {D : SE} {Φ : PyData → List Sl → Prop}
/-- xs.insert(k, e), an own list -/
theorem ws_insert (i : Nat) {x : Str} {px : Pos} (h : WE c F a ρ fun y ρ1 => WE c F e ρ1 fun d ρ2 => ∃ (k : Nat) (ds : List PyData), y = .int (k : Int) ∧ k ≤ 100000 ∧ ρ2[i]? = some (Sl.ow ds) ∧ ds.length < 100000 ∧ D.nx (ρ2.set i (Sl.ow (ds.take k ++ [d] ++ ds.drop k)))) {ds0 : List PyData} (h0 : ρ[i]? = some (Sl.ow ds0)) (hN : c.N[i]? = some x := by rfl)
    (hv : Vis c.sc x := by first | exact Or.inl rfl | exact Or.inr (Or.inl rfl) | exact Or.inr (Or.inr rfl))
    (hd : (x == ("__debug__" : Str)) = false := by decide) (hcd : (x == ("__classdict__" : Str)) = false := by decide) (hs1 : ∀ env, starEach [a, e] env = (false, eval a env) :: starEach [e] env := by intro _; rfl) (hs2 : ∀ env, starEach [e] env = (false, eval e env) :: starEach [] env := by intro _; rfl)
    (hfew : ∀ env, ((backTo cpos (starEach [a, e] env)).all (fun x => !x.1) && (backToKw cpos (keywordEach [] env)).all (fun x => x.1.isSome) && decide ([a, e].length + ([] : List Keyword).length + (if ([] : List Keyword).isEmpty then 0 else 1) < 30)) = true := by intro _; rfl)
    (hline : (apos.endLine == cpos.line) = true := by rfl) (hpl : ∀ env, (backTo cpos (starEach [e] env)).any (·.1) = false := by intro _; rfl) :
    WS c F (.Expr (.Call (.Attribute (.Name x px) "insert" apos) [a, e] [] cpos) pos) ρ D := fun B σ H0 H hF E Ed f =>
  wpS_of (t := tDrop (tBM c.K "list" rIns (tVar i) (tCons (wpE c a) (tCons (wpE c e) tNil)))) (fun X hX => by rw [← hX.K]; exact ps_expr (pe_bm PySem.F.plainAttrs_list PySem.F.slot_list_insert PySem.F.type_list_insert mt_insert (pe_var (by rw [hX.N]; exact hN) (by rw [hX.sc]; exact hv) hd hcd) (pa_cons (peW hX) (pa_cons (peW hX) pa_nil (hs2 _)) (hs1 _)) rfl (hfew _) hline (hs1 _) (hpl _))) (by
    obtain ⟨l, vs, h1, h2, h3⟩ := E.owAt h0
    refine ⟨_, h1, .inl ⟨rfl, _, SqL.of h2⟩, ?_⟩
    refine h B σ H0 H hF E _ fun u y ρ1 H1 H1' E1 e1 r1 kk => ?_
    refine kk B σ H1 H1' hF E1 _ fun v d ρ2 H2 H2' E2 e2 r2 ⟨k, ds, k0, k5, k1, k2, k3⟩ => ?_
    subst k0
    cases r1
    obtain ⟨l', vs', g1, g2, g3⟩ := E2.owAt k1
    rw [h1] at g1
    cases g1
    refine ⟨l, vs', (k : Int), v, rfl, rfl, g2, Nat.lt_of_lt_of_le (by rw [g3.length]; exact k2) (by decide : 100000 ≤ sizeLine), Int.natCast_nonneg _, by omega, ?_⟩
    rw [Int.toNat_natCast]
    exact f.nx _ σ H2 _ (E2.change k1 h1 (((g3.take k).append (.one r2)).append (g3.drop k))) k3)
/-- xs.index(e), an own list of numbers -/
theorem we_index (i : Nat) {x : Str} {px : Pos} (h : WE c F e ρ fun d ρ1 => ∃ (ns : List Nat) (j n : Nat), d = .int (n : Int) ∧ ρ1[i]? = some (Sl.ow (natL ns)) ∧ ns[j]? = some n ∧ (∀ (m z : Nat), m < j → ns[m]? = some z → z ≠ n) ∧ Φ (.int (j : Int)) ρ1) {ds0 : List PyData} (h0 : ρ[i]? = some (Sl.ow ds0)) (hN : c.N[i]? = some x := by rfl)
    (hv : Vis c.sc x := by first | exact Or.inl rfl | exact Or.inr (Or.inl rfl) | exact Or.inr (Or.inr rfl))
    (hd : (x == ("__debug__" : Str)) = false := by decide) (hcd : (x == ("__classdict__" : Str)) = false := by decide) (hs1 : ∀ env, starEach [e] env = (false, eval e env) :: starEach [] env := by exact star_cons rfl)
    (hfew : ∀ env, ((backTo cpos (starEach [e] env)).all (fun x => !x.1) && (backToKw cpos (keywordEach [] env)).all (fun x => x.1.isSome) && decide ([e].length + ([] : List Keyword).length + (if ([] : List Keyword).isEmpty then 0 else 1) < 30)) = true := by intro _; rfl)
    (hline : (apos.endLine == cpos.line) = true := by rfl) (hpl : ∀ env, (backTo cpos (starEach [] env)).any (·.1) = false := by intro _; rfl) :
    WE c F (.Call (.Attribute (.Name x px) "index" apos) [e] [] cpos) ρ Φ := fun B σ H0 H hF E Q q =>
  wpE_of (t := tBM c.K "list" (rIndex c.K) (tVar i) (tCons (wpE c e) tNil)) (fun X hX => by rw [← hX.K]; exact pe_bm PySem.F.plainAttrs_list PySem.F.slot_list_index PySem.F.type_list_index mt_index (pe_var (by rw [hX.N]; exact hN) (by rw [hX.sc]; exact hv) hd hcd) (pa_cons (peW hX) pa_nil (hs1 _)) rfl (hfew _) hline (hs1 _) (hpl _)) (by
    obtain ⟨l, vs, h1, h2, h3⟩ := E.owAt h0
    refine ⟨_, h1, .inl ⟨rfl, _, SqL.of h2⟩, ?_⟩
    refine h B σ H0 H hF E _ fun v d ρ1 H1 H1' E1 e1 r1 ⟨ns, j, n, k0, k1, k2, k3, k4⟩ => ?_
    subst k0
    cases r1
    obtain ⟨l', vs', g1, g2, g3⟩ := E1.owAt k1
    rw [h1] at g1
    cases g1
    have ev := natL_vals g3
    subst ev
    refine ⟨l, _, .int (n : Int), j, .int (n : Int), rfl, rfl, SqL.of g2, rfl, List.all_eq_true.mpr fun z hz => ?_, by rw [List.getElem?_map, k2]; rfl, by simp [eqV], fun m z' hm hz => ?_, q _ _ ρ1 H1 H1' E1 e1 (.int _) k4⟩
    · obtain ⟨w, _, rfl⟩ := List.mem_map.mp hz
      rfl
    · rw [List.getElem?_map] at hz
      obtain ⟨w, hw, rfl⟩ := Option.map_eq_some_iff.mp hz
      have := k3 m w hm hw
      simp only [eqV, beq_eq_false_iff_ne]
      omega)
end
end G

set_option Elab.async false
set_option linter.all false
set_option maxRecDepth 100000
set_option maxHeartbeats 1000000
/-! a dict of the def's own: made, written, frozen, read -/
namespace G
open PySem PySem.Spec PyProof.Rows L2
theorem kD_inj {a b : Key} (h : kD a = kD b) : a = b := by
  cases a <;> cases b <;> simp only [kD, PyData.int.injEq, PyData.str.injEq, reduceCtorEq] at h <;> rw [h]
theorem kD_kV {H : Hp} {v : V} {k : Key} (r : Rp H v (kD k)) : v = kV k := by
  cases k <;> (unfold kD at r; cases r; rfl)
def dictD (ks : List (Key × PyData)) : List (PyData × PyData) := ks.map fun z => (kD z.1, z.2)
def valP (ks : List (Key × PyData)) (k : Key) : Option PyData := (ks.find? fun kv => decide (kv.1 = k)).map (·.2)
def putP (ks : List (Key × PyData)) (k : Key) (d : PyData) : List (Key × PyData) :=
  if (ks.any fun kv => decide (kv.1 = k)) = true then ks.map (fun kv => if kv.1 = k then (kv.1, d) else kv) else ks ++ [(k, d)]
theorem RpK.uncons {H : Hp} {kvs : List (Key × V)} {k : Key} {d : PyData} {es : List (PyData × PyData)} (r : RpK H kvs ((kD k, d) :: es)) : ∃ v kvs', kvs = (k, v) :: kvs' ∧ Rp H v d ∧ RpK H kvs' es := by
  generalize hx : ((kD k, d) :: es) = xs at r
  cases r with
  | nil => cases hx
  | cons rv rs =>
    injection hx with h1 h2
    injection h1 with h3 h4
    subst h2 h4
    have := kD_inj h3
    subst this
    exact ⟨_, _, rfl, rv, rs⟩
theorem RpK.len {H : Hp} : ∀ {kvs : List (Key × V)} {es : List (PyData × PyData)}, RpK H kvs es → kvs.length = es.length
  | _, _, .nil => rfl
  | _, _, .cons _ r => congrArg (· + 1) r.len
theorem RpK.anyK {H : Hp} (k : Key) : ∀ {ks : List (Key × PyData)} {kvs : List (Key × V)}, RpK H kvs (dictD ks) → (kvs.any fun kv => decide (kv.1 = k)) = ks.any fun kv => decide (kv.1 = k)
  | [], kvs, r => by
    have hl := r.len
    match kvs, hl with
    | [], _ => rfl
  | (a, d) :: ks, kvs, r => by
    obtain ⟨v, kvs', rfl, rv, rs⟩ := RpK.uncons r
    simp only [List.any_cons, rs.anyK k]
theorem RpK.mapK {H : Hp} (k : Key) {v : V} {d : PyData} (rv : Rp H v d) : ∀ {ks : List (Key × PyData)} {kvs : List (Key × V)}, RpK H kvs (dictD ks) → RpK H (kvs.map fun kv => if kv.1 = k then (kv.1, v) else kv) (dictD (ks.map fun kv => if kv.1 = k then (kv.1, d) else kv))
  | [], kvs, r => by
    have hl := r.len
    match kvs, hl with
    | [], _ => exact .nil
  | (a, z) :: ks, kvs, r => by
    obtain ⟨u, kvs', rfl, ru, rs⟩ := RpK.uncons r
    by_cases h : a = k
    · simp only [List.map_cons, if_pos h, dictD]
      exact .cons rv (rs.mapK k rv)
    · simp only [List.map_cons, if_neg h, dictD]
      exact .cons ru (rs.mapK k rv)
theorem RpK.snoc {H : Hp} {k : Key} {v : V} {d : PyData} (rv : Rp H v d) : ∀ {kvs : List (Key × V)} {es : List (PyData × PyData)}, RpK H kvs es → RpK H (kvs ++ [(k, v)]) (es ++ [(kD k, d)])
  | _, _, .nil => .cons rv .nil
  | _, _, .cons r rs => .cons r (rs.snoc rv)
theorem RpK.put {H : Hp} {k : Key} {v : V} {d : PyData} {ks : List (Key × PyData)} {kvs : List (Key × V)} (r : RpK H kvs (dictD ks)) (rv : Rp H v d) : RpK H (putK kvs k v) (dictD (putP ks k d)) := by
  unfold putK putP
  rw [r.anyK k]
  split
  · exact r.mapK k rv
  · have := r.snoc (k := k) rv
    unfold dictD at this ⊢
    rw [List.map_append]
    exact this
theorem RpK.val {H : Hp} {k : Key} {d : PyData} : ∀ {ks : List (Key × PyData)} {kvs : List (Key × V)}, RpK H kvs (dictD ks) → valP ks k = some d → ∃ v, valV kvs k = some v ∧ Rp H v d
  | [], kvs, r, h => by cases h
  | (a, z) :: ks, kvs, r, h => by
    obtain ⟨u, kvs', rfl, ru, rs⟩ := RpK.uncons r
    unfold valP at h
    unfold valV
    by_cases ha : a = k
    · simp only [List.find?_cons, ha, decide_true, Option.map_some] at h ⊢
      cases h
      exact ⟨u, rfl, ru⟩
    · simp only [List.find?_cons, ha, decide_false] at h ⊢
      exact rs.val h
theorem putP_len (ks : List (Key × PyData)) (k : Key) (d : PyData) : (putP ks k d).length ≤ ks.length + 1 := by
  unfold putP
  split
  · rw [List.length_map]; omega
  · rw [List.length_append]; exact Nat.le_refl _
theorem valP_put (ks : List (Key × PyData)) (k j : Key) (d : PyData) : valP (putP ks k d) j = if j = k then some d else valP ks j := by
  unfold putP valP
  split
  · rename_i h
    induction ks with
    | nil => cases h
    | cons z ks ih =>
      obtain ⟨a, x⟩ := z
      by_cases ha : a = k
      · subst ha
        by_cases hj : j = a
        · subst hj
          simp [List.find?_cons]
        · have hj' : ¬ a = j := fun e => hj e.symm
          rw [if_neg hj]
          simp only [List.map_cons, if_true, List.find?_cons, hj', decide_false]
          clear ih h
          induction ks with
          | nil => rfl
          | cons y ks ih2 =>
            obtain ⟨b, w⟩ := y
            by_cases hb : b = a
            · subst hb
              simp only [List.map_cons, if_true, List.find?_cons, hj', decide_false]
              exact ih2
            · simp only [List.map_cons, if_neg hb, List.find?_cons]
              by_cases hbj : b = j
              · simp [hbj]
              · simp only [hbj, decide_false]
                exact ih2
      · simp only [List.any_cons, ha, decide_false, Bool.false_or] at h
        simp only [List.map_cons, if_neg ha, List.find?_cons]
        by_cases haj : a = j
        · subst haj
          simp [ha]
        · simp only [haj, decide_false]
          exact ih h
  · rename_i h
    rw [List.find?_append]
    by_cases hj : j = k
    · subst hj
      rw [if_pos rfl]
      have : (ks.find? fun kv => decide (kv.1 = j)) = none := by
        rw [List.find?_eq_none]
        intro z hz hd
        exact h (List.any_eq_true.mpr ⟨z, hz, hd⟩)
      rw [this]
      simp
    · rw [if_neg hj]
      have hj' : ¬ k = j := fun e => hj e.symm
      simp only [List.find?_cons, hj', decide_false, List.find?_nil, Option.or_none]
def noOd (ρ : List Sl) : Bool := ρ.all fun s => match s with
  | .od _ => false
  | _ => true
theorem noOd_at {ρ : List Sl} (h : noOd ρ = true) {i : Nat} {es : List (PyData × PyData)} (q : ρ[i]? = some (Sl.od es)) {p : Prop} : p := by
  have := List.all_eq_true.mp h _ (List.mem_of_getElem? q)
  cases this
theorem En.setD {B : Bs} {ρ : List Sl} {σ : L2.St} {H0 H : Hp} {l : Addr} {kvs : List (Key × V)} {es : List (PyData × PyData)} {i : Nat} (E : En B ρ σ H0 H) (at_ : H l = some (.dK kvs)) (nf : H0 l = none) (nb : B.H l = none) (nF : ¬ B.F l) (rp : RpK H0 kvs es) (no : ∀ (j : Nat) (fs : List (PyData × PyData)), ρ[j]? = some (Sl.od fs) → σ[j]? ≠ some (some (V.ref l))) (hi : i < ρ.length) : En B (ρ.set i (Sl.od es)) (σ.set i (some (.ref l))) H0 H where
  len := by rw [List.length_set, List.length_set, E.len]
  e0 := E.e0
  ex := E.ex
  kp := E.kp
  fF := E.fF
  fz := fun j d' h => by
    by_cases hj : i = j
    · subst hj
      rw [List.getElem?_set_self hi] at h
      cases h
    · rw [List.getElem?_set_ne hj] at h
      obtain ⟨u, h1, h2⟩ := E.fz j d' h
      exact ⟨u, by rw [List.getElem?_set_ne hj]; exact h1, h2⟩
  ow := fun j ds' h => by
    by_cases hj : i = j
    · subst hj
      rw [List.getElem?_set_self hi] at h
      cases h
    · rw [List.getElem?_set_ne hj] at h
      obtain ⟨l', ws, h1, h2⟩ := E.ow j ds' h
      exact ⟨l', ws, by rw [List.getElem?_set_ne hj]; exact h1, h2⟩
  sep := fun j k ds1 es l' h1 h2 h3 h4 => by
    by_cases hj : i = j
    · subst hj
      rw [List.getElem?_set_self hi] at h1
      cases h1
    · by_cases hk : i = k
      · subst hk
        rw [List.getElem?_set_self hi] at h2
        cases h2
      · rw [List.getElem?_set_ne hj] at h1 h3
        rw [List.getElem?_set_ne hk] at h2 h4
        exact E.sep j k ds1 es l' h1 h2 h3 h4
  dk := fun j n h => by
    by_cases hj : i = j
    · subst hj
      rw [List.getElem?_set_self hi] at h
      cases h
    · rw [List.getElem?_set_ne hj] at h
      obtain ⟨a, h1, h2⟩ := E.dk j n h
      exact ⟨a, by rw [List.getElem?_set_ne hj]; exact h1, h2⟩
  one := fun j k n m h1 h2 => by
    by_cases hj : i = j
    · subst hj
      rw [List.getElem?_set_self hi] at h1
      cases h1
    · by_cases hk : i = k
      · subst hk
        rw [List.getElem?_set_self hi] at h2
        cases h2
      · rw [List.getElem?_set_ne hj] at h1
        rw [List.getElem?_set_ne hk] at h2
        exact E.one j k n m h1 h2
  pn := fun j u h => by
    by_cases hj : i = j
    · subst hj
      rw [List.getElem?_set_self hi] at h
      cases h
    · rw [List.getElem?_set_ne hj] at h ⊢
      exact E.pn j u h
  od := fun j fs h => by
    by_cases hj : i = j
    · subst hj
      rw [List.getElem?_set_self hi] at h
      cases h
      exact ⟨l, kvs, List.getElem?_set_self (by rw [E.len]; exact hi), at_, nf, nb, nF, rp⟩
    · rw [List.getElem?_set_ne hj] at h
      obtain ⟨l', ws, h1, h2⟩ := E.od j fs h
      exact ⟨l', ws, by rw [List.getElem?_set_ne hj]; exact h1, h2⟩
  oned := fun j k u v l' h1 h2 h3 h4 => by
    by_cases hj : i = j
    · by_cases hk : i = k
      · rw [← hj, ← hk]
      · subst hj
        rw [List.getElem?_set_self (by rw [E.len]; exact hi)] at h3
        cases h3
        rw [List.getElem?_set_ne hk] at h2 h4
        exact absurd h4 (no k v h2)
    · by_cases hk : i = k
      · subst hk
        rw [List.getElem?_set_self (by rw [E.len]; exact hi)] at h4
        cases h4
        rw [List.getElem?_set_ne hj] at h1 h3
        exact absurd h3 (no j u h1)
      · rw [List.getElem?_set_ne hj] at h1 h3
        rw [List.getElem?_set_ne hk] at h2 h4
        exact E.oned j k u v l' h1 h2 h3 h4
/-- a new object is no name's dict -/
theorem En.newOd {B : Bs} {ρ : List Sl} {σ : L2.St} {H0 H : Hp} {p : Addr} (E : En B ρ σ H0 H) (hp : H p = none) (j : Nat) (fs : List (PyData × PyData)) (h : ρ[j]? = some (Sl.od fs)) : σ[j]? ≠ some (some (V.ref p)) := fun z => by
  obtain ⟨l, kvs, h1, h2, _⟩ := E.od j fs h
  rw [z] at h1
  cases h1
  rw [hp] at h2
  cases h2
/-- such a dict changes -/
theorem En.changeD {B : Bs} {ρ : List Sl} {σ : L2.St} {H0 H : Hp} {i : Nat} {es fs : List (PyData × PyData)} {l : Addr} {kvs : List (Key × V)} (E : En B ρ σ H0 H) (h : ρ[i]? = some (Sl.od es)) (hl : σ[i]? = some (some (V.ref l))) (r : RpK H0 kvs fs) : En B (ρ.set i (Sl.od fs)) σ H0 (upd H l (.dK kvs)) := by
  obtain ⟨l', ws, h1, h2, h3, h4, h5, h6⟩ := E.od i es h
  rw [hl] at h1
  cases h1
  have hi : i < ρ.length := (List.getElem?_eq_some_iff.mp h).1
  have gt : ∀ {j : Nat} {s : Sl}, (ρ.set i (Sl.od fs))[j]? = some s → (∀ z, s ≠ .od z) → ρ[j]? = some s := fun {j s} q n => by
    by_cases hj : i = j
    · subst hj
      rw [List.getElem?_set_self hi] at q
      exact absurd (Option.some.inj q).symm (n fs)
    · rw [List.getElem?_set_ne hj] at q
      exact q
  have ods : ∀ {j : Nat} {z : List (PyData × PyData)}, (ρ.set i (Sl.od fs))[j]? = some (Sl.od z) → (j = i ∧ z = fs) ∨ (i ≠ j ∧ ρ[j]? = some (Sl.od z)) := fun {j z} q => by
    by_cases hj : i = j
    · subst hj
      rw [List.getElem?_set_self hi] at q
      cases q
      exact .inl ⟨rfl, rfl⟩
    · rw [List.getElem?_set_ne hj] at q
      exact .inr ⟨hj, q⟩
  refine ⟨by rw [List.length_set]; exact E.len, E.e0, E.ex.mut h3, fun a o q1 q2 q3 => ?_, fun a f => ?_, fun j d q => ?_, fun j es' q => ?_, fun j k d1 d2 l' q1 q2 q3 q4 => ?_, fun j n q => ?_, fun j k n m q1 q2 => ?_, fun j u q => ?_, fun j u q => ?_, fun j k u v l' q1 q2 q3 q4 => ?_⟩
  · obtain ⟨z1, z2⟩ := E.kp a o q1 q2 q3
    refine ⟨?_, z2⟩
    rw [upd_ne (fun z => by subst z; rw [h4] at q1; cases q1)]
    exact z1
  · obtain ⟨z1, o, z2⟩ := E.fF a f
    refine ⟨z1, o, ?_⟩
    rw [upd_ne (fun z => by subst z; exact h5 f)]
    exact z2
  · exact E.fz j d (gt q (by intro z w; cases w))
  · obtain ⟨l', ws', z1, z2, z3⟩ := E.ow j es' (gt q (by intro z w; cases w))
    refine ⟨l', ws', z1, ?_, z3⟩
    rw [upd_ne (fun z => by subst z; rw [h2] at z2; cases z2)]
    exact z2
  · exact E.sep j k d1 d2 l' (gt q1 (by intro z w; cases w)) (gt q2 (by intro z w; cases w)) q3 q4
  · obtain ⟨a, z1, z2⟩ := E.dk j n (gt q (by intro z w; cases w))
    exact ⟨a, z1, z2.but h5⟩
  · exact E.one j k n m (gt q1 (by intro z w; cases w)) (gt q2 (by intro z w; cases w))
  · exact E.pn j u (gt q (by intro z w; cases w))
  · rcases ods q with ⟨rfl, rfl⟩ | ⟨hj, q'⟩
    · exact ⟨l, kvs, hl, upd_same, h3, h4, h5, r⟩
    · obtain ⟨l', ws', z1, z2, z3⟩ := E.od j _ q'
      refine ⟨l', ws', z1, ?_, z3⟩
      rw [upd_ne (fun z : l' = l => hj (E.oned i j _ _ l h q' hl (by rw [← z]; exact z1)))]
      exact z2
  · have w : ∀ {x : Nat} {z : List (PyData × PyData)}, (ρ.set i (Sl.od fs))[x]? = some (Sl.od z) → ∃ y, ρ[x]? = some (Sl.od y) := fun {x z} q => by
      rcases ods q with ⟨rfl, _⟩ | ⟨_, q'⟩
      · exact ⟨_, h⟩
      · exact ⟨_, q'⟩
    obtain ⟨y1, w1⟩ := w q1
    obtain ⟨y2, w2⟩ := w q2
    exact E.oned j k y1 y2 l' w1 w2 q3 q4
/-- .. is frozen for good -/
theorem En.freezeD {B : Bs} {ρ : List Sl} {σ : L2.St} {H0 H : Hp} {i : Nat} {es : List (PyData × PyData)} (E : En B ρ σ H0 H) (h : ρ[i]? = some (Sl.od es)) : ∃ H0', En B (ρ.set i (Sl.fz (.dict es))) σ H0' H ∧ Ex H0 H0' := by
  obtain ⟨l, kvs, h1, h2, h3, h4, h5, h6⟩ := E.od i es h
  have hi : i < ρ.length := (List.getElem?_eq_some_iff.mp h).1
  have up : Ex H0 (upd H0 l (.dK kvs)) := Ex.new h3
  have gt : ∀ {j : Nat} {s : Sl}, (ρ.set i (Sl.fz (.dict es)))[j]? = some s → (∀ z, s ≠ .fz z) → ρ[j]? = some s := fun {j s} q n => by
    by_cases hj : i = j
    · subst hj
      rw [List.getElem?_set_self hi] at q
      exact absurd (Option.some.inj q).symm (n _)
    · rw [List.getElem?_set_ne hj] at q
      exact q
  refine ⟨upd H0 l (.dK kvs), ⟨by rw [List.length_set]; exact E.len, E.e0.trans up, fun a o q => ?_, fun a o q1 q2 q3 => ?_, fun a f => ?_, fun j d q => ?_, fun j es q => ?_, fun j k d1 d2 l' q1 q2 q3 q4 => E.sep j k d1 d2 l' (gt q1 (by intro z w; cases w)) (gt q2 (by intro z w; cases w)) q3 q4, fun j n q => E.dk j n (gt q (by intro z w; cases w)), fun j k n m q1 q2 => E.one j k n m (gt q1 (by intro z w; cases w)) (gt q2 (by intro z w; cases w)), fun j u q => E.pn j u (gt q (by intro z w; cases w)), fun j fs q => ?_, fun j k u v l' q1 q2 q3 q4 => E.oned j k u v l' (gt q1 (by intro z w; cases w)) (gt q2 (by intro z w; cases w)) q3 q4⟩, up⟩
  · by_cases ha : a = l
    · subst ha
      rw [upd_same] at q
      rw [← q]
      exact h2
    · rw [upd_ne ha] at q
      exact E.ex _ _ q
  · obtain ⟨z1, z2⟩ := E.kp a o q1 q2 q3
    refine ⟨z1, ?_⟩
    rw [upd_ne (fun z => by subst z; rw [h4] at q1; cases q1)]
    exact z2
  · obtain ⟨z1, z2⟩ := E.fF a f
    refine ⟨?_, z2⟩
    rw [upd_ne (fun z => by subst z; exact h5 f)]
    exact z1
  · by_cases hj : i = j
    · subst hj
      rw [List.getElem?_set_self hi] at q
      cases q
      exact ⟨.ref l, h1, .dct (.inl upd_same) (h6.mono up)⟩
    · rw [List.getElem?_set_ne hj] at q
      obtain ⟨v, z1, z2⟩ := E.fz j d q
      exact ⟨v, z1, z2.mono up⟩
  · obtain ⟨l', ws, z1, z2, z3, z4, z5, z6⟩ := E.ow j es (gt q (by intro z w; cases w))
    refine ⟨l', ws, z1, z2, ?_, z4, z5, z6.mono up⟩
    rw [upd_ne (fun z => by subst z; rw [h2] at z2; cases z2)]
    exact z3
  · have q' := gt q (by intro z w; cases w)
    have hij : i ≠ j := fun z => by
      subst z
      rw [List.getElem?_set_self hi] at q
      cases q
    obtain ⟨l', ws, z1, z2, z3, z4, z5, z6⟩ := E.od j fs q'
    refine ⟨l', ws, z1, z2, ?_, z4, z5, z6.mono up⟩
    rw [upd_ne (fun z : l' = l => hij (E.oned i j _ _ l h q' h1 (by rw [← z]; exact z1)))]
    exact z3
section
variable {c : Ct} {F : Fp} {ρ : List Sl} {pos apos cpos pd pl p1 p2 pt pt2 sp : Pos} {a b e e1 : Expr} {kt k2 : Nat} {sts : List Stmt} {D : SE} {Φ : PyData → List Sl → Prop}
theorem wss_freezeD (i : Nat) {es : List (PyData × PyData)} (h : ρ[i]? = some (Sl.od es)) (k : WSs c F sts (ρ.set i (Sl.fz (.dict es))) D) : WSs c F sts ρ D := fun B σ H0 H hF E Ed f => by
  obtain ⟨H1, E1, e1⟩ := E.freezeD h
  exact k B σ H1 H hF E1 Ed f
/-- x, y = {}, [] -/
theorem ws_dl (i j : Nat) {x y : Str} (h : D.nx ((ρ.set i (.od (dictD []))).set j (.fz (.list [])))) (hi : i < ρ.length := by exact of_decide_eq_true rfl) (hj : j < ρ.length := by exact of_decide_eq_true rfl) (hij : i ≠ j := by decide)
    (hN1 : c.N[i]? = some x := by rfl) (hN2 : c.N[j]? = some y := by rfl)
    (hx : c.sc.names.lookup x = some .local := by rfl) (hy : c.sc.names.lookup y = some .local := by rfl)
    (hs1 : ∀ env, starEach [.Dict [] [] pd, .List [] pl] env = (false, eval (.Dict [] [] pd) env) :: starEach [.List [] pl] env := by intro _; rfl)
    (hw : ∀ env : Env, env.scope = c.sc → swappedStores [.Tuple [.Name x p1, .Name y p2] kt pt] (.Tuple [.Dict [] [] pd, .List [] pl] k2 pt2) env = pure (some [x, y]) := by rintro ⟨⟩ rfl; rfl)
    (hs : ∀ env, swapsWithSole [.Tuple [.Name x p1, .Name y p2] kt pt] (.Tuple [.Dict [] [] pd, .List [] pl] k2 pt2) pos.line env = pure false := by intro _; rfl) :
    WS c F (.Assign [.Tuple [.Name x p1, .Name y p2] kt pt] (.Tuple [.Dict [] [] pd, .List [] pl] k2 pt2) pos) ρ D := fun B σ H0 H hF E Ed f =>
  wpS_of (fun X hX => ps_par hX.calm hX.nd (by rw [hX.N]; exact hN1) (by rw [hX.N]; exact hN2) hij (by rw [hX.sc]; exact hx) (by rw [hX.sc]; exact hy) (pa_cons pe_dnewK (pa_cons (pe_lst pa_nil) pa_nil) (hs1 _)) (hw _ hX.sc) (hs _)) (by
    intro p hp
    have nb := E.fresh hp
    have nF : ¬ B.F p := fun g => by
      obtain ⟨_, o, w⟩ := E.fF p g
      rw [hp] at w
      cases w
    have nf : H0 p = none := E.ex.free hp
    have E1 := E.junk (o := .dK []) hp
    refine ⟨(by show 0 ≤ sizeLine; decide), fun q hq => ?_⟩
    have E2 := (E1.newL hq (vs := []) (ds := []) .nil)
    have hpq : p ≠ q := fun z => by
      subst z
      rw [upd_same] at hq
      cases hq
    obtain ⟨E3, r3⟩ := E2.1.seal E2.2
    have E5 := E3.setD (l := p) (kvs := []) (es := dictD []) (i := i) (by rw [upd_ne hpq, upd_same]) (by rw [upd_ne hpq]; exact nf) nb nF .nil (E.newOd hp) hi
    have E6 := E5.set (i := j) (v := .ref q) (d := .list []) r3 (by rw [List.length_set]; exact hj)
    exact ⟨_, _, rfl, f.nx _ _ _ _ E6 h⟩)
/-- names that are cells -/
theorem ws_asgS {tg : Expr} (h : WE c F e ρ fun d ρ1 => WG c F tg d ρ1 D.nx) (hs : ∀ env, swapsWithSole [tg] e pos.line env = pure false := by intro _; rfl) (hw : ∀ env : Env, env.scope = c.sc → swappedStores [tg] e env = pure none := by rintro ⟨⟩ rfl; rfl)
    (h1 : ∀ env, (assignEach [tg] env).map (·.2) = [assign tg env] := by intro _; rfl) : WS c F (.Assign [tg] e pos) ρ D := fun B σ H0 H hF E Ed f =>
  wpS_of (fun X hX => ps_asg (peW hX) (pgW hX) (hs _) (hw _ hX.sc) (h1 _)) (h B σ H0 H hF E _ fun v d ρ1 H1 H1' E1 e1 r1 k1 => k1 B σ H1 H1' v hF E1 r1 _ fun ρ2 σ2 H2 H2' E2 e2 k2 => f.nx ρ2 σ2 H2 H2' E2 k2)
/-- x[e1] = e, x an own dict -/
theorem ws_dput (i : Nat) {x : Str} {px : Pos} (h : WE c F e ρ fun d ρ1 => WE c F e1 ρ1 fun y ρ2 => ∃ (ks : List (Key × PyData)) (k : Key), ρ2[i]? = some (.od (dictD ks)) ∧ y = kD k ∧ ks.length < 100000 ∧ D.nx (ρ2.set i (.od (dictD (putP ks k d))))) {es0 : List (PyData × PyData)} (h0 : ρ[i]? = some (.od es0)) (hN : c.N[i]? = some x := by rfl)
    (hv : Vis c.sc x := by first | exact Or.inl rfl | exact Or.inr (Or.inl rfl) | exact Or.inr (Or.inr rfl))
    (hd : (x == ("__debug__" : Str)) = false := by decide) (hcd : (x == ("__classdict__" : Str)) = false := by decide) (hsl : NoSl e1 := by intro _ _; rfl)
    (hs : ∀ env, swapsWith e (some (.Subscript (.Name x px) e1 sp)) pos.line env = pure false := by intro _; rfl) :
    WS c F (.Assign [.Subscript (.Name x px) e1 sp] e pos) ρ D := fun B σ H0 H hF E Ed f =>
  wpS_of (t := sDPut (tVar i) (wpE c e1) (wpE c e)) (fun X hX => ps_dput (hu_of hX.room) (pe_var (by rw [hX.N]; exact hN) (by rw [hX.sc]; exact hv) hd hcd) (peW hX) (peW hX) (hs _)) (by
    obtain ⟨l, kvs, h1, _⟩ := E.od i es0 h0
    refine h B σ H0 H hF E _ fun v d ρ1 H1 H1' E1 g1 r1 kk => ?_
    refine ⟨_, h1, kk B σ H1 H1' hF E1 _ fun u y ρ2 H2 H2' E2 g2 r2 ⟨ks, k, k1, k2, k3, k4⟩ => ?_⟩
    subst k2
    have := kD_kV r2
    subst this
    obtain ⟨l', kvs', w1, w2, w3, w4, w5, w6⟩ := E2.od i _ k1
    rw [h1] at w1
    cases w1
    have hl : kvs'.length < sizeLine := by
      rw [w6.len]
      unfold dictD
      rw [List.length_map]
      exact Nat.lt_of_lt_of_le k3 (by decide : 100000 ≤ sizeLine)
    exact ⟨l, _, rfl, DPut.k w2 hl, f.nx _ σ H2 _ (E2.changeD k1 h1 (w6.put (r1.mono g2))) k4⟩)
/-- d[k], a frozen dict -/
theorem we_dget (h : WE c F a ρ fun d ρ1 => WE c F b ρ1 fun y ρ2 => ∃ (ks : List (Key × PyData)) (k : Key) (z : PyData), d = .dict (dictD ks) ∧ y = kD k ∧ valP ks k = some z ∧ Φ z ρ2) (hs : NoSl b := by intro _ _; rfl) : WE c F (.Subscript a b pos) ρ Φ := fun B σ H0 H hF E Q q =>
  wpE_of (t := tDGet (wpE c a) (wpE c b)) (fun X hX => pe_dget (hu_of hX.room) (peW hX) (peW hX) hs) (h B σ H0 H hF E _ fun v d ρ1 H1 H1' E1 e1 r1 k1 => k1 B σ H1 H1' hF E1 _ fun u y ρ2 H2 H2' E2 e2 r2 ⟨ks, k, z, g1, g2, g3, g4⟩ => by
    subst g1 g2
    have := kD_kV r2
    subst this
    have r1' := r1.mono e2
    cases r1' with
    | dct hk rk =>
      obtain ⟨w, w1, w2⟩ := rk.val g3
      refine ⟨_, w, rfl, ?_, q w z ρ2 H2 H2' E2 (e1.trans e2) w2 g4⟩
      rw [← w1]
      exact .inl ⟨_, _, hk.elim (fun h => .inl (E2.ex _ _ h)) fun ⟨o, h⟩ => .inr ⟨o, E2.ex _ _ h⟩, rfl, rfl⟩)
end
end G

set_option Elab.async false
set_option linter.all false
set_option maxRecDepth 100000
set_option maxHeartbeats 1000000
/-! the sequence of a page, the hosts of its rows -/
namespace G
open PySem PySem.Spec PyProof.Rows L2
def seqLe (p : List (List Cell)) (i j : Nat) : Bool := decide (lead (p.getD i []) < lead (p.getD j []) ∨ (lead (p.getD i []) = lead (p.getD j []) ∧ i ≤ j))
/-- the rows by their numbers of blanks, those with as many by their numbers -/
def seqN (p : List (List Cell)) : List Nat := (List.range p.length).mergeSort (seqLe p)
def pD (p : List (List Cell)) (i : Nat) : PyData := .tuple [.int (lead (p.getD i []) : Int), .int (i : Int)]
theorem seqN_perm (p : List (List Cell)) : (seqN p).Perm (List.range p.length) := List.mergeSort_perm _ _
theorem seqN_len (p : List (List Cell)) : (seqN p).length = p.length := by rw [(seqN_perm p).length_eq, List.length_range]
theorem seqN_lt (p : List (List Cell)) : ∀ i ∈ seqN p, i < p.length := fun i hi => List.mem_range.mp ((seqN_perm p).mem_iff.mp hi)
theorem seqN_sorted (p : List (List Cell)) : (seqN p).Pairwise fun i j => seqLe p i j = true := List.pairwise_mergeSort (fun a b c h1 h2 => by
    unfold seqLe at *
    have h1 := of_decide_eq_true h1
    have h2 := of_decide_eq_true h2
    exact decide_eq_true (by omega)) (fun a b => by
    unfold seqLe
    rw [Bool.or_eq_true]
    by_cases h : lead (p.getD a []) < lead (p.getD b []) ∨ (lead (p.getD a []) = lead (p.getD b []) ∧ a ≤ b)
    · exact .inl (decide_eq_true h)
    · exact .inr (decide_eq_true (by omega))) _
theorem seq_sort (p : List (List Cell)) (js : List Nat) : sortD (js.map (pD p)) = (js.mergeSort (seqLe p)).map (pD p) := by
  unfold sortD
  refine (List.map_mergeSort (r := seqLe p) (s := PySem.W.dataLe false id) (f := pD p) (l := js) (fun a _ b _ => ?_)).symm
  rw [PySem.W.dataLe_eq]
  show seqLe p a b = !PySem.W.dataLt (pD p b) (pD p a)
  unfold pD seqLe
  rw [PySem.W.dataLt_ii, ← decide_not]
  exact decide_eq_decide.mpr (by omega)
theorem can_pD (p : List (List Cell)) (js : List Nat) : CanSort (js.map (pD p)) := by
  have hk : ∀ d ∈ js.map (pD p), okN 1 d := fun d hd => by
    obtain ⟨j, _, rfl⟩ := List.mem_map.mp hd
    exact okN_tup fun d hd => by
      simp only [List.mem_cons, List.mem_nil_iff, or_false] at hd
      rcases hd with rfl | rfl <;> exact okN_int _
  refine ⟨(okN_all hk).2.2, fun d hd e he => ?_, .inl fun d hd => ?_, fun d hd => Nat.le_trans (hk d hd).dp (by decide)⟩
  · obtain ⟨i, _, rfl⟩ := List.mem_map.mp hd
    obtain ⟨j, _, rfl⟩ := List.mem_map.mp he
    unfold pD
    simp [PySem.W.alike, PySem.W.alikeAll]
  · obtain ⟨i, _, rfl⟩ := List.mem_map.mp hd
    exact ⟨_, _, rfl⟩
def hostsL (p T : List (List Cell)) (hs : List Nat) (i : Nat) : List PyData := if lead (p.getD i []) = 0 then PyData.none :: natL hs else natL (hs.filter fun h => decide (lead (p.getD i []) ≤ sh (T.getD h []) (T.getD i [])))
def hostAt (p T : List (List Cell)) (a : Nat) : List PyData := hostsL p T ((seqN p).take a) ((seqN p).getD a 0)
/-! ### each row has a host -/
theorem lead_step {p : List (List Cell)} {n j : Nat} (hp : OkPage p n) (hj : j + 1 < p.length) : lead (p.getD (j + 1) []) ≤ sh ((tableOf p n).getD j []) ((tableOf p n).getD (j + 1) []) := by
  have hTl := table_len p n
  obtain ⟨m, h1, h2⟩ := hp.leads (j + 1) (lead (p.getD (j + 1) [])) (by rw [List.getElem?_map, getD_at hj]; rfl)
  have h3 := shared_prev (t := tableOf p n) (i := j + 1) (getD_at (by omega))
  rw [prev_succ (getD_at (T := tableOf p n) (i := j) (by omega)), h1] at h3
  have h3 := Option.some.inj h3
  rw [sh_comm]
  omega
theorem host_up {p : List (List Cell)} {n i b : Nat} (hp : OkPage p n) : ∀ j, j < p.length → b ≤ sh ((tableOf p n).getD j []) ((tableOf p n).getD i []) → ∃ k, k ≤ j ∧ lead (p.getD k []) ≤ b ∧ b ≤ sh ((tableOf p n).getD k []) ((tableOf p n).getD i [])
  | 0, hj, h => ⟨0, Nat.le_refl _, by have := hp.first _ (by rw [List.head?_eq_getElem?]; exact getD_at hj); omega, h⟩
  | j + 1, hj, h => by
    by_cases q : lead (p.getD (j + 1) []) ≤ b
    · exact ⟨j + 1, Nat.le_refl _, q, h⟩
    · have s := lead_step hp hj
      have s1 : b ≤ sh ((tableOf p n).getD j []) ((tableOf p n).getD (j + 1) []) := by omega
      have l1 := (sh_le ((tableOf p n).getD j []) ((tableOf p n).getD (j + 1) [])).1
      have l2 := (sh_le ((tableOf p n).getD (j + 1) []) ((tableOf p n).getD i [])).2
      have e := take_eq_sh (k := b) (a := (tableOf p n).getD j []) (r := (tableOf p n).getD i []) (by omega) (by omega) ((take_sh s1).trans (take_sh h))
      obtain ⟨k, h1, h2, h3⟩ := host_up hp j (by omega) e
      exact ⟨k, by omega, h2, h3⟩
theorem host_before {p : List (List Cell)} {n i : Nat} (hp : OkPage p n) (hi : i < p.length) (hb : 0 < lead (p.getD i [])) : ∃ k, k < i ∧ lead (p.getD k []) ≤ lead (p.getD i []) ∧ lead (p.getD i []) ≤ sh ((tableOf p n).getD k []) ((tableOf p n).getD i []) := by
  cases i with
  | zero =>
    have := hp.first _ (by rw [List.head?_eq_getElem?]; exact getD_at hi)
    omega
  | succ j =>
    obtain ⟨k, h1, h2, h3⟩ := host_up (i := j + 1) (b := lead (p.getD (j + 1) [])) hp j (by omega) (lead_step hp hi)
    exact ⟨k, by omega, h2, h3⟩
theorem seq_take {p : List (List Cell)} {a i k : Nat} (ha : (seqN p)[a]? = some i) (hk : k < i) (hi : i < p.length) (hl : lead (p.getD k []) ≤ lead (p.getD i [])) : k ∈ (seqN p).take a := by
  have mk : k ∈ seqN p := (seqN_perm p).mem_iff.mpr (List.mem_range.mpr (by omega))
  obtain ⟨c, hc⟩ := List.mem_iff_getElem?.mp mk
  have hca : c < a := by
    refine Nat.lt_of_not_le fun q => ?_
    rcases Nat.lt_or_eq_of_le q with q | q
    · obtain ⟨h1, e1⟩ := List.getElem?_eq_some_iff.mp ha
      obtain ⟨h2, e2⟩ := List.getElem?_eq_some_iff.mp hc
      have r := List.pairwise_iff_getElem.mp (seqN_sorted p) a c h1 h2 q
      rw [e1, e2] at r
      have r := of_decide_eq_true r
      omega
    · subst q
      rw [ha] at hc
      have := Option.some.inj hc
      omega
  exact List.mem_of_getElem? (by rw [List.getElem?_take_of_lt hca]; exact hc)
theorem host_pos {p : List (List Cell)} {n a : Nat} (hp : OkPage p n) (ha : a < p.length) : 0 < (hostAt p (tableOf p n) a).length := by
  have h1 : a < (seqN p).length := by rw [seqN_len]; exact ha
  have h2 := List.getElem?_eq_getElem h1
  have hi := seqN_lt p _ (List.mem_of_getElem? h2)
  have e : (seqN p).getD a 0 = (seqN p)[a] := by rw [List.getD_eq_getElem?_getD, h2]; rfl
  unfold hostAt hostsL
  rw [e]
  by_cases hb : lead (p.getD (seqN p)[a] []) = 0
  · rw [if_pos hb]
    exact Nat.succ_pos _
  · rw [if_neg hb]
    obtain ⟨k, q1, q2, q3⟩ := host_before hp hi (by omega)
    unfold natL
    rw [List.length_map]
    exact List.length_pos_of_mem (List.mem_filter.mpr ⟨seq_take h2 q1 hi q2, decide_eq_true q3⟩)
theorem host_few {p : List (List Cell)} {n a : Nat} : (hostAt p (tableOf p n) a).length ≤ p.length + 1 := by
  have h : ((seqN p).take a).length ≤ p.length := by rw [List.length_take, seqN_len]; omega
  unfold hostAt hostsL
  split
  · unfold natL
    rw [List.length_cons, List.length_map]
    omega
  · unfold natL
    rw [List.length_map]
    exact Nat.le_trans (List.length_filter_le _ _) (by omega)
def hostC (p : List (List Cell)) (n : Nat) : List Nat := (List.range p.length).map fun a => (hostAt p (tableOf p n) a).length
theorem host_sizes {p : List (List Cell)} {n : Nat} (hp : OkPage p n) : Sizes (hostC p n) := by
  have hi := hp.hi
  refine ⟨by unfold hostC; rw [List.length_map, List.length_range]; omega, fun s hs => ?_, fun s hs => ?_⟩
  · obtain ⟨a, ha, rfl⟩ := List.mem_map.mp hs
    exact host_pos hp (List.mem_range.mp ha)
  · obtain ⟨a, ha, rfl⟩ := List.mem_map.mp hs
    have := host_few (p := p) (n := n) (a := a)
    exact Nat.lt_of_le_of_lt (by omega : _ ≤ 61) (by decide)

theorem seqN_nodup (p : List (List Cell)) : (seqN p).Nodup := (seqN_perm p).nodup_iff.mpr List.nodup_range
theorem seqN_at {p : List (List Cell)} {a : Nat} (h : a < p.length) : (seqN p)[a]? = some ((seqN p).getD a 0) := by
  have h1 : a < (seqN p).length := by rw [seqN_len]; exact h
  rw [List.getD_eq_getElem?_getD, List.getElem?_eq_getElem h1]
  rfl
theorem host_mem {p T : List (List Cell)} {a : Nat} {z : PyData} (h : z ∈ hostAt p T a) : z = .none ∨ ∃ i ∈ (seqN p).take a, z = .int (i : Int) := by
  unfold hostAt hostsL at h
  split at h
  · rcases List.mem_cons.mp h with h | h
    · exact .inl h
    · unfold natL at h
      obtain ⟨i, hi, rfl⟩ := List.mem_map.mp h
      exact .inr ⟨i, hi, rfl⟩
  · unfold natL at h
    obtain ⟨i, hi, rfl⟩ := List.mem_map.mp h
    exact .inr ⟨i, (List.mem_filter.mp hi).1, rfl⟩
/-- what a page's rows have as hosts, row by row -/
structure HostsOf (p : List (List Cell)) (n : Nat) (ks : List (Key × PyData)) : Prop where
  at_ : ∀ a, a < p.length → valP ks (.inl ((seqN p).getD a 0 : Int)) = some (.list (hostAt p (tableOf p n) a))
def S_lhs (ds : List PyData) (Ψ : PyData → Prop) : Prop := ∃ (p : List (List Cell)) (n : Nat), ds = [pageD p] ∧ OkPage p n ∧ ∀ ks : List (Key × PyData), HostsOf p n ks → Ψ (.tuple [natsD (seqN p), .dict (dictD ks)])
/-- an order of the rows, and how it was drawn -/
def S_kor (n : Nat) (ds : List PyData) (Ψ : PyData → Nat → Prop) : Prop := ∃ (p : List (List Cell)) (k : Nat), ds = [pageD p] ∧ OkPage p k ∧ n + 100 < big ∧ ∀ (os : List Nat) (m : Nat), os.Perm (List.range p.length) → m ≤ n + 60 → Ψ (ordD os) m
end G

set_option Elab.async false
set_option linter.all false
set_option maxRecDepth 100000
set_option maxHeartbeats 1000000
namespace G
open PySem PySem.Spec PyProof.Rows L2
theorem En.drop {B : Bs} {ρ : List Sl} {σ : L2.St} {H0 H : Hp} (E : En B ρ σ H0 H) (i : Nat) : En B (ρ.set i .un) σ H0 H := by
  have h := (E.wiped [i]).unwiped
  have e : unset (unset ρ [i]) [i] = ρ.set i .un := List.set_set ..
  rw [e] at h
  exact h
section
variable {c : Ct} {F : Fp} {ρ ρp : List Sl} {nw : List (Nat × PyData)} {pos apos cpos : Pos} {e : Expr} {es : List Expr} {sts : List Stmt} {D : SE} {Φ : List PyData → List Sl → Prop}
/-- an own list, given away as a new one -/
theorem wl_own (i : Nat) {x : Str} {ds : List PyData} (h : ρ[i]? = some (Sl.ow ds)) (k : Φ ds (ρ.set i .un)) (hN : c.N[i]? = some x := by rfl) (hv : Vis c.sc x := by first | exact Or.inl rfl | exact Or.inr (Or.inl rfl) | exact Or.inr (Or.inr rfl))
    (hd : (x == ("__debug__" : Str)) = false := by decide) (hcd : (x == ("__classdict__" : Str)) = false := by decide) : WL c F (.Name x pos) ρ Φ := fun B σ H0 H hF E Q q =>
  wpE_of (t := tVar i) (fun X hX => pe_var (by rw [hX.N]; exact hN) (by rw [hX.sc]; exact hv) hd hcd) (by
    obtain ⟨l, vs, h1, h2, h3, h4, h5, h6⟩ := E.ow i ds h
    refine ⟨_, h1, q l vs ds _ H0 H (E.drop i) (Ex.refl _) ⟨h2, h3, h4, h5, fun j fs hj hs => ?_, h6⟩ k⟩
    by_cases hij : i = j
    · subst hij
      rw [List.getElem?_set_self ((List.getElem?_eq_some_iff.mp h).1)] at hj
      cases hj
    · rw [List.getElem?_set_ne hij] at hj
      exact hij (E.sep i j ds fs l h hj h1 hs))
theorem wl_sorted {p : Pos} (h : WE c F e ρ fun d ρ1 => ∃ ds, d = .list ds ∧ CanSort ds ∧ Φ (sortD ds) ρ1) (hm : c.mg "sorted" = none) (hg : c.sc.names.lookup ("sorted" : Str) = some NameKind.globalImplicit := by rfl) (hs : ∀ env, starEach [e] env = (false, eval e env) :: starEach [] env := by intro _; rfl)
    (hpl : ∀ env, (backTo pos (starEach [] env)).any (·.1) = false := by intro _; rfl) : WL c F (.Call (.Name "sorted" p) [e] [] pos) ρ Φ := fun B σ H0 H hF E Q q =>
  wpE_of (t := tCB (rSortD c.K) (tCons (wpE c e) tNil)) (fun X hX => by rw [← hX.K]; exact pe_callB (cr_sortedD hX.room.units) (by show X.env.scope.names.lookup _ = _; rw [hX.sc]; exact hg) (by rw [hX.mg]; exact hm) (by decide +kernel) (pa_cons (peW hX) pa_nil (hs _)) (by decide) (by decide) (hs _) (hpl _)) (by
    refine h B σ H0 H hF E _ fun v d ρ1 H1 H1' E1 e1 r1 ⟨ds, k1, k2, k3⟩ => ?_
    subst k1
    cases r1 with
    | lst g1 g2 =>
      rename_i a xs
      obtain ⟨z1, z2, z3⟩ := rpl_zip g2
      refine ⟨a, List.zip xs ds, rfl, by rw [z2]; exact SqL.of (E1.ex _ _ g1), fun b hb => ?_, by rw [z3]; exact k2.al, by rw [z3]; exact k2.so, fun b hb => ?_, fun p hp => ?_⟩
      · have hb2 : b.2 ∈ ds := by rw [← z3]; exact List.mem_map_of_mem hb
        exact ((z1 b hb).mono E1.ex).dp (plainL_mem k2.pl _ hb2)
      · exact k2.dp _ (by rw [← z3]; exact List.mem_map_of_mem hb)
      · have e : sortD ds = ((List.zip xs ds).mergeSort (PySem.W.dataLe false Prod.snd)).map (·.2) := by
          have w := List.map_mergeSort (r := PySem.W.dataLe false Prod.snd) (s := PySem.W.dataLe false id) (f := Prod.snd) (l := List.zip xs ds) (fun a _ b _ => rfl)
          have z3' : List.map Prod.snd (List.zip xs ds) = ds := z3
          rw [z3'] at w
          exact w.symm
        have rr : RpL H1 (((List.zip xs ds).mergeSort (PySem.W.dataLe false Prod.snd)).map (·.1)) (sortD ds) := by
          rw [e]
          exact rpl_pairs fun b hb => z1 b (List.mem_mergeSort.mp hb)
        obtain ⟨E2, f2⟩ := E1.newL hp rr
        exact q p _ _ ρ1 H1 _ E2 e1 f2 k3)
/-- for y in x1 + x2: y.append(s), new lists of a zone; the zone ends -/
theorem zss_forapp (i i1 i2 : Nat) {y x1 x2 s : Str} {py p1 p2 pb py2 pc pe : Pos} {js} {ds1 ds2 : List PyData} (h1 : (i1, PyData.list ds1) ∈ nw) (h2 : (i2, PyData.list ds2) ∈ nw) (hl : ∀ d ∈ ds1 ++ ds2, ∃ ys, d = .list ys ∧ ys.length ≤ 90000) (hn : ds1.length + ds2.length ≤ 1000) (h : WSs c F sts (ρ.set i .un) D) (hi : i < ρ.length := by exact of_decide_eq_true rfl)
    (hN : c.N[i]? = some y := by rfl) (hN1 : c.N[i1]? = some x1 := by rfl) (hN2 : c.N[i2]? = some x2 := by rfl) (hx : Loc c.sc y := by first | exact Or.inl rfl | exact Or.inr rfl) (hf : c.fn y = true ∨ c.sc.names.lookup y = some .local := by first | exact .inl rfl | exact .inr rfl)
    (hv : Vis c.sc y := by first | exact Or.inl rfl | exact Or.inr (Or.inl rfl) | exact Or.inr (Or.inr rfl)) (hv1 : Vis c.sc x1 := by first | exact Or.inl rfl | exact Or.inr (Or.inl rfl) | exact Or.inr (Or.inr rfl)) (hv2 : Vis c.sc x2 := by first | exact Or.inl rfl | exact Or.inr (Or.inl rfl) | exact Or.inr (Or.inr rfl))
    (hd : (y == ("__debug__" : Str)) = false := by decide) (hcd : (y == ("__classdict__" : Str)) = false := by decide) (hd1 : (x1 == ("__debug__" : Str)) = false := by decide) (hcd1 : (x1 == ("__classdict__" : Str)) = false := by decide) (hd2 : (x2 == ("__debug__" : Str)) = false := by decide) (hcd2 : (x2 == ("__classdict__" : Str)) = false := by decide)
    (hs1 : ∀ env, starEach [Expr.Constant (.str s) js pc] env = (false, eval (.Constant (.str s) js pc) env) :: starEach [] env := by exact star_cons rfl)
    (hfew : ∀ env, ((backTo cpos (starEach [Expr.Constant (.str s) js pc] env)).all (fun x => !x.1) && (backToKw cpos (keywordEach [] env)).all (fun x => x.1.isSome) && decide ([Expr.Constant (.str s) js pc].length + ([] : List Keyword).length + (if ([] : List Keyword).isEmpty then 0 else 1) < 30)) = true := by intro _; rfl)
    (hline : (apos.endLine == cpos.line) = true := by rfl) (hpl : ∀ env, (backTo cpos (starEach [] env)).any (·.1) = false := by intro _; rfl)
    (hsw : ∀ env, swapsWith (.Call (.Attribute (.Name y py2) "append" apos) [.Constant (.str s) js pc] [] cpos) none pe.line env = pure false := by intro _; rfl)
    (hfs : ∀ env x, foldedSetIterable (.BinOp (.Name x1 p1) .Add (.Name x2 p2) pb) env x = pure x := by intro _ _; rfl) :
    ZSs c F (.For (.Name y py) (.BinOp (.Name x1 p1) .Add (.Name x2 p2) pb) [.Expr (.Call (.Attribute (.Name y py2) "append" apos) [.Constant (.str s) js pc] [] cpos) pe] [] pos :: sts) ρ ρp nw D := fun B σ Hz S Hx H hF Z Ed f =>
  wpSs_of (t := tSeq (tFor (iList c.K (tOp rCat (tVar i1) (tVar i2))) (gName i) (tSeq (tDrop (tBM c.K "list" rAppend (tVar i) (tCons (tC (.str s)) tNil))) tNext)) (wpSs c sts)) (fun X hX => by
    rw [← hX.K]
    exact pss_cons (ps_for hX.own hX.calm (pi_list (pe_op op_cat (pe_var (by rw [hX.N]; exact hN1) (by rw [hX.sc]; exact hv1) hd1 hcd1) (pe_var (by rw [hX.N]; exact hN2) (by rw [hX.sc]; exact hv2) hd2 hcd2))) (pg_name hX.nd (by rw [hX.N]; exact hN) (by rw [hX.sc]; exact hx) (by rw [hX.fn, hX.sc]; exact hf))
      (pss_cons (ps_expr (pe_bm PySem.F.plainAttrs_list PySem.F.slot_list_append PySem.F.type_list_append mt_append (pe_var (by rw [hX.N]; exact hN) (by rw [hX.sc]; exact hv) hd hcd) (pa_cons pe_str pa_nil (hs1 _)) rfl (hfew _) hline (hs1 _) (hpl _)) (hsw _)) pss_nil) (hfs _)) (pssW hX)) (by
    obtain ⟨v1, g1, r1⟩ := Z.nw i1 _ h1
    obtain ⟨a1, vs1, rfl, na1, ha1, w1⟩ := r1.list
    obtain ⟨v2, g2, r2⟩ := Z.nw i2 _ h2
    obtain ⟨a2, vs2, rfl, na2, ha2, w2⟩ := r2.list
    refine ⟨_, g1, _, g2, a1, a2, vs1, vs2, rfl, rfl, Z.hi.ex _ _ ha1, Z.hi.ex _ _ ha2, Nat.le_trans (by rw [w1.length, w2.length]; exact hn) (by decide : 1000 ≤ sizeLine), fun q hq => ?_⟩
    have hlen : (vs1 ++ vs2).length ≤ 1000 := by rw [List.length_append, w1.length, w2.length]; exact hn
    have items : ∀ v ∈ vs1 ++ vs2, ∃ a ws, v = V.ref a ∧ S a = none ∧ H a = some (.lst ws) ∧ ws.length ≤ 90000 := fun v hv => by
      obtain ⟨k, hk⟩ := List.mem_iff_getElem?.mp hv
      have pick : ∃ d, d ∈ ds1 ++ ds2 ∧ Rn S Hx v d := by
        by_cases hk1 : k < vs1.length
        · rw [List.getElem?_append_left hk1] at hk
          have hd : k < ds1.length := by rw [← w1.length]; exact hk1
          obtain ⟨u, hu, ru⟩ := w1.get (List.getElem?_eq_getElem hd)
          rw [hk] at hu
          cases hu
          exact ⟨_, List.mem_append_left _ (List.getElem_mem hd), ru⟩
        · rw [List.getElem?_append_right (by omega)] at hk
          have hd : k - vs1.length < ds2.length := by rw [← w2.length]; exact (List.getElem?_eq_some_iff.mp hk).1
          obtain ⟨u, hu, ru⟩ := w2.get (List.getElem?_eq_getElem hd)
          rw [hk] at hu
          cases hu
          exact ⟨_, List.mem_append_right _ (List.getElem_mem hd), ru⟩
      obtain ⟨d, hd, rd⟩ := pick
      obtain ⟨ys, rfl, hy⟩ := hl d hd
      obtain ⟨a, ws, rfl, na, ha, rw_⟩ := rd.list
      exact ⟨a, ws, rfl, na, Z.hi.ex _ _ ha, by rw [rw_.length]; exact hy⟩
    generalize vs1 ++ vs2 = vs at hlen items
    have fo : FzO (ρ.set i .un) := Z.fo.set i (.inl rfl)
    refine ⟨q, rfl, ⟨vs, SqL.of upd_same⟩, fun k m σ' H' => m = vs.length - k ∧ k ≤ vs.length ∧ En B (ρ.set i .un) σ' Hz H' ∧ H' q = some (.lst vs) ∧ ∀ v ∈ vs, ∃ a ws, v = V.ref a ∧ S a = none ∧ H' a = some (.lst ws) ∧ ws.length ≤ 90000 + k ∧ a ≠ q,
      ⟨vs.length, by simp, Nat.zero_le _, (Z.lo.junk hq).drop i, upd_same, fun v hv => ?_⟩, ?_⟩
    · obtain ⟨a, ws, k1, k2, k3, k4⟩ := items v hv
      have ne : a ≠ q := fun z => by
        subst z
        rw [hq] at k3
        cases k3
      exact ⟨a, ws, k1, k2, by rw [upd_ne ne]; exact k3, by omega, ne⟩
    rintro k m σ' H' ⟨rfl, hk, E', hq', it⟩
    by_cases hlt : k < vs.length
    · refine .inr ⟨⟨vs, vs[k], SqL.of hq', List.getElem?_eq_getElem hlt⟩, fun σ2 H2 => En B (ρ.set i .un) σ2 Hz H2 ∧ H2 q = some (.lst vs) ∧ ∀ v ∈ vs, ∃ a ws, v = V.ref a ∧ S a = none ∧ H2 a = some (.lst ws) ∧ ws.length ≤ 90000 + (k + 1) ∧ a ≠ q, fun σ2 H2 n2 => ⟨vs.length - (k + 1), by omega, rfl, hlt, n2⟩, fun x H2 ⟨z1, z2⟩ => ?_⟩
      subst z1
      have z3 := z2 vs (SqL.of hq')
      rw [List.getElem?_eq_getElem hlt] at z3
      cases z3
      obtain ⟨a, ws, k1, k2, k3, k4, k5⟩ := it _ (List.getElem_mem hlt)
      have E2 := E'.setUn (i := i) (v := vs[k]) fo
      rw [List.set_set] at E2
      have hil : i < σ'.length := by
        rw [E'.len, List.length_set]
        exact hi
      rw [k1] at E2 ⊢
      refine ⟨_, List.getElem?_set_self hil, .inl ⟨rfl, _, SqL.of k3⟩, a, ws, .str s, rfl, rfl, k3, Nat.lt_of_lt_of_le (by omega : ws.length < 100000) (by decide : 100000 ≤ sizeLine), ?_⟩
      refine ⟨E2.trash fo (Z.sz a k2) (Z.sb a k2) (Z.sf a k2), by rw [upd_ne k5.symm]; exact hq', fun v hv => ?_⟩
      obtain ⟨b, us, l1, l2, l3, l4, l5⟩ := it v hv
      by_cases hab : b = a
      · subst hab
        exact ⟨b, _, l1, l2, upd_same, by rw [List.length_append]; simp only [List.length_cons, List.length_nil]; omega, l5⟩
      · exact ⟨b, us, l1, l2, by rw [upd_ne hab]; exact l3, by omega, l5⟩
    · have e : k = vs.length := by omega
      exact .inl ⟨⟨vs, SqL.of hq', by omega⟩, h B σ' Hz H' hF E' Ed f⟩)
end
/-! ### what repr and the law's likeness ask -/
theorem light_natA {j : Nat} (h : j < 2 ^ 20) : Light 20 (.int (j : Int)) := by
  have hw : (PyData.int (j : Int)).weight ≤ 20 := weight_int h (by decide)
  have h4 : j.log2 < 20 := log2_lt h (by decide)
  refine ⟨hw, by simp [PyData.showable]; omega, ?_⟩
  simp only [PyData.intsShort, decide_eq_true_eq]
  exact PyData.shown_int_le (by rw [Int.natAbs_natCast]; exact Nat.lt_trans h (by decide))
theorem light_ordA {os : List Nat} {L : Nat} (ho : os.Perm (List.range L)) (hL : L ≤ 60) : Light 1260 (ordD os) := by
  refine light_tup (k := 20) (m := 60) (fun d hd => ?_) (by unfold natL; rw [List.length_map, ord_len ho]; omega)
  obtain ⟨x, hx, rfl⟩ := List.mem_map.mp hd
  have := ord_lt ho x hx
  exact light_natA (by omega)
theorem okN_ordA (os : List Nat) : okN 1 (ordD os) := okN_tup fun d hd => by
  obtain ⟨x, hx, rfl⟩ := List.mem_map.mp hd
  exact okN_int _
theorem okN_upA {k n : Nat} {d : PyData} (h : okN k d) (hk : k ≤ n) : okN n d := ⟨h.pl, h.cl, Nat.le_trans h.dp hk⟩
theorem light_upA {k n : Nat} {d : PyData} (h : Light k d) (hk : k ≤ n) : Light n d := ⟨Nat.le_trans h.w hk, h.sh, h.sm⟩
theorem light_twoA {k : Nat} {a b : PyData} (ha : Light k a) (hb : Light k b) : Light ((k + 1) * 2) (.list [a, b]) := light_list (m := 2) (fun d hd => by
  simp only [List.mem_cons, List.mem_nil_iff, or_false] at hd
  rcases hd with rfl | rfl
  · exact ha
  · exact hb) (Nat.le_refl _)
theorem okN_twoA {k : Nat} {a b : PyData} (ha : okN k a) (hb : okN k b) : okN (k + 1) (.list [a, b]) := okN_list fun d hd => by
  simp only [List.mem_cons, List.mem_nil_iff, or_false] at hd
  rcases hd with rfl | rfl
  · exact ha
  · exact hb
/-- rows that may hold what means nothing -/
theorem light_rowA {r : List Cell} (h : ∀ x ∈ r, okC x) (hl : r.length ≤ 6) : Light 54 (rowD r) := light_tup (k := 8) (m := 6) (fun d hd => by
  obtain ⟨x, hx, rfl⟩ := List.mem_map.mp hd
  exact light_cell (h x hx)) (by rw [List.length_map]; exact hl)
theorem light_rowsA {rs : List (List Cell)} (h : ∀ r ∈ rs, ∀ x ∈ r, okC x) (h6 : ∀ r ∈ rs, r.length ≤ 6) (hl : rs.length ≤ 60) : Light 3300 (.list (rs.map rowD)) := light_list (k := 54) (m := 60) (fun d hd => by
  obtain ⟨r, hr, rfl⟩ := List.mem_map.mp hd
  exact light_rowA (h r hr) (h6 r hr)) (by rw [List.length_map]; exact hl)
theorem okN_rowsA {rs : List (List Cell)} (h : ∀ r ∈ rs, ∀ x ∈ r, okC x) : okN 2 (.list (rs.map rowD)) := okN_list fun d hd => by
  obtain ⟨r, hr, rfl⟩ := List.mem_map.mp hd
  exact okN_row (h r hr)
theorem light_natsA {ns : List Nat} (h : ∀ x ∈ ns, x < 2 ^ 20) (hl : ns.length ≤ 61) : Light 1281 (natsD ns) := light_list (k := 20) (m := 61) (fun d hd => by
  obtain ⟨x, hx, rfl⟩ := List.mem_map.mp hd
  exact light_natA (h x hx)) (by rw [List.length_map]; exact hl)
theorem noList_row (r : List Cell) : noList (rowD r) = true := noLists_map cellD (fun x => by cases x <;> rfl) r
end G

set_option Elab.async false
set_option linter.all false
set_option maxRecDepth 100000
set_option maxHeartbeats 1000000
/-! t[::-1], a tuple -/
namespace G
open PySem PySem.Spec PyProof.Rows L2
section
variable {prog : Program} {w : World} {A : Around} {E : Value → Shared → Prop} {s : Shared}
theorem rev_adjust (n : Nat) : Builtin.Slice.sliceAdjust none none (-1) (n : Int) = ((n : Int) - 1, -1) := by
  unfold Builtin.Slice.sliceAdjust
  have h1 : ((-1 : Int) < 0) := by omega
  simp only [h1, if_true]
theorem rev_places (n : Nat) : Builtin.Slice.slicePlaces ((n : Int) - 1) (-1) (-1) = n := by
  unfold Builtin.Slice.slicePlaces
  have h1 : ¬ ((-1 : Int) > 0) := by omega
  have h2 : (-(-1) : Int) = 1 := by omega
  simp only [h1, if_false, h2, Int.ediv_one]
  split <;> omega
theorem filterMap_on {α β : Type} {f g : α → Option β} : ∀ {l : List α}, (∀ m ∈ l, f m = g m) → l.filterMap f = l.filterMap g
  | [], _ => rfl
  | x :: l, h => by
    rw [List.filterMap_cons, List.filterMap_cons, h x List.mem_cons_self, filterMap_on fun m hm => h m (List.mem_cons_of_mem _ hm)]
theorem rev_pick (xs : Array Value) : ((List.range xs.size).filterMap fun (m : Nat) => xs[((xs.size : Int) - 1 + (m : Int) * -1).toNat]?).toArray = xs.toList.reverse.toArray := by
  have e : (List.range xs.size).filterMap (fun (m : Nat) => xs[((xs.size : Int) - 1 + (m : Int) * -1).toNat]?) = ((List.range xs.size).map fun k => xs.size - 1 - k).filterMap (xs[·]?) := by
    rw [List.filterMap_map]
    refine filterMap_on fun m hm => ?_
    have := List.mem_range.mp hm
    have h : ((xs.size : Int) - 1 + (m : Int) * -1).toNat = xs.size - 1 - m := by omega
    rw [h]
    rfl
  rw [e, PySem.W.krv_range, List.filterMap_reverse, PySem.W.krv_all]
theorem sliceApplied_rev {sl : Addr} {vl vu vs : Value} {n : Nat} {Q : Int × Int × Nat → Shared → Prop} (hs : s.heap.IsSliceOf sl vl vu vs) (pl : IsPart vl none) (pu : IsPart vu none) (ps : IsPart vs (some (-1)))
    (h : Q ((n : Int) - 1, -1, n) s) : wpAny (model prog w) A (Builtin.Slice.sliceApplied (.ref sl) (pure (n : Int))) Q E s := by
  obtain ⟨os, hos, hcs, hds⟩ := id hs
  unfold Builtin.Slice.sliceApplied Builtin.Slice.sliceFields
  refine wpAny_bind (wpAny_bind (wpAny_field hos hds (x := vl) rfl (wpAny_bind (wpAny_field hos hds (x := vu) rfl (wpAny_bind (wpAny_field hos hds (x := vs) rfl (wpAny_pure ?_)))))))
  refine wpAny_bind (HT.slicePart_ ps ?_)
  show wpAny _ _ (if ((-1 : Int) == 0) = true then _ else _) _ _ s
  rw [if_neg (by decide)]
  refine wpAny_bind (HT.slicePart_ pl (wpAny_bind (HT.slicePart_ pu (wpAny_bind (wpAny_pure ?_)))))
  show wpAny _ _ (match Builtin.Slice.sliceAdjust none none (-1) (n : Int) with | (lo, hi) => pure (lo, (-1 : Int), Builtin.Slice.slicePlaces lo hi (-1))) _ _ s
  rw [rev_adjust n]
  show wpAny _ _ (pure ((n : Int) - 1, (-1 : Int), Builtin.Slice.slicePlaces ((n : Int) - 1) (-1) (-1))) _ _ s
  rw [rev_places]
  exact wpAny_pure h
theorem getItem_tuple_rev {t sl : Addr} {items : Array Value} {vl vu vs : Value} {Q : Value → Shared → Prop} (ht : IsTup s.heap t items) (hs : s.heap.IsSliceOf sl vl vu vs) (pl : IsPart vl none) (pu : IsPart vu none) (ps : IsPart vs (some (-1)))
    (h : Q (.ref s.heap.objs.size) { s with heap := s.heap.push { cls := .type "tuple", data := .seq items.toList.reverse.toArray } })
    (hsz : items.size ≤ sizeLine) : wpAny (model prog w) A (getItem (.ref t) (.ref sl)) Q E s := by
  have htake : sizeOk (.seq items.toList.reverse.toArray) := by
    show items.toList.reverse.toArray.size ≤ sizeLine
    rw [List.size_toArray, List.length_reverse, Array.length_toList]
    exact hsz
  obtain ⟨os, hos, hcs, hds⟩ := id hs
  have hTs : s.TypeIs (.ref sl) "slice" := ⟨os, hos, hcs⟩
  unfold getItem
  try with_reducible refine wpAny_holding ?_
  first | refine wpAny_bind (wpAny_pure ?_) | skip
  refine wpAny_bind (wpAny_sequenceKey ht.typeIs (by decide) ?_)
  refine wpAny_bind (wpAny_callSpecial?_slot (name := Str.ofString "__getitem__") ht.typeIs PyProof.Rows.slot_tuple_getitem
    (wpAny_call_entry PyProof.Rows.slot_tuple_getitem ht.typeIs entry_tuple_getitem ?_ (args_tuple_getitem _ _)))
  show wpAny _ _ (Builtin.Tuple.tupleItemsOf (.ref t) >>= _) _ _ s
  refine wpAny_bind (tupleItemsOf_ ht ?_)
  refine wpAny_bind (wpAny_typeOf hTs ?_)
  rw [if_pos (by decide)]
  refine wpAny_bind (sliceApplied_rev hs pl pu ps ?_)
  have hno : ¬ ((((items.size : Int) - 1) == 0 && (-1 : Int) == 1 && items.size == items.size) = true) := by
    intro q
    rw [Bool.and_eq_true, Bool.and_eq_true] at q
    exact absurd q.1.2 (by decide)
  show wpAny _ _ (if (((items.size : Int) - 1) == 0 && (-1 : Int) == 1 && items.size == items.size) = true then _ else _) _ _ s
  rw [if_neg hno, rev_pick]
  first
    | exact wpAny_bind (m := Builtin.Tuple.tupleExact _) (wpAny_newObj_type (wpAny_pure ⟨_, rfl, wpAny_pure h⟩) htake)
    | exact wpAny_bind (m := Builtin.Tuple.tupleExact _) (wpAny_newObj_type (wpAny_bind (wpAny_pure (wpAny_pure ⟨_, rfl, wpAny_pure h⟩))) htake)
    | exact wpAny_bind (wpAny_bind (m := Builtin.Tuple.tupleExact _) (wpAny_newObj_type (wpAny_pure (wpAny_pure ⟨_, rfl, wpAny_pure h⟩)) htake))
    | exact wpAny_bind (wpAny_bind (m := Builtin.Tuple.tupleExact _) (wpAny_newObj_type (wpAny_pure ⟨_, rfl, wpAny_pure h⟩) htake))
end
section
variable {X : Cx}
def tRevT (K : PySem.W.Frag) (te : TE) : TE := fun σ H Q => te σ H fun x H1 => ∃ a xs, x = .ref a ∧ SqT K H1 a xs ∧ ∀ p, H1 p = none → Q (.ref p) (upd H1 p (.tup xs.reverse))
theorem pe_revT {e : Expr} {te : TE} {k : Nat} {p1 p2 p3 pos : Pos} (he : PE X e te) : PE X (.Subscript e (.Slice none none (some (.UnaryOp .USub (.Constant (.int 1) k p1) p2)) p3) pos) (tRevT X.K te) := by
  refine ⟨fun pins s σ H Q I h => ?_⟩
  refine Subscript_ (thn (he.run pins s σ H _ I h) fun v s1 ⟨x, H1, I1, r1, q1⟩ => ?_)
  obtain ⟨a, xs, ex, hx, q⟩ := q1
  subst ex
  cases r1
  have hst : PO X (some (.UnaryOp .USub (.Constant (.int 1) k p1) p2)) (tPart (tUn (rU fun i => .int (-i)) (tC (.int 1)))) := po_some (pe_un un_neg pe_int)
  refine wpAny_Slice (thn (po_none.run pins s1 σ H1 (fun o H2 => o = none ∧ H2 = H1) I1 ⟨rfl, rfl⟩) fun vl s2 ⟨l, H2, I2, pl, el, e2⟩ => ?_)
  subst el e2
  refine thn (po_none.run pins s2 σ H2 (fun o H3 => o = none ∧ H3 = H2) I2 ⟨rfl, rfl⟩) fun vu s3 ⟨u, H3, I3, pu, eu, e3⟩ => ?_
  subst eu e3
  refine thn (hst.run pins s3 σ H3 (fun o H4 => o = some (-1) ∧ H4 = H3) I3 ⟨1, rfl, -1, rfl, rfl, rfl⟩) fun vs s4 ⟨o, H4, I4, ps, eo, e4⟩ => ?_
  subst eo e4
  have I5 : Inv X pins σ H4 { s4 with heap := s4.heap.push { cls := .type "slice", data := .fields #[vl, vu, vs] } } := I4.kept (t' := s4.toks) fun b ob q => Heap.get?_push_of_some _ q
  obtain ⟨its, r, ht, hz⟩ := I5.tuple hx
  have hlen := r.length
  show wpAny (model X.prog X.w) X.A (subscriptTail e (.Slice none none (some (.UnaryOp .USub (.Constant (.int 1) k p1) p2)) p3) (.ref a) (.ref s4.heap.objs.size)) (EP X pins σ Q) X.xe { s4 with heap := s4.heap.push { cls := .type "slice", data := .fields #[vl, vu, vs] } }
  refine tail_any (ops := [.ref a, .ref s4.heap.objs.size]) ht.typeIs (PyProof.Rows.slot_tuple_getitem.lookup) ?_ (by with_unfolding_all rfl)
  refine getItem_tuple_rev ht (Heap.IsSliceOf.new _ vl vu vs) pl pu ps ?_ (by rw [List.size_toArray]; omega)
  refine ⟨.ref _, _, I5.laid (t' := s4.toks) (o := .tup xs.reverse) (fun b ob q => Heap.get?_push_of_some _ q) (Nat.le_refl _) ?_, rfl, q _ (I5.hok.fresh (Nat.le_refl _))⟩
  exact ⟨by rw [List.length_reverse]; exact hz, _, r.reverse, IsTup.new _ _⟩
end
end G

set_option Elab.async false
set_option linter.all false
set_option maxRecDepth 100000
set_option maxHeartbeats 1000000
namespace G
open PySem PySem.Spec PyProof.Rows L2
theorem RpL.rev {H1 : Hp} : ∀ {us : List V} {ys : List PyData}, RpL H1 us ys → RpL H1 us.reverse ys.reverse
  | _, _, .nil => .nil
  | _, _, .cons h1 h2 => by
    rw [List.reverse_cons, List.reverse_cons]
    exact h2.rev.append (.one h1)
section
variable {c : Ct} {F : Fp} {ρ : List Sl} {pos : Pos} {e : Expr} {Φ : PyData → List Sl → Prop}
theorem we_revT {k : Nat} {p1 p2 p3 : Pos} (h : WE c F e ρ fun d ρ1 => ∃ xs, d = .tuple xs ∧ Φ (.tuple xs.reverse) ρ1) : WE c F (.Subscript e (.Slice none none (some (.UnaryOp .USub (.Constant (.int 1) k p1) p2)) p3) pos) ρ Φ := fun B σ H0 H hF E Q q =>
  wpE_of (t := tRevT c.K (wpE c e)) (fun X hX => by rw [← hX.K]; exact pe_revT (peW hX)) (h B σ H0 H hF E _ fun v d ρ1 H1 H1' E1 e1 r1 ⟨xs, k0, k1⟩ => by
    subst k0
    cases r1 with
    | @tup p vs _ g1 g2 =>
      refine ⟨p, vs, rfl, SqT.of (E1.ex _ _ g1), fun l hl => ?_⟩
      have g := Grow.laid E1.ex (o := .tup vs.reverse) hl
      exact q _ _ ρ1 _ _ (E1.grow g) (e1.trans g.fz) (.tup upd_same (g2.rev.mono g.fz)) k1)
end
theorem cut_ord_to (os : List Nat) (n : Nat) : sliceD (ordD os) none (some (n : Int)) = some (ordD (os.take n)) := by
  show some (PyData.tuple (cutD (natL os) none (some (n : Int)))) = _
  rw [cutD_to]
  unfold natL
  rw [← List.map_take]
  rfl
theorem cut_ord_from (os : List Nat) (n : Nat) : sliceD (ordD os) (some (n : Int)) none = some (ordD (os.drop n)) := by
  show some (PyData.tuple (cutD (natL os) (some (n : Int)) none)) = _
  rw [cutD_from]
  unfold natL
  rw [← List.map_drop]
  rfl
theorem cat_ord {a b : List Nat} (h : a.length + b.length ≤ 100000) : addD (ordD a) (ordD b) = some (ordD (a ++ b)) := by
  unfold ordD natL
  rw [addD_tup (by rw [List.length_map, List.length_map]; exact h), List.map_append]
theorem turn_perm {os : List Nat} (n : Nat) : (os.drop n ++ os.take n).Perm os := by
  have h : (os.drop n ++ os.take n).Perm (os.take n ++ os.drop n) := List.perm_append_comm
  rw [List.take_append_drop] at h
  exact h
end G

set_option Elab.async false
set_option linter.all false
set_option maxRecDepth 100000
set_option maxHeartbeats 1000000
namespace G
open PySem PySem.Spec PyProof.Rows L2
variable {c : Ct} {F : Fp} {ρ : List Sl} {pos apos cpos : Pos} {a b e : Expr} {D : SE} {Φ : PyData → List Sl → Prop}
/-- xs.index(e), a frozen list of numbers -/
theorem we_indexF (i : Nat) {x : Str} {px : Pos} {xs0 : List Nat} (h : WE c F e ρ fun d ρ1 => ∃ (ns : List Nat) (j n : Nat), d = .int (n : Int) ∧ ρ[i]? = some (Sl.fz (.list (natL ns))) ∧ ns[j]? = some n ∧ (∀ (m z : Nat), m < j → ns[m]? = some z → z ≠ n) ∧ Φ (.int (j : Int)) ρ1) (h0 : ρ[i]? = some (Sl.fz (.list (natL xs0)))) (hN : c.N[i]? = some x := by rfl)
    (hv : Vis c.sc x := by first | exact Or.inl rfl | exact Or.inr (Or.inl rfl) | exact Or.inr (Or.inr rfl))
    (hd : (x == ("__debug__" : Str)) = false := by decide) (hcd : (x == ("__classdict__" : Str)) = false := by decide) (hs1 : ∀ env, starEach [e] env = (false, eval e env) :: starEach [] env := by exact star_cons rfl)
    (hfew : ∀ env, ((backTo cpos (starEach [e] env)).all (fun x => !x.1) && (backToKw cpos (keywordEach [] env)).all (fun x => x.1.isSome) && decide ([e].length + ([] : List Keyword).length + (if ([] : List Keyword).isEmpty then 0 else 1) < 30)) = true := by intro _; rfl)
    (hline : (apos.endLine == cpos.line) = true := by rfl) (hpl : ∀ env, (backTo cpos (starEach [] env)).any (·.1) = false := by intro _; rfl) :
    WE c F (.Call (.Attribute (.Name x px) "index" apos) [e] [] cpos) ρ Φ := fun B σ H0 H hF E Q q =>
  wpE_of (t := tBM c.K "list" (rIndex c.K) (tVar i) (tCons (wpE c e) tNil)) (fun X hX => by rw [← hX.K]; exact pe_bm PySem.F.plainAttrs_list PySem.F.slot_list_index PySem.F.type_list_index mt_index (pe_var (by rw [hX.N]; exact hN) (by rw [hX.sc]; exact hv) hd hcd) (pa_cons (peW hX) pa_nil (hs1 _)) rfl (hfew _) hline (hs1 _) (hpl _)) (by
    obtain ⟨u, h1, h2⟩ := E.fz i _ h0
    cases h2 with
    | lst g1 g2 =>
      rename_i l vs
      refine ⟨_, h1, .inl ⟨rfl, _, SqL.of (E.ex _ _ g1)⟩, ?_⟩
      refine h B σ H0 H hF E _ fun v d ρ1 H1 H1' E1 e1 r1 ⟨ns, j, n, k0, k1, k2, k3, k4⟩ => ?_
      subst k0
      cases r1
      obtain ⟨u2, z1, z2⟩ := E.fz i _ k1
      rw [h1] at z1
      cases z1
      cases z2 with
      | lst w1 w2 =>
        rw [g1] at w1
        cases w1
        have ev := natL_vals w2
        subst ev
        refine ⟨l, _, .int (n : Int), j, .int (n : Int), rfl, rfl, SqL.of (E1.ex _ _ (e1 _ _ g1)), rfl, List.all_eq_true.mpr fun z hz => ?_, by rw [List.getElem?_map, k2]; rfl, by simp [eqV], fun m z' hm hz => ?_, q _ _ ρ1 H1 H1' E1 e1 (.int _) k4⟩
        · obtain ⟨w, _, rfl⟩ := List.mem_map.mp hz
          rfl
        · rw [List.getElem?_map] at hz
          obtain ⟨y, hy, rfl⟩ := Option.map_eq_some_iff.mp hz
          have := k3 m y hm hy
          simp [eqV]
          omega)
theorem uniq_sorted {α : Type} {le : α → α → Bool} (anti : ∀ a b, le a b = true → le b a = true → a = b) : ∀ {xs ys : List α}, xs.Perm ys → xs.Pairwise (fun a b => le a b = true) → ys.Pairwise (fun a b => le a b = true) → xs = ys
  | [], ys, h, _, _ => h.nil_eq
  | x :: xs, [], h, _, _ => absurd h.length_eq (by simp)
  | x :: xs, y :: ys, h, hx, hy => by
    have hxy : x = y := by
      have m1 : y ∈ x :: xs := h.mem_iff.mpr List.mem_cons_self
      have m2 : x ∈ y :: ys := h.mem_iff.mp List.mem_cons_self
      rcases List.mem_cons.mp m1 with e | m1
      · exact e.symm
      rcases List.mem_cons.mp m2 with e | m2
      · exact e
      exact anti x y ((List.pairwise_cons.mp hx).1 y m1) ((List.pairwise_cons.mp hy).1 x m2)
    subst hxy
    rw [uniq_sorted anti (List.Perm.cons_inv h) (List.pairwise_cons.mp hx).2 (List.pairwise_cons.mp hy).2]
theorem seqN_is {p : List (List Cell)} {l : List Nat} (h : l.Perm (List.range p.length)) (hs : l.Pairwise (fun i j => seqLe p i j = true)) : seqN p = l :=
  uniq_sorted (fun a b h1 h2 => by
    unfold seqLe at h1 h2
    have h1 := of_decide_eq_true h1
    have h2 := of_decide_eq_true h2
    omega) ((seqN_perm p).trans h.symm) (seqN_sorted p) hs
end G

set_option Elab.async false
set_option linter.all false
set_option maxRecDepth 100000
set_option maxHeartbeats 2000000
/-! zip of three, each a list or a tuple -/
namespace G
open PySem PySem.Spec PyProof.Rows L2
def It3 (j k l : Bool) (K : PySem.W.Frag) (a b c : Addr) (xs ys zs : List V) : It :=
  ⟨fun i H => SqX j K H a xs ∧ SqX k K H b ys ∧ SqX l K H c zs ∧ i < xs.length ∧ i < ys.length ∧ i < zs.length, fun i H v H' => ∃ T x y z, v = .ref T ∧ H T = none ∧ H' = upd H T (.tup [x, y, z]) ∧ xs[i]? = some x ∧ ys[i]? = some y ∧ zs[i]? = some z,
    fun i H => SqX j K H a xs ∧ SqX k K H b ys ∧ SqX l K H c zs ∧ i ≤ xs.length ∧ i ≤ ys.length ∧ i ≤ zs.length ∧ (i = xs.length ∨ i = ys.length ∨ i = zs.length)⟩
theorem turn3 {P : Program} {w : World} {K : PySem.W.Frag} {elts : List Expr} {kk : Nat} {tpos : Pos} {j k l : Bool} {a b c z TI TO i1 i2 i3 : Addr} {xs ys zs : List V} (S : ZipSep3 z TI TO i1 i2 i3 [i1, a] [i2, b] [i3, c]) :
    Turn P w K (.Tuple elts kk tpos) (It3 j k l K a b c xs ys zs) [z, TI, TO, i1, i2, i3] z (fun i h => IsZip h z TI TO .none ∧ IsTupOf3 h TI (.ref i1) (.ref i2) (.ref i3) ∧ (∃ x y u, IsTupOf3 h TO x y u) ∧ ItX j h i1 a i ∧ ItX k h i2 b i ∧ ItX l h i3 c i) where
  mem := List.mem_cons_self
  obj := fun i h ⟨hz, hTI, ⟨x, y, u, hTO⟩, h1, h2, h3⟩ c hc => by
    simp only [List.mem_cons, List.not_mem_nil, or_false] at hc
    rcases hc with e | e | e | e | e | e <;> subst e
    · exact ⟨_, hz, fun v q => nomatch q⟩
    · exact ⟨_, hTI, fun v q => nomatch q⟩
    · exact ⟨_, hTO, fun v q => nomatch q⟩
    · exact h1.live
    · exact h2.live
    · exact h3.live
  keep := fun i h h' ⟨hz, hTI, ⟨x, y, u, hTO⟩, h1, h2, h3⟩ hk =>
    ⟨hk z (by simp) _ hz, hk TI (by simp) _ hTI, ⟨x, y, u, hk TO (by simp) _ hTO⟩, h1.same fun o q => hk i1 (by simp) o q, h2.same fun o q => hk i2 (by simp) o q, h3.same fun o q => hk i3 (by simp) o q⟩
  item := fun X hP hw hK hc i pins s σ H E I hf ⟨hz, hTI, ⟨x0, y0, u0, hTO⟩, h1, h2, h3⟩ ⟨q1, q2, q3, l1, l2, l3⟩ => by
    subst hP hw hK
    obtain ⟨us, r1, p1⟩ := seqX I q1
    obtain ⟨vs, r2, p2⟩ := seqX I q2
    obtain ⟨ws, r3, p3⟩ := seqX I q3
    have zl : z < s.heap.objs.size := Heap.lt_size hz
    have n1 : a ≠ i1 := neX h1 p1
    have n2 : b ≠ i2 := neX h2 p2
    have n3 : c ≠ i3 := neX h3 p3
    have hn : X.A.in1.handled = none := I.ok.hd hc
    refine wpAny_pyNext_zipD3_item S (drawsX j hn i1 a n1 us.toArray) (drawsX k hn i2 b n2 vs.toArray) (drawsX l hn i3 c n3 ws.toArray) hz hTI hTO ⟨h1, p1⟩ ⟨h2, p2⟩ ⟨h3, p3⟩ (by rw [List.size_toArray, ← r1.length]; exact l1) (by rw [List.size_toArray, ← r2.length]; exact l2) (by rw [List.size_toArray, ← r3.length]; exact l3) ?_
    intro u v t h' tk hu hv ht z' TO' st1 st2 st3 hT hsz hk
    refine ⟨_, rfl, wpAny_letOwnedTupleGo_zip (s := { s with heap := h', toks := tk }) z' fun h'' z'' sb => ?_⟩
    obtain ⟨x, hx, rx⟩ : ∃ x, xs[i]? = some x ∧ RelV x u := by
      obtain ⟨u', g1, g2⟩ := r1.get (List.getElem?_eq_getElem l1)
      have g3 : us[i]? = some u := by simpa using hu
      rw [g1] at g3; cases g3
      exact ⟨_, List.getElem?_eq_getElem l1, g2⟩
    obtain ⟨y, hy, ry⟩ : ∃ y, ys[i]? = some y ∧ RelV y v := by
      obtain ⟨u', g1, g2⟩ := r2.get (List.getElem?_eq_getElem l2)
      have g3 : vs[i]? = some v := by simpa using hv
      rw [g1] at g3; cases g3
      exact ⟨_, List.getElem?_eq_getElem l2, g2⟩
    obtain ⟨w', hw', rw'⟩ : ∃ y, zs[i]? = some y ∧ RelV y t := by
      obtain ⟨u', g1, g2⟩ := r3.get (List.getElem?_eq_getElem l3)
      have g3 : ws[i]? = some t := by simpa using ht
      rw [g1] at g3; cases g3
      exact ⟨_, List.getElem?_eq_getElem l3, g2⟩
    have hT2 : h''.get? s.heap.objs.size = some { cls := .type "tuple", data := .seq #[u, v, t] } := (sb.2 _ (Nat.ne_of_gt zl)).trans hT
    have new : ObjOk X.prog X.w (upd H s.heap.objs.size (.tup [x, y, w'])) h'' s.heap.objs.size (.tup [x, y, w']) := ⟨by show 3 ≤ sizeLine; decide, [u, v, t], .cons rx (.cons ry (.cons rw' .nil)), ⟨_, hT2, rfl, _, rfl⟩⟩
    have keep : ∀ c o, c ∉ [z, TI, TO, i1, i2, i3] → s.heap.get? c = some o → h''.get? c = some o := fun c o hm q => by
      simp only [List.mem_cons, List.not_mem_nil, or_false, not_or] at hm
      exact (sb.2 c hm.1).trans (hk c o hm.1 hm.2.2.1 hm.2.2.2.1 hm.2.2.2.2.1 hm.2.2.2.2.2 q)
    have I1 : Inv X pins σ (upd H s.heap.objs.size (.tup [x, y, w'])) { s with heap := h'', toks := tk } := I.turnedNew (ch := [z, TI, TO, i1, i2, i3]) keep hf (Nat.le_refl _) new
    refine ⟨.ref s.heap.objs.size, _, I1, rfl, ⟨_, x, y, w', rfl, I.hok.fresh (Nat.le_refl _), rfl, hx, hy, hw'⟩, ⟨z'', (sb.2 _ S.TIz).trans (hk _ _ S.TIz S.TITO S.TIi1 S.TIi2 S.TIi3 hTI), ⟨u, v, t, (sb.2 _ S.TOz).trans TO'⟩, st1.1.same fun o q => (sb.2 _ (Ne.symm S.zi1)).trans q, st2.1.same fun o q => (sb.2 _ (Ne.symm S.zi2)).trans q, st3.1.same fun o q => (sb.2 _ (Ne.symm S.zi3)).trans q⟩, fun c hcm => ?_⟩
    have lt : c < s.heap.objs.size := by
      simp only [List.mem_cons, List.not_mem_nil, or_false] at hcm
      rcases hcm with e | e | e | e | e | e <;> subst e
      · exact zl
      · exact Heap.lt_size hTI
      · exact Heap.lt_size hTO
      · obtain ⟨o, e, _⟩ := h1.live; exact Heap.lt_size e
      · obtain ⟨o, e, _⟩ := h2.live; exact Heap.lt_size e
      · obtain ⟨o, e, _⟩ := h3.live; exact Heap.lt_size e
    rw [upd_ne (Nat.ne_of_lt lt)]
    exact (hf c hcm).1
  done := fun X hP hw hK hc i pins s σ H E I hf ⟨hz, hTI, ⟨x0, y0, u0, hTO⟩, h1, h2, h3⟩ ⟨q1, q2, q3, l1, l2, l3, hend⟩ => by
    subst hP hw hK
    obtain ⟨us, r1, p1⟩ := seqX I q1
    obtain ⟨vs, r2, p2⟩ := seqX I q2
    obtain ⟨ws, r3, p3⟩ := seqX I q3
    have n1 : a ≠ i1 := neX h1 p1
    have n2 : b ≠ i2 := neX h2 p2
    have n3 : c ≠ i3 := neX h3 p3
    have hn : X.A.in1.handled = none := I.ok.hd hc
    refine wpAny_pyNext_zipD3_end S (drawsX j hn i1 a n1 us.toArray) (drawsX k hn i2 b n2 vs.toArray) (drawsX l hn i3 c n3 ws.toArray) hz hTI hTO ⟨h1, p1⟩ ⟨h2, p2⟩ ⟨h3, p3⟩ (by rw [List.size_toArray, ← r1.length]; exact l1) (by rw [List.size_toArray, ← r2.length]; exact l2) (by rw [List.size_toArray, ← r3.length]; exact l3) (by rw [List.size_toArray, List.size_toArray, List.size_toArray, ← r1.length, ← r2.length, ← r3.length]; exact hend) ?_
    exact fun h' tk hk => ⟨rfl, I.turnedL (ch := [z, TI, TO, i1, i2, i3]) (fun c o hm q => by
      simp only [List.mem_cons, List.not_mem_nil, or_false, not_or] at hm
      exact hk c o hm.1 hm.2.2.1 hm.2.2.2.1 hm.2.2.2.2.1 hm.2.2.2.2.2 q) hf⟩
  self := fun A i s Q E st h => wpAny_pyIter_zip st.1 h
def iZip3 (j k l : Bool) (K : PySem.W.Frag) (ta : TA) : TI := fun σ H R => ta σ H fun vs H1 => ∃ a b c xs ys zs, vs = [.ref a, .ref b, .ref c] ∧ SqX j K H1 a xs ∧ SqX k K H1 b ys ∧ SqX l K H1 c zs ∧ R (It3 j k l K a b c xs ys zs) H1
theorem pi_zip3 (j k l : Bool) {X : Cx} {e e2 e3 : Expr} {ta : TA} {p pos tpos : Pos} {elts : List Expr} {kk : Nat} (hg : Gl X "zip") (hm : X.mg "zip" = none) (ha : PA X [e, e2, e3] ta)
    (hs : starEach [e, e2, e3] X.env = (false, eval e X.env) :: starEach [e2, e3] X.env := by rfl) (hpl : (backTo pos (starEach [e2, e3] X.env)).any (·.1) = false := by rfl) :
    PI X (.Tuple elts kk tpos) (.Call (.Name "zip" p) [e, e2, e3] [] pos) (iZip3 j k l X.K ta) := by
  refine ⟨fun pins s σ H R I hw => ?_⟩
  refine Call_ (ld_blt I hg hm PyProof.Rows.boot_zip (PyProof.Rows.callWith_type1 (thn (ha.run pos pins s σ H _ I hw) fun us s1 ⟨vs, H1, I1, rr, a, b, c, xs, ys, zs, ev, q1, q2, q3, q⟩ => ?_) hs hpl))
  subst ev
  cases rr with
  | cons ra rr =>
    cases rr with
    | cons rb rr =>
      cases rr with
      | cons rc rr =>
        cases rr
        cases ra
        cases rb
        cases rc
        obtain ⟨u1, r1, p1⟩ := seqX I1 q1
        obtain ⟨u2, r2, p2⟩ := seqX I1 q2
        obtain ⟨u3, r3, p3⟩ := seqX I1 q3
        have beg : ∀ (k : Bool) (l : Addr) (its : Array Value), ∃ o : Obj, Begins (.ref l) o (fun h => IsX k h l its) ∧ ∀ (h : Heap) (it : Addr), h.get? it = some o → ItX k h it l 0 := fun k l its => by
          cases k with
          | true => exact ⟨_, begins_tuple l its, fun h it e => ⟨_, e, rfl, rfl⟩⟩
          | false => exact ⟨_, begins_list l its, fun h it e => ⟨_, e, rfl, rfl⟩⟩
        obtain ⟨o1, b1, g1⟩ := beg j a u1.toArray
        obtain ⟨o2, b2, g2⟩ := beg k b u2.toArray
        obtain ⟨o3, b3, g3⟩ := beg l c u3.toArray
        have lt : ∀ {k : Bool} {l : Addr} {its : Array Value}, IsX k s1.heap l its → l < s1.heap.objs.size := fun {k l its} x => by
          cases k with
          | true => obtain ⟨o, e, _⟩ := (show s1.heap.IsTuple l its from x); exact Heap.lt_size e
          | false => obtain ⟨o, e, _⟩ := (show s1.heap.IsList l its from x); exact Heap.lt_size e
        have la := lt p1
        have lb := lt p2
        have lc := lt p3
        refine zip_begins3 b1 b2 b3 p1 p2 p3 fun h' hz hTI hTO h1 h2 h3 hsz hk => wpAny_pyIter_zip hz ?_
        have I2 : Inv X pins σ H1 { s1 with heap := h' } := I1.kept (t' := s1.toks) hk
        refine ⟨s1.heap.objs.size + 5, [s1.heap.objs.size + 5, s1.heap.objs.size + 3, s1.heap.objs.size + 4, s1.heap.objs.size, s1.heap.objs.size + 1, s1.heap.objs.size + 2], _, _, H1, rfl, I2, turn3 ?_, ⟨hz, hTI, ⟨_, _, _, hTO⟩, g1 _ _ h1, g2 _ _ h2, g3 _ _ h3⟩, fun c hc => ?_, q⟩
        · exact zip_sep3 (fun c hc => by rw [List.mem_singleton] at hc; rw [hc]; exact la) (fun c hc => by rw [List.mem_singleton] at hc; rw [hc]; exact lb) (fun c hc => by rw [List.mem_singleton] at hc; rw [hc]; exact lc)
        · have le : s1.heap.objs.size ≤ c := by
            simp only [List.mem_cons, List.not_mem_nil, or_false] at hc
            rcases hc with e | e | e | e | e | e <;> rw [e]
            · exact Nat.le_add_right _ _
            · exact Nat.le_add_right _ _
            · exact Nat.le_add_right _ _
            · exact Nat.le_refl _
            · exact Nat.le_add_right _ _
            · exact Nat.le_add_right _ _
          exact I1.fpOk le (I1.hok.fresh le)
end G

set_option Elab.async false
set_option linter.all false
set_option maxRecDepth 100000
set_option maxHeartbeats 1000000
/-! zip of three; which orders keep a page -/
namespace G
open PySem PySem.Spec PyProof.Rows L2
theorem permP_ok {p : List (List Cell)} {n : Nat} {os : List Nat} (h : OkRows p n) (ho : os.Perm (List.range p.length)) : OkRows (permT p os) n := by
  have hl := ord_len ho
  have lo := h.lo
  have hi := h.hi
  have e : (permT p os).length = os.length := List.length_map ..
  have mem : ∀ r ∈ permT p os, r ∈ p := fun r hr => by
    obtain ⟨i, hm, rfl⟩ := List.mem_map.mp hr
    exact List.mem_of_getElem? (getD_at (ord_lt ho i hm))
  exact ⟨by omega, by omega, fun r hr => h.row r (mem r hr), fun r hr => h.wide r (mem r hr)⟩
def readL (p : List (List Cell)) (n : Nat) (os : List Nat) : List (List Cell) := readR (blankRow n) (permT p os)
def wrongZ (T : List (List Cell)) (zs : List (Nat × List Cell)) : List Nat := (zs.filter fun z => !decide (z.2 = T.getD z.1 [])).map (·.1)
/-- the rows that mean something else in an order, ascending -/
def wrongN (p : List (List Cell)) (n : Nat) (os : List Nat) : List Nat := (wrongZ (tableOf p n) (List.zip os (readL p n os))).mergeSort fun a b => decide (a ≤ b)
theorem nat_sort (js : List Nat) : sortD (natL js) = natL (js.mergeSort fun a b => decide (a ≤ b)) := by
  unfold sortD natL
  refine (List.map_mergeSort (r := fun a b : Nat => decide (a ≤ b)) (s := PySem.W.dataLe false id) (f := fun (n : Nat) => PyData.int (n : Int)) (l := js) (fun a _ b _ => ?_)).symm
  rw [PySem.W.dataLe_eq]
  show decide (a ≤ b) = !PySem.W.dataLt (.int (b : Int)) (.int (a : Int))
  rw [PySem.W.dataLt_int, ← decide_not]
  exact decide_eq_decide.mpr (by omega)
theorem can_natL (js : List Nat) : CanSort (natL js) := by
  have hk : ∀ d ∈ natL js, okN 0 d := fun d hd => by
    obtain ⟨j, _, rfl⟩ := List.mem_map.mp hd
    exact okN_int _
  refine ⟨(okN_all hk).2.2, fun d hd e he => ?_, .inr fun d hd => ?_, fun d hd => Nat.le_trans (hk d hd).dp (by decide)⟩
  · obtain ⟨i, _, rfl⟩ := List.mem_map.mp hd
    obtain ⟨j, _, rfl⟩ := List.mem_map.mp he
    simp [PySem.W.alike]
  · obtain ⟨i, _, rfl⟩ := List.mem_map.mp hd
    exact ⟨(fun h => nomatch h), fun _ h => nomatch h⟩
theorem readL_cells {p : List (List Cell)} {n : Nat} {os : List Nat} (hp : OkPage p n) (ho : os.Perm (List.range p.length)) : (∀ r ∈ readL p n os, ∀ x ∈ r, okC x) ∧ (readL p n os).length = os.length ∧ ∀ r ∈ readL p n os, r.length ≤ 6 := by
  have okP := permP_ok hp.toOkRows ho
  have hc := okP.cols
  have hPl : (permT p os).length = os.length := List.length_map ..
  refine ⟨readR_cells (fun x hx s e => by
    unfold blankRow at hx
    rw [List.eq_of_mem_replicate hx] at e
    cases e) okP.cells, by unfold readL; rw [readR_length, hPl], fun r hr => ?_⟩
  have hw : ∀ {q : List (List Cell)} {ab : List Cell}, ab.length = n → (∀ r ∈ q, r.length = n) → ∀ r ∈ readR ab q, r.length = n := by
    intro q
    induction q with
    | nil => intro ab _ _ r hr; cases hr
    | cons s q ih =>
      intro ab h1 h2 r hr
      rcases List.mem_cons.mp hr with h | h
      · rw [h]
        exact readOne_len h1 (h2 s List.mem_cons_self)
      · exact ih (readOne_len h1 (h2 s List.mem_cons_self)) (fun r hr => h2 r (List.mem_cons_of_mem _ hr)) r h
  rw [hw (by simp [blankRow]) okP.wide r hr]
  exact hc.2
theorem wrong_mem {p : List (List Cell)} {n : Nat} {os : List Nat} : (wrongN p n os).length ≤ os.length ∧ ∀ x ∈ wrongN p n os, x ∈ os := by
  unfold wrongN wrongZ
  refine ⟨?_, fun x hx => ?_⟩
  · rw [(List.mergeSort_perm _ _).length_eq, List.length_map]
    refine Nat.le_trans (List.length_filter_le _ _) ?_
    rw [List.length_zip]
    omega
  · have hx := (List.mergeSort_perm _ _).mem_iff.mp hx
    obtain ⟨z, hz, rfl⟩ := List.mem_map.mp hx
    exact (List.of_mem_zip (List.mem_filter.mp hz).1).1

def tripsD : List PyData → List PyData → List PyData → List PyData
  | x :: xs, y :: ys, z :: zs => .tuple [x, y, z] :: tripsD xs ys zs
  | _, _, _ => []
theorem tripsD_get : ∀ {xs ys zs : List PyData} {i : Nat} {d : PyData}, (tripsD xs ys zs)[i]? = some d → ∃ x y z, xs[i]? = some x ∧ ys[i]? = some y ∧ zs[i]? = some z ∧ d = .tuple [x, y, z]
  | [], _, _, _, _, h => by cases h
  | _ :: _, [], _, _, _, h => by cases h
  | _ :: _, _ :: _, [], _, _, h => by cases h
  | x :: xs, y :: ys, z :: zs, 0, _, h => by cases h; exact ⟨x, y, z, rfl, rfl, rfl, rfl⟩
  | x :: xs, y :: ys, z :: zs, i + 1, _, h => tripsD_get (xs := xs) (ys := ys) (zs := zs) (i := i) h
theorem tripsD_len : ∀ (xs ys zs : List PyData), (tripsD xs ys zs).length = min xs.length (min ys.length zs.length)
  | [], _, _ => by simp [tripsD]
  | _ :: _, [], _ => by simp [tripsD]
  | _ :: _, _ :: _, [] => by simp [tripsD]
  | x :: xs, y :: ys, z :: zs => by
    show (tripsD xs ys zs).length + 1 = _
    rw [tripsD_len xs ys zs]
    simp only [List.length_cons]
    omega
theorem Src.zip3 {j k l : Bool} {K : PySem.W.Frag} {Z : Hp} {p q r : Addr} {vs us ws : List V} {xs ys zs : List PyData} (h1 : ∀ H', Ex Z H' → SqX j K H' p vs) (h2 : ∀ H', Ex Z H' → SqX k K H' q us) (h3 : ∀ H', Ex Z H' → SqX l K H' r ws) (r1 : RpL Z vs xs) (r2 : RpL Z us ys) (r3 : RpL Z ws zs) : Src (It3 j k l K p q r vs us ws) (tripsD xs ys zs) Z := fun i H0 H e0 e => by
  have s1 := h1 H (e0.trans e)
  have s2 := h2 H (e0.trans e)
  have s3 := h3 H (e0.trans e)
  refine ⟨fun d hd => ?_, fun hi => ?_⟩
  · obtain ⟨x, y, z, g1, g2, g3, rfl⟩ := tripsD_get hd
    obtain ⟨v, hv, rv⟩ := r1.get g1
    obtain ⟨u, hu, ru⟩ := r2.get g2
    obtain ⟨t, ht, rt⟩ := r3.get g3
    refine ⟨⟨s1, s2, s3, (List.getElem?_eq_some_iff.mp hv).1, (List.getElem?_eq_some_iff.mp hu).1, (List.getElem?_eq_some_iff.mp ht).1⟩, fun z H' ⟨T, x', y', z', e1, e2, e3, e4, e5, e6⟩ => ?_⟩
    rw [hv] at e4
    rw [hu] at e5
    rw [ht] at e6
    cases e4
    cases e5
    cases e6
    subst e1 e3
    have g := Grow.laid e (o := .tup [v, u, t]) e2
    exact ⟨_, g, .tup upd_same (.cons ((rv.mono e0).mono g.fz) (.cons ((ru.mono e0).mono g.fz) (.one ((rt.mono e0).mono g.fz))))⟩
  · rw [tripsD_len] at hi
    have l1 := r1.length
    have l2 := r2.length
    have l3 := r3.length
    exact ⟨s1, s2, s3, by omega, by omega, by omega, by omega⟩
section
variable {c : Ct} {F : Fp} {ρ : List Sl} {pos : Pos} {a b e : Expr}
theorem wi_zip3 (j k l : Bool) {ts : List Expr} {n : Nat} {tpos p : Pos} {Ξ : List PyData → List Sl → Prop} (h : WE c F a ρ fun d ρ1 => WE c F b ρ1 fun y ρ2 => WE c F e ρ2 fun z ρ3 => ∃ xs ys zs, isTup d = some j ∧ itemsD d = some xs ∧ isTup y = some k ∧ itemsD y = some ys ∧ isTup z = some l ∧ itemsD z = some zs ∧ Ξ (tripsD xs ys zs) ρ3) (hm : c.mg "zip" = none)
    (hg : c.sc.names.lookup ("zip" : Str) = some NameKind.globalImplicit := by rfl) (hs : ∀ env, starEach [a, b, e] env = (false, eval a env) :: starEach [b, e] env := by intro _; rfl) (hs2 : ∀ env, starEach [b, e] env = (false, eval b env) :: starEach [e] env := by intro _; rfl) (hs3 : ∀ env, starEach [e] env = (false, eval e env) :: starEach [] env := by intro _; rfl)
    (hpl : ∀ env, (backTo pos (starEach [b, e] env)).any (·.1) = false := by intro _; rfl) : WI c F (.Tuple ts n tpos) (.Call (.Name "zip" p) [a, b, e] [] pos) ρ Ξ := fun B σ H0 H hF E R q =>
  wpI_of (t := iZip3 j k l c.K (tCons (wpE c a) (tCons (wpE c b) (tCons (wpE c e) tNil)))) (fun X hX => by rw [← hX.K]; exact pi_zip3 j k l (by show X.env.scope.names.lookup _ = _; rw [hX.sc]; exact hg) (by rw [hX.mg]; exact hm) (pa_cons (peW hX) (pa_cons (peW hX) (pa_cons (peW hX) pa_nil (hs3 _)) (hs2 _)) (hs _)) (hs _) (hpl _))
    (h B σ H0 H hF E _ fun v d ρ1 H1 H1' E1 e1 r1 k1 => k1 B σ H1 H1' hF E1 _ fun u y ρ2 H2 H2' E2 e2 r2 k2 => k2 B σ H2 H2' hF E2 _ fun t z ρ3 H3 H3' E3 e3 r3 ⟨xs, ys, zs, g1, g2, g3, g4, g5, g6, k3⟩ => by
    obtain ⟨p1, vs, rfl, s1, rl1, st1⟩ := rp_seq (K := c.K) ((r1.mono e2).mono e3) g1 g2
    obtain ⟨p2, us, rfl, s2, rl2, st2⟩ := rp_seq (K := c.K) (r2.mono e3) g3 g4
    obtain ⟨p3, ws, rfl, s3, rl3, st3⟩ := rp_seq (K := c.K) r3 g5 g6
    exact ⟨p1, p2, p3, vs, us, ws, rfl, st1 _ E3.ex, st2 _ E3.ex, st3 _ E3.ex, q _ _ ρ3 H3 H3' E3 ((e1.trans e2).trans e3) (Src.zip3 st1 st2 st3 rl1 rl2 rl3) k3⟩)
end
/-! ### orders that keep a page -/
def folR (p T : List (List Cell)) (a b : Nat) : Prop := lead (p.getD b []) ≤ sh (T.getD a []) (T.getD b [])
def chn (R : Nat → Nat → Prop) : Nat → List Nat → Prop
  | _, [] => True
  | a, b :: os => R a b ∧ chn R b os
def Kept (p T : List (List Cell)) : List Nat → Prop
  | [] => True
  | a :: os => lead (p.getD a []) = 0 ∧ chn (folR p T) a os
theorem chn_ins {R : Nat → Nat → Prop} {r h : Nat} (hr : R h r) : ∀ {os : List Nat} {a c : Nat}, chn R a os → (a :: os)[c]? = some h → (∀ b ∈ os, R h b → R r b) → chn R a (os.take c ++ [r] ++ os.drop c)
  | os, a, 0, hc, ha, hb => by
    cases ha
    cases os with
    | nil => exact ⟨hr, trivial⟩
    | cons b os => exact ⟨hr, hb b List.mem_cons_self hc.1, hc.2⟩
  | [], a, c + 1, hc, ha, hb => by cases ha
  | b :: os, a, c + 1, hc, ha, hb => ⟨hc.1, chn_ins hr hc.2 ha (fun x hx => hb x (List.mem_cons_of_mem _ hx))⟩
def insAt (os : List Nat) (host : PyData) (r : Nat) : List Nat := match host with
  | .int h => os.take (os.idxOf h.toNat + 1) ++ [r] ++ os.drop (os.idxOf h.toNat + 1)
  | _ => r :: os
theorem ins_mid (os : List Nat) (r c : Nat) : (os.take c ++ [r] ++ os.drop c).Perm (r :: os) := by
  have h1 : (os.take c ++ [r] ++ os.drop c).Perm (r :: (os.take c ++ os.drop c)) := by
    rw [List.append_assoc]
    exact List.perm_middle
  rw [List.take_append_drop] at h1
  exact h1
theorem ins_perm (os : List Nat) (z : PyData) (r : Nat) : (insAt os z r).Perm (r :: os) := by
  unfold insAt
  split
  · exact ins_mid _ _ _
  · exact List.Perm.refl _
theorem host_R {p T : List (List Cell)} {a : Nat} {z : PyData} (h : z ∈ hostAt p T a) : (z = .none ∧ lead (p.getD ((seqN p).getD a 0) []) = 0) ∨ ∃ i ∈ (seqN p).take a, z = .int (i : Int) ∧ folR p T i ((seqN p).getD a 0) := by
  unfold hostAt hostsL at h
  split at h
  · rename_i h0
    rcases List.mem_cons.mp h with h | h
    · exact .inl ⟨h, h0⟩
    · unfold natL at h
      obtain ⟨i, hi, rfl⟩ := List.mem_map.mp h
      exact .inr ⟨i, hi, rfl, by unfold folR; omega⟩
  · unfold natL at h
    obtain ⟨i, hi, rfl⟩ := List.mem_map.mp h
    obtain ⟨h1, h2⟩ := List.mem_filter.mp hi
    exact .inr ⟨i, h1, rfl, by unfold folR; exact of_decide_eq_true h2⟩
theorem fol_step {p T : List (List Cell)} {h r b : Nat} (h1 : folR p T h r) (h2 : folR p T h b) (hle : lead (p.getD b []) ≤ lead (p.getD r [])) : folR p T r b := by
  unfold folR at *
  have l1 := (sh_le (T.getD h []) (T.getD r [])).2
  have l2 := (sh_le (T.getD h []) (T.getD b [])).2
  exact take_eq_sh (by omega) (by omega) ((take_sh (by omega : lead (p.getD b []) ≤ sh (T.getD h []) (T.getD r []))).symm.trans (take_sh h2))
theorem ins_kept {p T : List (List Cell)} {os : List Nat} {r : Nat} {z : PyData} (hk : Kept p T os) (hle : ∀ b ∈ os, lead (p.getD b []) ≤ lead (p.getD r [])) (hz : (z = .none ∧ lead (p.getD r []) = 0) ∨ ∃ i ∈ os, z = .int ((i : Nat) : Int) ∧ folR p T i r) : Kept p T (insAt os z r) := by
  rcases hz with ⟨rfl, h0⟩ | ⟨i, hi, rfl, hf⟩
  · show Kept p T (r :: os)
    refine ⟨h0, ?_⟩
    cases os with
    | nil => trivial
    | cons a os =>
      refine ⟨?_, hk.2⟩
      unfold folR
      have := hk.1
      omega
  · cases os with
    | nil => cases hi
    | cons a os =>
      have hx : (a :: os)[(a :: os).idxOf i]? = some i := by
        rw [List.getElem?_eq_getElem (List.idxOf_lt_length_of_mem hi), List.getElem_idxOf]
      have e : insAt (a :: os) (.int (i : Int)) r = a :: (os.take ((a :: os).idxOf i) ++ [r] ++ os.drop ((a :: os).idxOf i)) := by
        show (a :: os).take ((a :: os).idxOf ((i : Int).toNat) + 1) ++ [r] ++ (a :: os).drop ((a :: os).idxOf ((i : Int).toNat) + 1) = _
        rw [Int.toNat_natCast]
        rfl
      rw [e]
      exact ⟨hk.1, chn_ins hf hk.2 hx fun b hb h2 => fol_step hf h2 (hle b (List.mem_cons_of_mem _ hb))⟩
theorem chn_within {p T : List (List Cell)} : ∀ (os : List Nat) (a : Nat), Within (ownB p os) (shFrom (T.getD a []) (permT T os)) ↔ chn (folR p T) a os
  | [], _ => Iff.rfl
  | b :: os, a => and_congr Iff.rfl (chn_within os b)
theorem kept_within {p T : List (List Cell)} : ∀ os : List Nat, Within (ownB p os) (sharedN (permT T os)) ↔ Kept p T os
  | [] => Iff.rfl
  | a :: os => and_congr (by show lead (p.getD a []) ≤ 0 ↔ _; omega) (chn_within os a)
theorem lead_blank : ∀ r : List Cell, blankRow (lead r) ++ r.drop (lead r) = r
  | [] => rfl
  | none :: r => by
    show none :: (blankRow (lead r) ++ r.drop (lead r)) = _
    rw [lead_blank r]
  | some _ :: r => rfl
theorem read_back {ab r : List Cell} (h : lead r ≤ ab.length) : pRow (lead r) (readOne ab r) = r := by
  unfold pRow readOne
  rw [List.drop_append, List.drop_of_length_le (by rw [List.length_take]; omega), List.length_take, Nat.min_eq_left h, Nat.sub_self, List.drop_zero, List.nil_append]
  exact lead_blank r
theorem readR_at {n : Nat} : ∀ {p : List (List Cell)} {ab : List Cell}, ab.length = n → (∀ r ∈ p, r.length = n) → ∀ (i : Nat) (r : List Cell), p[i]? = some r → ∃ t, (readR ab p)[i]? = some t ∧ pRow (lead r) t = r
  | [], _, _, _, _, _, h => by cases h
  | s :: p, ab, h1, h2, 0, r, h => by
    cases h
    exact ⟨_, rfl, read_back (by have := lead_le s; have := h2 s List.mem_cons_self; omega)⟩
  | s :: p, ab, h1, h2, i + 1, r, h => readR_at (readOne_len h1 (h2 s List.mem_cons_self)) (fun r hr => h2 r (List.mem_cons_of_mem _ hr)) i r h
theorem perm_with {p : List (List Cell)} {n : Nat} {os : List Nat} (hp : OkPage p n) (hl : ∀ i ∈ os, i < p.length) : permT p os = withB (permT (tableOf p n) os) (ownB p os) := by
  induction os with
  | nil => rfl
  | cons a os ih =>
    have hal := hl a List.mem_cons_self
    obtain ⟨t, h1, h2⟩ := readR_at (ab := blankRow n) (by simp [blankRow]) hp.wide a _ (getD_at hal)
    have e : (tableOf p n).getD a [] = t := by rw [List.getD_eq_getElem?_getD]; unfold tableOf; rw [h1]; rfl
    show p.getD a [] :: permT p os = pRow (lead (p.getD a [])) ((tableOf p n).getD a []) :: withB (permT (tableOf p n) os) (ownB p os)
    rw [e, h2, ih fun i hi => hl i (List.mem_cons_of_mem _ hi)]
theorem read_iff {p : List (List Cell)} {n : Nat} {os : List Nat} (hp : OkPage p n) (ho : os.Perm (List.range p.length)) : readL p n os = permT (tableOf p n) os ↔ Kept p (tableOf p n) os := by
  have wy : Ways p n os := ⟨hp, ho⟩
  have okT : OkTable (permT (tableOf p n) os) n := permT_ok hp.table (by rw [table_len]; exact ho)
  unfold readL
  rw [perm_with hp (ord_lt ho), ← kept_within]
  exact okT.stays (by rw [own_len]; exact (wy.len).symm) wy.own_le
theorem wrongZ_nil {T : List (List Cell)} : ∀ {os : List Nat} {rd : List (List Cell)}, rd.length = os.length → (wrongZ T (List.zip os rd) = [] ↔ rd = permT T os)
  | [], [], _ => ⟨fun _ => rfl, fun _ => rfl⟩
  | [], _ :: _, h => absurd h (by simp)
  | _ :: _, [], h => absurd h (by simp)
  | a :: os, r :: rd, h => by
    have ih := wrongZ_nil (T := T) (os := os) (rd := rd) (by simpa using h)
    unfold wrongZ at ih ⊢
    rw [List.zip_cons_cons, List.filter_cons]
    by_cases e : r = T.getD a []
    · rw [if_neg (by show ¬ (!decide (r = T.getD a [])) = true; rw [decide_eq_true e]; decide)]
      rw [ih]
      constructor
      · intro q
        rw [q, e]
        rfl
      · intro q
        exact (List.cons.inj q).2
    · rw [if_pos (by show (!decide (r = T.getD a [])) = true; rw [decide_eq_false e]; rfl)]
      constructor
      · intro q
        cases q
      · intro q
        exact absurd (List.cons.inj q).1 e
theorem wrong_iff {p : List (List Cell)} {n : Nat} {os : List Nat} (hp : OkPage p n) (ho : os.Perm (List.range p.length)) : wrongN p n os = [] ↔ Kept p (tableOf p n) os := by
  rw [← read_iff hp ho, ← wrongZ_nil (readL_cells hp ho).2.1]
  unfold wrongN
  constructor
  · intro h
    have := (List.mergeSort_perm (wrongZ (tableOf p n) (List.zip os (readL p n os))) (fun a b => decide (a ≤ b))).symm
    rw [h] at this
    exact this.eq_nil
  · intro h
    have := List.mergeSort_perm (wrongZ (tableOf p n) (List.zip os (readL p n os))) (fun a b => decide (a ≤ b))
    rw [h] at this ⊢
    exact this.eq_nil
/-! ### the order with a number -/
def ordO (p T : List (List Cell)) (ds : List Nat) (i : Nat) : List Nat := (List.range i).foldl (fun os a => insAt os ((hostAt p T a).getD (ds.getD a 0) .none) ((seqN p).getD a 0)) []
theorem ordO_succ (p T : List (List Cell)) (ds : List Nat) (i : Nat) : ordO p T ds (i + 1) = insAt (ordO p T ds i) ((hostAt p T i).getD (ds.getD i 0) .none) ((seqN p).getD i 0) := by
  unfold ordO
  rw [List.range_succ, List.foldl_append]
  rfl
theorem seq_le {p : List (List Cell)} {i b : Nat} (hi : i < p.length) (hb : b ∈ (seqN p).take i) : lead (p.getD b []) ≤ lead (p.getD ((seqN p).getD i 0) []) := by
  obtain ⟨c, hc⟩ := List.mem_iff_getElem?.mp hb
  have hci : c < i := by have := (List.getElem?_eq_some_iff.mp hc).1; rw [List.length_take] at this; omega
  rw [List.getElem?_take_of_lt hci] at hc
  obtain ⟨q1, q2⟩ := List.getElem?_eq_some_iff.mp hc
  obtain ⟨q3, q4⟩ := List.getElem?_eq_some_iff.mp (seqN_at hi)
  have := List.pairwise_iff_getElem.mp (seqN_sorted p) c i q1 q3 hci
  rw [q2, q4] at this
  unfold seqLe at this
  have := of_decide_eq_true this
  omega
theorem ordO_ok {p T : List (List Cell)} {ds : List Nat} : ∀ i, i ≤ p.length → (∀ a, a < i → ds.getD a 0 < (hostAt p T a).length) → (ordO p T ds i).Perm ((seqN p).take i) ∧ Kept p T (ordO p T ds i)
  | 0, _, _ => ⟨List.Perm.refl _, trivial⟩
  | i + 1, hi, hd => by
    obtain ⟨h1, h2⟩ := ordO_ok i (by omega) fun a ha => hd a (by omega)
    rw [ordO_succ]
    have tk : (seqN p).take (i + 1) = (seqN p).take i ++ [(seqN p).getD i 0] := take_snoc (seqN_at hi)
    have hdi := hd i (by omega)
    have hm : (hostAt p T i).getD (ds.getD i 0) .none ∈ hostAt p T i := by
      rw [List.getD_eq_getElem?_getD, List.getElem?_eq_getElem hdi]
      exact List.getElem_mem hdi
    refine ⟨?_, ins_kept h2 (fun b hb => seq_le (by omega) (h1.mem_iff.mp hb)) ?_⟩
    · rw [tk]
      exact ((ins_perm _ _ _).trans (List.Perm.cons _ h1)).trans (List.perm_append_singleton _ _).symm
    · rcases host_R hm with h | ⟨j, hj, h3, h4⟩
      · exact .inl h
      · exact .inr ⟨j, h1.mem_iff.mpr hj, h3, h4⟩
def nthO (p : List (List Cell)) (n j : Nat) : List Nat := ordO p (tableOf p n) (nth j (hostC p n)) p.length
theorem nth_digit {p : List (List Cell)} {n j a : Nat} (hp : OkPage p n) (ha : a < p.length) : (nth j (hostC p n)).getD a 0 < (hostAt p (tableOf p n) a).length := by
  have hl : (hostC p n)[a]? = some (hostAt p (tableOf p n) a).length := by
    unfold hostC
    rw [List.getElem?_map, List.getElem?_range ha]
    rfl
  have h2 : a < (nth j (hostC p n)).length := by rw [nth_length]; exact (List.getElem?_eq_some_iff.mp hl).1
  have h3 : (nth j (hostC p n))[a]? = some ((nth j (hostC p n)).getD a 0) := by rw [List.getD_eq_getElem?_getD, List.getElem?_eq_getElem h2]; rfl
  exact nth_lt (host_sizes hp).pos a _ _ h3 hl
theorem nthO_ok {p : List (List Cell)} {n : Nat} (hp : OkPage p n) (j : Nat) : (nthO p n j).Perm (List.range p.length) ∧ Kept p (tableOf p n) (nthO p n j) := by
  obtain ⟨h1, h2⟩ := ordO_ok (p := p) (T := tableOf p n) (ds := nth j (hostC p n)) p.length (Nat.le_refl _) fun a ha => nth_digit hp ha
  rw [List.take_of_length_le (by rw [seqN_len]; exact Nat.le_refl _)] at h1
  exact ⟨h1.trans (seqN_perm p), h2⟩
end G

set_option Elab.async false
set_option linter.all false
set_option maxRecDepth 100000
set_option maxHeartbeats 1000000
namespace G
open PySem PySem.Spec PyProof.Rows L2
def rIndexT (K : PySem.W.Frag) : V → List V → Hp → VK → Prop := fun x xs H Q => ∃ (a : Addr) (ys : List V) (y : V) (j : Nat) (z : V), x = V.ref a ∧ xs = [y] ∧ SqT K H a ys ∧ flatV y = true ∧ ys.all flatV = true ∧ ys[j]? = some z ∧ eqV z y = true ∧
  (∀ (m : Nat) (z' : V), m < j → ys[m]? = some z' → eqV z' y = false) ∧ Q (.int (j : Nat)) H
theorem mt_indexT {X : Cx} : MtR X "tuple.index" (rIndexT X.K) := by
  intro pins s σ H x xs v us Q I rx rxs h
  obtain ⟨a, ys, y, j, z, rfl, rfl, hs, fy, fys, hz, hzj, hno, q⟩ := h
  cases rx
  cases rxs with
  | cons ry rt =>
    rename_i uy ut
    cases rt
    obtain ⟨its, rv, ⟨⟨cls, dd, data, sl⟩, ho, hc, n, hd⟩, hlen⟩ := I.tuple hs
    simp only at hc hd
    subst hc hd
    obtain ⟨u, hu, ru⟩ := rv.get hz
    obtain ⟨hjl, hje⟩ := List.getElem?_eq_some_iff.mp hu
    have hvl := rv.length
    have hj : j < its.toArray.size := by simpa using hjl
    refine call_meets PySem.F.slot_tuple_index ⟨_, ho, rfl⟩ PySem.F.entry_tuple_index (PySem.F.args_tuple_index_2 _ _)
      (TI.tuple_indexAt a its.toArray n dd sl uy (eqU y) j hj ?_ ?_) ⟨ho, fun u' hu' => mem_eqAt ry fy rv fys u' (by simpa using hu'), ?_⟩
    · have e1 : its.toArray[j] = u := by simpa using hje
      rw [e1, eqU_of ru (flat_at fys hz)]
      exact hzj
    · intro m hm hmj
      have hml : m < its.length := by simpa using hm
      have hmy : m < ys.length := by omega
      have hy' : ys[m]? = some ys[m] := List.getElem?_eq_getElem hmy
      obtain ⟨u2, hu2, ru2⟩ := rv.get hy'
      obtain ⟨_, hme⟩ := List.getElem?_eq_some_iff.mp hu2
      have e1 : its.toArray[m] = u2 := by simpa using hme
      rw [e1, eqU_of ru2 (flat_at fys hy')]
      exact hno m _ hmj hy'
    · exact ⟨.int (j : Nat), H, I.tok _, ⟨_, rfl⟩, q⟩
theorem eqv_bool (a b : Bool) : PyData.eqv (.bool a) (.bool b) = decide (a = b) := by cases a <;> cases b <;> rfl
theorem okD_bool (b : Bool) : okD (.bool b) := (Ok0.bool b).ok
theorem eqv_rowsL (a b : List (List Cell)) : PyData.eqv (.list (a.map rowD)) (.list (b.map rowD)) = decide (a = b) := by
  rw [eqv_list]
  exact eqvAll_map rowD eqv_row a b
end G

set_option Elab.async false
set_option linter.all false
set_option maxRecDepth 100000
set_option maxHeartbeats 1000000
/-! calls with a default, by position and by name; x is True -/
namespace G
open PySem PySem.Spec PyProof.Rows L2
/-- a def whose last parameters have defaults -/
def CalD (P : Program) (w : World) (K : PySem.W.Frag) (mg : Str → Option Value) (base : Heap) (k : Nat) (x : Str) (ds : List PyData) (sp : Sp) : Prop :=
  ∃ (f : Addr) (fd : FuncData) (ps : List Str) (us : List Value) (vs : List V), FnOk P w K mg base CX0 k f fd ps sp ∧ mg x = some (.ref f) ∧ PySem.W.keepIn K (.ref f) = true ∧ Binds K fd ps us ∧ Vals vs us ∧ ∀ H : Hp, RpL H vs ds
/-- .. called with n values by position and some by name, which stand behind them -/
def CalM (P : Program) (w : World) (K : PySem.W.Frag) (mg : Str → Option Value) (base : Heap) (k : Nat) (x : Str) (n : Nat) (ks : List Str) (sp : Sp) : Prop :=
  ∃ (f : Addr) (fd : FuncData) (ps : List Str), FnOk P w K mg base CX0 k f fd ps sp ∧ mg x = some (.ref f) ∧ PySem.W.keepIn K (.ref f) = true ∧ KBn K fd ps n ks (fun us ws => us ++ ws) (fun vs zs => vs ++ zs)
section
variable {c : Ct} {F : Fp} {ρ : List Sl} {pos apos cpos : Pos} {a b e e2 e3 : Expr} {es : List Expr} {D : SE} {Φ : PyData → List Sl → Prop} {Ψ : Bool → List Sl → Prop}
theorem we_callDf {S : List PyData → (PyData → Prop) → Prop} {k : Nat} {x : Str} {p : Pos} {dd : List PyData} (f : CalD c.P c.w c.K c.mg c.base k x dd (PF S)) (h : WA c F (e :: es) ρ fun ds ρ1 => S (ds ++ dd) fun d => Φ d ρ1) (hk : k ≤ c.k := by exact of_decide_eq_true rfl) (hg : c.sc.names.lookup x = some NameKind.globalImplicit := by rfl)
    (hst : ∀ env, starEach (e :: es) env = (false, eval e env) :: starEach es env := by intro _; rfl) (hpl : ∀ env, (backTo pos (starEach es env)).any (·.1) = false := by intro _; rfl) (hdb : (x == ("__debug__" : Str)) = false := by decide) :
    WE c F (.Call (.Name x p) (e :: es) [] pos) ρ Φ := fun B σ H0 H hF E Q q => by
  obtain ⟨fa, fd, ps, us, vs, G, hm, kp, hb, hv, hr⟩ := f
  refine wpE_of (t := tCall (PF S) vs E0 (wpA c (e :: es))) (fun X hX => pe_call (fd := fd) (ps := ps) (CX := CX0) (k := k) ?_ (hX.room.mono hk) ?_ (by rw [hX.mg]; exact hm) (by rw [hX.K]; exact kp) (by rw [hX.K]; exact hb) hv pass0 (paW hX) hdb (hst _) (hpl _)) ?_
  · rw [hX.P, hX.w, hX.K, hX.mg, hX.base]
    exact G
  · show X.env.scope.names.lookup x = _
    rw [hX.sc]
    exact hg
  · refine h B σ H0 H hF E _ fun ws ds ρ1 H1 H1' E1 e1 r1 k1 => ⟨H1, ds ++ dd, _, E1.ex, r1.append (hr H1), k1, fun v d H2 H2' g r2 k2 => ?_⟩
    exact q v d ρ1 H2 H2' (E1.grow g) (e1.trans g.fz) r2 k2
theorem we_callM1 {S : List PyData → (PyData → Prop) → Prop} {k n : Nat} {x ka : Str} {p kp1 : Pos} (f : CalM c.P c.w c.K c.mg c.base k x n [ka] (PF S)) (h : WA c F (e :: es) ρ fun ds ρ1 => ds.length = n ∧ WE c F e2 ρ1 fun y ρ2 => S (ds ++ [y]) fun z => Φ z ρ2) (hk : k ≤ c.k := by exact of_decide_eq_true rfl) (hg : c.sc.names.lookup x = some NameKind.globalImplicit := by rfl)
    (hall : ∀ env, (backToKw pos (keywordEach [⟨some ka, e2, kp1⟩] env)).all (·.1.isSome) = true := by intro _; rfl) (hks : ∀ env, (backToKw pos (keywordEach [⟨some ka, e2, kp1⟩] env)).filterMap (·.1) = [ka] := by intro _; rfl)
    (hst : ∀ env, starEach (e :: es) env = (false, eval e env) :: starEach es env := by intro _; rfl) (hpl : ∀ env, ((backTo pos (starEach (e :: es) env)).any (·.1) || (backToKw pos (keywordEach [⟨some ka, e2, kp1⟩] env)).any (·.1.isNone)) = false := by intro _; rfl) (hdb : (x == ("__debug__" : Str)) = false := by decide) :
    WE c F (.Call (.Name x p) (e :: es) [⟨some ka, e2, kp1⟩] pos) ρ Φ := fun B σ H0 H hF E Q q => by
  obtain ⟨fa, fd, ps, G, hm, kp, hb⟩ := f
  refine wpE_of (t := tCallN n 1 (PF S) (fun vs zs => vs ++ zs) E0 (wpA c (e :: es)) (tCons (wpE c e2) tNil)) (fun X hX => pe_callN (fd := fd) (ps := ps) (CX := CX0) (k := k) (ks := [ka]) ?_ (hX.room.mono hk) ?_ (by rw [hX.mg]; exact hm) (by rw [hX.K]; exact kp) (by rw [hX.K]; exact hb) pass0 (paW hX) (pk_cons (peW hX) pk_nil) (hall _) (hks _) hdb (hst _) (hpl _)) ?_
  · rw [hX.P, hX.w, hX.K, hX.mg, hX.base]
    exact G
  · show X.env.scope.names.lookup x = _
    rw [hX.sc]
    exact hg
  · refine h B σ H0 H hF E _ fun ws ds ρ1 H1 H1' E1 e1 r1 ⟨hl, k0⟩ => k0 B σ H1 H1' hF E1 _ fun u y ρ2 H2 H2' E2 e2 r2 k1 => ?_
    exact ⟨r1.length.trans hl, rfl, H2, ds ++ [y], _, E2.ex, (r1.mono e2).append (.one r2), k1, fun v d H3 H3' g r3 k2 => q v d ρ2 H3 H3' (E2.grow g) ((e1.trans e2).trans g.fz) r3 k2⟩
theorem we_callM2 {S : List PyData → (PyData → Prop) → Prop} {k n : Nat} {x ka kb : Str} {p kp1 kp2 : Pos} (f : CalM c.P c.w c.K c.mg c.base k x n [ka, kb] (PF S)) (h : WA c F (e :: es) ρ fun ds ρ1 => ds.length = n ∧ WE c F e2 ρ1 fun y ρ2 => WE c F e3 ρ2 fun t ρ3 => S (ds ++ [y, t]) fun z => Φ z ρ3) (hk : k ≤ c.k := by exact of_decide_eq_true rfl) (hg : c.sc.names.lookup x = some NameKind.globalImplicit := by rfl)
    (hall : ∀ env, (backToKw pos (keywordEach [⟨some ka, e2, kp1⟩, ⟨some kb, e3, kp2⟩] env)).all (·.1.isSome) = true := by intro _; rfl) (hks : ∀ env, (backToKw pos (keywordEach [⟨some ka, e2, kp1⟩, ⟨some kb, e3, kp2⟩] env)).filterMap (·.1) = [ka, kb] := by intro _; rfl)
    (hst : ∀ env, starEach (e :: es) env = (false, eval e env) :: starEach es env := by intro _; rfl) (hpl : ∀ env, ((backTo pos (starEach (e :: es) env)).any (·.1) || (backToKw pos (keywordEach [⟨some ka, e2, kp1⟩, ⟨some kb, e3, kp2⟩] env)).any (·.1.isNone)) = false := by intro _; rfl) (hdb : (x == ("__debug__" : Str)) = false := by decide) :
    WE c F (.Call (.Name x p) (e :: es) [⟨some ka, e2, kp1⟩, ⟨some kb, e3, kp2⟩] pos) ρ Φ := fun B σ H0 H hF E Q q => by
  obtain ⟨fa, fd, ps, G, hm, kp, hb⟩ := f
  refine wpE_of (t := tCallN n 2 (PF S) (fun vs zs => vs ++ zs) E0 (wpA c (e :: es)) (tCons (wpE c e2) (tCons (wpE c e3) tNil))) (fun X hX => pe_callN (fd := fd) (ps := ps) (CX := CX0) (k := k) (ks := [ka, kb]) ?_ (hX.room.mono hk) ?_ (by rw [hX.mg]; exact hm) (by rw [hX.K]; exact kp) (by rw [hX.K]; exact hb) pass0 (paW hX) (pk_cons (peW hX) (pk_cons (peW hX) pk_nil)) (hall _) (hks _) hdb (hst _) (hpl _)) ?_
  · rw [hX.P, hX.w, hX.K, hX.mg, hX.base]
    exact G
  · show X.env.scope.names.lookup x = _
    rw [hX.sc]
    exact hg
  · refine h B σ H0 H hF E _ fun ws ds ρ1 H1 H1' E1 e1 r1 ⟨hl, k0⟩ => k0 B σ H1 H1' hF E1 _ fun u y ρ2 H2 H2' E2 e2 r2 k1 => k1 B σ H2 H2' hF E2 _ fun u3 y3 ρ3 H3 H3' E3 e3 r3 k2 => ?_
    exact ⟨r1.length.trans hl, rfl, H3, ds ++ [y, y3], _, E3.ex, ((r1.mono e2).mono e3).append (.cons (r2.mono e3) (.one r3)), k2, fun v d H4 H4' g r4 k3 => q v d ρ3 H4 H4' (E3.grow g) (((e1.trans e2).trans e3).trans g.fz) r4 k3⟩
theorem we_callK3 {S : List PyData → (PyData → Prop) → Prop} {k : Nat} {x ka kb kc : Str} {p kp1 kp2 kp3 : Pos} (ord : {α : Type} → List α → List α) (f : CalK c.P c.w c.K c.mg c.base k x [ka, kb, kc] ord (PF S)) (ho : ∀ {H : Hp} {vs : List V} {ds : List PyData}, RpL H vs ds → vs.length = 3 → RpL H (ord vs) (ord ds)) (h : WE c F e ρ fun d ρ1 => WE c F e2 ρ1 fun y ρ2 => WE c F e3 ρ2 fun t ρ3 => S (ord [d, y, t]) fun z => Φ z ρ3) (hk : k ≤ c.k := by exact of_decide_eq_true rfl) (hg : c.sc.names.lookup x = some NameKind.globalImplicit := by rfl)
    (hall : ∀ env, (backToKw pos (keywordEach [⟨some ka, e, kp1⟩, ⟨some kb, e2, kp2⟩, ⟨some kc, e3, kp3⟩] env)).all (·.1.isSome) = true := by intro _; rfl) (hks : ∀ env, (backToKw pos (keywordEach [⟨some ka, e, kp1⟩, ⟨some kb, e2, kp2⟩, ⟨some kc, e3, kp3⟩] env)).filterMap (·.1) = [ka, kb, kc] := by intro _; rfl)
    (hpl : ∀ env, ((backTo pos (starEach [] env)).any (·.1) || (backToKw pos (keywordEach [⟨some ka, e, kp1⟩, ⟨some kb, e2, kp2⟩, ⟨some kc, e3, kp3⟩] env)).any (·.1.isNone)) = false := by intro _; rfl) (hdb : (x == ("__debug__" : Str)) = false := by decide) :
    WE c F (.Call (.Name x p) [] [⟨some ka, e, kp1⟩, ⟨some kb, e2, kp2⟩, ⟨some kc, e3, kp3⟩] pos) ρ Φ := fun B σ H0 H hF E Q q => by
  obtain ⟨fa, fd, ps, G, hm, kp', hb⟩ := f
  refine wpE_of (t := fun σ H Q => tCons (wpE c e) (tCons (wpE c e2) (tCons (wpE c e3) tNil)) σ H fun zs H2 => PF S (ord zs) H2 Q E0) (fun X hX => peK_call (fd := fd) (ps := ps) (k := k) (ks := [ka, kb, kc]) (ord := ord) ?_ (hX.room.mono hk) ?_ (by rw [hX.mg]; exact hm) (by rw [hX.K]; exact kp') (by rw [hX.K]; exact hb) (pk_cons (peW hX) (pk_cons (peW hX) (pk_cons (peW hX) pk_nil))) (hall _) (hks _) hdb (hpl _)) ?_
  · rw [hX.P, hX.w, hX.K, hX.mg, hX.base]
    exact G
  · show X.env.scope.names.lookup x = _
    rw [hX.sc]
    exact hg
  · refine h B σ H0 H hF E _ fun v d ρ1 H1 H1' E1 e1 r1 k0 => k0 B σ H1 H1' hF E1 _ fun u y ρ2 H2 H2' E2 e2 r2 k1 => k1 B σ H2 H2' hF E2 _ fun u3 y3 ρ3 H3 H3' E3 e3 r3 k2 => ?_
    exact ⟨H3, ord [d, y, y3], _, E3.ex, ho (.cons ((r1.mono e2).mono e3) (.cons (r2.mono e3) (.one r3))) rfl, k2, fun v d H4 H4' g r4 k3 => q v d ρ3 H4 H4' (E3.grow g) (((e1.trans e2).trans e3).trans g.fz) r4 k3⟩
theorem wc_isB {t : Bool} {j p'} (h : WE c F a ρ fun d ρ1 => ∃ b : Bool, d = .bool b ∧ Φ (.bool (decide (b = t))) ρ1) : WC c F .Is a (.Constant (.bool t) j p') ρ Φ :=
  ⟨_, (fun X hX => op_is_bl), (h.imp fun d ρ1 ⟨b, e, k⟩ => we_bool (fun H0 H x u ex rx ru Q qq => by
    subst e
    cases rx
    cases ru
    exact ⟨b, t, rfl, rfl, qq _ _ H0 H (Grow.refl ex) (.bl _) k⟩))⟩
theorem wc_notB {t : Bool} {j p'} (h : WE c F a ρ fun d ρ1 => ∃ b : Bool, d = .bool b ∧ Φ (.bool (!decide (b = t))) ρ1) : WC c F .IsNot a (.Constant (.bool t) j p') ρ Φ :=
  ⟨_, (fun X hX => op_isnot_bl), (h.imp fun d ρ1 ⟨b, e, k⟩ => we_bool (fun H0 H x u ex rx ru Q qq => by
    subst e
    cases rx
    cases ru
    exact ⟨b, t, rfl, rfl, qq _ _ H0 H (Grow.refl ex) (.bl _) k⟩))⟩
end
section
variable {K : PySem.W.Frag} {x qual : Str} {st : Stmt} {f : Addr} {fd : FuncData}
theorem kbn_of {ps : List Str} (n : Nat) (ks : List Str) (Fu : Fun K x qual st f fd) (h : ∀ (kV doc pm : Value) (an : Option Addr) (cdv ct : Value) (us ws : List Value), us.length = n → ws.length = ks.length → bindArgs (PySem.W.fnOf x qual (defArgs st) (defBody st) (defScope st) .none kV doc pm an cdv ct) ⟨us, ks.zip ws⟩ = pure (ps.zip (us ++ ws))) : KBn K fd ps n ks (fun us ws => us ++ ws) (fun vs zs => vs ++ zs) := by
  obtain ⟨oc, od, kV, doc, pm, an, cdv, ct, osl, rfl, lk, hcd⟩ := Fu.ex
  exact ⟨fun s us ws _ h1 h2 => .of_eq (h kV doc pm an cdv ct us ws h1 h2), fun r1 r2 => r1.append r2⟩
theorem byName3 {p q r : Str} (Fu : Fun K x qual st f fd) (h : ∀ (kV doc pm : Value) (an : Option Addr) (cdv ct u v w : Value), bindArgs (PySem.W.fnOf x qual (defArgs st) (defBody st) (defScope st) .none kV doc pm an cdv ct) ⟨[], [(q, u), (p, v), (r, w)]⟩ = pure [(p, v), (q, u), (r, w)]) : ByName K fd [p, q, r] [q, p, r] (fun xs => (xs.take 2).reverse ++ xs.drop 2) := by
  obtain ⟨oc, od, kV, doc, pm, an, cdv, ct, osl, rfl, lk, hcd⟩ := Fu.ex
  have rev : ∀ {vs : List V} {us : List Value}, Vals vs us → Vals vs.reverse us.reverse := by
    intro vs us r
    induction r with
    | nil => exact .nil
    | cons a b ih =>
      rw [List.reverse_cons, List.reverse_cons]
      exact ih.append (.cons a .nil)
  refine ⟨fun s ws _ hl => ?_, fun r1 => (rev (r1.take 2)).append (r1.drop 2)⟩
  match ws, hl with
  | [u, v, w], _ => exact .of_eq (h kV doc pm an cdv ct u v w)
  | [], hl => cases hl
  | [_], hl => cases hl
  | [_, _], hl => cases hl
  | a :: b :: c :: d :: e, hl =>
    simp only [List.length_append, List.length_reverse, List.length_take, List.length_drop, List.length_cons, List.length_nil] at hl
    omega
theorem swap3 {H : Hp} {vs : List V} {ds : List PyData} (r : RpL H vs ds) (_ : vs.length = 3) : RpL H ((vs.take 2).reverse ++ vs.drop 2) ((ds.take 2).reverse ++ ds.drop 2) := (r.take 2).rev.append (r.drop 2)
end
end G

set_option Elab.async false
set_option linter.all false
set_option maxRecDepth 100000
set_option maxHeartbeats 1000000
/-! rows sorted by a column -/
namespace G
open PySem PySem.Spec PyProof.Rows L2
def cellAt (p : List (List Cell)) (col i : Nat) : Cell := (p.getD i []).getD col none
def keyAt (p : List (List Cell)) (col i : Nat) : List Nat := ((cellAt p col i).getD Str.empty).cps.toList
/-- by the cells, equal ones by their numbers -/
def leC (p : List (List Cell)) (col i j : Nat) : Bool := !decide (keyAt p col j < keyAt p col i) && (!decide (keyAt p col i = keyAt p col j) || decide (i ≤ j))
theorem leC_iff {p : List (List Cell)} {col i j : Nat} : leC p col i j = true ↔ keyAt p col i ≤ keyAt p col j ∧ (keyAt p col i = keyAt p col j → i ≤ j) := by
  unfold leC
  rw [Bool.and_eq_true, Bool.or_eq_true]
  constructor
  · rintro ⟨h1, h2⟩
    refine ⟨fun h => ?_, fun e => ?_⟩
    · rw [decide_eq_true h] at h1
      cases h1
    · rcases h2 with h2 | h2
      · rw [decide_eq_true e] at h2
        cases h2
      · exact of_decide_eq_true h2
  · rintro ⟨h1, h2⟩
    refine ⟨by rw [decide_eq_false h1]; rfl, ?_⟩
    by_cases e : keyAt p col i = keyAt p col j
    · exact .inr (decide_eq_true (h2 e))
    · exact .inl (by rw [decide_eq_false e]; rfl)
theorem leC_trans {p : List (List Cell)} {col : Nat} (a b c : Nat) (h1 : leC p col a b = true) (h2 : leC p col b c = true) : leC p col a c = true := by
  rw [leC_iff] at *
  refine ⟨List.le_trans h1.1 h2.1, fun e => ?_⟩
  have e1 : keyAt p col a = keyAt p col b := List.le_antisymm h1.1 (by rw [e]; exact h2.1)
  have := h1.2 e1
  have := h2.2 (e1.symm.trans e)
  omega
theorem leC_total {p : List (List Cell)} {col : Nat} (a b : Nat) : (leC p col a b || leC p col b a) = true := by
  rw [Bool.or_eq_true, leC_iff, leC_iff]
  by_cases e : keyAt p col a = keyAt p col b
  · rcases Nat.le_total a b with h | h
    · exact .inl ⟨by rw [e]; exact List.le_refl _, fun _ => h⟩
    · exact .inr ⟨by rw [e]; exact List.le_refl _, fun _ => h⟩
  · rcases List.le_total (keyAt p col a) (keyAt p col b) with h | h
    · exact .inl ⟨h, fun z => absurd z e⟩
    · exact .inr ⟨h, fun z => absurd z.symm e⟩
theorem leC_anti {p : List (List Cell)} {col : Nat} (a b : Nat) (h1 : leC p col a b = true) (h2 : leC p col b a = true) : a = b := by
  rw [leC_iff] at *
  have e := List.le_antisymm h1.1 h2.1
  have := h1.2 e
  have := h2.2 e.symm
  omega
def isB (p : List (List Cell)) (col i : Nat) : Bool := decide (cellAt p col i = none)
def blankTo (p : List (List Cell)) (col i : Nat) : List Nat := (List.range i).filter (isB p col)
def fullTo (p : List (List Cell)) (col i : Nat) : List Nat := (List.range i).filter fun j => !isB p col j
def rankO (p : List (List Cell)) (col : Nat) : List Nat := (fullTo p col p.length).mergeSort (leC p col)
def sortO (p : List (List Cell)) (col : Nat) (last : Bool) : List Nat := if last then rankO p col ++ blankTo p col p.length else blankTo p col p.length ++ rankO p col
theorem blankTo_succ (p : List (List Cell)) (col i : Nat) : blankTo p col (i + 1) = blankTo p col i ++ (if isB p col i then [i] else []) := by
  unfold blankTo
  rw [List.range_succ, List.filter_append, List.filter_cons]
  rfl
theorem fullTo_succ (p : List (List Cell)) (col i : Nat) : fullTo p col (i + 1) = fullTo p col i ++ (if isB p col i then [] else [i]) := by
  unfold fullTo
  rw [List.range_succ, List.filter_append, List.filter_cons]
  cases isB p col i <;> rfl
theorem fullTo_mem {p : List (List Cell)} {col i j : Nat} (h : j ∈ fullTo p col i) : j < i ∧ ∃ s, cellAt p col j = some s := by
  obtain ⟨h1, h2⟩ := List.mem_filter.mp h
  refine ⟨List.mem_range.mp h1, ?_⟩
  unfold isB at h2
  cases e : cellAt p col j with
  | none => rw [e] at h2; cases h2
  | some s => exact ⟨s, rfl⟩
theorem rankO_sorted (p : List (List Cell)) (col : Nat) : (rankO p col).Pairwise fun i j => leC p col i j = true := List.pairwise_mergeSort leC_trans leC_total _
theorem rankO_perm (p : List (List Cell)) (col : Nat) : (rankO p col).Perm (fullTo p col p.length) := List.mergeSort_perm _ _
theorem rankO_is {p : List (List Cell)} {col : Nat} {fs : List Nat} (h1 : fs.Perm (fullTo p col p.length)) (h2 : fs.Pairwise fun i j => leC p col i j = true) : fs = rankO p col :=
  uniq_sorted (fun a b => leC_anti a b) (h1.trans (rankO_perm p col).symm) h2 (rankO_sorted p col)
theorem filter_split {α : Type} (q : α → Bool) : ∀ l : List α, (l.filter (fun x => !q x) ++ l.filter q).Perm l
  | [] => List.Perm.refl _
  | x :: l => by
    rw [List.filter_cons, List.filter_cons]
    cases h : q x with
    | false => exact (filter_split q l).cons x
    | true => exact List.perm_middle.trans ((filter_split q l).cons x)
theorem sortO_perm (p : List (List Cell)) (col : Nat) (last : Bool) : (sortO p col last).Perm (List.range p.length) := by
  have h := ((rankO_perm p col).append_right (blankTo p col p.length)).trans (filter_split (isB p col) (List.range p.length))
  unfold sortO
  cases last with
  | true => exact h
  | false => exact List.perm_append_comm.trans h
/-! ### the pairs that are sorted -/
def sD (p : List (List Cell)) (col i : Nat) : PyData := .tuple [cellD (cellAt p col i), .int (i : Int)]
theorem str_key {s t : Str} : s = t ↔ s.cps.toList = t.cps.toList := by
  constructor
  · intro h
    rw [h]
  · intro h
    cases s
    cases t
    simp only [Str.mk.injEq]
    exact Array.toList_inj.mp h
theorem sD_le {p : List (List Cell)} {col i j : Nat} (hi : ∃ s, cellAt p col i = some s) (hj : ∃ s, cellAt p col j = some s) : leC p col i j = PySem.W.dataLe false id (sD p col i) (sD p col j) := by
  obtain ⟨s, hs⟩ := hi
  obtain ⟨t, ht⟩ := hj
  rw [PySem.W.dataLe_eq]
  show leC p col i j = !PySem.W.dataLt (sD p col j) (sD p col i)
  unfold sD leC keyAt
  rw [hs, ht]
  show _ = !PySem.W.dataLt (.tuple [.str t, .int (j : Int)]) (.tuple [.str s, .int (i : Int)])
  rw [PySem.W.dataLt_pair (by simp [PySem.W.alike]) (by simp [PySem.W.alike]), PySem.W.dataLt_int, PySem.W.dataLt_str]
  simp only [Option.getD_some]
  by_cases e : s = t
  · subst e
    have hnl : ¬ s.cps.toList < s.cps.toList := List.lt_irrefl _
    rw [if_pos (by simp [PyData.eqv]), decide_eq_false hnl, decide_eq_true rfl]
    by_cases hij : i = j
    · subst hij
      rw [if_pos (by simp [PyData.eqv])]
      simp
    · rw [if_neg (by simp [PyData.eqv]; omega)]
      simp only [Bool.not_false, Bool.not_true, Bool.true_and, Bool.false_or]
      rw [← decide_not]
      exact decide_eq_decide.mpr (by omega)
  · have hk : ¬ s.cps.toList = t.cps.toList := fun h => e (str_key.mpr h)
    rw [if_neg (by simp [PyData.eqv]; exact fun h => e h.symm), decide_eq_false hk]
    simp
theorem sD_sort {p : List (List Cell)} {col : Nat} {js : List Nat} (h : ∀ j ∈ js, ∃ s, cellAt p col j = some s) : sortD (js.map (sD p col)) = (js.mergeSort (leC p col)).map (sD p col) := by
  unfold sortD
  exact (List.map_mergeSort (r := leC p col) (s := PySem.W.dataLe false id) (f := sD p col) (l := js) (fun a ha b hb => sD_le (h a ha) (h b hb))).symm
theorem cellAt_ok {p : List (List Cell)} {n col i : Nat} (hp : OkRows p n) (hi : i < p.length) (hc : col < n) : ∃ r, p[i]? = some r ∧ r[col]? = some (cellAt p col i) ∧ okC (cellAt p col i) := by
  have hr := getD_at hi
  have hm := List.mem_of_getElem? hr
  have hl := hp.wide _ hm
  have hx : (p.getD i [])[col]? = some (cellAt p col i) := by
    unfold cellAt
    rw [List.getD_eq_getElem?_getD (l := p.getD i []), List.getElem?_eq_getElem (by rw [hl]; exact hc)]
    rfl
  exact ⟨_, hr, hx, (hp.row _ hm).cells _ (List.mem_of_getElem? hx)⟩
theorem can_sD {p : List (List Cell)} {n col : Nat} (hp : OkRows p n) (hc : col < n) {js : List Nat} (h : ∀ j ∈ js, j < p.length ∧ ∃ s, cellAt p col j = some s) : CanSort (js.map (sD p col)) := by
  have hk : ∀ d ∈ js.map (sD p col), okN 1 d := fun d hd => by
    obtain ⟨j, hj, rfl⟩ := List.mem_map.mp hd
    obtain ⟨r, _, _, hok⟩ := cellAt_ok hp (h j hj).1 hc
    exact okN_tup fun d hd => by
      simp only [List.mem_cons, List.mem_nil_iff, or_false] at hd
      rcases hd with rfl | rfl
      · exact okN_cell hok
      · exact okN_int _
  refine ⟨(okN_all hk).2.2, fun d hd e he => ?_, .inl fun d hd => ?_, fun d hd => Nat.le_trans (hk d hd).dp (by decide)⟩
  · obtain ⟨i, hi, rfl⟩ := List.mem_map.mp hd
    obtain ⟨j, hj, rfl⟩ := List.mem_map.mp he
    obtain ⟨s, hs⟩ := (h i hi).2
    obtain ⟨t, ht⟩ := (h j hj).2
    unfold sD
    rw [hs, ht]
    simp [PySem.W.alike, PySem.W.alikeAll, cellD]
  · obtain ⟨i, _, rfl⟩ := List.mem_map.mp hd
    exact ⟨_, _, rfl⟩
theorem isB_none (p : List (List Cell)) (col i : Nat) : isNone (cellD (cellAt p col i)) = isB p col i := by
  unfold isB
  cases cellAt p col i <;> rfl
/-! ### a row put in where it belongs -/
theorem ins_sorted {p : List (List Cell)} {col r c : Nat} {fs : List Nat} (hs : fs.Pairwise fun i j => leC p col i j = true) (hlt : ∀ f ∈ fs, f < r) (h1 : ∀ k, k < c → ∀ f, fs[k]? = some f → keyAt p col f ≤ keyAt p col r) (h2 : ∀ k, c ≤ k → ∀ f, fs[k]? = some f → keyAt p col r < keyAt p col f) : (fs.take c ++ [r] ++ fs.drop c).Pairwise fun i j => leC p col i j = true := by
  have ht : ∀ f ∈ fs.take c, leC p col f r = true := fun f hf => by
    obtain ⟨k, hk⟩ := List.mem_iff_getElem?.mp hf
    have hkc : k < c := by have := (List.getElem?_eq_some_iff.mp hk).1; rw [List.length_take] at this; omega
    rw [List.getElem?_take_of_lt hkc] at hk
    rw [leC_iff]
    exact ⟨h1 k hkc f hk, fun _ => by have := hlt f (List.mem_of_getElem? hk); omega⟩
  have hd : ∀ f ∈ fs.drop c, leC p col r f = true := fun f hf => by
    obtain ⟨k, hk⟩ := List.mem_iff_getElem?.mp hf
    rw [List.getElem?_drop] at hk
    have h := h2 (c + k) (by omega) f hk
    rw [leC_iff]
    refine ⟨List.le_of_lt h, fun e => ?_⟩
    rw [e] at h
    exact absurd h (List.lt_irrefl _)
  have hs2 : (fs.take c ++ fs.drop c).Pairwise fun i j => leC p col i j = true := by rw [List.take_append_drop]; exact hs
  rw [List.pairwise_append] at hs2
  rw [List.append_assoc, List.pairwise_append]
  refine ⟨hs2.1, ?_, fun a ha b hb => ?_⟩
  · rw [List.singleton_append, List.pairwise_cons]
    exact ⟨hd, hs2.2.1⟩
  · rw [List.singleton_append] at hb
    rcases List.mem_cons.mp hb with rfl | hb
    · exact ht a ha
    · exact hs2.2.2 a ha b hb
end G

set_option Elab.async false
set_option linter.all false
set_option maxRecDepth 100000
set_option maxHeartbeats 1000000
namespace G
open PySem PySem.Spec PyProof.Rows L2
theorem funD_mk {K : PySem.W.Frag} {x qual nm : Str} {t : Bool} {st : Stmt} {f D : Addr} {oc doc pm cdv ct : Value} {od an : Option Addr} {osl : Array (Option Value)} (l : K.lookup f = some ⟨oc, od, .func (PySem.W.fnOf x qual (defArgs st) (defBody st) (defScope st) .none (.ref D) doc pm an cdv ct), osl⟩) (c : PySem.W.codeIn K cdv qual = true) (k : PySem.W.keepIn K (.ref f) = true) (d : PySem.W.nsIn K D nm = some (some (.bool t))) :
    FunD K x qual (defArgs st) (defBody st) (defScope st) [] [(nm, .bl t)] f (PySem.W.fnOf x qual (defArgs st) (defBody st) (defScope st) .none (.ref D) doc pm an cdv ct) :=
  ⟨⟨oc, od, .none, .ref D, doc, pm, an, cdv, ct, osl, rfl, l, c, .inl ⟨rfl, rfl⟩, .inr ⟨D, rfl, fun q hq => by
    simp only [List.mem_cons, List.mem_nil_iff, or_false] at hq
    subst hq
    exact ⟨.bool t, d, rfl⟩⟩⟩, k⟩
theorem calD_of {P : Program} {w : World} {K : PySem.W.Frag} {mg : Str → Option Value} {base : Heap} {k : Nat} {x qual nm : Str} {t : Bool} {st : Stmt} {f : Addr} {fd : FuncData} {ps : List Str} {sp : Sp} (Fd : FunD K x qual (defArgs st) (defBody st) (defScope st) [] [(nm, .bl t)] f fd) (m : mg x = some (.ref f)) (G : FnOk P w K mg base CX0 k f fd ps sp) (n : Nat) (hn : n + 1 = ps.length)
    (h : ∀ (D : Addr) (doc pm : Value) (an : Option Addr) (cdv ct : Value) (us ks : List Value), us.length = n → ks.length = 1 → KwChain D ([nm].zip ks) (bindArgs (PySem.W.fnOf x qual (defArgs st) (defBody st) (defScope st) .none (.ref D) doc pm an cdv ct) ⟨us, []⟩) (ps.zip (us ++ ks))) : CalD P w K mg base k x [.bool t] sp := by
  obtain ⟨ds, hv, hb⟩ := Fd.binds0 n (by simp) hn h
  exact ⟨f, fd, ps, ds, [.bl t], G, m, Fd.kp, hb, hv, fun H => .cons (.bl t) .nil⟩
theorem calM_of {P : Program} {w : World} {K : PySem.W.Frag} {mg : Str → Option Value} {base : Heap} {k : Nat} {x qual : Str} {st : Stmt} {f : Addr} {fd : FuncData} {ps : List Str} {sp : Sp} (n : Nat) (ks : List Str) (F : Fun K x qual st f fd) (m : mg x = some (.ref f)) (G : FnOk P w K mg base CX0 k f fd ps sp)
    (h : ∀ (kV doc pm : Value) (an : Option Addr) (cdv ct : Value) (us ws : List Value), us.length = n → ws.length = ks.length → bindArgs (PySem.W.fnOf x qual (defArgs st) (defBody st) (defScope st) .none kV doc pm an cdv ct) ⟨us, ks.zip ws⟩ = pure (ps.zip (us ++ ws))) : CalM P w K mg base k x n ks sp :=
  ⟨f, fd, ps, G, m, F.kp, kbn_of n ks F h⟩
end G

set_option Elab.async false
set_option linter.all false
set_option maxRecDepth 100000
set_option maxHeartbeats 1000000
/-! ranges downwards; numbers in lists and tuples of numbers; rows sorted column by column -/
namespace G
open PySem PySem.Spec PyProof.Rows L2
def rgC (lo c : Int) (n : Nat) : List PyData := (List.range n).map fun (i : Nat) => .int (lo + (i : Int) * c)
theorem rgC_len (lo c : Int) (n : Nat) : (rgC lo c n).length = n := by unfold rgC; rw [List.length_map, List.length_range]
theorem rgC_get {lo c : Int} {n i : Nat} {d : PyData} (h : (rgC lo c n)[i]? = some d) : i < n ∧ d = .int (lo + (i : Int) * c) := by
  unfold rgC at h
  rw [List.getElem?_map] at h
  obtain ⟨x, hx, rfl⟩ := Option.map_eq_some_iff.mp h
  obtain ⟨h1, h2⟩ := List.getElem?_eq_some_iff.mp hx
  rw [List.length_range] at h1
  rw [List.getElem_range] at h2
  subst h2
  exact ⟨h1, rfl⟩
theorem Src.rngC {Z : Hp} {lo c : Int} {n : Nat} : Src (Itc lo c n) (rgC lo c n) Z := fun i H0 H e0 e => by
  refine ⟨fun d hd => ?_, fun hi => by rw [rgC_len] at hi; exact Nat.le_of_eq hi.symm⟩
  obtain ⟨hi, rfl⟩ := rgC_get hd
  exact ⟨hi, fun x H' ⟨h1, h2⟩ => by
    subst h1 h2
    exact ⟨H0, Grow.refl e, .int _⟩⟩
section
variable {c : Ct} {F : Fp} {ρ : List Sl} {pos apos cpos : Pos} {a b e : Expr} {D : SE} {Φ : PyData → List Sl → Prop}
theorem wi_rng3 {tg : Expr} {p : Pos} {Ξ : List PyData → List Sl → Prop} (h : WE c F a ρ fun d ρ1 => WE c F b ρ1 fun y ρ2 => WE c F e ρ2 fun z ρ3 => ∃ m n : Int, d = .int m ∧ y = .int n ∧ z = .int (-1) ∧ (n ≤ 100000 ∧ -100000 ≤ n ∧ m ≤ 100000 ∧ -100000 ≤ m) ∧ Ξ (rgC m (-1) (m - n).toNat) ρ3) (hm : c.mg "range" = none)
    (hg : c.sc.names.lookup ("range" : Str) = some NameKind.globalImplicit := by rfl) (hs : ∀ env, starEach [a, b, e] env = (false, eval a env) :: starEach [b, e] env := by intro _; rfl) (hs2 : ∀ env, starEach [b, e] env = (false, eval b env) :: starEach [e] env := by intro _; rfl) (hs3 : ∀ env, starEach [e] env = (false, eval e env) :: starEach [] env := by intro _; rfl)
    (hpl : ∀ env, (backTo pos (starEach [b, e] env)).any (·.1) = false := by intro _; rfl) : WI c F tg (.Call (.Name "range" p) [a, b, e] [] pos) ρ Ξ := fun B σ H0 H hF E R q =>
  wpI_of (t := iRng3 (tCons (wpE c a) (tCons (wpE c b) (tCons (wpE c e) tNil)))) (fun X hX => pi_range3 (by show X.env.scope.names.lookup _ = _; rw [hX.sc]; exact hg) (by rw [hX.mg]; exact hm) (pa_cons (peW hX) (pa_cons (peW hX) (pa_cons (peW hX) pa_nil (hs3 _)) (hs2 _)) (hs _)) (hs _) (hpl _))
    (h B σ H0 H hF E _ fun v d ρ1 H1 H1' E1 e1 r1 k1 => k1 B σ H1 H1' hF E1 _ fun u y ρ2 H2 H2' E2 e2 r2 k2 => k2 B σ H2 H2' hF E2 _ fun t z ρ3 H3 H3' E3 e3 r3 ⟨m, n, g1, g2, g3, g4, k3⟩ => by
    subst g1 g2 g3
    cases r1
    cases r2
    cases r3
    exact ⟨m, n, -1, _, rfl, RgC.neg (by omega) (by omega) (by omega) (by omega), q _ _ ρ3 H3 H3' E3 ((e1.trans e2).trans e3) Src.rngC k3⟩)
theorem inV_nats (n : Nat) (ns : List Nat) : inV (.int (n : Int)) (ns.map fun (k : Nat) => V.int (k : Int)) = decide (n ∈ ns) := by
  unfold inV
  rw [List.any_map, Bool.eq_iff_iff, List.any_eq_true, decide_eq_true_eq]
  constructor
  · rintro ⟨x, hx, e⟩
    have : x = n := by
      simp [eqV] at e
      omega
    rw [← this]
    exact hx
  · exact fun h => ⟨n, h, by simp [eqV]⟩
theorem wc_in (h : WE c F a ρ fun d ρ1 => WE c F b ρ1 fun y ρ2 => ∃ (n : Nat) (ns : List Nat), d = .int (n : Int) ∧ (y = .list (natL ns) ∨ y = .tuple (natL ns)) ∧ Φ (.bool (decide (n ∈ ns))) ρ2) : WC c F .In a b ρ Φ :=
  ⟨rIn c.K false, (fun X hX => by rw [← hX.K]; exact op_in_seq), (h.imp fun d ρ1 k => k.imp fun y ρ2 ⟨n, ns, e1, e2, q⟩ => .flat q (fun H => .bl _) fun H0 H x u ex rx ru Q qq => by
    subst e1
    cases rx
    have fl : ∀ us : List Nat, (us.map fun (k : Nat) => V.int (k : Int)).all flatV = true := fun us => List.all_eq_true.mpr fun z hz => by
      obtain ⟨w, _, rfl⟩ := List.mem_map.mp hz
      rfl
    rcases e2 with rfl | rfl
    · cases ru with
      | lst g1 g2 =>
        have ev := natL_vals g2
        subst ev
        exact ⟨_, _, rfl, .inl (SqL.of (ex _ _ g1)), rfl, fl ns, by rw [if_neg (by decide), inV_nats]; exact qq⟩
    · cases ru with
      | tup g1 g2 =>
        have ev := natL_vals g2
        subst ev
        exact ⟨_, _, rfl, .inr (SqT.of (ex _ _ g1)), rfl, fl ns, by rw [if_neg (by decide), inV_nats]; exact qq⟩)⟩
theorem wc_notIn (h : WE c F a ρ fun d ρ1 => WE c F b ρ1 fun y ρ2 => ∃ (n : Nat) (ns : List Nat), d = .int (n : Int) ∧ (y = .list (natL ns) ∨ y = .tuple (natL ns)) ∧ Φ (.bool (!decide (n ∈ ns))) ρ2) : WC c F .NotIn a b ρ Φ :=
  ⟨rIn c.K true, (fun X hX => by rw [← hX.K]; exact op_notIn_seq), (h.imp fun d ρ1 k => k.imp fun y ρ2 ⟨n, ns, e1, e2, q⟩ => .flat q (fun H => .bl _) fun H0 H x u ex rx ru Q qq => by
    subst e1
    cases rx
    have fl : ∀ us : List Nat, (us.map fun (k : Nat) => V.int (k : Int)).all flatV = true := fun us => List.all_eq_true.mpr fun z hz => by
      obtain ⟨w, _, rfl⟩ := List.mem_map.mp hz
      rfl
    rcases e2 with rfl | rfl
    · cases ru with
      | lst g1 g2 =>
        have ev := natL_vals g2
        subst ev
        exact ⟨_, _, rfl, .inl (SqL.of (ex _ _ g1)), rfl, fl ns, by rw [if_pos rfl, inV_nats]; exact qq⟩
    · cases ru with
      | tup g1 g2 =>
        have ev := natL_vals g2
        subst ev
        exact ⟨_, _, rfl, .inr (SqT.of (ex _ _ g1)), rfl, fl ns, by rw [if_pos rfl, inV_nats]; exact qq⟩)⟩
end
end G

set_option Elab.async false
set_option linter.all false
set_option maxRecDepth 100000
set_option maxHeartbeats 1000000
/-! a table sorted from its last column to the first one -/
namespace G
open PySem PySem.Spec PyProof.Rows L2
def keyC (x : Cell) : List Nat := (x.getD Str.empty).cps.toList
def keysR (r : List Cell) : List (List Nat) := r.map keyC
theorem lt_rows : ∀ {r s : List Cell}, Full r → Full s → r.length = s.length → PyProof.Rows.lexLt PyProof.Rows.itemOrd (PySem.W.keyToksAll (r.map cellD)) (PySem.W.keyToksAll (s.map cellD)) = decide (keysR r < keysR s)
  | [], [], _, _, _ => by
    rw [List.map_nil, PyProof.Rows.lex_irrefl]
    rfl
  | [], y :: s, _, _, h => by simp at h
  | x :: r, [], _, _, h => by simp at h
  | x :: r, y :: s, h1, h2, h3 => by
    obtain ⟨a, rfl, _⟩ := h1 x List.mem_cons_self
    obtain ⟨b, rfl, _⟩ := h2 y List.mem_cons_self
    have ih := lt_rows (r := r) (s := s) (fun z hz => h1 z (List.mem_cons_of_mem _ hz)) (fun z hz => h2 z (List.mem_cons_of_mem _ hz)) (by simpa using h3)
    show PyProof.Rows.lexLt PyProof.Rows.itemOrd (PySem.W.keyToksAll (.str a :: r.map cellD)) (PySem.W.keyToksAll (.str b :: s.map cellD)) = decide (keyC (some a) :: keysR r < keyC (some b) :: keysR s)
    rw [PySem.W.dataLt_cons (by simp [PySem.W.alike]), ih, PySem.W.dataLt_str]
    have hka : keyC (some a) = a.cps.toList := rfl
    have hkb : keyC (some b) = b.cps.toList := rfl
    rw [hka, hkb]
    by_cases e : a = b
    · subst e
      rw [if_pos (by simp [PyData.eqv])]
      refine decide_eq_decide.mpr ?_
      rw [List.cons_lt_cons_iff]
      exact ⟨fun h => .inr ⟨rfl, h⟩, fun h => h.elim (fun h => absurd h (List.lt_irrefl _)) fun h => h.2⟩
    · rw [if_neg (by simp [PyData.eqv]; exact e)]
      refine decide_eq_decide.mpr ?_
      rw [List.cons_lt_cons_iff]
      exact ⟨fun h => .inl h, fun h => h.elim id fun h => absurd (str_key.mpr h.1) e⟩
theorem le_rows {r s : List Cell} (h1 : Full r) (h2 : Full s) (h : r.length = s.length) : decide (keysR r ≤ keysR s) = PySem.W.dataLe false id (rowD r) (rowD s) := by
  rw [PySem.W.dataLe_eq]
  show _ = !PySem.W.dataLt (rowD s) (rowD r)
  unfold rowD
  rw [PySem.W.dataLt_tuple, lt_rows h2 h1 h.symm, ← decide_not]
  exact decide_eq_decide.mpr List.not_lt.symm
theorem keys_inj : ∀ {r s : List Cell}, Full r → Full s → keysR r = keysR s → r = s
  | [], [], _, _, _ => rfl
  | [], y :: s, _, _, h => by cases h
  | x :: r, [], _, _, h => by cases h
  | x :: r, y :: s, h1, h2, h => by
    obtain ⟨a, rfl, _⟩ := h1 x List.mem_cons_self
    obtain ⟨b, rfl, _⟩ := h2 y List.mem_cons_self
    obtain ⟨e1, e2⟩ := List.cons.inj h
    have e3 : a = b := str_key.mpr e1
    rw [e3, keys_inj (fun z hz => h1 z (List.mem_cons_of_mem _ hz)) (fun z hz => h2 z (List.mem_cons_of_mem _ hz)) e2]
/-- by the cells from a column on -/
def dropLe (col : Nat) (a b : List Cell) : Prop := keysR (a.drop col) ≤ keysR (b.drop col)
theorem sorted_is {T N : List (List Cell)} {n : Nat} (hT : OkTable T n) (hp : N.Perm T) (hs : N.Pairwise (dropLe 0)) : sortD (T.map rowD) = N.map rowD := by
  have hf := hT.fulls
  have e : sortD (T.map rowD) = (T.mergeSort fun a b => decide (keysR a ≤ keysR b)).map rowD := by
    unfold sortD
    exact (List.map_mergeSort (r := fun a b => decide (keysR a ≤ keysR b)) (s := PySem.W.dataLe false id) (f := rowD) (l := T) (fun a ha b hb => le_rows (hf a ha).1 (hf b hb).1 ((hf a ha).2.trans (hf b hb).2.symm))).symm
  rw [e]
  have pw : (T.mergeSort fun a b => decide (keysR a ≤ keysR b)).Pairwise fun a b => keysR a ≤ keysR b := by
    have := List.pairwise_mergeSort (le := fun a b => decide (keysR a ≤ keysR b)) (fun a b c h1 h2 => decide_eq_true (List.le_trans (of_decide_eq_true h1) (of_decide_eq_true h2))) (fun a b => by
      rw [Bool.or_eq_true]
      exact (List.le_total (keysR a) (keysR b)).elim (fun h => .inl (decide_eq_true h)) fun h => .inr (decide_eq_true h)) T
    exact this.imp fun h => of_decide_eq_true h
  have pm := List.mergeSort_perm T fun a b => decide (keysR a ≤ keysR b)
  have := List.Perm.eq_of_pairwise (le := fun a b => keysR a ≤ keysR b) (l₁ := T.mergeSort fun a b => decide (keysR a ≤ keysR b)) (l₂ := N) (fun a b ha hb h1 h2 => keys_inj (hf a (pm.mem_iff.mp ha)).1 (hf b (hp.mem_iff.mp hb)).1 (List.le_antisymm h1 h2)) pw hs (pm.trans hp.symm)
  rw [this]
/-! ### one column -/
theorem full_cell {T : List (List Cell)} {n col i : Nat} (hT : OkTable T n) (hi : i < T.length) (hc : col < n) : (∃ s, cellAt T col i = some s) ∧ ∃ r, T[i]? = some r ∧ r[col]? = some (cellAt T col i) := by
  obtain ⟨r, h1, h2, _⟩ := cellAt_ok hT.toOkRows hi hc
  obtain ⟨s, hs, _⟩ := (hT.fulls r (List.mem_of_getElem? h1)).1 _ (List.mem_of_getElem? h2)
  exact ⟨⟨s, hs⟩, r, h1, h2⟩
theorem no_blank {T : List (List Cell)} {n col : Nat} (hT : OkTable T n) (hc : col < n) : blankTo T col T.length = [] := by
  unfold blankTo
  rw [List.filter_eq_nil_iff]
  intro i hi
  obtain ⟨⟨s, hs⟩, _⟩ := full_cell hT (List.mem_range.mp hi) hc
  unfold isB
  rw [hs]
  simp
theorem sort_full {T : List (List Cell)} {n col : Nat} (hT : OkTable T n) (hc : col < n) (last : Bool) : sortO T col last = rankO T col := by
  unfold sortO
  rw [no_blank hT hc, List.append_nil, List.nil_append]
  exact ite_self ..
theorem drop_keys {T : List (List Cell)} {n col i : Nat} {r : List Cell} (hT : OkTable T n) (hi : T[i]? = some r) (hc : col < n) : keysR (r.drop col) = keyAt T col i :: keysR (r.drop (col + 1)) := by
  have hl := (List.getElem?_eq_some_iff.mp hi).1
  obtain ⟨_, r', h1, h2⟩ := full_cell hT hl hc
  rw [hi] at h1
  cases h1
  obtain ⟨hx, hy⟩ := List.getElem?_eq_some_iff.mp h2
  rw [List.drop_eq_getElem_cons hx, hy]
  rfl
theorem permT_get {T : List (List Cell)} {os : List Nat} : ∀ {i : Nat} {r : List Cell}, (permT T os)[i]? = some r → ∃ a, os[i]? = some a ∧ r = T.getD a [] := fun {i r} h => by
  unfold permT at h
  rw [List.getElem?_map] at h
  obtain ⟨a, h1, h2⟩ := Option.map_eq_some_iff.mp h
  exact ⟨a, h1, h2.symm⟩
theorem sort_step {T : List (List Cell)} {n col : Nat} (hT : OkTable T n) (hc : col < n) (h : T.Pairwise (dropLe (col + 1))) (last : Bool) : (permT T (sortO T col last)).Pairwise (dropLe col) := by
  rw [sort_full hT hc]
  unfold permT
  rw [List.pairwise_map]
  refine List.Pairwise.imp_of_mem (fun {i j} hi hj hij => ?_) (rankO_sorted T col)
  have hm : ∀ i ∈ rankO T col, i < T.length := fun i hi => (fullTo_mem ((rankO_perm T col).mem_iff.mp hi)).1
  have gi := getD_at (hm i hi)
  have gj := getD_at (hm j hj)
  unfold dropLe
  rw [drop_keys hT gi hc, drop_keys hT gj hc, List.cons_le_cons_iff]
  obtain ⟨h1, h2⟩ := leC_iff.mp hij
  by_cases e : keyAt T col i = keyAt T col j
  · refine .inr ⟨e, ?_⟩
    have hle := h2 e
    by_cases e2 : i = j
    · subst e2
      exact List.le_refl _
    · have := List.pairwise_iff_getElem.mp h i j (hm i hi) (hm j hj) (by omega)
      rw [(List.getElem?_eq_some_iff.mp gi).2, (List.getElem?_eq_some_iff.mp gj).2] at this
      exact this
  · refine .inl ?_
    by_cases q : keyAt T col i < keyAt T col j
    · exact q
    · exact absurd (List.le_antisymm h1 (List.not_lt.mp q)) e
theorem sort_again {T : List (List Cell)} {n col : Nat} (hT : OkTable T n) (hc : col < n) (h : T.Pairwise (dropLe col)) (last : Bool) : sortO T col last = List.range T.length := by
  rw [sort_full hT hc]
  symm
  refine rankO_is ?_ ?_
  · have : fullTo T col T.length = List.range T.length := by
      unfold fullTo
      rw [List.filter_eq_self]
      intro i hi
      obtain ⟨⟨s, hs⟩, _⟩ := full_cell hT (List.mem_range.mp hi) hc
      unfold isB
      rw [hs]
      simp
    rw [this]
  · refine List.Pairwise.imp_of_mem (fun {i j} hi hj hij => ?_) (List.pairwise_lt_range (n := T.length))
    have hi := List.mem_range.mp hi
    have hj := List.mem_range.mp hj
    have gi := getD_at hi
    have gj := getD_at hj
    have := List.pairwise_iff_getElem.mp h i j hi hj hij
    rw [(List.getElem?_eq_some_iff.mp gi).2, (List.getElem?_eq_some_iff.mp gj).2] at this
    unfold dropLe at this
    rw [drop_keys hT gi hc, drop_keys hT gj hc, List.cons_le_cons_iff] at this
    rw [leC_iff]
    exact ⟨this.elim (fun h => List.le_of_lt h) fun h => h.1 ▸ List.le_refl _, fun _ => by omega⟩
theorem permT_perm {T : List (List Cell)} {os : List Nat} (ho : os.Perm (List.range T.length)) : (permT T os).Perm T := by
  have h := ho.map fun i => T.getD i []
  have e : (List.range T.length).map (fun i => T.getD i []) = T := by
    refine List.ext_getElem? fun i => ?_
    rw [List.getElem?_map]
    by_cases hi : i < T.length
    · rw [List.getElem?_range hi, Option.map_some, getD_at hi]
    · rw [List.getElem?_eq_none (by rw [List.length_range]; omega), List.getElem?_eq_none (by omega)]
      rfl
  rw [e] at h
  exact h
theorem permT_table {T : List (List Cell)} {n : Nat} {os : List Nat} (hT : OkTable T n) (ho : os.Perm (List.range T.length)) : OkTable (permT T os) n :=
  ⟨permP_ok hT.toOkRows ho, fun r hr => hT.full r ((permT_perm ho).mem_iff.mp hr)⟩
theorem chn_all {R : Nat → Nat → Prop} : ∀ {os : List Nat} {a : Nat}, (∀ x y, y ∈ os → R x y) → chn R a os
  | [], _, _ => trivial
  | b :: os, a, h => ⟨h a b List.mem_cons_self, chn_all fun x y hy => h x y (List.mem_cons_of_mem _ hy)⟩
theorem table_page {T : List (List Cell)} {n : Nat} (hT : OkTable T n) : OkPage T n :=
  ⟨hT.toOkRows, fun r hr => hT.full r (List.mem_of_head? hr)⟩
end G

set_option Elab.async false
set_option linter.all false
set_option maxRecDepth 100000
set_option maxHeartbeats 1000000
/-! sorted of a tuple of data -/
namespace G
open PySem PySem.Spec PyProof.Rows L2
section
variable {prog : Program} {w : World} {A : Around} {E : Value → Shared → Prop} {s : Shared}
theorem sorted_tup_vals {κ : _} {a : Addr} {us : List Value} {Q : Value → Shared → Prop} (ht : s.heap.IsTuple a us.toArray) (S : PySem.W.SortsAt prog w A.in1.in1 { s with heap := PySem.W.sortingHeap (PySem.W.copyHeap s.heap us) (s.heap.objs.size + 1) us } κ us) (few : us.length ≤ sizeLine)
    (h : Q (.ref (s.heap.objs.size + 1)) { s with heap := sortedAll s.heap us (PySem.W.sortVals κ false us us).toArray }) : wpAny (model prog w) A (call (.builtin "sorted") [.ref a]) Q E s := by
  apply Calls.call_function_entry kind_sorted plain_sorted entry_sorted (args_sorted1 _)
  unfold Builtin.«sorted»
  apply wpAny_bind (m := checkCount "sorted" 1 1 _)
  apply wpAny_pure
  apply wpAny_bind
  refine collect_tup ht few ?_
  apply wpAny_bind
  refine wpAny_newList ?_ few
  have sz : (gathered s.heap us).objs.size = s.heap.objs.size + 1 := by rw [Heap.size_update, size_push']
  have at1 : ((gathered s.heap us).push (seqObj "list" us.toArray 0)).get? (s.heap.objs.size + 1) = some (seqObj "list" us.toArray 0) := by
    rw [← sz]
    exact Heap.get?_push_size _ rfl
  show wpAny _ _ _ _ _ ⟨(gathered s.heap us).push (seqObj "list" us.toArray 0), _, _, _, _⟩
  rw [sz]
  apply wpAny_bind
  apply wpAny_holding
  refine wpAny_call_entry slot_list_sort ⟨_, at1, rfl⟩ entry_list_sort (PySem.W.list_sort_vals (κ := κ) (s := { s with heap := PySem.W.copyHeap s.heap us }) at1 S few ⟨_, rfl, ?_⟩) (args_list_sort _)
  exact wpAny_pure ⟨_, rfl, h⟩
end
def rSortDT (K : PySem.W.Frag) (xs : List V) (H : Hp) (Q : VK) : Prop := ∃ (a : Addr) (bs : List (V × PyData)), xs = [.ref a] ∧ SqT K H a (bs.map (·.1)) ∧ (∀ b ∈ bs, Dp K H b.1 b.2) ∧ PySem.W.AllAlike (bs.map (·.2)) ∧ PySem.W.Sortable (bs.map (·.2)) ∧ (∀ b ∈ bs, b.2.depth ≤ 60) ∧
  ∀ p, H p = none → Q (.ref p) (upd H p (.lst ((bs.mergeSort (PySem.W.dataLe false Prod.snd)).map (·.1))))
theorem cr_sortedDT {X : Cx} (hu : X.A.units + 64 < cLine) : CallR X (.builtin "sorted") (rSortDT X.K) := by
  intro pins s σ H xs us Q I r h
  obtain ⟨a, bs, rfl, hS, hD, hA, hT, hd, q⟩ := h
  obtain ⟨u, rfl, ru⟩ := vals1 r
  cases ru
  obtain ⟨its, rv, hl, hz⟩ := I.tuple hS
  obtain ⟨e1, e2⟩ := each_of I rv hD
  have hlen : its.length = bs.length := by rw [← rv.length, List.length_map]
  have hz' : its.length ≤ sizeLine := by rw [← rv.length]; exact hz
  have er' : PySem.W.EachIs (fun v (b : V × PyData) => ∃ as, Reads (PySem.W.sortingHeap (PySem.W.copyHeap s.heap its) (s.heap.objs.size + 1) its) v b.2 as) its bs := e2.mono fun _ _ ⟨as, r⟩ => ⟨as, PyProof.Rows.Reads.keeps (fun _ _ => PySem.W.sorting_copy_old) r⟩
  refine sorted_tup_vals (κ := _) hl (PySem.W.SortsAt.data (s := { s with heap := PySem.W.sortingHeap (PySem.W.copyHeap s.heap its) (s.heap.objs.size + 1) its }) (PySem.W.each_map (R := fun v d => ∃ as, Reads (PySem.W.sortingHeap (PySem.W.copyHeap s.heap its) (s.heap.objs.size + 1) its) v d as) Prod.snd er') hA hT (PySem.W.bound_map fun b hb => by have := hd b hb; show X.A.units + 2 + _ < _; omega)) hz' ?_
  have hr := PySem.W.sortVals_data (enc := Prod.snd) false e1 er' hA
  refine ⟨.ref (s.heap.objs.size + 1), _, I.laid (t' := s.toks) (o := .lst ((bs.mergeSort (PySem.W.dataLe false Prod.snd)).map (·.1))) ?_ (Nat.le_succ _) ?_, rfl, q _ (I.hok.fresh (Nat.le_succ _))⟩
  · intro b ob h
    exact sortedAll_old h
  · obtain ⟨e, he⟩ := PyProof.Rows.sortedAll_at s.heap its (PySem.W.sortVals _ false its its).toArray
    refine ⟨?_, _, e, vals_of_each hr, he⟩
    rw [List.length_map, List.length_mergeSort, ← List.length_map (f := (·.1)) (as := bs)]
    exact hz
end G

set_option Elab.async false
set_option linter.all false
set_option maxRecDepth 100000
set_option maxHeartbeats 1000000
namespace G
open PySem PySem.Spec PyProof.Rows L2
section
variable {c : Ct} {F : Fp} {ρ : List Sl} {pos : Pos} {e : Expr} {Φ : PyData → List Sl → Prop}
/-- sorted of a tuple -/
theorem we_sortedT {p : Pos} (h : WE c F e ρ fun d ρ1 => ∃ ds, d = .tuple ds ∧ CanSort ds ∧ Φ (.list (sortD ds)) ρ1) (hm : c.mg "sorted" = none) (hg : c.sc.names.lookup ("sorted" : Str) = some NameKind.globalImplicit := by rfl) (hs : ∀ env, starEach [e] env = (false, eval e env) :: starEach [] env := by intro _; rfl)
    (hpl : ∀ env, (backTo pos (starEach [] env)).any (·.1) = false := by intro _; rfl) : WE c F (.Call (.Name "sorted" p) [e] [] pos) ρ Φ :=
  we_callB (r := rSortDT c.K) (fun X hX => by rw [← hX.K]; exact cr_sortedDT hX.room.units) (wa_cons (h.imp fun d ρ1 ⟨ds, h1, h2, h3⟩ => wa_nil (by
    subst h1
    intro H0 H vs ex rs Q q
    cases rs with
    | cons r1 r2 =>
      cases r2
      cases r1 with
      | tup g1 g2 =>
        rename_i a xs
        obtain ⟨z1, z2, z3⟩ := rpl_zip g2
        have e : sortD ds = ((List.zip xs ds).mergeSort (PySem.W.dataLe false Prod.snd)).map (·.2) := by
          have w := List.map_mergeSort (r := PySem.W.dataLe false Prod.snd) (s := PySem.W.dataLe false id) (f := Prod.snd) (l := List.zip xs ds) (fun a _ b _ => rfl)
          have z3' : List.map Prod.snd (List.zip xs ds) = ds := z3
          rw [z3'] at w
          exact w.symm
        refine ⟨a, List.zip xs ds, rfl, by rw [z2]; exact SqT.of (ex _ _ g1), fun b hb => ?_, by rw [z3]; exact h2.al, by rw [z3]; exact h2.so, fun b hb => ?_, fun p hp => ?_⟩
        · have hb2 : b.2 ∈ ds := by rw [← z3]; exact List.mem_map_of_mem hb
          exact ((z1 b hb).mono ex).dp (plainL_mem h2.pl _ hb2)
        · exact h2.dp _ (by rw [← z3]; exact List.mem_map_of_mem hb)
        · have g := Grow.laid ex (o := .lst (((List.zip xs ds).mergeSort (PySem.W.dataLe false Prod.snd)).map (·.1))) hp
          refine q _ _ _ _ g (.lst upd_same ?_) h3
          rw [e]
          exact rpl_pairs fun b hb => (z1 b (List.mem_mergeSort.mp hb)).mono g.fz)) hs) hg hm (by decide +kernel) (by decide) (by decide) hs hpl
end
theorem eqv_ord (p q : List Nat) : PyData.eqv (ordD p) (ordD q) = decide (p = q) := by
  rw [← eqv_nats p q]
  unfold ordD natsD natL
  simp [PyData.eqv]
theorem kept_table {T : List (List Cell)} {n : Nat} (hT : OkTable T n) (Q : List (List Cell)) (os : List Nat) : Kept T Q os := by
  have z : ∀ b, lead (T.getD b []) = 0 := fun b => by
    by_cases h : b < T.length
    · exact hT.full _ (List.mem_of_getElem? (getD_at h))
    · rw [List.getD_eq_getElem?_getD, List.getElem?_eq_none (by omega)]
      rfl
  cases os with
  | nil => trivial
  | cons a os => exact ⟨z a, chn_all fun x y _ => by unfold folR; rw [z y]; exact Nat.zero_le _⟩
theorem keeps_table {T : List (List Cell)} {n : Nat} {os : List Nat} (hT : OkTable T n) (ho : os.Perm (List.range T.length)) : wrongN T n os = [] :=
  (wrong_iff (table_page hT) ho).mpr (kept_table hT _ _)
theorem drop_all {T : List (List Cell)} {n : Nat} (hT : OkTable T n) : T.Pairwise (dropLe n) :=
  List.Pairwise.imp_of_mem (R := fun _ _ => True) (fun {a b} ha hb _ => by
    unfold dropLe
    rw [List.drop_eq_nil_of_le (by rw [hT.wide a ha]; exact Nat.le_refl _), List.drop_eq_nil_of_le (by rw [hT.wide b hb]; exact Nat.le_refl _)]
    exact List.le_refl _) (List.pairwise_of_forall fun _ _ => trivial)
end G

set_option Elab.async false
set_option linter.all false
set_option maxRecDepth 100000
set_option maxHeartbeats 1000000
/-! a page sorted by a column -/
namespace G
open PySem PySem.Spec PyProof.Rows L2
def colC (p : List (List Cell)) (col : Nat) (os : List Nat) : List Cell := os.map (cellAt p col)
theorem col_len (p : List (List Cell)) (col : Nat) (os : List Nat) : (colC p col os).length = os.length := List.length_map ..
theorem col_rank {p : List (List Cell)} {col : Nat} : ∀ x ∈ colC p col (rankO p col), x ≠ none := fun x hx => by
  obtain ⟨i, hi, rfl⟩ := List.mem_map.mp hx
  obtain ⟨_, s, hs⟩ := fullTo_mem ((rankO_perm p col).mem_iff.mp hi)
  rw [hs]
  exact fun h => nomatch h
theorem col_blank {p : List (List Cell)} {col : Nat} : colC p col (blankTo p col p.length) = List.replicate (blankTo p col p.length).length none := by
  rw [List.eq_replicate_iff]
  refine ⟨col_len .., fun x hx => ?_⟩
  obtain ⟨i, hi, rfl⟩ := List.mem_map.mp hx
  exact of_decide_eq_true (List.mem_filter.mp hi).2
theorem col_sort (p : List (List Cell)) (col : Nat) (last : Bool) : colC p col (sortO p col last) = if last then colC p col (rankO p col) ++ List.replicate (blankTo p col p.length).length none else List.replicate (blankTo p col p.length).length none ++ colC p col (rankO p col) := by
  unfold sortO
  rw [← col_blank]
  cases last
  · exact List.map_append ..
  · exact List.map_append ..
theorem col_shown (p : List (List Cell)) (col : Nat) (last : Bool) : (colC p col (sortO p col last)).filter (fun x => !decide (x = none)) = colC p col (rankO p col) := by
  have e1 : (colC p col (rankO p col)).filter (fun x => !decide (x = none)) = colC p col (rankO p col) := by
    rw [List.filter_eq_self]
    intro x hx
    rw [decide_eq_false (col_rank x hx)]
    rfl
  have e2 : (List.replicate (blankTo p col p.length).length (none : Cell)).filter (fun x => !decide (x = none)) = [] := by
    rw [List.filter_eq_nil_iff]
    intro x hx
    rw [List.eq_of_mem_replicate hx]
    decide
  rw [col_sort]
  cases last
  · rw [if_neg (by decide), List.filter_append, e1, e2, List.nil_append]
  · rw [if_pos rfl, List.filter_append, e1, e2, List.append_nil]
theorem col_many (p : List (List Cell)) (col : Nat) (last : Bool) : (colC p col (sortO p col last)).length = (colC p col (rankO p col)).length + (blankTo p col p.length).length := by
  rw [col_sort]
  cases last
  · rw [if_neg (by decide), List.length_append, List.length_replicate, Nat.add_comm]
  · rw [if_pos rfl, List.length_append, List.length_replicate]
theorem col_ok {p : List (List Cell)} {n col : Nat} (hp : OkRows p n) (hc : col < n) {os : List Nat} (h : ∀ i ∈ os, i < p.length) : ∀ x ∈ colC p col os, okC x := fun x hx => by
  obtain ⟨i, hi, rfl⟩ := List.mem_map.mp hx
  obtain ⟨_, _, _, h3⟩ := cellAt_ok hp (h i hi) hc
  exact h3
theorem rank_lt {p : List (List Cell)} {col : Nat} : ∀ i ∈ rankO p col, i < p.length := fun i hi => (fullTo_mem ((rankO_perm p col).mem_iff.mp hi)).1
theorem cell_some {x : Cell} (h : x ≠ none) : ∃ s, x = some s := by
  cases x with
  | none => exact absurd rfl h
  | some s => exact ⟨s, rfl⟩
theorem can_col {p : List (List Cell)} {n col : Nat} (hp : OkRows p n) (hc : col < n) : CanSort ((colC p col (rankO p col)).map cellD) := by
  have hk : ∀ d ∈ (colC p col (rankO p col)).map cellD, okN 0 d := fun d hd => by
    obtain ⟨x, hx, rfl⟩ := List.mem_map.mp hd
    exact okN_cell (col_ok hp hc rank_lt x hx)
  refine ⟨(okN_all hk).2.2, fun d hd e he => ?_, .inr fun d hd => ?_, fun d hd => Nat.le_trans (hk d hd).dp (by decide)⟩
  · obtain ⟨x, hx, rfl⟩ := List.mem_map.mp hd
    obtain ⟨y, hy, rfl⟩ := List.mem_map.mp he
    obtain ⟨s, rfl⟩ := cell_some (col_rank x hx)
    obtain ⟨t, rfl⟩ := cell_some (col_rank y hy)
    simp [PySem.W.alike, cellD]
  · obtain ⟨x, hx, rfl⟩ := List.mem_map.mp hd
    obtain ⟨s, rfl⟩ := cell_some (col_rank x hx)
    exact ⟨(fun h => nomatch h), fun _ h => nomatch h⟩
theorem sort_col {p : List (List Cell)} {n col : Nat} (hp : OkRows p n) (hc : col < n) : sortD ((colC p col (rankO p col)).map cellD) = (colC p col (rankO p col)).map cellD := by
  unfold sortD
  refine List.mergeSort_of_pairwise ?_
  unfold colC
  rw [List.map_map, List.pairwise_map]
  refine List.Pairwise.imp_of_mem (fun {i j} hi hj hij => ?_) (rankO_sorted p col)
  obtain ⟨_, s, hs⟩ := fullTo_mem ((rankO_perm p col).mem_iff.mp hi)
  obtain ⟨_, t, ht⟩ := fullTo_mem ((rankO_perm p col).mem_iff.mp hj)
  have h := (leC_iff.mp hij).1
  unfold keyAt at h
  show PySem.W.dataLe false id (cellD (cellAt p col i)) (cellD (cellAt p col j)) = true
  rw [hs, ht] at h ⊢
  rw [PySem.W.dataLe_eq]
  show (!PySem.W.dataLt (.str t) (.str s)) = true
  have h : s.cps.toList ≤ t.cps.toList := h
  rw [PySem.W.dataLt_str, decide_eq_false (List.not_lt.mpr h)]
  rfl
theorem eqv_cells (r s : List Cell) : PyData.eqv (.list (r.map cellD)) (.list (s.map cellD)) = decide (r = s) := by
  rw [eqv_list, eqvAll_map cellD eqv_cell]
theorem okD_cells {r : List Cell} (h : ∀ x ∈ r, okC x) : okD (.list (r.map cellD)) := (okN_list (n := 0) fun d hd => by
  obtain ⟨x, hx, rfl⟩ := List.mem_map.mp hd
  exact okN_cell (h x hx)).okD
theorem isNone_cell (x : Cell) : isNone (cellD x) = decide (x = none) := by cases x <;> rfl
/-- a first row that begins with a blank is read wrong -/
theorem first_wrong {p : List (List Cell)} {n a : Nat} {os : List Nat} (hp : OkPage p n) (ho : (a :: os).Perm (List.range p.length)) (h : (p.getD a [])[0]? = some none) : a ∈ wrongZ (tableOf p n) (List.zip (a :: os) (readL p n (a :: os))) := by
  have ha := ord_lt ho a List.mem_cons_self
  have hr := getD_at (T := p) ha
  have hm := List.mem_of_getElem? hr
  have hw := hp.wide _ hm
  have hl : 0 < lead (p.getD a []) := by
    cases e : p.getD a [] with
    | nil => rw [e] at h; cases h
    | cons x r =>
      rw [e] at h
      cases h
      exact Nat.succ_pos _
  have hll := lead_le (p.getD a [])
  have e : readL p n (a :: os) = readOne (blankRow n) (p.getD a []) :: readR (readOne (blankRow n) (p.getD a [])) (permT p os) := rfl
  rw [e, List.zip_cons_cons]
  unfold wrongZ
  rw [List.filter_cons]
  have ne : readOne (blankRow n) (p.getD a []) ≠ (tableOf p n).getD a [] := fun q => by
    have bl : (blankRow n).length = n := List.length_replicate ..
    have g := (readOne_get2 (ab := blankRow n) (r := p.getD a []) (by rw [bl]; omega) 0).1 hl
    rw [q] at g
    have tl := table_len p n
    have hT := getD_at (T := tableOf p n) (by omega : a < (tableOf p n).length)
    obtain ⟨f1, f2⟩ := hp.table.fulls _ (List.mem_of_getElem? hT)
    have b0 : (blankRow n)[0]? = some none := by
      unfold blankRow
      rw [List.getElem?_replicate, if_pos (by omega)]
    rw [b0] at g
    obtain ⟨s, hs, _⟩ := f1 none (List.mem_of_getElem? g)
    cases hs
  rw [if_pos (by rw [decide_eq_false ne]; rfl)]
  exact List.mem_cons_self
end G

set_option Elab.async false
set_option linter.all false
set_option maxRecDepth 100000
set_option maxHeartbeats 1000000
/-! the code of an order -/
namespace G
open PySem PySem.Spec PyProof.Rows L2
theorem ins_filter {q : Nat → Bool} {os : List Nat} {z : PyData} {r : Nat} (hr : q r = false) : (insAt os z r).filter q = os.filter q := by
  have mid : ∀ c, (os.take c ++ [r] ++ os.drop c).filter q = os.filter q := fun c => by
    rw [List.filter_append, List.filter_append, List.filter_cons, if_neg (by rw [hr]; decide), List.filter_nil, List.append_nil, ← List.filter_append, List.take_append_drop]
  unfold insAt
  split
  · exact mid _
  · rw [List.filter_cons, if_neg (by rw [hr]; decide)]
/-- digits that name hosts -/
def Digs (p T : List (List Cell)) (ds : List Nat) : Prop := ∀ a, a < p.length → ds.getD a 0 < (hostAt p T a).length
theorem seq_out {p : List (List Cell)} {i k : Nat} (hik : i ≤ k) (hk : k < p.length) : (seqN p).getD k 0 ∉ (seqN p).take i := fun h => by
  obtain ⟨c, hc⟩ := List.mem_iff_getElem?.mp h
  have hci : c < i := by have := (List.getElem?_eq_some_iff.mp hc).1; rw [List.length_take] at this; omega
  rw [List.getElem?_take_of_lt hci] at hc
  obtain ⟨q1, q2⟩ := List.getElem?_eq_some_iff.mp hc
  obtain ⟨q3, q4⟩ := List.getElem?_eq_some_iff.mp (seqN_at hk)
  have := List.pairwise_iff_getElem.mp (seqN_nodup p) c k q1 q3 (by omega)
  rw [q2, q4] at this
  exact this rfl
theorem stand_ord {p T : List (List Cell)} {ds : List Nat} (hd : Digs p T ds) {i : Nat} : ∀ {k : Nat}, i ≤ k → k ≤ p.length → (ordO p T ds k).filter (fun r => decide (r ∈ (seqN p).take i)) = ordO p T ds i := fun {k} => by
  induction k with
  | zero =>
    intro hik _
    have : i = 0 := by omega
    subst this
    rfl
  | succ k ih =>
    intro hik hk
    by_cases e : i = k + 1
    · subst e
      obtain ⟨h1, _⟩ := ordO_ok (p := p) (T := T) (ds := ds) (k + 1) hk fun a ha => hd a (by omega)
      rw [List.filter_eq_self]
      intro r hr
      exact decide_eq_true (h1.mem_iff.mp hr)
    · rw [ordO_succ, ins_filter (decide_eq_false (seq_out (by omega) (by omega)))]
      exact ih (by omega) (by omega)
/-- the host that stands ahead -/
def hostIn (ns : List Nat) (c : Nat) : PyData := if c = 0 then .none else .int ((ns.getD (c - 1) 0 : Nat) : Int)
theorem ins_at {os : List Nat} {z : PyData} {r : Nat} (hr : r ∉ os) (hz : z = .none ∨ ∃ i ∈ os, z = .int ((i : Nat) : Int)) : ∃ c, (insAt os z r)[c]? = some r ∧ (∀ m x, m < c → (insAt os z r)[m]? = some x → x ≠ r) ∧ hostIn (insAt os z r) c = z ∧ (c ≠ 0 → ∃ h, (insAt os z r)[c - 1]? = some h ∧ z = .int (h : Int)) ∧ c ≤ os.length := by
  rcases hz with rfl | ⟨i, hi, rfl⟩
  · refine ⟨0, rfl, fun m x hm _ => absurd hm (Nat.not_lt_zero _), rfl, fun h => absurd rfl h, Nat.zero_le _⟩
  · have hx : os[os.idxOf i]? = some i := by rw [List.getElem?_eq_getElem (List.idxOf_lt_length_of_mem hi), List.getElem_idxOf]
    have hl := List.idxOf_lt_length_of_mem hi
    generalize hc : os.idxOf i = c at hx hl
    have e : insAt os (.int (i : Int)) r = os.take (c + 1) ++ [r] ++ os.drop (c + 1) := by
      show os.take (os.idxOf ((i : Int).toNat) + 1) ++ [r] ++ os.drop (os.idxOf ((i : Int).toNat) + 1) = _
      rw [Int.toNat_natCast, hc]
    rw [e]
    have tl : (os.take (c + 1)).length = c + 1 := by rw [List.length_take]; omega
    have a1 : (os.take (c + 1) ++ [r] ++ os.drop (c + 1))[c + 1]? = some r := by
      rw [List.append_assoc, List.getElem?_append_right (by omega), tl, Nat.sub_self]
      rfl
    have a2 : ∀ m, m < c + 1 → (os.take (c + 1) ++ [r] ++ os.drop (c + 1))[m]? = os[m]? := fun m hm => by
      rw [List.append_assoc, List.getElem?_append_left (by omega), List.getElem?_take_of_lt hm]
    refine ⟨c + 1, a1, fun m x hm hx2 e2 => ?_, ?_, fun _ => ⟨i, ?_, rfl⟩, by omega⟩
    · rw [a2 m hm] at hx2
      exact hr (e2 ▸ List.mem_of_getElem? hx2)
    · unfold hostIn
      rw [if_neg (by omega), List.getD_eq_getElem?_getD, Nat.add_sub_cancel, a2 c (by omega), hx]
      rfl
    · rw [Nat.add_sub_cancel, a2 c (by omega)]
      exact hx
/-! ### hosts in a list -/
def isHost (d : PyData) : Prop := d = .none ∨ ∃ i : Nat, d = .int (i : Int)
def hostV : PyData → V
  | .int i => .int i
  | _ => .non
theorem hosts_vals {H : Hp} : ∀ {vs : List V} {hl : List PyData}, RpL H vs hl → (∀ d ∈ hl, isHost d) → vs = hl.map hostV
  | _, _, .nil, _ => rfl
  | _, _, .cons h t, q => by
    rw [hosts_vals t fun d hd => q d (List.mem_cons_of_mem _ hd)]
    rcases q _ List.mem_cons_self with rfl | ⟨i, rfl⟩
    · cases h
      rfl
    · cases h
      rfl
theorem host_nodup {p T : List (List Cell)} {a : Nat} : (hostAt p T a).Nodup := by
  have hn : ((seqN p).take a).Nodup := (seqN_nodup p).sublist (List.take_sublist _ _)
  have inj : ∀ {l : List Nat}, l.Nodup → (natL l).Nodup := fun {l} h => by
    unfold natL
    exact List.Pairwise.map _ (fun a b hab e => hab (by cases e; rfl)) h
  unfold hostAt hostsL
  split
  · refine List.nodup_cons.mpr ⟨fun h => ?_, inj hn⟩
    obtain ⟨i, _, e⟩ := List.mem_map.mp h
    cases e
  · exact inj (hn.sublist (List.filter_sublist ..))
theorem host_is {p T : List (List Cell)} {a : Nat} : ∀ d ∈ hostAt p T a, isHost d := fun d hd => by
  rcases host_mem hd with h | ⟨i, _, h⟩
  · exact .inl h
  · exact .inr ⟨i, h⟩
theorem hostV_ne {d e : PyData} (h1 : isHost d) (h2 : isHost e) (h : d ≠ e) : eqV (hostV d) (hostV e) = false := by
  rcases h1 with rfl | ⟨i, rfl⟩ <;> rcases h2 with rfl | ⟨j, rfl⟩
  · exact absurd rfl h
  · rfl
  · rfl
  · show ((i : Int) == (j : Int)) = false
    rw [beq_eq_false_iff_ne]
    exact fun e => h (by rw [e])
section
variable {c : Ct} {F : Fp} {ρ : List Sl} {pos apos cpos : Pos} {a b e : Expr} {D : SE} {Φ : PyData → List Sl → Prop}
/-- xs.index(e), a frozen list of hosts -/
theorem we_indexH (i : Nat) {x : Str} {px : Pos} {hl0 : List PyData} (h : WE c F e ρ fun d ρ1 => ∃ (hl : List PyData) (j : Nat), ρ[i]? = some (Sl.fz (.list hl)) ∧ (∀ y ∈ hl, isHost y) ∧ hl[j]? = some d ∧ (∀ (m : Nat) (z : PyData), m < j → hl[m]? = some z → z ≠ d) ∧ Φ (.int (j : Int)) ρ1) (h0 : ρ[i]? = some (Sl.fz (.list hl0))) (hN : c.N[i]? = some x := by rfl)
    (hv : Vis c.sc x := by first | exact Or.inl rfl | exact Or.inr (Or.inl rfl) | exact Or.inr (Or.inr rfl))
    (hd : (x == ("__debug__" : Str)) = false := by decide) (hcd : (x == ("__classdict__" : Str)) = false := by decide) (hs1 : ∀ env, starEach [e] env = (false, eval e env) :: starEach [] env := by exact star_cons rfl)
    (hfew : ∀ env, ((backTo cpos (starEach [e] env)).all (fun x => !x.1) && (backToKw cpos (keywordEach [] env)).all (fun x => x.1.isSome) && decide ([e].length + ([] : List Keyword).length + (if ([] : List Keyword).isEmpty then 0 else 1) < 30)) = true := by intro _; rfl)
    (hline : (apos.endLine == cpos.line) = true := by rfl) (hpl : ∀ env, (backTo cpos (starEach [] env)).any (·.1) = false := by intro _; rfl) :
    WE c F (.Call (.Attribute (.Name x px) "index" apos) [e] [] cpos) ρ Φ := fun B σ H0 H hF E Q q =>
  wpE_of (t := tBM c.K "list" (rIndex c.K) (tVar i) (tCons (wpE c e) tNil)) (fun X hX => by rw [← hX.K]; exact pe_bm PySem.F.plainAttrs_list PySem.F.slot_list_index PySem.F.type_list_index mt_index (pe_var (by rw [hX.N]; exact hN) (by rw [hX.sc]; exact hv) hd hcd) (pa_cons (peW hX) pa_nil (hs1 _)) rfl (hfew _) hline (hs1 _) (hpl _)) (by
    obtain ⟨u, h1, h2⟩ := E.fz i _ h0
    cases h2 with
    | lst g1 g2 =>
      rename_i l vs
      refine ⟨_, h1, .inl ⟨rfl, _, SqL.of (E.ex _ _ g1)⟩, ?_⟩
      refine h B σ H0 H hF E _ fun v d ρ1 H1 H1' E1 e1 r1 ⟨hl, j, k1, k0, k2, k3, k4⟩ => ?_
      have hdh := k0 d (List.mem_of_getElem? k2)
      have hv : v = hostV d := by
        rcases hdh with rfl | ⟨i, rfl⟩
        · cases r1; rfl
        · cases r1; rfl
      obtain ⟨u2, z1, z2⟩ := E.fz i _ k1
      rw [h1] at z1
      cases z1
      cases z2 with
      | lst w1 w2 =>
        rw [g1] at w1
        cases w1
        have ev := hosts_vals w2 k0
        subst ev hv
        have fl : ∀ y, isHost y → flatV (hostV y) = true := fun y hy => by
          rcases hy with rfl | ⟨i, rfl⟩ <;> rfl
        have eqs : ∀ y, isHost y → eqV (hostV y) (hostV y) = true := fun y hy => by
          rcases hy with rfl | ⟨i, rfl⟩
          · rfl
          · exact beq_self_eq_true _
        refine ⟨l, _, hostV d, j, hostV d, rfl, rfl, SqL.of (E1.ex _ _ (e1 _ _ g1)), fl d hdh, List.all_eq_true.mpr fun z hz => ?_, by rw [List.getElem?_map, k2]; rfl, eqs d hdh, fun m z' hm hz => ?_, q _ _ ρ1 H1 H1' E1 e1 (.int _) k4⟩
        · obtain ⟨w, hw, rfl⟩ := List.mem_map.mp hz
          exact fl w (k0 w hw)
        · rw [List.getElem?_map] at hz
          obtain ⟨y, hy, rfl⟩ := Option.map_eq_some_iff.mp hz
          exact hostV_ne (k0 y (List.mem_of_getElem? hy)) hdh (k3 m y hm hy))
end
end G

set_option Elab.async false
set_option linter.all false
set_option maxRecDepth 100000
set_option maxHeartbeats 1000000
/-! each order that keeps a page has a code -/
namespace G
open PySem PySem.Spec PyProof.Rows L2
theorem fol_pass {p T : List (List Cell)} {h r b : Nat} (h1 : folR p T h r) (h2 : folR p T r b) (hle : lead (p.getD b []) ≤ lead (p.getD r [])) : folR p T h b := by
  unfold folR at *
  have l1 := (sh_le (T.getD h []) (T.getD r [])).2
  have l2 := (sh_le (T.getD r []) (T.getD b [])).2
  have l3 := (sh_le (T.getD h []) (T.getD r [])).1
  have l4 := (sh_le (T.getD r []) (T.getD b [])).1
  exact take_eq_sh (by omega) (by omega) ((take_sh (by omega : lead (p.getD b []) ≤ sh (T.getD h []) (T.getD r []))).trans (take_sh h2))
theorem chn_erase {p T : List (List Cell)} {r : Nat} (hle : ∀ b, b ≠ r → True) : ∀ {os : List Nat} {a : Nat}, chn (folR p T) a os → (∀ b ∈ os, lead (p.getD b []) ≤ lead (p.getD r [])) → chn (folR p T) a (os.erase r)
  | [], _, _, _ => trivial
  | b :: os, a, h, hl => by
    by_cases e : b = r
    · subst e
      rw [List.erase_cons_head]
      cases os with
      | nil => trivial
      | cons c os => exact ⟨fol_pass h.1 h.2.1 (hl c (List.mem_cons_of_mem _ List.mem_cons_self)), h.2.2⟩
    · rw [List.erase_cons_tail (by simpa using e)]
      exact ⟨h.1, chn_erase hle h.2 fun c hc => hl c (List.mem_cons_of_mem _ hc)⟩
theorem kept_erase {p T : List (List Cell)} {r : Nat} {os : List Nat} (h : Kept p T os) (hl : ∀ b ∈ os, lead (p.getD b []) ≤ lead (p.getD r [])) : Kept p T (os.erase r) := by
  cases os with
  | nil => trivial
  | cons a os =>
    by_cases e : a = r
    · subst e
      rw [List.erase_cons_head]
      cases os with
      | nil => trivial
      | cons c os =>
        refine ⟨?_, h.2.2⟩
        have := hl c (List.mem_cons_of_mem _ List.mem_cons_self)
        have := h.1
        omega
    · rw [List.erase_cons_tail (by simpa using e)]
      exact ⟨h.1, chn_erase (fun _ _ => trivial) h.2 fun c hc => hl c (List.mem_cons_of_mem _ hc)⟩
theorem chn_pred {R : Nat → Nat → Prop} {r : Nat} : ∀ {os : List Nat} {a : Nat}, chn R a os → r ∈ os → ∃ c h, (a :: os)[c]? = some h ∧ os[c]? = some r ∧ R h r ∧ c = os.idxOf r
  | [], _, _, h => absurd h (by simp)
  | b :: os, a, h, hr => by
    by_cases e : b = r
    · subst e
      exact ⟨0, a, rfl, rfl, h.1, by simp⟩
    · obtain ⟨c, h1, q1, q2, q3, q4⟩ := chn_pred h.2 ((List.mem_cons.mp hr).resolve_left fun q => e q.symm)
      exact ⟨c + 1, h1, q1, q2, q3, by rw [List.idxOf_cons, show (b == r) = false by simpa using e, q4]; rfl⟩
theorem erase_ins {os : List Nat} {r : Nat} (hn : os.Nodup) (hr : r ∈ os) : ∃ z, insAt (os.erase r) z r = os ∧ ((z = .none ∧ os.head? = some r) ∨ ∃ (c h : Nat), z = .int ((h : Nat) : Int) ∧ os[c]? = some h ∧ os[c + 1]? = some r ∧ h ∈ os.erase r) := by
  have hx : os[os.idxOf r]? = some r := by rw [List.getElem?_eq_getElem (List.idxOf_lt_length_of_mem hr), List.getElem_idxOf]
  have hl := List.idxOf_lt_length_of_mem hr
  have he : os.erase r = os.take (os.idxOf r) ++ os.drop (os.idxOf r + 1) := by
    rw [List.erase_eq_eraseIdx_of_idxOf rfl, List.eraseIdx_eq_take_drop_succ]
  have hsplit : os = os.take (os.idxOf r) ++ [r] ++ os.drop (os.idxOf r + 1) := by
    conv => lhs; rw [← List.take_append_drop (os.idxOf r) os]
    rw [List.append_assoc]
    congr 1
    rw [List.drop_eq_getElem_cons hl, List.getElem_idxOf]
    rfl
  generalize hc : os.idxOf r = c at hx hl he hsplit
  cases c with
  | zero =>
    refine ⟨.none, ?_, .inl ⟨rfl, by rw [List.head?_eq_getElem?]; exact hx⟩⟩
    show r :: os.erase r = os
    rw [he]
    exact hsplit.symm
  | succ c =>
    obtain ⟨h, hh⟩ : ∃ h, os[c]? = some h := ⟨_, List.getElem?_eq_getElem (by omega)⟩
    have tl : (os.take (c + 1)).length = c + 1 := by rw [List.length_take]; omega
    have hhe : (os.erase r)[c]? = some h := by
      rw [he, List.getElem?_append_left (by omega), List.getElem?_take_of_lt (by omega)]
      exact hh
    have hne : (os.erase r).Nodup := hn.sublist List.erase_sublist
    have hidx : (os.erase r).idxOf h = c := by
      obtain ⟨q1, q2⟩ := List.getElem?_eq_some_iff.mp hhe
      rw [← q2]
      exact hne.idxOf_getElem c q1
    refine ⟨.int (h : Int), ?_, .inr ⟨c, h, rfl, hh, hx, List.mem_of_getElem? hhe⟩⟩
    show (os.erase r).take ((os.erase r).idxOf ((h : Int).toNat) + 1) ++ [r] ++ (os.erase r).drop ((os.erase r).idxOf ((h : Int).toNat) + 1) = os
    rw [Int.toNat_natCast, hidx, he, List.take_left' tl, List.drop_left' tl]
    exact hsplit.symm
theorem chn_at {R : Nat → Nat → Prop} : ∀ {os : List Nat} {a c h r : Nat}, chn R a os → (a :: os)[c]? = some h → (a :: os)[c + 1]? = some r → R h r
  | [], a, c, h, r, _, _, h2 => by cases c <;> cases h2
  | b :: os, a, 0, h, r, k, h1, h2 => by
    cases h1
    cases h2
    exact k.1
  | b :: os, a, c + 1, h, r, k, h1, h2 => chn_at k.2 h1 h2
theorem ordO_same {p T : List (List Cell)} {ds es : List Nat} : ∀ i, (∀ a, a < i → ds.getD a 0 = es.getD a 0) → ordO p T ds i = ordO p T es i
  | 0, _ => rfl
  | i + 1, h => by rw [ordO_succ, ordO_succ, ordO_same i fun a ha => h a (by omega), h i (by omega)]
theorem kept_digs {p T : List (List Cell)} : ∀ (i : Nat), i ≤ p.length → ∀ os : List Nat, os.Perm ((seqN p).take i) → Kept p T os → ∃ es : List Nat, es.length = i ∧ (∀ a, a < i → es.getD a 0 < (hostAt p T a).length) ∧ os = ordO p T es i
  | 0, _, os, h, _ => ⟨[], rfl, fun a ha => absurd ha (Nat.not_lt_zero _), h.eq_nil⟩
  | i + 1, hi, os, h, hk => by
    have tk : (seqN p).take (i + 1) = (seqN p).take i ++ [(seqN p).getD i 0] := take_snoc (seqN_at hi)
    have hout := seq_out (p := p) (Nat.le_refl i) hi
    have hle := fun b (hb : b ∈ (seqN p).take i) => seq_le hi hb
    have er : (seqN p).getD i 0 = (seqN p).getD i 0 := rfl
    generalize hr : (seqN p).getD i 0 = r at tk hout hle
    have hro : r ∈ os := h.mem_iff.mpr (by rw [tk]; exact List.mem_append_right _ List.mem_cons_self)
    have hnd : os.Nodup := h.nodup_iff.mpr ((seqN_nodup p).sublist (List.take_sublist _ _))
    have hpe : (os.erase r).Perm ((seqN p).take i) := by
      have h2 := h.erase r
      rw [tk, List.erase_append_right _ hout] at h2
      simpa using h2
    have hlo : ∀ b ∈ os, lead (p.getD b []) ≤ lead (p.getD r []) := fun b hb => by
      have := h.mem_iff.mp hb
      rw [tk] at this
      rcases List.mem_append.mp this with q | q
      · exact hle b q
      · rw [List.mem_singleton.mp q]; exact Nat.le_refl _
    obtain ⟨es, e1, e2, e3⟩ := kept_digs i (by omega) (os.erase r) hpe (kept_erase hk hlo)
    obtain ⟨z, z1, z2⟩ := erase_ins hnd hro
    have hz : z ∈ hostAt p T i := by
      unfold hostAt hostsL
      rw [hr]
      rcases z2 with ⟨rfl, hh⟩ | ⟨c, a, rfl, h1, h2, h3⟩
      · cases os with
        | nil => cases hh
        | cons x os =>
          cases hh
          rw [if_pos hk.1]
          exact List.mem_cons_self
      · have hat := hpe.mem_iff.mp h3
        have hf : folR p T a r := by
          cases os with
          | nil => cases h1
          | cons x os => exact chn_at hk.2 h1 h2
        split
        · exact List.mem_cons_of_mem _ (List.mem_map.mpr ⟨a, hat, rfl⟩)
        · exact List.mem_map.mpr ⟨a, List.mem_filter.mpr ⟨hat, decide_eq_true hf⟩, rfl⟩
    obtain ⟨j, hj⟩ := List.mem_iff_getElem?.mp hz
    have hlt := (List.getElem?_eq_some_iff.mp hj).1
    have g1 : ∀ a, a < i → (es ++ [j]).getD a 0 = es.getD a 0 := fun a ha => by
      rw [List.getD_eq_getElem?_getD, List.getD_eq_getElem?_getD, List.getElem?_append_left (by omega)]
    have g2 : (es ++ [j]).getD i 0 = j := by
      rw [List.getD_eq_getElem?_getD, List.getElem?_append_right (by omega), e1, Nat.sub_self]
      rfl
    refine ⟨es ++ [j], by rw [List.length_append, e1]; rfl, fun a ha => ?_, ?_⟩
    · by_cases q : a = i
      · subst q
        rw [g2]
        exact hlt
      · rw [g1 a (by omega)]
        exact e2 a (by omega)
    · rw [ordO_succ, ordO_same i g1, g2, ← e3, hr, List.getD_eq_getElem?_getD, hj]
      exact z1.symm
theorem kept_code {p : List (List Cell)} {n : Nat} {os : List Nat} (ho : os.Perm (List.range p.length)) (hk : Kept p (tableOf p n) os) : ∃ es : List Nat, es.length = p.length ∧ Digs p (tableOf p n) es ∧ os = ordO p (tableOf p n) es p.length := by
  have tl : (seqN p).take p.length = seqN p := List.take_of_length_le (by rw [seqN_len]; exact Nat.le_refl _)
  exact kept_digs p.length (Nat.le_refl _) os (by rw [tl]; exact ho.trans (seqN_perm p).symm) hk
end G

set_option Elab.async false
set_option linter.all false
set_option maxRecDepth 100000
set_option maxHeartbeats 1000000
/-! codes and numbers -/
namespace G
open PySem PySem.Spec PyProof.Rows L2
theorem nth_num {es ss : List Nat} (hs : ∀ s ∈ ss, 0 < s) (h : Digits es ss) : numN es ss < prodN ss ∧ nth (numN es ss) ss = es := by
  have lt : numN es ss < prodN ss := by
    have := fromN_lt_add h 0
    rw [← numN_eq] at this
    omega
  refine ⟨lt, ?_⟩
  have e := num_nth hs lt
  have l1 := fromN_lex (Digits.of_nth hs (numN es ss)) h 0
  have l2 := fromN_lex h (Digits.of_nth hs (numN es ss)) 0
  rw [← numN_eq, ← numN_eq, e] at l1 l2
  have n1 : ¬ (nth (numN es ss) ss).map (fun (n : Nat) => (n : Int)) < es.map fun (n : Nat) => (n : Int) := fun z => absurd (l1.mpr z) (Nat.lt_irrefl _)
  have n2 : ¬ es.map (fun (n : Nat) => (n : Int)) < (nth (numN es ss) ss).map fun (n : Nat) => (n : Int) := fun z => absurd (l2.mpr z) (Nat.lt_irrefl _)
  have := List.le_antisymm (List.not_lt.mp n2) (List.not_lt.mp n1)
  exact (List.map_inj_right fun a b h => by omega).mp this
theorem hostC_at {p : List (List Cell)} {n a : Nat} (ha : a < p.length) : (hostC p n)[a]? = some (hostAt p (tableOf p n) a).length := by
  unfold hostC
  rw [List.getElem?_map, List.getElem?_range ha]
  rfl
theorem hostC_len (p : List (List Cell)) (n : Nat) : (hostC p n).length = p.length := by unfold hostC; rw [List.length_map, List.length_range]
theorem digits_of : ∀ {es ss : List Nat}, es.length = ss.length → (∀ (j i s : Nat), es[j]? = some i → ss[j]? = some s → i < s) → Digits es ss
  | [], [], _, _ => trivial
  | [], _ :: _, h, _ => by cases h
  | _ :: _, [], h, _ => by cases h
  | d :: ds, s :: ss, h, k => ⟨k 0 d s rfl rfl, digits_of (Nat.succ.inj h) fun j i s' h1 h2 => k (j + 1) i s' h1 h2⟩
theorem digs_lt {p : List (List Cell)} {n : Nat} {es : List Nat} (hl : es.length = p.length) (hd : Digs p (tableOf p n) es) : ∀ (j i s : Nat), es[j]? = some i → (hostC p n)[j]? = some s → i < s := fun j i s h1 h2 => by
  have hj : j < p.length := by have := (List.getElem?_eq_some_iff.mp h1).1; omega
  rw [hostC_at hj] at h2
  cases h2
  have := hd j hj
  rw [List.getD_eq_getElem?_getD, h1] at this
  exact this
theorem code_num {p : List (List Cell)} {n : Nat} {es : List Nat} (hp : OkPage p n) (hl : es.length = p.length) (hd : Digs p (tableOf p n) es) : numN es (hostC p n) < prodN (hostC p n) ∧ nthO p n (numN es (hostC p n)) = ordO p (tableOf p n) es p.length := by
  obtain ⟨h1, h2⟩ := nth_num (host_sizes hp).pos (digits_of (by rw [hl, hostC_len]) (digs_lt hl hd))
  exact ⟨h1, by unfold nthO; rw [h2]⟩
theorem nth_digs {p : List (List Cell)} {n : Nat} (hp : OkPage p n) (j : Nat) : (nth j (hostC p n)).length = p.length ∧ Digs p (tableOf p n) (nth j (hostC p n)) :=
  ⟨by rw [nth_length, hostC_len], fun a ha => nth_digit hp ha⟩
end G

set_option Elab.async false
set_option linter.all false
set_option maxRecDepth 100000
set_option maxHeartbeats 1000000
namespace G
open PySem PySem.Spec PyProof.Rows L2
section
variable {c : Ct} {F : Fp} {ρ : List Sl} {pos apos cpos pd pl p1 p2 pt pt2 sp : Pos} {a b e e1 : Expr} {kt k2 : Nat} {sts : List Stmt} {D : SE} {Φ : PyData → List Sl → Prop}
/-- x, y = {}, [], both own -/
theorem ws_dlo (i j : Nat) {x y : Str} (h : D.nx ((ρ.set j (.ow [])).set i (.od (dictD [])))) (hi : i < ρ.length := by exact of_decide_eq_true rfl) (hj : j < ρ.length := by exact of_decide_eq_true rfl) (hij : i ≠ j := by decide)
    (hN1 : c.N[i]? = some x := by rfl) (hN2 : c.N[j]? = some y := by rfl)
    (hx : c.sc.names.lookup x = some .local := by rfl) (hy : c.sc.names.lookup y = some .local := by rfl)
    (hs1 : ∀ env, starEach [.Dict [] [] pd, .List [] pl] env = (false, eval (.Dict [] [] pd) env) :: starEach [.List [] pl] env := by intro _; rfl)
    (hw : ∀ env : Env, env.scope = c.sc → swappedStores [.Tuple [.Name x p1, .Name y p2] kt pt] (.Tuple [.Dict [] [] pd, .List [] pl] k2 pt2) env = pure (some [x, y]) := by rintro ⟨⟩ rfl; rfl)
    (hs : ∀ env, swapsWithSole [.Tuple [.Name x p1, .Name y p2] kt pt] (.Tuple [.Dict [] [] pd, .List [] pl] k2 pt2) pos.line env = pure false := by intro _; rfl) :
    WS c F (.Assign [.Tuple [.Name x p1, .Name y p2] kt pt] (.Tuple [.Dict [] [] pd, .List [] pl] k2 pt2) pos) ρ D := fun B σ H0 H hF E Ed f =>
  wpS_of (fun X hX => ps_par hX.calm hX.nd (by rw [hX.N]; exact hN1) (by rw [hX.N]; exact hN2) hij (by rw [hX.sc]; exact hx) (by rw [hX.sc]; exact hy) (pa_cons pe_dnewK (pa_cons (pe_lst pa_nil) pa_nil) (hs1 _)) (hw _ hX.sc) (hs _)) (by
    intro p hp
    have nb := E.fresh hp
    have nF : ¬ B.F p := fun g => by
      obtain ⟨_, o, w⟩ := E.fF p g
      rw [hp] at w
      cases w
    have nf : H0 p = none := E.ex.free hp
    have E1 := E.junk (o := .dK []) hp
    refine ⟨(by show 0 ≤ sizeLine; decide), fun q hq => ?_⟩
    have E2 := (E1.newL hq (vs := []) (ds := []) .nil)
    have hpq : p ≠ q := fun z => by
      subst z
      rw [upd_same] at hq
      cases hq
    have E4 := E2.1.own (i := j) E2.2 hj
    have E5 := E4.setD (l := p) (kvs := []) (es := dictD []) (i := i) (by rw [upd_ne hpq, upd_same]) nf nb nF .nil (fun a fs h => by
      have ha : j ≠ a := fun z => by
        subst z
        rw [List.getElem?_set_self hj] at h
        cases h
      rw [List.getElem?_set_ne ha] at h ⊢
      exact E.newOd hp a fs h) (by rw [List.length_set]; exact hi)
    have e : (σ.set j (some (V.ref q))).set i (some (V.ref p)) = (σ.set i (some (V.ref p))).set j (some (V.ref q)) := List.set_comm _ _ (Ne.symm hij)
    rw [e] at E5
    exact ⟨_, _, rfl, f.nx _ _ _ _ E5 h⟩)
/-- a.index(e), a any expression that gives a list of hosts -/
theorem we_indexE (h : WE c F a ρ fun dl ρ0 => ∃ hl : List PyData, dl = .list hl ∧ (∀ y ∈ hl, isHost y) ∧ WE c F e ρ0 fun d ρ1 => ∃ j : Nat, hl[j]? = some d ∧ (∀ (m : Nat) (z : PyData), m < j → hl[m]? = some z → z ≠ d) ∧ Φ (.int (j : Int)) ρ1)
    (hb : ∀ env, attributeBase a "index" env (eval a env) = eval a env := by intro _; rfl) (hs1 : ∀ env, starEach [e] env = (false, eval e env) :: starEach [] env := by exact star_cons rfl)
    (hfew : ∀ env, ((backTo cpos (starEach [e] env)).all (fun x => !x.1) && (backToKw cpos (keywordEach [] env)).all (fun x => x.1.isSome) && decide ([e].length + ([] : List Keyword).length + (if ([] : List Keyword).isEmpty then 0 else 1) < 30)) = true := by intro _; rfl)
    (hline : (apos.endLine == cpos.line) = true := by rfl) (hpl : ∀ env, (backTo cpos (starEach [] env)).any (·.1) = false := by intro _; rfl) :
    WE c F (.Call (.Attribute a "index" apos) [e] [] cpos) ρ Φ := fun B σ H0 H hF E Q q =>
  wpE_of (t := tBM c.K "list" (rIndex c.K) (wpE c a) (tCons (wpE c e) tNil)) (fun X hX => by rw [← hX.K]; exact pe_bm PySem.F.plainAttrs_list PySem.F.slot_list_index PySem.F.type_list_index mt_index (peW hX) (pa_cons (peW hX) pa_nil (hs1 _)) (hb _) (hfew _) hline (hs1 _) (hpl _))
    (h B σ H0 H hF E _ fun v dl ρ0 H1 H1' E1 e1 r1 ⟨hl, k0, k1, k2⟩ => by
      subst k0
      cases r1 with
      | lst g1 g2 =>
        rename_i l vs
        refine ⟨.inl ⟨rfl, _, SqL.of (E1.ex _ _ g1)⟩, ?_⟩
        refine k2 B σ H1 H1' hF E1 _ fun v2 d ρ1 H2 H2' E2 e2 r2 ⟨j, j1, j2, j3⟩ => ?_
        have hdh := k1 d (List.mem_of_getElem? j1)
        have hv : v2 = hostV d := by
          rcases hdh with rfl | ⟨i, rfl⟩
          · cases r2; rfl
          · cases r2; rfl
        have ev := hosts_vals g2 k1
        subst ev hv
        have fl : ∀ y, isHost y → flatV (hostV y) = true := fun y hy => by
          rcases hy with rfl | ⟨i, rfl⟩ <;> rfl
        have eqs : ∀ y, isHost y → eqV (hostV y) (hostV y) = true := fun y hy => by
          rcases hy with rfl | ⟨i, rfl⟩
          · rfl
          · exact beq_self_eq_true _
        refine ⟨l, _, hostV d, j, hostV d, rfl, rfl, SqL.of (E2.ex _ _ (e2 _ _ g1)), fl d hdh, List.all_eq_true.mpr fun z hz => ?_, by rw [List.getElem?_map, j1]; rfl, eqs d hdh, fun m z' hm hz => ?_, q _ _ ρ1 H2 H2' E2 (e1.trans e2) (.int _) j3⟩
        · obtain ⟨w, hw, rfl⟩ := List.mem_map.mp hz
          exact fl w (k1 w hw)
        · rw [List.getElem?_map] at hz
          obtain ⟨y, hy, rfl⟩ := Option.map_eq_some_iff.mp hz
          exact hostV_ne (k1 y (List.mem_of_getElem? hy)) hdh (j2 m y hm hy))
theorem erase_castI : ∀ (l : List Nat) (j : Nat), (l.map fun (k : Nat) => (k : Int)).eraseIdx j = (l.eraseIdx j).map fun (k : Nat) => (k : Int)
  | [], j => by simp
  | a :: r, 0 => by simp
  | a :: r, j + 1 => by
    have ih := erase_castI r j
    simp [ih]
theorem rp_nats {H : Hp} : ∀ ns : List Nat, RpL H (ns.map fun (k : Nat) => V.int (k : Int)) (natL ns)
  | [] => .nil
  | n :: ns => .cons (.int _) (rp_nats ns)
/-- xs.remove(e), xs an own list of numbers -/
theorem ws_remove (i : Nat) {x : Str} {px : Pos} (h : WE c F e ρ fun d ρ1 => ∃ (ns : List Nat) (j n : Nat), d = .int (n : Int) ∧ ρ1[i]? = some (Sl.ow (natL ns)) ∧ ns[j]? = some n ∧ (∀ (m z : Nat), m < j → ns[m]? = some z → z ≠ n) ∧ D.nx (ρ1.set i (Sl.ow (natL (ns.eraseIdx j))))) {ds0 : List PyData} (h0 : ρ[i]? = some (Sl.ow ds0)) (hN : c.N[i]? = some x := by rfl)
    (hv : Vis c.sc x := by first | exact Or.inl rfl | exact Or.inr (Or.inl rfl) | exact Or.inr (Or.inr rfl))
    (hd : (x == ("__debug__" : Str)) = false := by decide) (hcd : (x == ("__classdict__" : Str)) = false := by decide) (hs1 : ∀ env, starEach [e] env = (false, eval e env) :: starEach [] env := by intro _; rfl)
    (hfew : ∀ env, ((backTo cpos (starEach [e] env)).all (fun x => !x.1) && (backToKw cpos (keywordEach [] env)).all (fun x => x.1.isSome) && decide ([e].length + ([] : List Keyword).length + (if ([] : List Keyword).isEmpty then 0 else 1) < 30)) = true := by intro _; rfl)
    (hline : (apos.endLine == cpos.line) = true := by rfl) (hpl : ∀ env, (backTo cpos (starEach [] env)).any (·.1) = false := by intro _; rfl) :
    WS c F (.Expr (.Call (.Attribute (.Name x px) "remove" apos) [e] [] cpos) pos) ρ D := fun B σ H0 H hF E Ed f =>
  wpS_of (t := tDrop (tBM c.K "list" rRemI (tVar i) (tCons (wpE c e) tNil))) (fun X hX => by rw [← hX.K]; exact ps_expr (pe_bm PySem.F.plainAttrs_list PySem.F.slot_list_remove PySem.F.type_list_remove mt_remove (pe_var (by rw [hX.N]; exact hN) (by rw [hX.sc]; exact hv) hd hcd) (pa_cons (peW hX) pa_nil (hs1 _)) rfl (hfew _) hline (hs1 _) (hpl _)) rfl) (by
    obtain ⟨l, vs, h1, h2, h3⟩ := E.owAt h0
    refine ⟨_, h1, .inl ⟨rfl, _, SqL.of h2⟩, ?_⟩
    refine h B σ H0 H hF E _ fun v d ρ1 H1 H1' E1 e1 r1 ⟨ns, j, n, k1, k2, k3, k4, k5⟩ => ?_
    subst k1
    cases r1
    obtain ⟨l', vs', g1, g2, g3⟩ := E1.owAt k2
    rw [h1] at g1
    cases g1
    have ev := natL_vals g3
    have e2 : (ns.map fun (k : Nat) => V.int (k : Int)) = (ns.map fun (k : Nat) => (k : Int)).map V.int := by rw [List.map_map]; rfl
    refine ⟨l, ns.map fun (k : Nat) => (k : Int), (n : Int), j, rfl, rfl, by rw [← e2, ← ev]; exact g2, by rw [List.getElem?_map, k3]; rfl, fun m hm hz => ?_, ?_⟩
    · rw [List.getElem?_map] at hz
      obtain ⟨y, hy, hyn⟩ := Option.map_eq_some_iff.mp hz
      exact k4 m y hm hy (by omega)
    · have e3 : (((ns.map fun (k : Nat) => (k : Int)).eraseIdx j).map V.int) = (ns.eraseIdx j).map fun (k : Nat) => V.int (k : Int) := by
        rw [erase_castI, List.map_map]
        rfl
      rw [e3]
      exact f.nx _ σ H1 _ (E1.change k2 h1 (rp_nats (ns.eraseIdx j))) k5)
end
theorem ins_back {os : List Nat} {z : PyData} {r c : Nat} (hr : r ∉ os) (hn : os.Nodup) (h : (insAt os z r)[c]? = some r) : (insAt os z r).eraseIdx c = os := by
  have nd : (insAt os z r).Nodup := (ins_perm os z r).nodup_iff.mpr (List.nodup_cons.mpr ⟨hr, hn⟩)
  obtain ⟨q1, q2⟩ := List.getElem?_eq_some_iff.mp h
  have hi : (insAt os z r).idxOf r = c := by
    have := nd.idxOf_getElem c q1
    rw [q2] at this
    exact this
  rw [← List.erase_eq_eraseIdx_of_idxOf hi]
  have mid : ∀ d, (os.take d ++ [r] ++ os.drop d).erase r = os := fun d => by
    rw [List.append_assoc, List.erase_append_right _ (fun q => hr (List.mem_of_mem_take q)), List.singleton_append, List.erase_cons_head, List.take_append_drop]
  unfold insAt
  split
  · exact mid _
  · exact List.erase_cons_head ..
end G

set_option Elab.async false
set_option linter.all false
set_option maxRecDepth 100000
set_option maxHeartbeats 1000000
namespace G
open PySem PySem.Spec PyProof.Rows L2
section
variable {c : Ct} {F : Fp} {ρ : List Sl} {pos : Pos} {e : Expr} {Φ : PyData → List Sl → Prop}
theorem we_strI {p : Pos} (h : WE c F e ρ fun d ρ1 => ∃ j : Nat, d = .int (j : Int) ∧ j < 2 ^ 20 ∧ Φ (.str (Str.ofString (toString (j : Int)))) ρ1) (hm : c.mg "str" = none) (hg : c.sc.names.lookup ("str" : Str) = some NameKind.globalImplicit := by rfl) (hs : ∀ env, starEach [e] env = (false, eval e env) :: starEach [] env := by intro _; rfl)
    (hpl : ∀ env, (backTo pos (starEach [] env)).any (·.1) = false := by intro _; rfl) : WE c F (.Call (.Name "str" p) [e] [] pos) ρ Φ :=
  we_callTy (fun X hX => call_str_int) (wa_cons (h.imp fun d ρ1 ⟨k, h1, h0, h2⟩ => wa_nil (.flat h2 (fun H => .str _) fun H0 H vs ex rs Q q => by
    subst h1
    cases rs with
    | cons r1 r2 =>
      cases r2
      cases r1
      refine ⟨(k : Int), rfl, ?_, q⟩
      have := log2_lt h0 (by decide)
      rw [Int.natAbs_natCast]
      omega)) hs) hg hm (by decide +kernel) (by decide) (by decide) hs hpl
end
theorem prod_64 : ∀ (ns : List Nat) (k : Nat), (∀ s ∈ ns, s ≤ 64) → ns.foldl (· * ·) k ≤ k * 64 ^ ns.length
  | [], k, _ => by simp
  | s :: ns, k, h => by
    show ns.foldl (· * ·) (k * s) ≤ k * 64 ^ (ns.length + 1)
    refine Nat.le_trans (prod_64 ns (k * s) fun t ht => h t (List.mem_cons_of_mem _ ht)) ?_
    rw [Nat.pow_succ, Nat.mul_comm (64 ^ ns.length) 64, ← Nat.mul_assoc]
    exact Nat.mul_le_mul_right _ (Nat.mul_le_mul_left _ (h s List.mem_cons_self))
theorem pow_400 : 64 ^ 60 < 2 ^ 400 := by decide +kernel
theorem hostC_64 {p : List (List Cell)} {n : Nat} (hp : OkPage p n) : ∀ s ∈ hostC p n, s ≤ 64 := fun s hs => by
  have hi := hp.hi
  unfold hostC at hs
  obtain ⟨a, _, rfl⟩ := List.mem_map.mp hs
  have := host_few (p := p) (n := n) (a := a)
  omega
theorem hostC_400 {p : List (List Cell)} {n : Nat} (hp : OkPage p n) : prodN (hostC p n) < 2 ^ 400 := by
  have hi := hp.hi
  have h := prod_64 (hostC p n) 1 (hostC_64 hp)
  rw [hostC_len, Nat.one_mul] at h
  have h2 : 64 ^ p.length ≤ 64 ^ 60 := Nat.pow_le_pow_right (by decide) hi
  have := pow_400
  show (hostC p n).foldl (· * ·) 1 < _
  omega
theorem prod_take {p : List (List Cell)} {n i : Nat} (hp : OkPage p n) : prodN ((hostC p n).take i) < 2 ^ 400 := by
  have hi := hp.hi
  have h := prod_64 ((hostC p n).take i) 1 fun s hs => hostC_64 hp s (List.mem_of_mem_take hs)
  rw [Nat.one_mul] at h
  have hl : ((hostC p n).take i).length ≤ 60 := by rw [List.length_take, hostC_len]; omega
  have h2 : 64 ^ ((hostC p n).take i).length ≤ 64 ^ 60 := Nat.pow_le_pow_right (by decide) hl
  have := pow_400
  show ((hostC p n).take i).foldl (· * ·) 1 < _
  omega
theorem prod_pos {ns : List Nat} (h : ∀ s ∈ ns, 0 < s) : 0 < prodN ns := by
  have key : ∀ (ns : List Nat) (k : Nat), 0 < k → (∀ s ∈ ns, 0 < s) → 0 < ns.foldl (· * ·) k := fun ns => by
    induction ns with
    | nil => exact fun k hk _ => hk
    | cons s ns ih => exact fun k hk h => ih (k * s) (Nat.mul_pos hk (h s List.mem_cons_self)) fun t ht => h t (List.mem_cons_of_mem _ ht)
  exact key ns 1 (by decide) h
theorem prod_snoc (ns : List Nat) (s : Nat) : prodN (ns ++ [s]) = prodN ns * s := by
  unfold prodN
  rw [List.foldl_append]
  rfl
/-! ### sixty rows, no blank -/
def strA (j : Nat) : Str := ("a" : Str) ++ Str.ofString (toString (j : Int))
theorem strA_ok : ∀ j ∈ List.range 60, okVb (strA j) = true ∧ (("a" : Str)).length + (Str.ofString (toString (j : Int))).length ≤ 100000 := by decide +kernel
def W60 : List (List Cell) := (List.range 60).map fun j => [some (strA j)]
theorem W60_len : W60.length = 60 := by unfold W60; rw [List.length_map, List.length_range]
theorem W60_table : OkTable W60 1 := by
  refine full_table (by rw [W60_len]; decide) (by rw [W60_len]; decide) (by decide) fun r hr => ?_
  obtain ⟨j, hj, rfl⟩ := List.mem_map.mp hr
  refine ⟨fun x hx => ?_, rfl⟩
  rw [List.mem_singleton.mp hx]
  exact ⟨_, rfl, okV_of (strA_ok j hj).1⟩
theorem W60_lead (i : Nat) : lead (W60.getD i []) = 0 := by
  by_cases h : i < W60.length
  · exact W60_table.full _ (List.mem_of_getElem? (getD_at h))
  · rw [List.getD_eq_getElem?_getD, List.getElem?_eq_none (by omega)]
    rfl
theorem W60_seq : seqN W60 = List.range 60 := seqN_is (by rw [W60_len]) (List.pairwise_lt_range.imp fun {i j} h => by
  unfold seqLe
  rw [W60_lead, W60_lead]
  exact decide_eq_true (by omega))
theorem W60_host {T : List (List Cell)} {a : Nat} (ha : a < 60) : hostAt W60 T a = .none :: natL (List.range a) := by
  unfold hostAt hostsL
  rw [if_pos (W60_lead _), W60_seq, List.take_range, Nat.min_eq_left (by omega)]
theorem W60_sizes : hostC W60 1 = (List.range 60).map (· + 1) := by
  unfold hostC
  rw [W60_len]
  refine List.map_congr_left fun a ha => ?_
  rw [W60_host (List.mem_range.mp ha), List.length_cons]
  unfold natL
  rw [List.length_map, List.length_range]
theorem W60_ord {T : List (List Cell)} : ∀ i, i ≤ 60 → ordO W60 T (List.range 60) i = List.range i
  | 0, _ => rfl
  | i + 1, hi => by
    rw [ordO_succ, W60_ord i (by omega), W60_host (by omega), W60_seq]
    have e1 : (List.range 60).getD i 0 = i := by rw [List.getD_eq_getElem?_getD, List.getElem?_range (by omega)]; rfl
    rw [e1, List.range_succ]
    cases i with
    | zero => rfl
    | succ i =>
      have e2 : (PyData.none :: natL (List.range (i + 1))).getD (i + 1) .none = .int ((i : Nat) : Int) := by
        rw [List.getD_cons_succ, List.getD_eq_getElem?_getD]
        unfold natL
        rw [List.getElem?_map, List.getElem?_range (by omega)]
        rfl
      rw [e2]
      show (List.range (i + 1)).take ((List.range (i + 1)).idxOf ((i : Int).toNat) + 1) ++ [i + 1] ++ (List.range (i + 1)).drop ((List.range (i + 1)).idxOf ((i : Int).toNat) + 1) = _
      have e3 : (List.range (i + 1)).idxOf i = i := by
        have := (List.nodup_range (n := i + 1)).idxOf_getElem i (by rw [List.length_range]; omega)
        rw [List.getElem_range] at this
        exact this
      rw [Int.toNat_natCast, e3, List.take_of_length_le (by rw [List.length_range]; omega), List.drop_of_length_le (by rw [List.length_range]; omega), List.append_nil]
theorem W60_last : nthO W60 1 (prodN (hostC W60 1) - 1) = List.range 60 := by
  have hd : Digs W60 (tableOf W60 1) (List.range 60) := fun a ha => by
    rw [W60_len] at ha
    rw [W60_host ha, List.length_cons, List.getD_eq_getElem?_getD, List.getElem?_range ha]
    unfold natL
    rw [List.length_map, List.length_range]
    exact Nat.lt_succ_self a
  have h := code_num (table_page W60_table) (by rw [List.length_range, W60_len]) hd
  have e : numN (List.range 60) (hostC W60 1) = prodN (hostC W60 1) - 1 := by
    rw [W60_sizes]
    decide +kernel
  rw [← e, h.2, W60_len, W60_ord 60 (by decide)]
end G

set_option Elab.async false
set_option linter.all false
set_option maxRecDepth 100000
set_option maxHeartbeats 1000000
/-! all orders of a few rows -/
namespace G
open PySem PySem.Spec PyProof.Rows L2
def nextO (m : Nat) (row : List Nat) : List (List Nat) := ((List.range m).filter fun s => !decide (s ∈ row)).map fun s => row ++ [s]
def ordersF (m : Nat) : Nat → List (List Nat)
  | 0 => [[]]
  | t + 1 => (ordersF m t).flatMap (nextO m)
theorem nextO_len (m : Nat) (row : List Nat) : (nextO m row).length ≤ m := by
  unfold nextO
  rw [List.length_map]
  exact Nat.le_trans (List.length_filter_le _ _) (by rw [List.length_range]; exact Nat.le_refl _)
theorem flat_le (m : Nat) : ∀ xs : List (List Nat), (xs.flatMap (nextO m)).length ≤ xs.length * m
  | [] => by simp
  | x :: xs => by
    rw [List.flatMap_cons, List.length_append, List.length_cons, Nat.succ_mul]
    have := flat_le m xs
    have := nextO_len m x
    omega
theorem orders_len {m : Nat} (hm : m ≤ 6) : ∀ t, (ordersF m t).length ≤ 6 ^ t
  | 0 => Nat.le_refl _
  | t + 1 => by
    have h1 := flat_le m (ordersF m t)
    have h2 := orders_len hm t
    show ((ordersF m t).flatMap (nextO m)).length ≤ _
    rw [Nat.pow_succ]
    exact Nat.le_trans h1 (Nat.mul_le_mul h2 hm)
theorem orders_mem {m : Nat} : ∀ {t : Nat} {row : List Nat}, row ∈ ordersF m t → row.Nodup ∧ (∀ s ∈ row, s < m) ∧ row.length = t
  | 0, row, h => by
    rw [List.mem_singleton.mp h]
    exact ⟨List.nodup_nil, fun s hs => (by cases hs), rfl⟩
  | t + 1, row, h => by
    obtain ⟨r, hr, h2⟩ := List.mem_flatMap.mp h
    obtain ⟨h3, h4, h5⟩ := orders_mem hr
    unfold nextO at h2
    obtain ⟨s, hs, rfl⟩ := List.mem_map.mp h2
    obtain ⟨q1, q2⟩ := List.mem_filter.mp hs
    have q1 := List.mem_range.mp q1
    have q3 : s ∉ r := by
      have : decide (s ∈ r) = false := by simpa using q2
      exact of_decide_eq_false this
    refine ⟨?_, fun x hx => ?_, by rw [List.length_append, h5]; rfl⟩
    · rw [List.nodup_append]
      refine ⟨h3, by simp, fun a ha b hb => ?_⟩
      rw [List.mem_singleton.mp hb]
      exact fun e => q3 (e ▸ ha)
    · rcases List.mem_append.mp hx with hx | hx
      · exact h4 x hx
      · rw [List.mem_singleton.mp hx]; exact q1
theorem orders_perm {m : Nat} {row : List Nat} (h : row ∈ ordersF m m) : row.Perm (List.range m) := by
  obtain ⟨h1, h2, h3⟩ := orders_mem h
  refine (List.perm_ext_iff_of_nodup h1 List.nodup_range).mpr fun a => ⟨fun ha => List.mem_range.mpr (h2 a ha), fun ha => ?_⟩
  refine Decidable.by_contra fun hn => ?_
  have hnd : (a :: row).Nodup := List.nodup_cons.mpr ⟨hn, h1⟩
  have := hnd.length_le_of_subset (l₂ := List.range m) fun x hx => by
    rcases List.mem_cons.mp hx with rfl | hx
    · exact ha
    · exact List.mem_range.mpr (h2 x hx)
  rw [List.length_cons, List.length_range, h3] at this
  omega
end G

set_option Elab.async false
set_option linter.all false
set_option maxRecDepth 100000
set_option maxHeartbeats 1000000
namespace G
open PySem PySem.Spec PyProof.Rows L2
section
variable {c : Ct} {F : Fp} {ρ : List Sl} {pos px : Pos} {e : Expr}
/-- xs[e] as a target, xs an own list -/
theorem wg_sub (a : Nat) {x : Str} {d : PyData} {Φ : List Sl → Prop} (h : WE c F e ρ fun y ρ1 => ∃ (ds : List PyData) (j : Nat), y = .int (j : Int) ∧ ρ1[a]? = some (Sl.ow ds) ∧ j < ds.length ∧ Φ (ρ1.set a (Sl.ow (ds.set j d)))) {ds0 : List PyData} (h0 : ρ[a]? = some (Sl.ow ds0)) (hN : c.N[a]? = some x := by rfl)
    (hv : Vis c.sc x := by first | exact Or.inl rfl | exact Or.inr (Or.inl rfl) | exact Or.inr (Or.inr rfl)) (hd : (x == ("__debug__" : Str)) = false := by decide) (hcd : (x == ("__classdict__" : Str)) = false := by decide)
    (hp : ∀ X : Cx, Has c X → ∀ {to ti : TE} {t : TSet}, PE X (.Name x px) to → PE X e ti → PSet X t → PG X (.Subscript (.Name x px) e pos) (gSub to ti t) := by exact fun X _ => fun ho hi hs => pg_sub ho hi hs) : WG c F (.Subscript (.Name x px) e pos) d ρ Φ := fun B σ H0 H v hF E r Q q =>
  wpG_of (t := gSub (tVar a) (wpE c e) rSetL) (fun X hX => hp X hX (pe_var (by rw [hX.N]; exact hN) (by rw [hX.sc]; exact hv) hd hcd) (peW hX) set_list) (by
    obtain ⟨l, vs, h1, h2, h3⟩ := E.owAt h0
    refine ⟨_, h1, ?_⟩
    refine h B σ H0 H hF E _ fun u y ρ1 H1 H1' E1 e1 r1 ⟨ds, j, k0, k1, k2, k3⟩ => ?_
    subst k0
    cases r1
    obtain ⟨l', vs', g1, g2, g3⟩ := E1.owAt k1
    rw [h1] at g1
    cases g1
    refine ⟨l, vs', (j : Int), j, rfl, rfl, g2, ?_, ?_⟩
    · unfold ixN
      rw [if_pos (by omega), if_pos (by rw [g3.length]; omega)]
      exact congrArg some (Int.toNat_natCast j)
    · exact q _ σ H1 _ (E1.change k1 h1 (RpL.set (r.mono e1) j g3)) e1 k3)
end
theorem swap_perm {os : List Nat} {a b : Nat} (ha : a < os.length) (hb : b < os.length) : ((os.set a os[b]).set b os[a]).Perm os := by
  rw [List.perm_iff_count]
  intro x
  have hb2 : b < (os.set a os[b]).length := by rw [List.length_set]; exact hb
  have e : (os.set a os[b])[b] = os[b] := by
    rw [List.getElem_set]
    split <;> rfl
  rw [List.count_set hb2, List.count_set ha, e]
  have h1 : (if (os[a] == x) = true then 1 else 0) ≤ os.count x := by
    split
    · rename_i h
      have : os[a] = x := by simpa using h
      exact List.count_pos_iff.mpr (this ▸ List.getElem_mem ha)
    · exact Nat.zero_le _
  omega
end G

set_option Elab.async false
set_option linter.all false
set_option maxRecDepth 100000
set_option maxHeartbeats 1000000
/-! numbers and orders, one to one; so many numbers as orders that keep the page -/
namespace G
open PySem PySem.Spec PyProof.Rows L2
theorem ins_filter_self {os : List Nat} {z : PyData} {r : Nat} (hr : r ∉ os) : (insAt os z r).filter (fun x => !decide (x = r)) = os := by
  rw [ins_filter (by simp), List.filter_eq_self]
  intro x hx
  have : x ≠ r := fun e => hr (e ▸ hx)
  simp [this]
theorem ins_inj {os : List Nat} {z y : PyData} {r : Nat} (hr : r ∉ os) (hz : z = .none ∨ ∃ i ∈ os, z = .int ((i : Nat) : Int)) (hy : y = .none ∨ ∃ i ∈ os, y = .int ((i : Nat) : Int)) (h : insAt os z r = insAt os y r) : z = y := by
  obtain ⟨c, c1, c2, c3, _⟩ := ins_at hr hz
  obtain ⟨d, d1, d2, d3, _⟩ := ins_at hr hy
  rw [← h] at d1 d2 d3
  have e : c = d := by
    rcases Nat.lt_trichotomy c d with q | q | q
    · exact absurd rfl (d2 c r q c1)
    · exact q
    · exact absurd rfl (c2 d r q d1)
  rw [← c3, ← d3, e]
theorem host_in {p T : List (List Cell)} {i a : Nat} {os : List Nat} (hos : os.Perm ((seqN p).take i)) (ha : a < (hostAt p T i).length) : (hostAt p T i).getD a .none = .none ∨ ∃ j ∈ os, (hostAt p T i).getD a .none = .int ((j : Nat) : Int) := by
  have hm : (hostAt p T i)[a]? = some ((hostAt p T i).getD a .none) := by
    rw [List.getD_eq_getElem?_getD, List.getElem?_eq_getElem ha]
    rfl
  rcases host_mem (List.mem_of_getElem? hm) with h | ⟨j, hj, h⟩
  · exact .inl h
  · exact .inr ⟨j, hos.mem_iff.mpr hj, h⟩
theorem nodup_getD {α : Type} {l : List α} (h : l.Nodup) {a b : Nat} {d : α} (ha : a < l.length) (hb : b < l.length) (e : l.getD a d = l.getD b d) : a = b := by
  rw [List.getD_eq_getElem?_getD, List.getD_eq_getElem?_getD, List.getElem?_eq_getElem ha, List.getElem?_eq_getElem hb] at e
  have e : l[a] = l[b] := e
  rcases Nat.lt_trichotomy a b with q | q | q
  · exact absurd e (List.pairwise_iff_getElem.mp h a b ha hb q)
  · exact q
  · exact absurd e.symm (List.pairwise_iff_getElem.mp h b a hb ha q)
theorem ordO_inj {p T : List (List Cell)} {ds es : List Nat} (hd : Digs p T ds) (he : Digs p T es) : ∀ i, i ≤ p.length → ordO p T ds i = ordO p T es i → ∀ a, a < i → ds.getD a 0 = es.getD a 0
  | 0, _, _, a, ha => absurd ha (Nat.not_lt_zero _)
  | i + 1, hi, h, a, ha => by
    have o1 := (ordO_ok (p := p) (T := T) (ds := ds) i (by omega) fun a ha => hd a (by omega)).1
    have o2 := (ordO_ok (p := p) (T := T) (ds := es) i (by omega) fun a ha => he a (by omega)).1
    have r1 : (seqN p).getD i 0 ∉ ordO p T ds i := fun q => seq_out (Nat.le_refl i) hi (o1.mem_iff.mp q)
    have r2 : (seqN p).getD i 0 ∉ ordO p T es i := fun q => seq_out (Nat.le_refl i) hi (o2.mem_iff.mp q)
    rw [ordO_succ, ordO_succ] at h
    have e : ordO p T ds i = ordO p T es i := by
      rw [← ins_filter_self r1 (z := (hostAt p T i).getD (ds.getD i 0) .none), ← ins_filter_self r2 (z := (hostAt p T i).getD (es.getD i 0) .none), h]
    by_cases q : a = i
    · subst q
      rw [e] at h
      exact nodup_getD host_nodup (hd a hi) (he a hi) (ins_inj r2 (host_in o2 (hd a hi)) (host_in o2 (he a hi)) h)
    · exact ordO_inj hd he i (by omega) e a (by omega)
theorem getD_ext {ds es : List Nat} (hl : ds.length = es.length) (h : ∀ a, a < ds.length → ds.getD a 0 = es.getD a 0) : ds = es := by
  refine List.ext_getElem? fun a => ?_
  by_cases ha : a < ds.length
  · have := h a ha
    rw [List.getD_eq_getElem?_getD, List.getD_eq_getElem?_getD, List.getElem?_eq_getElem ha, List.getElem?_eq_getElem (by omega)] at this
    rw [List.getElem?_eq_getElem ha, List.getElem?_eq_getElem (by omega)]
    exact congrArg some this
  · rw [List.getElem?_eq_none (by omega), List.getElem?_eq_none (by omega)]
theorem nthO_inj {p : List (List Cell)} {n i j : Nat} (hp : OkPage p n) (hi : i < prodN (hostC p n)) (hj : j < prodN (hostC p n)) (h : nthO p n i = nthO p n j) : i = j := by
  obtain ⟨l1, d1⟩ := nth_digs hp i
  obtain ⟨l2, d2⟩ := nth_digs hp j
  have e := getD_ext (l1.trans l2.symm) fun a ha => ordO_inj d1 d2 p.length (Nat.le_refl _) h a (by omega)
  rw [← num_nth (host_sizes hp).pos hi, ← num_nth (host_sizes hp).pos hj, e]
theorem kept_num {p : List (List Cell)} {n : Nat} {os : List Nat} (hp : OkPage p n) (ho : os.Perm (List.range p.length)) (hk : Kept p (tableOf p n) os) : ∃ j, j < prodN (hostC p n) ∧ nthO p n j = os := by
  obtain ⟨es, e1, e2, e3⟩ := kept_code ho hk
  have h := code_num hp e1 e2
  exact ⟨_, h.1, h.2.trans e3.symm⟩
/-- as many orders that keep the page as numbers -/
theorem count_le {p : List (List Cell)} {n : Nat} (hp : OkPage p n) {L : List (List Nat)} (hn : L.Nodup) (h : ∀ os ∈ L, os.Perm (List.range p.length) ∧ Kept p (tableOf p n) os) : L.length ≤ prodN (hostC p n) := by
  have sub : L ⊆ (List.range (prodN (hostC p n))).map (nthO p n) := fun os ho => by
    obtain ⟨j, hj, e⟩ := kept_num hp (h os ho).1 (h os ho).2
    exact List.mem_map.mpr ⟨j, List.mem_range.mpr hj, e⟩
  have := hn.length_le_of_subset sub
  rwa [List.length_map, List.length_range] at this
/-- all of them -/
def allO (p : List (List Cell)) (n : Nat) : List (List Nat) := (List.range (prodN (hostC p n))).map (nthO p n)
theorem allO_nodup {p : List (List Cell)} {n : Nat} (hp : OkPage p n) : (allO p n).Nodup := by
  unfold allO
  refine List.pairwise_map.mpr ?_
  refine List.Pairwise.imp_of_mem (fun {a b} ha hb hab e => ?_) (List.nodup_range (n := prodN (hostC p n)))
  exact hab (nthO_inj hp (List.mem_range.mp ha) (List.mem_range.mp hb) e)
theorem allO_mem {p : List (List Cell)} {n : Nat} (hp : OkPage p n) {os : List Nat} : os ∈ allO p n ↔ os.Perm (List.range p.length) ∧ Kept p (tableOf p n) os := by
  unfold allO
  constructor
  · intro h
    obtain ⟨j, _, rfl⟩ := List.mem_map.mp h
    exact nthO_ok hp j
  · intro h
    obtain ⟨j, hj, e⟩ := kept_num hp h.1 h.2
    exact List.mem_map.mpr ⟨j, List.mem_range.mpr hj, e⟩
theorem allO_len (p : List (List Cell)) (n : Nat) : (allO p n).length = prodN (hostC p n) := by unfold allO; rw [List.length_map, List.length_range]
/-- fewer blanks, more orders -/
theorem count_mono {p q : List (List Cell)} {n : Nat} (hp : OkPage p n) (hq : OkPage q n) (hl : p.length = q.length) (hT : tableOf p n = tableOf q n) (hle : ∀ i, lead (q.getD i []) ≤ lead (p.getD i [])) : prodN (hostC p n) ≤ prodN (hostC q n) := by
  rw [← allO_len p n]
  refine count_le hq (allO_nodup hp) fun os ho => ?_
  obtain ⟨h1, h2⟩ := (allO_mem hp).mp ho
  refine ⟨hl ▸ h1, ?_⟩
  rw [← hT]
  cases os with
  | nil => trivial
  | cons a os =>
    refine ⟨by have := hle a; have := h2.1; omega, ?_⟩
    have key : ∀ (os : List Nat) (a : Nat), chn (folR p (tableOf p n)) a os → chn (folR q (tableOf p n)) a os := fun os => by
      induction os with
      | nil => exact fun _ _ => trivial
      | cons b os ih => exact fun a h => ⟨Nat.le_trans (hle b) h.1, ih b h.2⟩
    exact key os a h2.2
end G

set_option Elab.async false
set_option linter.all false
set_option maxRecDepth 100000
set_option maxHeartbeats 1000000
namespace G
open PySem PySem.Spec PyProof.Rows L2
theorem permT_id (T : List (List Cell)) : permT T (List.range T.length) = T := by
  refine List.ext_getElem? fun i => ?_
  unfold permT
  rw [List.getElem?_map]
  by_cases hi : i < T.length
  · rw [List.getElem?_range hi, Option.map_some, getD_at hi]
  · rw [List.getElem?_eq_none (by rw [List.length_range]; omega), List.getElem?_eq_none (by omega)]
    rfl
theorem kept_id {p : List (List Cell)} {n : Nat} (hp : OkPage p n) : Kept p (tableOf p n) (List.range p.length) := by
  refine (read_iff hp (List.Perm.refl _)).mp ?_
  have h := permT_id (tableOf p n)
  rw [table_len] at h
  rw [h]
  unfold readL
  rw [permT_id]
  rfl
theorem kept_mono {p q : List (List Cell)} {n : Nat} (hT : tableOf p n = tableOf q n) (hle : ∀ i, lead (q.getD i []) ≤ lead (p.getD i [])) {os : List Nat} (h2 : Kept p (tableOf p n) os) : Kept q (tableOf q n) os := by
  rw [← hT]
  cases os with
  | nil => trivial
  | cons a os =>
    refine ⟨by have := hle a; have := h2.1; omega, ?_⟩
    have key : ∀ (os : List Nat) (a : Nat), chn (folR p (tableOf p n)) a os → chn (folR q (tableOf p n)) a os := fun os => by
      induction os with
      | nil => exact fun _ _ => trivial
      | cons b os ih => exact fun a h => ⟨Nat.le_trans (hle b) h.1, ih b h.2⟩
    exact key os a h2.2
end G

set_option Elab.async false
set_option linter.all false
set_option maxRecDepth 100000
set_option maxHeartbeats 1000000
/-! joined pages -/
namespace G
open PySem PySem.Spec PyProof.Rows L2
theorem readR_cat : ∀ (p q : List (List Cell)) (ab : List Cell), ∃ ab2, readR ab (p ++ q) = readR ab p ++ readR ab2 q
  | [], q, ab => ⟨ab, rfl⟩
  | r :: p, q, ab => by
    obtain ⟨ab2, h⟩ := readR_cat p q (readOne ab r)
    exact ⟨ab2, by show readOne ab r :: readR (readOne ab r) (p ++ q) = readOne ab r :: readR (readOne ab r) p ++ readR ab2 q; rw [h]; rfl⟩
theorem readR_any {q : List (List Cell)} (h : ∀ r, q.head? = some r → lead r = 0) (ab ab2 : List Cell) : readR ab q = readR ab2 q := by
  cases q with
  | nil => rfl
  | cons r q =>
    have e : readOne ab r = readOne ab2 r := by
      unfold readOne
      rw [h r rfl]
      rfl
    show readOne ab r :: readR (readOne ab r) q = readOne ab2 r :: readR (readOne ab2 r) q
    rw [e]
theorem table_cat {p q : List (List Cell)} {n : Nat} (hq : OkPage q n) : tableOf (p ++ q) n = tableOf p n ++ tableOf q n := by
  obtain ⟨ab2, h⟩ := readR_cat p q (blankRow n)
  unfold tableOf
  rw [h, readR_any hq.first ab2 (blankRow n)]
theorem page_cat {p q : List (List Cell)} {n : Nat} (hp : OkPage p n) (hq : OkPage q n) (hl : p.length + q.length ≤ 60) : OkPage (p ++ q) n := by
  refine ⟨⟨by rw [List.length_append]; have := hp.lo; omega, by rw [List.length_append]; exact hl, fun r hr => ?_, fun r hr => ?_⟩, fun r hr => ?_⟩
  · exact (List.mem_append.mp hr).elim (hp.row r) (hq.row r)
  · exact (List.mem_append.mp hr).elim (hp.wide r) (hq.wide r)
  · refine hp.first r ?_
    cases p with
    | nil => exact absurd hp.lo (by decide)
    | cons x p => exact hr
theorem getD_left {α : Type} {xs ys : List α} {d : α} {i : Nat} (h : i < xs.length) : (xs ++ ys).getD i d = xs.getD i d := by
  rw [List.getD_eq_getElem?_getD, List.getD_eq_getElem?_getD, List.getElem?_append_left h]
theorem getD_right {α : Type} {xs ys : List α} {d : α} (i : Nat) : (xs ++ ys).getD (i + xs.length) d = ys.getD i d := by
  rw [List.getD_eq_getElem?_getD, List.getD_eq_getElem?_getD, List.getElem?_append_right (by omega), Nat.add_sub_cancel]
theorem chn_cat {R : Nat → Nat → Prop} {y : Nat} {ys : List Nat} (hy : ∀ x, R x y) (h2 : chn R y ys) : ∀ {xs : List Nat} {a : Nat}, chn R a xs → chn R a (xs ++ y :: ys)
  | [], a, _ => ⟨hy a, h2⟩
  | x :: xs, a, h => ⟨h.1, chn_cat hy h2 h.2⟩
def shiftO (m : Nat) (os : List Nat) : List Nat := os.map (· + m)
theorem kept_left {p q : List (List Cell)} {n : Nat} (hq : OkPage q n) {os : List Nat} (hl : ∀ i ∈ os, i < p.length) (h : Kept p (tableOf p n) os) : Kept (p ++ q) (tableOf (p ++ q) n) os := by
  rw [table_cat hq]
  have tl := table_len p n
  cases os with
  | nil => trivial
  | cons a os =>
    refine ⟨by rw [getD_left (hl a List.mem_cons_self)]; exact h.1, ?_⟩
    have key : ∀ (os : List Nat) (a : Nat), a < p.length → (∀ i ∈ os, i < p.length) → chn (folR p (tableOf p n)) a os → chn (folR (p ++ q) (tableOf p n ++ tableOf q n)) a os := fun os => by
      induction os with
      | nil => exact fun _ _ _ _ => trivial
      | cons b os ih =>
        intro a ha hos h
        have hb := hos b List.mem_cons_self
        refine ⟨?_, ih b hb (fun i hi => hos i (List.mem_cons_of_mem _ hi)) h.2⟩
        unfold folR
        rw [getD_left hb, getD_left (by omega), getD_left (by omega)]
        exact h.1
    exact key os a (hl a List.mem_cons_self) (fun i hi => hl i (List.mem_cons_of_mem _ hi)) h.2
theorem kept_right {p q : List (List Cell)} {n : Nat} (hq : OkPage q n) {os : List Nat} (h : Kept q (tableOf q n) os) : Kept (p ++ q) (tableOf (p ++ q) n) (shiftO p.length os) := by
  rw [table_cat hq]
  have tl := table_len p n
  have gr : ∀ i, (p ++ q).getD (i + p.length) [] = q.getD i [] := fun i => getD_right i
  have gt : ∀ i, (tableOf p n ++ tableOf q n).getD (i + p.length) [] = (tableOf q n).getD i [] := fun i => by rw [← tl]; exact getD_right i
  cases os with
  | nil => trivial
  | cons a os =>
    refine ⟨by rw [gr]; exact h.1, ?_⟩
    have key : ∀ (os : List Nat) (a : Nat), chn (folR q (tableOf q n)) a os → chn (folR (p ++ q) (tableOf p n ++ tableOf q n)) (a + p.length) (shiftO p.length os) := fun os => by
      induction os with
      | nil => exact fun _ _ => trivial
      | cons b os ih =>
        intro a h
        refine ⟨?_, ih b h.2⟩
        unfold folR
        rw [gr, gt, gt]
        exact h.1
    exact key os a h.2
theorem kept_cat {p T : List (List Cell)} {xs ys : List Nat} (hx : Kept p T xs) (hy : Kept p T ys) : Kept p T (xs ++ ys) := by
  cases ys with
  | nil => rw [List.append_nil]; exact hx
  | cons y ys =>
    have h0 : ∀ x, folR p T x y := fun x => by unfold folR; have := hy.1; omega
    cases xs with
    | nil => exact hy
    | cons x xs => exact ⟨hx.1, chn_cat h0 hy.2 hx.2⟩
theorem shift_perm {p q : Nat} {xs ys : List Nat} (hx : xs.Perm (List.range p)) (hy : ys.Perm (List.range q)) : (xs ++ shiftO p ys).Perm (List.range (p + q)) := by
  rw [List.range_add]
  refine hx.append ?_
  have h := hy.map (· + p)
  have e : (List.range q).map (· + p) = (List.range q).map (p + ·) := List.map_congr_left fun i _ => Nat.add_comm i p
  rw [e] at h
  exact h
theorem flat_const {α β : Type} {f : α → List β} {c : Nat} : ∀ {l : List α}, (∀ a ∈ l, (f a).length = c) → (l.flatMap f).length = l.length * c
  | [], _ => by simp
  | a :: l, h => by
    rw [List.flatMap_cons, List.length_append, h a List.mem_cons_self, flat_const fun b hb => h b (List.mem_cons_of_mem _ hb), List.length_cons, Nat.succ_mul, Nat.add_comm]
theorem count_cat {p q : List (List Cell)} {n : Nat} (hp : OkPage p n) (hq : OkPage q n) (hl : p.length + q.length ≤ 60) : prodN (hostC p n) * prodN (hostC q n) ≤ prodN (hostC (p ++ q) n) := by
  have hr := page_cat hp hq hl
  have hlen : ((allO p n).flatMap fun a => (allO q n).map fun b => a ++ shiftO p.length b).length = prodN (hostC p n) * prodN (hostC q n) := by
    rw [flat_const (c := prodN (hostC q n)) fun a _ => by rw [List.length_map, allO_len], allO_len]
  rw [← hlen]
  refine count_le hr ?_ fun os ho => ?_
  · refine List.pairwise_flatMap.mpr ⟨fun a ha => ?_, ?_⟩
    · refine List.pairwise_map.mpr ((allO_nodup hq).imp fun {b c} hbc e => hbc ?_)
      have e2 := (List.append_inj e rfl).2
      exact (List.map_inj_right fun x y h => by omega).mp e2
    · refine List.Pairwise.imp_of_mem (fun {a c} ha hc hac x hx y hy e => ?_) (allO_nodup hp)
      obtain ⟨b, hb, rfl⟩ := List.mem_map.mp hx
      obtain ⟨d, hd, rfl⟩ := List.mem_map.mp hy
      have l1 := ord_len ((allO_mem hp).mp ha).1
      have l2 := ord_len ((allO_mem hp).mp hc).1
      exact hac (List.append_inj e (l1.trans l2.symm)).1
  · obtain ⟨a, ha, h2⟩ := List.mem_flatMap.mp ho
    obtain ⟨b, hb, rfl⟩ := List.mem_map.mp h2
    obtain ⟨a1, a2⟩ := (allO_mem hp).mp ha
    obtain ⟨b1, b2⟩ := (allO_mem hq).mp hb
    refine ⟨by rw [List.length_append]; exact shift_perm a1 b1, kept_cat (kept_left hq (ord_lt a1) a2) (kept_right hq b2)⟩
end G

set_option Elab.async false
set_option linter.all false
set_option maxRecDepth 100000
set_option maxHeartbeats 1000000
/-! hosts, in words -/
namespace G
open PySem PySem.Spec PyProof.Rows L2
/-- which row comes ahead in the sequence -/
def ahead (p : List (List Cell)) (j r : Nat) : Prop := lead (p.getD j []) < lead (p.getD r []) ∨ (lead (p.getD j []) = lead (p.getD r []) ∧ j < r)
theorem take_ahead {p : List (List Cell)} {a j : Nat} (ha : a < p.length) : j ∈ (seqN p).take a ↔ j < p.length ∧ ahead p j ((seqN p).getD a 0) := by
  have hg := seqN_at ha
  have hs := seqN_sorted p
  have hnd := seqN_nodup p
  constructor
  · intro h
    obtain ⟨c, hc⟩ := List.mem_iff_getElem?.mp h
    have hca : c < a := by have := (List.getElem?_eq_some_iff.mp hc).1; rw [List.length_take] at this; omega
    rw [List.getElem?_take_of_lt hca] at hc
    obtain ⟨q1, q2⟩ := List.getElem?_eq_some_iff.mp hc
    obtain ⟨q3, q4⟩ := List.getElem?_eq_some_iff.mp hg
    have h1 := List.pairwise_iff_getElem.mp hs c a q1 q3 hca
    have h2 := List.pairwise_iff_getElem.mp hnd c a q1 q3 hca
    rw [q2, q4] at h1 h2
    unfold seqLe at h1
    have h1 := of_decide_eq_true h1
    refine ⟨seqN_lt p j (List.mem_of_getElem? hc), ?_⟩
    unfold ahead
    omega
  · rintro ⟨hj, hb⟩
    have hm : j ∈ seqN p := (seqN_perm p).mem_iff.mpr (List.mem_range.mpr hj)
    obtain ⟨c, hc⟩ := List.mem_iff_getElem?.mp hm
    obtain ⟨q1, q2⟩ := List.getElem?_eq_some_iff.mp hc
    obtain ⟨q3, q4⟩ := List.getElem?_eq_some_iff.mp hg
    have hca : c < a := by
      rcases Nat.lt_trichotomy c a with q | q | q
      · exact q
      · subst q
        rw [hc] at hg
        have e := Option.some.inj hg
        unfold ahead at hb
        rw [← e] at hb
        omega
      · have h1 := List.pairwise_iff_getElem.mp hs a c q3 q1 q
        rw [q2, q4] at h1
        unfold seqLe at h1
        have h1 := of_decide_eq_true h1
        unfold ahead at hb
        omega
    exact List.mem_iff_getElem?.mpr ⟨c, by rw [List.getElem?_take_of_lt hca]; exact hc⟩
theorem host_iff {p T : List (List Cell)} {a : Nat} {z : PyData} (ha : a < p.length) : z ∈ hostAt p T a ↔ (z = .none ∧ lead (p.getD ((seqN p).getD a 0) []) = 0) ∨ ∃ j, j < p.length ∧ ahead p j ((seqN p).getD a 0) ∧ z = .int (j : Int) ∧ folR p T j ((seqN p).getD a 0) := by
  constructor
  · intro h
    rcases host_R h with h | ⟨j, hj, h3, h4⟩
    · exact .inl h
    · obtain ⟨h1, h2⟩ := (take_ahead ha).mp hj
      exact .inr ⟨j, h1, h2, h3, h4⟩
  · intro h
    unfold hostAt hostsL
    rcases h with ⟨rfl, h0⟩ | ⟨j, h1, h2, rfl, h4⟩
    · rw [if_pos h0]
      exact List.mem_cons_self
    · have hj := (take_ahead ha).mpr ⟨h1, h2⟩
      split
      · exact List.mem_cons_of_mem _ (List.mem_map.mpr ⟨j, hj, rfl⟩)
      · exact List.mem_map.mpr ⟨j, List.mem_filter.mpr ⟨hj, decide_eq_true h4⟩, rfl⟩
section
variable {c : Ct} {F : Fp} {ρ : List Sl} {pos : Pos} {a b e : Expr} {Φ : PyData → List Sl → Prop}
theorem inV_host {d : PyData} {hl : List PyData} (h : d ∈ hl) (hd : isHost d) : inV (hostV d) (hl.map hostV) = true := by
  unfold inV
  rw [List.any_map, List.any_eq_true]
  refine ⟨d, h, ?_⟩
  rcases hd with rfl | ⟨i, rfl⟩
  · rfl
  · exact beq_self_eq_true _
/-- a not in b, b a list of hosts that has a -/
theorem wc_notInH (h : WE c F a ρ fun d ρ1 => WE c F b ρ1 fun y ρ2 => ∃ hl : List PyData, y = .list hl ∧ (∀ z ∈ hl, isHost z) ∧ d ∈ hl ∧ Φ (.bool false) ρ2) : WC c F .NotIn a b ρ Φ :=
  ⟨rIn c.K true, (fun X hX => by rw [← hX.K]; exact op_notIn_seq), (h.imp fun d ρ1 k => k.imp fun y ρ2 ⟨hl, e2, hh, hm, q⟩ => .flat q (fun H => .bl _) fun H0 H x u ex rx ru Q qq => by
    subst e2
    have hd := hh d hm
    have hx : x = hostV d := by
      rcases hd with rfl | ⟨i, rfl⟩
      · cases rx; rfl
      · cases rx; rfl
    cases ru with
    | lst g1 g2 =>
      have ev := hosts_vals g2 hh
      subst ev hx
      have fl : ∀ y, isHost y → flatV (hostV y) = true := fun y hy => by
        rcases hy with rfl | ⟨i, rfl⟩ <;> rfl
      refine ⟨_, _, rfl, .inl (SqL.of (ex _ _ g1)), fl d hd, List.all_eq_true.mpr fun z hz => ?_, ?_⟩
      · obtain ⟨w, hw, rfl⟩ := List.mem_map.mp hz
        exact fl w (hh w hw)
      · rw [if_pos rfl, inV_host hm hd]
        exact qq)⟩
end
end G

set_option Elab.async false
set_option linter.all false
set_option maxRecDepth 100000
set_option maxHeartbeats 1000000
/-! pages that have nothing in common, one row of each without blanks -/
namespace G
open PySem PySem.Spec PyProof.Rows L2
theorem chn_congr {R S : Nat → Nat → Prop} {f : Nat → Nat} : ∀ {os : List Nat} {a : Nat}, (∀ x y, (x = a ∨ x ∈ os) → y ∈ os → (R x y ↔ S (f x) (f y))) → (chn R a os ↔ chn S (f a) (os.map f))
  | [], _, _ => Iff.rfl
  | b :: os, a, h => by
    have h1 := h a b (.inl rfl) List.mem_cons_self
    have h2 := chn_congr (R := R) (S := S) (f := f) (os := os) (a := b) fun x y hx hy => h x y (.inr (hx.elim (fun e => e ▸ List.mem_cons_self) fun e => List.mem_cons_of_mem _ e)) (List.mem_cons_of_mem _ hy)
    exact and_congr h1 h2
theorem kept_left_iff {p q : List (List Cell)} {n : Nat} (hq : OkPage q n) {os : List Nat} (hl : ∀ i ∈ os, i < p.length) : Kept (p ++ q) (tableOf (p ++ q) n) os ↔ Kept p (tableOf p n) os := by
  rw [table_cat hq]
  have tl := table_len p n
  cases os with
  | nil => exact Iff.rfl
  | cons a os =>
    have ha := hl a List.mem_cons_self
    have h := chn_congr (R := folR (p ++ q) (tableOf p n ++ tableOf q n)) (S := folR p (tableOf p n)) (f := id) (os := os) (a := a) fun x y hx hy => by
      have hx2 : x < p.length := hx.elim (fun e => e ▸ ha) fun e => hl x (List.mem_cons_of_mem _ e)
      have hy2 := hl y (List.mem_cons_of_mem _ hy)
      unfold folR
      rw [getD_left hy2, getD_left (by omega), getD_left (by omega)]
      exact Iff.rfl
    rw [List.map_id] at h
    exact and_congr (by rw [getD_left ha]) h
theorem kept_right_iff {p q : List (List Cell)} {n : Nat} (hq : OkPage q n) {os : List Nat} : Kept (p ++ q) (tableOf (p ++ q) n) (shiftO p.length os) ↔ Kept q (tableOf q n) os := by
  rw [table_cat hq]
  have tl := table_len p n
  have gr : ∀ i, (p ++ q).getD (i + p.length) [] = q.getD i [] := fun i => getD_right i
  have gt : ∀ i, (tableOf p n ++ tableOf q n).getD (i + p.length) [] = (tableOf q n).getD i [] := fun i => by rw [← tl]; exact getD_right i
  cases os with
  | nil => exact Iff.rfl
  | cons a os =>
    have h := chn_congr (R := folR q (tableOf q n)) (S := folR (p ++ q) (tableOf p n ++ tableOf q n)) (f := (· + p.length)) (os := os) (a := a) fun x y _ _ => by
      unfold folR
      show _ ↔ lead ((p ++ q).getD (y + p.length) []) ≤ sh ((tableOf p n ++ tableOf q n).getD (x + p.length) []) ((tableOf p n ++ tableOf q n).getD (y + p.length) [])
      rw [gr, gt, gt]
    exact and_congr (by show lead ((p ++ q).getD (a + p.length) []) = 0 ↔ _; rw [gr]) h.symm
theorem chn_mid {R : Nat → Nat → Prop} {y : Nat} {Y : List Nat} : ∀ {X : List Nat} {a : Nat}, chn R a (X ++ y :: Y) → chn R a X ∧ (∃ l, (l = a ∨ l ∈ X) ∧ R l y) ∧ chn R y Y
  | [], a, h => ⟨trivial, ⟨a, .inl rfl, h.1⟩, h.2⟩
  | x :: X, a, h => by
    obtain ⟨h1, ⟨l, hl, h2⟩, h3⟩ := chn_mid h.2
    exact ⟨⟨h.1, h1⟩, ⟨l, .inr (hl.elim (fun e => e ▸ List.mem_cons_self) fun e => List.mem_cons_of_mem _ e), h2⟩, h3⟩
theorem split_side {s : Nat → Bool} {b : Bool} : ∀ xs : List Nat, ∃ X Y, xs = X ++ Y ∧ (∀ z ∈ X, s z = b) ∧ (Y = [] ∨ ∃ y Y', Y = y :: Y' ∧ s y ≠ b)
  | [] => ⟨[], [], rfl, fun z hz => (by cases hz), .inl rfl⟩
  | x :: xs => by
    by_cases h : s x = b
    · obtain ⟨X, Y, e, h1, h2⟩ := split_side (s := s) (b := b) xs
      refine ⟨x :: X, Y, by rw [e]; rfl, fun z hz => ?_, h2⟩
      rcases List.mem_cons.mp hz with rfl | hz
      · exact h
      · exact h1 z hz
    · exact ⟨[], x :: xs, rfl, fun z hz => (by cases hz), .inr ⟨x, xs, rfl, h⟩⟩
theorem stay_side {R : Nat → Nat → Prop} {s : Nat → Bool} {b : Bool} : ∀ {ys : List Nat} {y : Nat}, chn R y ys → s y ≠ b → (∀ u v, (u = y ∨ u ∈ ys) → v ∈ ys → R u v → s u ≠ b → s v ≠ b) → ∀ z ∈ ys, s z ≠ b
  | [], _, _, _, _, z, hz => by cases hz
  | x :: ys, y, h, hy, hr, z, hz => by
    have hx := hr y x (.inl rfl) List.mem_cons_self h.1 hy
    rcases List.mem_cons.mp hz with rfl | hz
    · exact hx
    · exact stay_side h.2 hx (fun u v hu hv => hr u v (.inr (hu.elim (fun e => e ▸ List.mem_cons_self) fun e => List.mem_cons_of_mem _ e)) (List.mem_cons_of_mem _ hv)) z hz
/-- a row without blanks, the others with some -/
structure One (p : List (List Cell)) : Prop where
  iff : ∀ i, i < p.length → (lead (p.getD i []) = 0 ↔ i = 0)
theorem apart_split {p q : List (List Cell)} {n : Nat} {os : List Nat} (hp : OkPage p n) (hq : OkPage q n) (op : One p) (oq : One q) (hd : ∀ i j, i < p.length → j < q.length → sh ((tableOf p n).getD i []) ((tableOf q n).getD j []) = 0)
    (ho : os.Perm (List.range (p.length + q.length))) (hk : Kept (p ++ q) (tableOf (p ++ q) n) os) : ∃ A B, (os = A ++ B ∨ os = B ++ A) ∧ (∀ i ∈ A, i < p.length) ∧ (∀ i ∈ B, p.length ≤ i) ∧ Kept (p ++ q) (tableOf (p ++ q) n) A ∧ Kept (p ++ q) (tableOf (p ++ q) n) B := by
  have tl := table_len p n
  have tlq := table_len q n
  have hlp := hp.lo
  have hlq := hq.lo
  have hT := table_cat (p := p) hq
  have hlt := ord_lt ho
  have hnd : os.Nodup := ho.nodup_iff.mpr List.nodup_range
  have lz : ∀ i, i < p.length + q.length → lead ((p ++ q).getD i []) = 0 → i = 0 ∨ i = p.length := fun i hi h => by
    by_cases q1 : i < p.length
    · rw [getD_left q1] at h
      exact .inl ((op.iff i q1).mp h)
    · obtain ⟨j, rfl⟩ : ∃ j, i = j + p.length := ⟨i - p.length, by omega⟩
      rw [getD_right] at h
      have := (oq.iff j (by omega)).mp h
      exact .inr (by omega)
  have hcross : ∀ u v, u < p.length + q.length → v < p.length + q.length → folR (p ++ q) (tableOf (p ++ q) n) u v → decide (u < p.length) ≠ decide (v < p.length) → lead ((p ++ q).getD v []) = 0 := fun u v hu hv hf hne => by
    unfold folR at hf
    rw [hT] at hf
    by_cases q1 : u < p.length
    · have q2 : ¬ v < p.length := fun z => hne (by rw [decide_eq_true q1, decide_eq_true z])
      obtain ⟨j, rfl⟩ : ∃ j, v = j + p.length := ⟨v - p.length, by omega⟩
      have e1 : (tableOf p n ++ tableOf q n).getD u [] = (tableOf p n).getD u [] := getD_left (by omega)
      have e2 : (tableOf p n ++ tableOf q n).getD (j + p.length) [] = (tableOf q n).getD j [] := by rw [← tl]; exact getD_right j
      rw [e1, e2, hd u j q1 (by omega)] at hf
      omega
    · have q2 : v < p.length := Decidable.by_contra fun z => hne (by rw [decide_eq_false q1, decide_eq_false z])
      obtain ⟨j, rfl⟩ : ∃ j, u = j + p.length := ⟨u - p.length, by omega⟩
      have e1 : (tableOf p n ++ tableOf q n).getD v [] = (tableOf p n).getD v [] := getD_left (by omega)
      have e2 : (tableOf p n ++ tableOf q n).getD (j + p.length) [] = (tableOf q n).getD j [] := by rw [← tl]; exact getD_right j
      rw [e1, e2, sh_comm, hd v j q2 (by omega)] at hf
      omega
  have hm0 : (0 : Nat) ∈ os := ho.mem_iff.mpr (List.mem_range.mpr (by omega))
  have hm1 : p.length ∈ os := ho.mem_iff.mpr (List.mem_range.mpr (by omega))
  cases os with
  | nil => cases hm0
  | cons x xs =>
    obtain ⟨X, Y, e, hX, hY⟩ := split_side (s := fun i => decide (i < p.length)) (b := decide (x < p.length)) xs
    subst e
    have hx0 := lz x (hlt x List.mem_cons_self) hk.1
    rcases hY with rfl | ⟨y, Y', rfl, hy⟩
    · exfalso
      rw [List.append_nil] at hm0 hm1
      have s0 : decide (0 < p.length) = decide (x < p.length) := by
        rcases List.mem_cons.mp hm0 with e | e
        · rw [← e]
        · exact hX 0 e
      have s1 : decide (p.length < p.length) = decide (x < p.length) := by
        rcases List.mem_cons.mp hm1 with e | e
        · rw [← e]
        · exact hX _ e
      rw [← s1, decide_eq_true (by omega : 0 < p.length), decide_eq_false (Nat.lt_irrefl _)] at s0
      cases s0
    · obtain ⟨c1, ⟨l, hl, hly⟩, c3⟩ := chn_mid hk.2
      have mem : ∀ z, z ∈ x :: X ++ y :: Y' → z < p.length + q.length := fun z hz => hlt z hz
      have hyl : y < p.length + q.length := mem y (List.mem_append_right _ List.mem_cons_self)
      have sl : decide (l < p.length) = decide (x < p.length) := hl.elim (fun e => by rw [e]) fun e => hX l e
      have hll : l < p.length + q.length := mem l (List.mem_append_left _ (hl.elim (fun e => e ▸ List.mem_cons_self) fun e => List.mem_cons_of_mem _ e))
      have hy0 := hcross l y hll hyl hly (by rw [sl]; exact fun e => hy e.symm)
      have hst := stay_side (s := fun i => decide (i < p.length)) (b := decide (x < p.length)) c3 hy fun u v hu' hv huv hu hvb => by
        have hul := mem u (List.mem_append_right _ (hu'.elim (fun e => e ▸ List.mem_cons_self) fun e => List.mem_cons_of_mem _ e))
        have hvm : v ∈ x :: X ++ y :: Y' := List.mem_append_right _ (List.mem_cons_of_mem _ hv)
        have hv0 := lz v (mem v hvm) (hcross u v hul (mem v hvm) huv fun e => hu (e.trans hvb))
        have hvx : v = x := by
          have hvb : decide (v < p.length) = decide (x < p.length) := hvb
          by_cases q1 : v < p.length
          · rw [decide_eq_true q1] at hvb
            have := of_decide_eq_true hvb.symm
            omega
          · rw [decide_eq_false q1] at hvb
            have := of_decide_eq_false hvb.symm
            omega
        have hxn : x ∉ X ++ y :: Y' := (List.nodup_cons.mp hnd).1
        exact hxn (hvx ▸ List.mem_append_right _ (List.mem_cons_of_mem _ hv))
      have hKX : Kept (p ++ q) (tableOf (p ++ q) n) (x :: X) := ⟨hk.1, c1⟩
      have hKY : Kept (p ++ q) (tableOf (p ++ q) n) (y :: Y') := ⟨hy0, c3⟩
      by_cases hs : x < p.length
      · refine ⟨x :: X, y :: Y', .inl rfl, fun i hi => ?_, fun i hi => ?_, hKX, hKY⟩
        · rcases List.mem_cons.mp hi with rfl | hi
          · exact hs
          · have := hX i hi
            rw [decide_eq_true hs] at this
            exact of_decide_eq_true this
        · have : decide (i < p.length) ≠ decide (x < p.length) := by
            rcases List.mem_cons.mp hi with rfl | hi
            · exact hy
            · exact hst i hi
          rw [decide_eq_true hs] at this
          exact Decidable.by_contra fun z => this (decide_eq_true (by omega))
      · refine ⟨y :: Y', x :: X, .inr rfl, fun i hi => ?_, fun i hi => ?_, hKY, hKX⟩
        · have : decide (i < p.length) ≠ decide (x < p.length) := by
            rcases List.mem_cons.mp hi with rfl | hi
            · exact hy
            · exact hst i hi
          rw [decide_eq_false hs] at this
          exact Decidable.by_contra fun z => this (decide_eq_false z)
        · rcases List.mem_cons.mp hi with rfl | hi
          · omega
          · have := hX i hi
            rw [decide_eq_false hs] at this
            have := of_decide_eq_false this
            omega
end G

set_option Elab.async false
set_option linter.all false
set_option maxRecDepth 100000
set_option maxHeartbeats 1000000
namespace G
open PySem PySem.Spec PyProof.Rows L2
theorem shift_inj {m : Nat} {a b : List Nat} (h : shiftO m a = shiftO m b) : a = b := (List.map_inj_right fun x y h => by omega).mp h
theorem shift_ge {m : Nat} {a : List Nat} : ∀ i ∈ shiftO m a, m ≤ i := fun i hi => by
  obtain ⟨j, _, rfl⟩ := List.mem_map.mp hi
  show m ≤ j + m
  omega
/-- all pairs, one way and the other -/
def pairs1 (p q : List (List Cell)) (n : Nat) : List (List Nat) := (allO p n).flatMap fun a => (allO q n).map fun b => a ++ shiftO p.length b
def pairs2 (p q : List (List Cell)) (n : Nat) : List (List Nat) := (allO p n).flatMap fun a => (allO q n).map fun b => shiftO p.length b ++ a
theorem pairs1_nodup {p q : List (List Cell)} {n : Nat} (hp : OkPage p n) (hq : OkPage q n) : (pairs1 p q n).Nodup := by
  refine List.pairwise_flatMap.mpr ⟨fun a ha => ?_, ?_⟩
  · exact List.pairwise_map.mpr ((allO_nodup hq).imp fun {b c} hbc e => hbc (shift_inj (List.append_inj e rfl).2))
  · refine List.Pairwise.imp_of_mem (fun {a c} ha hc hac x hx y hy e => ?_) (allO_nodup hp)
    obtain ⟨b, hb, rfl⟩ := List.mem_map.mp hx
    obtain ⟨d, hd, rfl⟩ := List.mem_map.mp hy
    have l1 := ord_len ((allO_mem hp).mp ha).1
    have l2 := ord_len ((allO_mem hp).mp hc).1
    exact hac (List.append_inj e (l1.trans l2.symm)).1
theorem pairs2_nodup {p q : List (List Cell)} {n : Nat} (hp : OkPage p n) (hq : OkPage q n) : (pairs2 p q n).Nodup := by
  have sl : ∀ b, b ∈ allO q n → (shiftO p.length b).length = q.length := fun b hb => by
    unfold shiftO
    rw [List.length_map]
    exact ord_len ((allO_mem hq).mp hb).1
  refine List.pairwise_flatMap.mpr ⟨fun a ha => ?_, ?_⟩
  · exact List.pairwise_map.mpr (List.Pairwise.imp_of_mem (fun {b c} hb hc hbc e => hbc (shift_inj (List.append_inj e ((sl b hb).trans (sl c hc).symm)).1)) (allO_nodup hq))
  · refine List.Pairwise.imp_of_mem (fun {a c} ha hc hac x hx y hy e => ?_) (allO_nodup hp)
    obtain ⟨b, hb, rfl⟩ := List.mem_map.mp hx
    obtain ⟨d, hd, rfl⟩ := List.mem_map.mp hy
    exact hac (List.append_inj e ((sl b hb).trans (sl d hd).symm)).2
theorem pairs_len (p q : List (List Cell)) (n : Nat) : (pairs1 p q n ++ pairs2 p q n).length = 2 * (prodN (hostC p n) * prodN (hostC q n)) := by
  rw [List.length_append]
  unfold pairs1 pairs2
  rw [flat_const (c := prodN (hostC q n)) fun a _ => by rw [List.length_map, allO_len], flat_const (c := prodN (hostC q n)) fun a _ => by rw [List.length_map, allO_len], allO_len]
  omega
theorem part_perm {m l : Nat} {os A B : List Nat} (ho : os.Perm (List.range (m + l))) (h : os.Perm (A ++ B)) (hA : ∀ i ∈ A, i < m) (hB : ∀ i ∈ B, m ≤ i) : A.Perm (List.range m) ∧ ∃ B0, B = shiftO m B0 ∧ B0.Perm (List.range l) := by
  have hnd : (A ++ B).Nodup := h.nodup_iff.mp (ho.nodup_iff.mpr List.nodup_range)
  obtain ⟨nA, nB, _⟩ := List.nodup_append.mp hnd
  have mem : ∀ i, i ∈ A ++ B ↔ i < m + l := fun i => by rw [← h.mem_iff, ho.mem_iff, List.mem_range]
  refine ⟨(List.perm_ext_iff_of_nodup nA List.nodup_range).mpr fun i => ⟨fun hi => List.mem_range.mpr (hA i hi), fun hi => ?_⟩, B.map (· - m), ?_, ?_⟩
  · have hi := List.mem_range.mp hi
    rcases List.mem_append.mp ((mem i).mpr (by omega)) with q | q
    · exact q
    · have := hB i q
      omega
  · unfold shiftO
    rw [List.map_map]
    have : B.map ((fun x => x + m) ∘ fun x => x - m) = B.map id := List.map_congr_left fun i hi => by
      have := hB i hi
      show i - m + m = i
      omega
    rw [this, List.map_id]
  · have nB0 : (B.map (· - m)).Nodup := List.pairwise_map.mpr (List.Pairwise.imp_of_mem (fun {a b} ha hb hab e => hab (by have := hB a ha; have := hB b hb; omega)) nB)
    refine (List.perm_ext_iff_of_nodup nB0 List.nodup_range).mpr fun i => ⟨fun hi => ?_, fun hi => ?_⟩
    · obtain ⟨j, hj, rfl⟩ := List.mem_map.mp hi
      have h1 := (mem j).mp (List.mem_append_right _ hj)
      have h2 := hB j hj
      exact List.mem_range.mpr (by omega)
    · have hi := List.mem_range.mp hi
      rcases List.mem_append.mp ((mem (i + m)).mpr (by omega)) with q | q
      · have := hA _ q
        omega
      · exact List.mem_map.mpr ⟨i + m, q, by omega⟩
theorem count_apart {p q : List (List Cell)} {n : Nat} (hp : OkPage p n) (hq : OkPage q n) (hl : p.length + q.length ≤ 60) (op : One p) (oq : One q) (hd : ∀ i j, i < p.length → j < q.length → sh ((tableOf p n).getD i []) ((tableOf q n).getD j []) = 0) : prodN (hostC (p ++ q) n) = 2 * (prodN (hostC p n) * prodN (hostC q n)) := by
  have hr := page_cat hp hq hl
  have hlp := hp.lo
  have hlq := hq.lo
  refine Nat.le_antisymm ?_ ?_
  · rw [← pairs_len, ← allO_len]
    refine (allO_nodup hr).length_le_of_subset fun os ho => ?_
    obtain ⟨h1, h2⟩ := (allO_mem hr).mp ho
    rw [List.length_append] at h1
    obtain ⟨A, B, hs, hA, hB, kA, kB⟩ := apart_split hp hq op oq hd h1 h2
    have hab : os.Perm (A ++ B) := hs.elim (fun e => e ▸ List.Perm.refl _) fun e => e ▸ List.perm_append_comm
    obtain ⟨pA, B0, rfl, pB⟩ := part_perm h1 hab hA hB
    have mA := (allO_mem hp).mpr ⟨pA, (kept_left_iff hq hA).mp kA⟩
    have mB := (allO_mem hq).mpr ⟨pB, (kept_right_iff hq).mp kB⟩
    rcases hs with rfl | rfl
    · exact List.mem_append_left _ (List.mem_flatMap.mpr ⟨A, mA, List.mem_map.mpr ⟨B0, mB, rfl⟩⟩)
    · exact List.mem_append_right _ (List.mem_flatMap.mpr ⟨A, mA, List.mem_map.mpr ⟨B0, mB, rfl⟩⟩)
  · rw [← pairs_len]
    refine count_le hr (List.nodup_append.mpr ⟨pairs1_nodup hp hq, pairs2_nodup hp hq, fun x hx y hy e => ?_⟩) fun os ho => ?_
    · obtain ⟨a, ha, h2⟩ := List.mem_flatMap.mp hx
      obtain ⟨b, hb, rfl⟩ := List.mem_map.mp h2
      obtain ⟨c, hc, h3⟩ := List.mem_flatMap.mp hy
      obtain ⟨d, hd', rfl⟩ := List.mem_map.mp h3
      have a1 := ((allO_mem hp).mp ha).1
      have d1 := ((allO_mem hq).mp hd').1
      cases a with
      | nil =>
        have := ord_len a1
        simp at this
        omega
      | cons x a =>
        cases d with
        | nil =>
          have := ord_len d1
          simp at this
          omega
        | cons y d =>
          have hx := ord_lt a1 x List.mem_cons_self
          have e0 : x = y + p.length := (List.cons.inj e).1
          omega
    · have go : ∀ a b, a ∈ allO p n → b ∈ allO q n → (a ++ shiftO p.length b).Perm (List.range (p ++ q).length) ∧ Kept (p ++ q) (tableOf (p ++ q) n) a ∧ Kept (p ++ q) (tableOf (p ++ q) n) (shiftO p.length b) := fun a b ha hb => by
        obtain ⟨a1, a2⟩ := (allO_mem hp).mp ha
        obtain ⟨b1, b2⟩ := (allO_mem hq).mp hb
        exact ⟨by rw [List.length_append]; exact shift_perm a1 b1, kept_left hq (ord_lt a1) a2, kept_right hq b2⟩
      rcases List.mem_append.mp ho with ho | ho
      · obtain ⟨a, ha, h2⟩ := List.mem_flatMap.mp ho
        obtain ⟨b, hb, rfl⟩ := List.mem_map.mp h2
        obtain ⟨g1, g2, g3⟩ := go a b ha hb
        exact ⟨g1, kept_cat g2 g3⟩
      · obtain ⟨a, ha, h2⟩ := List.mem_flatMap.mp ho
        obtain ⟨b, hb, rfl⟩ := List.mem_map.mp h2
        obtain ⟨g1, g2, g3⟩ := go a b ha hb
        exact ⟨List.perm_append_comm.trans g1, kept_cat g3 g2⟩
end G

set_option Elab.async false
set_option linter.all false
set_option maxRecDepth 100000
set_option maxHeartbeats 1000000
namespace G
open PySem PySem.Spec PyProof.Rows L2
section
variable {c : Ct} {F : Fp} {ρ : List Sl} {pos apos cpos : Pos} {a b e : Expr} {D : SE} {Φ : PyData → List Sl → Prop}
theorem wg_lst {d : PyData} {ts : List Expr} {j : Nat} {Φ : List Sl → Prop} (h : ∃ ds, d = .list ds ∧ ds.length = ts.length ∧ WGs c F ts ds ρ Φ) (hn : ∀ env, (assignEach ts env).length = ts.length := by intro _; rfl) (hst : ∀ env, (assignEach ts env).findIdx? (·.1) = none := by intro _; rfl) :
    WG c F (.Tuple ts j pos) d ρ Φ := fun B σ H0 H v hF E r Q q X hX pins s u I rv => by
  obtain ⟨ds, rfl, hl, k⟩ := h
  cases r with
  | lst h1 h2 =>
    refine (pg_lst (n := ts.length) (t := fun vs' σ' H' Q' => ∀ pins s us, Inv X pins σ' H' s → Vals vs' us → wpAny (model X.prog X.w) X.A (assignInOrder ((assignEach ts X.env).map (·.2)) us) (fun _ s' => ∃ σ' H', Inv X pins σ' H' s' ∧ Q' σ' H') X.xe s)
      hX.calm ⟨fun pins s σ1 H1 vs1 us Q1 I1 rv1 k => k pins s us I1 rv1⟩ (hn _) (hst _)).run pins s σ H _ u Q I rv ⟨_, _, rfl, SqL.of (E.ex _ _ h1), by rw [h2.length, hl], ?_⟩
    exact fun pins2 s2 us2 I2 rv2 => k B σ H0 H _ hF E h2 Q q X hX pins2 s2 us2 I2 rv2
theorem count_cast (ns : List Nat) (k : Nat) : (ns.map fun (n : Nat) => (n : Int)).count (k : Int) = ns.count k := by
  induction ns with
  | nil => rfl
  | cons n ns ih =>
    rw [List.map_cons, List.count_cons, List.count_cons, ih]
    congr 1
    by_cases h : n = k
    · rw [h]; simp
    · rw [if_neg (by simp; omega), if_neg (by simp; omega)]
/-- a.count(e), a any expression that gives a list of numbers -/
theorem we_countE (h : WE c F a ρ fun dl ρ0 => ∃ ns : List Nat, dl = .list (natL ns) ∧ WE c F e ρ0 fun d ρ1 => ∃ k : Nat, d = .int (k : Int) ∧ Φ (.int (ns.count k : Int)) ρ1)
    (hb : ∀ env, attributeBase a "count" env (eval a env) = eval a env := by intro _; rfl) (hs1 : ∀ env, starEach [e] env = (false, eval e env) :: starEach [] env := by exact star_cons rfl)
    (hfew : ∀ env, ((backTo cpos (starEach [e] env)).all (fun x => !x.1) && (backToKw cpos (keywordEach [] env)).all (fun x => x.1.isSome) && decide ([e].length + ([] : List Keyword).length + (if ([] : List Keyword).isEmpty then 0 else 1) < 30)) = true := by intro _; rfl)
    (hline : (apos.endLine == cpos.line) = true := by rfl) (hpl : ∀ env, (backTo cpos (starEach [] env)).any (·.1) = false := by intro _; rfl) :
    WE c F (.Call (.Attribute a "count" apos) [e] [] cpos) ρ Φ := fun B σ H0 H hF E Q q =>
  wpE_of (t := tBM c.K "list" (rCntI c.K) (wpE c a) (tCons (wpE c e) tNil)) (fun X hX => by rw [← hX.K]; exact pe_bm PySem.F.plainAttrs_list PySem.F.slot_list_count PySem.F.type_list_count mt_lcount (peW hX) (pa_cons (peW hX) pa_nil (hs1 _)) (hb _) (hfew _) hline (hs1 _) (hpl _))
    (h B σ H0 H hF E _ fun v dl ρ0 H1 H1' E1 e1 r1 ⟨ns, k0, k2⟩ => by
      subst k0
      cases r1 with
      | lst g1 g2 =>
        rename_i l vs
        refine ⟨.inl ⟨rfl, _, SqL.of (E1.ex _ _ g1)⟩, ?_⟩
        refine k2 B σ H1 H1' hF E1 _ fun v2 d ρ1 H2 H2' E2 e2 r2 ⟨k, j1, j3⟩ => ?_
        subst j1
        cases r2
        have ev := natL_vals g2
        subst ev
        refine ⟨l, ns.map fun (n : Nat) => (n : Int), (k : Int), rfl, rfl, ?_, ?_⟩
        · rw [List.map_map]
          exact SqL.of (E2.ex _ _ (e2 _ _ g1))
        · rw [count_cast]
          exact q _ _ ρ1 H2 H2' E2 (e1.trans e2) (.int _) j3)
end
end G

set_option Elab.async false
set_option linter.all false
set_option maxRecDepth 100000
set_option maxHeartbeats 1000000
/-! tables whose first column is one value -/
namespace G
open PySem PySem.Spec PyProof.Rows L2
def namedT (s : Str) (T : List (List Cell)) : List (List Cell) := T.map fun r => some s :: r.drop 1
theorem named_table {s : Str} {T : List (List Cell)} {n : Nat} (hs : okV s) (hT : OkTable T n) : OkTable (namedT s T) n := by
  obtain ⟨c1, c6⟩ := hT.toOkRows.cols
  have hl : (namedT s T).length = T.length := List.length_map ..
  refine full_table (by rw [hl]; exact hT.lo) (by rw [hl]; exact hT.hi) ⟨c1, c6⟩ fun r hr => ?_
  obtain ⟨r0, h0, rfl⟩ := List.mem_map.mp hr
  obtain ⟨f1, f2⟩ := hT.fulls r0 h0
  refine ⟨fun x hx => ?_, ?_⟩
  · rcases List.mem_cons.mp hx with rfl | hx
    · exact ⟨s, rfl, hs⟩
    · exact f1.drop 1 x hx
  · rw [List.length_cons, List.length_drop, f2]
    omega
def pageN (s : Str) (T : List (List Cell)) : List (List Cell) := withB (namedT s T) (sharedN (namedT s T))
theorem pageN_ok {s : Str} {T : List (List Cell)} {n : Nat} (hs : okV s) (hT : OkTable T n) : OkPage (pageN s T) n ∧ tableOf (pageN s T) n = namedT s T := with_page (named_table hs hT) (Within.refl _)
theorem named_get {s : Str} {T : List (List Cell)} {i : Nat} (h : i < T.length) : ∃ r, (namedT s T).getD i [] = some s :: r := by
  unfold namedT
  rw [List.getD_eq_getElem?_getD, List.getElem?_map, List.getElem?_eq_getElem h]
  exact ⟨_, rfl⟩
theorem shFrom_pos : ∀ {t : List (List Cell)} {ab : List Cell} {s : Str}, (∃ r, ab = some s :: r) → (∀ x ∈ t, ∃ r, x = some s :: r) → ∀ b ∈ shFrom ab t, 0 < b
  | [], _, _, _, _, b, hb => by cases hb
  | x :: t, ab, s, hab, ht, b, hb => by
    obtain ⟨r0, rfl⟩ := hab
    obtain ⟨r1, e1⟩ := ht x List.mem_cons_self
    subst e1
    rcases List.mem_cons.mp hb with rfl | hb
    · unfold sh
      rw [if_pos rfl]
      exact Nat.succ_pos _
    · exact shFrom_pos ⟨r1, rfl⟩ (fun y hy => ht y (List.mem_cons_of_mem _ hy)) b hb
theorem pageN_leads {s : Str} {T : List (List Cell)} {n : Nat} (hs : okV s) (hT : OkTable T n) : (pageN s T).map lead = sharedN (namedT s T) ∧ ∃ bs, sharedN (namedT s T) = 0 :: bs ∧ ∀ b ∈ bs, 0 < b := by
  have hn := named_table hs hT
  refine ⟨?_, ?_⟩
  · refine with_leads (ms := sharedN (namedT s T)) (fun r hr => (hn.fulls r hr).1) (fun r hr m hm => ?_) (Within.refl _) (sharedN_length _).symm
    rw [(hn.fulls r hr).2]
    exact sharedN_le (fun r hr => by rw [hn.wide r hr]; exact Nat.le_refl _) m hm
  · have hlo := hn.lo
    unfold namedT at hlo ⊢
    cases T with
    | nil => exact absurd hlo (Nat.not_succ_le_zero _)
    | cons r0 T => exact ⟨_, rfl, shFrom_pos (s := s) ⟨_, rfl⟩ fun x hx => by
        obtain ⟨r, _, rfl⟩ := List.mem_map.mp hx
        exact ⟨_, rfl⟩⟩
theorem pageN_one {s : Str} {T : List (List Cell)} {n : Nat} (hs : okV s) (hT : OkTable T n) : One (pageN s T) ∧ ((pageN s T).map lead).count 0 = 1 := by
  obtain ⟨h1, bs, h2, h3⟩ := pageN_leads hs hT
  rw [h2] at h1
  refine ⟨⟨fun i hi => ?_⟩, ?_⟩
  · have e : lead ((pageN s T).getD i []) = (0 :: bs).getD i 0 := by
      rw [← h1, List.getD_eq_getElem?_getD, List.getD_eq_getElem?_getD, List.getElem?_map, List.getElem?_eq_getElem hi]
      rfl
    rw [e]
    cases i with
    | zero => exact ⟨fun _ => rfl, fun _ => rfl⟩
    | succ i =>
      have hl : (0 :: bs).length = (pageN s T).length := by rw [← h1, List.length_map]
      have hb : i < bs.length := by
        rw [List.length_cons] at hl
        omega
      have := h3 bs[i] (List.getElem_mem hb)
      rw [List.getD_cons_succ, List.getD_eq_getElem?_getD, List.getElem?_eq_getElem hb]
      exact ⟨fun h => by have h : bs[i] = 0 := h; omega, fun h => nomatch h⟩
  · rw [h1, List.count_cons, if_pos (by rfl), List.count_eq_zero.mpr fun h => absurd (h3 0 h) (Nat.lt_irrefl 0)]
theorem named_apart {s t : Str} {T U : List (List Cell)} (hne : s ≠ t) {i j : Nat} (hi : i < T.length) (hj : j < U.length) : sh ((namedT s T).getD i []) ((namedT t U).getD j []) = 0 := by
  obtain ⟨r1, e1⟩ := named_get (s := s) hi
  obtain ⟨r2, e2⟩ := named_get (s := t) hj
  rw [e1, e2]
  unfold sh
  rw [if_neg fun e => hne (Option.some.inj e)]
end G

set_option Elab.async false
set_option linter.all false
set_option maxRecDepth 100000
set_option maxHeartbeats 1000000
namespace G
open PySem PySem.Spec PyProof.Rows L2
/-! a page and the one without the last row of its sequence -/
def fS (s i : Nat) : Nat := if i < s then i else i + 1
theorem fS_inj {s i j : Nat} (h : fS s i = fS s j) : i = j := by
  unfold fS at h
  split at h <;> split at h <;> omega
theorem fS_ne {s i : Nat} : fS s i ≠ s := by
  unfold fS
  split <;> omega
theorem fS_lt {s i m : Nat} (h : i < m) : fS s i < m + 1 := by
  unfold fS
  split <;> omega
theorem fS_le {s i j : Nat} : fS s i ≤ fS s j ↔ i ≤ j := by
  unfold fS
  split <;> split <;> omega
theorem fS_back {s j m : Nat} (hj : j < m + 1) (hs : s ≤ m) (hne : j ≠ s) : ∃ i, i < m ∧ fS s i = j := by
  unfold fS
  by_cases h : j < s
  · exact ⟨j, by omega, by rw [if_pos h]⟩
  · exact ⟨j - 1, by omega, by rw [if_neg (by omega)]; omega⟩
/-- q is p without the row s, which comes last in the sequence of p -/
structure LessR (p q : List (List Cell)) (n s : Nat) : Prop where
  hp : OkPage p n
  hq : OkPage q n
  len : p.length = q.length + 1
  le : s ≤ q.length
  row : ∀ i, i < q.length → p.getD (fS s i) [] = q.getD i []
  tab : ∀ i, i < q.length → (tableOf p n).getD (fS s i) [] = (tableOf q n).getD i []
  last : ∀ i, i < q.length → lead (q.getD i []) < lead (p.getD s []) ∨ (lead (q.getD i []) = lead (p.getD s []) ∧ i < s)
variable {p q : List (List Cell)} {n s : Nat}
theorem LessR.perm (r : LessR p q n s) : ((seqN q).map (fS s) ++ [s]).Perm (List.range p.length) := by
  have h0 : ((seqN q).map (fS s)).Perm ((List.range q.length).map (fS s)) := (seqN_perm q).map _
  refine (h0.append_right [s]).trans ?_
  have le := r.le
  refine (List.perm_ext_iff_of_nodup ?_ List.nodup_range).mpr fun j => ?_
  · refine List.nodup_append.mpr ⟨?_, List.pairwise_singleton _ _, fun a ha b hb => ?_⟩
    · refine List.Pairwise.map (R := (· ≠ ·)) _ (fun a b hne he => hne (fS_inj he)) List.nodup_range
    · obtain ⟨i, _, rfl⟩ := List.mem_map.mp ha
      rw [List.mem_singleton.mp hb]
      exact fS_ne
  · rw [r.len, List.mem_range]
    constructor
    · intro h
      rcases List.mem_append.mp h with h | h
      · obtain ⟨i, hi, rfl⟩ := List.mem_map.mp h
        exact fS_lt (List.mem_range.mp hi)
      · rw [List.mem_singleton.mp h]
        omega
    · intro h
      by_cases e : j = s
      · rw [e]
        exact List.mem_append_right _ List.mem_cons_self
      · obtain ⟨i, hi, rfl⟩ := fS_back h le e
        exact List.mem_append_left _ (List.mem_map_of_mem (List.mem_range.mpr hi))
theorem LessR.seq (r : LessR p q n s) : seqN p = (seqN q).map (fS s) ++ [s] := by
  refine seqN_is r.perm (List.pairwise_append.mpr ⟨?_, List.pairwise_singleton _ _, fun a ha b hb => ?_⟩)
  · refine List.pairwise_map.mpr ((seqN_sorted q).imp_of_mem fun {i j} hi hj h => ?_)
    have hi := seqN_lt q i hi
    have hj := seqN_lt q j hj
    unfold seqLe at h ⊢
    rw [r.row i hi, r.row j hj]
    have h := of_decide_eq_true h
    refine decide_eq_true ?_
    rcases h with h | ⟨h1, h2⟩
    · exact .inl h
    · exact .inr ⟨h1, fS_le.mpr h2⟩
  · obtain ⟨i, hi, rfl⟩ := List.mem_map.mp ha
    rw [List.mem_singleton.mp hb]
    have hi := seqN_lt q i hi
    unfold seqLe
    rw [r.row i hi]
    refine decide_eq_true ?_
    rcases r.last i hi with h | ⟨h1, h2⟩
    · exact .inl h
    · refine .inr ⟨h1, ?_⟩
      unfold fS
      rw [if_pos h2]
      omega
def fD (s : Nat) : PyData → PyData
  | .int i => .int ((fS s i.toNat : Nat) : Int)
  | d => d
theorem natL_map (s : Nat) (hs : List Nat) : natL (hs.map (fS s)) = (natL hs).map (fD s) := by
  unfold natL
  rw [List.map_map, List.map_map]
  rfl
theorem LessR.take (r : LessR p q n s) {a : Nat} (ha : a ≤ q.length) : (seqN p).take a = ((seqN q).take a).map (fS s) := by
  rw [r.seq, List.take_append_of_le_length (by rw [List.length_map, seqN_len]; exact ha), List.map_take]
theorem LessR.at_ (r : LessR p q n s) {a : Nat} (ha : a < q.length) : (seqN p).getD a 0 = fS s ((seqN q).getD a 0) := by
  rw [r.seq, getD_left (by rw [List.length_map, seqN_len]; exact ha), List.getD_eq_getElem?_getD, List.getElem?_map, seqN_at ha]
  rfl
theorem LessR.end_ (r : LessR p q n s) : (seqN p).getD q.length 0 = s := by
  have h := getD_right (xs := (seqN q).map (fS s)) (ys := [s]) (d := 0) 0
  rw [Nat.zero_add, List.length_map, seqN_len, ← r.seq] at h
  exact h
theorem LessR.host (r : LessR p q n s) {a : Nat} (ha : a < q.length) : hostAt p (tableOf p n) a = (hostAt q (tableOf q n) a).map (fD s) := by
  have hlt : (seqN q).getD a 0 < q.length := seqN_lt q _ (List.mem_of_getElem? (seqN_at ha))
  unfold hostAt hostsL
  rw [r.take (Nat.le_of_lt ha), r.at_ ha, r.row _ hlt, r.tab _ hlt]
  split
  · rw [List.map_cons, natL_map]
    rfl
  · rw [← natL_map, List.filter_map]
    congr 2
    refine List.filter_congr fun h hh => ?_
    have hl := seqN_lt q h (List.mem_of_mem_take hh)
    show decide (_ ≤ sh ((tableOf p n).getD (fS s h) []) _) = _
    rw [r.tab h hl]
theorem LessR.sizes (r : LessR p q n s) : hostC p n = hostC q n ++ [(hostAt p (tableOf p n) q.length).length] := by
  unfold hostC
  rw [r.len, List.range_succ, List.map_append]
  congr 1
  refine List.map_congr_left fun a ha => ?_
  rw [r.host (List.mem_range.mp ha), List.length_map]
theorem idxOf_map {s x : Nat} : ∀ os : List Nat, (os.map (fS s)).idxOf (fS s x) = os.idxOf x
  | [] => rfl
  | a :: os => by
    rw [List.map_cons, List.idxOf_cons, List.idxOf_cons, idxOf_map os]
    by_cases h : a = x
    · subst h
      rw [beq_self_eq_true, beq_self_eq_true]
    · have h2 : fS s a ≠ fS s x := fun e => h (fS_inj e)
      rw [beq_eq_false_iff_ne.mpr h, beq_eq_false_iff_ne.mpr h2]
theorem ins_map {s x : Nat} {os : List Nat} {z : PyData} (hz : isHost z) : insAt (os.map (fS s)) (fD s z) (fS s x) = (insAt os z x).map (fS s) := by
  rcases hz with rfl | ⟨i, rfl⟩
  · rfl
  · show (os.map (fS s)).take ((os.map (fS s)).idxOf (fS s i) + 1) ++ [fS s x] ++ (os.map (fS s)).drop ((os.map (fS s)).idxOf (fS s i) + 1) = (os.take (os.idxOf i + 1) ++ [x] ++ os.drop (os.idxOf i + 1)).map (fS s)
    rw [idxOf_map, List.map_append, List.map_append, List.map_take, List.map_drop]
    rfl
theorem LessR.ord (r : LessR p q n s) {ds : List Nat} : ∀ i, i ≤ q.length → (∀ a, a < i → ds.getD a 0 < (hostAt q (tableOf q n) a).length) → ordO p (tableOf p n) ds i = (ordO q (tableOf q n) ds i).map (fS s)
  | 0, _, _ => rfl
  | i + 1, hi, hd => by
    have hdi := hd i (Nat.lt_succ_self i)
    rw [ordO_succ, ordO_succ, r.ord i (by omega) (fun a ha => hd a (by omega)), r.at_ (by omega), r.host (by omega), ← ins_map]
    · congr 1
      generalize ds.getD i 0 = b at hdi
      rw [List.getD_eq_getElem?_getD, List.getD_eq_getElem?_getD, List.getElem?_map, List.getElem?_eq_getElem hdi]
      rfl
    · generalize ds.getD i 0 = b at hdi
      rw [List.getD_eq_getElem?_getD, List.getElem?_eq_getElem hdi]
      exact host_is _ (List.getElem_mem hdi)
theorem LessR.nthL (r : LessR p q n s) (j : Nat) : nthO p n j = insAt ((nthO q n (j / (hostAt p (tableOf p n) q.length).length)).map (fS s)) ((hostAt p (tableOf p n) q.length).getD (j % (hostAt p (tableOf p n) q.length).length) .none) s := by
  have hCl : (hostC q n).length = q.length := hostC_len q n
  generalize hh : hostAt p (tableOf p n) q.length = H
  have hn : nth j (hostC p n) = nth (j / H.length) (hostC q n) ++ [j % H.length] := by rw [r.sizes, hh, nth_snoc]
  have hl : (nth (j / H.length) (hostC q n)).length = q.length := by rw [nth_length, hCl]
  have ho : ∀ i, i ≤ q.length → ordO p (tableOf p n) (nth j (hostC p n)) i = ordO p (tableOf p n) (nth (j / H.length) (hostC q n)) i := fun i hi => ordO_same i fun a ha => by
    rw [hn, getD_left (by omega)]
  unfold nthO
  rw [r.len, ordO_succ, ho _ (Nat.le_refl _), r.ord _ (Nat.le_refl _) (fun a ha => (nth_digs r.hq _).2 a ha), r.end_, hh]
  congr 2
  have := getD_right (xs := nth (j / H.length) (hostC q n)) (ys := [j % H.length]) (d := 0) 0
  rw [Nat.zero_add, hl, ← hn] at this
  rw [this]
  rfl
theorem LessR.count (r : LessR p q n s) : prodN (hostC p n) = prodN (hostC q n) * (hostAt p (tableOf p n) q.length).length := by
  rw [r.sizes, prod_snoc]
theorem LessR.idx (r : LessR p q n s) : (seqN p).idxOf s = q.length := by
  rw [r.seq, List.idxOf_append, if_neg, List.length_map, seqN_len]
  · simp
  · intro h
    obtain ⟨i, _, e⟩ := List.mem_map.mp h
    exact fS_ne e
end G

set_option Elab.async false
set_option linter.all false
set_option maxRecDepth 100000
set_option maxHeartbeats 1000000
namespace G
open PySem PySem.Spec PyProof.Rows L2
theorem cut_get {α : Type} {xs : List α} {s i : Nat} {d : α} : (xs.take s ++ xs.drop (s + 1)).getD i d = xs.getD (fS s i) d := by
  rw [← List.eraseIdx_eq_take_drop_succ, List.getD_eq_getElem?_getD, List.getElem?_eraseIdx, List.getD_eq_getElem?_getD]
  unfold fS
  split <;> rfl
theorem cut_len {α : Type} {xs : List α} {s : Nat} (h : s < xs.length) : (xs.take s ++ xs.drop (s + 1)).length + 1 = xs.length := by
  rw [List.length_append, List.length_take, List.length_drop]
  omega
theorem read_over {A r : List Cell} (h : lead r ≤ A.length) : ∀ {D : List (List Cell)}, (∀ r', D.head? = some r' → lead r' ≤ lead r) → readR (readOne A r) D = readR A D
  | [], _ => rfl
  | r' :: D, hD => by
    have hl := hD r' rfl
    have e : readOne (readOne A r) r' = readOne A r' := by
      unfold readOne
      rw [List.take_append_of_le_length (by rw [List.length_take]; omega), List.take_take, Nat.min_eq_left hl]
    show readOne (readOne A r) r' :: readR (readOne (readOne A r) r') D = readOne A r' :: readR (readOne A r') D
    rw [e]
theorem cut_table {p : List (List Cell)} {n s : Nat} (hp : OkPage p n) (hs : s < p.length) (hd : ∀ r', p[s + 1]? = some r' → lead r' ≤ lead (p.getD s [])) :
    tableOf (p.take s ++ p.drop (s + 1)) n = (tableOf p n).take s ++ (tableOf p n).drop (s + 1) := by
  have hg := getD_at hs
  have hr := List.mem_of_getElem? hg
  have e : p.take s ++ p.getD s [] :: p.drop (s + 1) = p := by
    obtain ⟨h1, h2⟩ := List.getElem?_eq_some_iff.mp hg
    rw [← h2, ← List.drop_eq_getElem_cons h1, List.take_append_drop]
  have hA : (readE (blankRow n) (p.take s)).length = n := readE_len (by unfold blankRow; rw [List.length_replicate]) fun r h => hp.wide r (List.mem_of_mem_take h)
  have hl : lead (p.getD s []) ≤ (readE (blankRow n) (p.take s)).length := by
    rw [hA, ← hp.wide _ hr]
    exact lead_le _
  have ht : tableOf p n = readR (blankRow n) (p.take s) ++ readOne (readE (blankRow n) (p.take s)) (p.getD s []) :: readR (readE (blankRow n) (p.take s)) (p.drop (s + 1)) := by
    have h0 : tableOf p n = tableOf (p.take s ++ p.getD s [] :: p.drop (s + 1)) n := by rw [e]
    rw [h0]
    unfold tableOf
    rw [readR_append]
    congr 1
    show _ :: readR (readOne _ _) _ = _
    rw [read_over hl fun r' h => hd r' (by rw [List.head?_drop] at h; exact h)]
  have hl2 : (readR (blankRow n) (p.take s)).length = s := by rw [readR_length, List.length_take]; omega
  have hsplit : ∀ (X : List (List Cell)) (y : List Cell) (Z : List (List Cell)), X.length = s → (X ++ y :: Z).take s ++ (X ++ y :: Z).drop (s + 1) = X ++ Z := fun X y Z hX => by
    rw [List.take_append_of_le_length (by omega), List.take_of_length_le (by omega), List.drop_append, hX, Nat.add_sub_cancel_left, List.drop_eq_nil_of_le (by omega)]
    rfl
  rw [ht, hsplit _ _ _ hl2]
  unfold tableOf
  rw [readR_append]
theorem less_row {p : List (List Cell)} {n s : Nat} (hp : OkPage p n) (h1 : 1 < p.length) (hs : s < p.length) (hl : ∀ j, j < p.length → j ≠ s → ahead p j s) :
    LessR p (p.take s ++ p.drop (s + 1)) n s ∧ tableOf (p.take s ++ p.drop (s + 1)) n = (tableOf p n).take s ++ (tableOf p n).drop (s + 1) := by
  have hcl := cut_len hs
  have hle : ∀ i, i < p.length → lead (p.getD i []) ≤ lead (p.getD s []) := fun i hi => by
    by_cases e : i = s
    · rw [e]; exact Nat.le_refl _
    · have := hl i hi e
      unfold ahead at this
      omega
  have ht := cut_table hp hs fun r' h => by
    have := hle (s + 1) (List.getElem?_eq_some_iff.mp h).1
    rw [List.getD_eq_getElem?_getD (i := s + 1), h] at this
    exact this
  obtain ⟨r0, q0, e0, z0, _⟩ := hp.split
  have s0 : 0 < s := by
    rcases Nat.eq_zero_or_pos s with e | e
    · have := hl 1 h1 (by omega)
      unfold ahead at this
      rw [e, e0] at this
      have z : lead ((r0 :: q0).getD 0 []) = 0 := z0
      omega
    · exact e
  have hq : OkPage (p.take s ++ p.drop (s + 1)) n := by
    have sub : ∀ r ∈ p.take s ++ p.drop (s + 1), r ∈ p := fun r h => (List.mem_append.mp h).elim List.mem_of_mem_take List.mem_of_mem_drop
    refine { lo := by omega, hi := by have := hp.hi; omega, row := fun r h => hp.row r (sub r h), wide := fun r h => hp.wide r (sub r h), first := fun r h => ?_ }
    obtain ⟨s', rfl⟩ : ∃ s', s = s' + 1 := ⟨s - 1, by omega⟩
    rw [e0] at h
    have : r0 = r := Option.some.inj h
    rw [← this]
    exact z0
  refine ⟨{ hp := hp, hq := hq, len := by omega, le := by omega, row := fun i hi => cut_get.symm, tab := fun i hi => by rw [ht]; exact cut_get.symm, last := fun i hi => ?_ }, ht⟩
  rw [cut_get]
  have := hl (fS s i) (by unfold fS; split <;> omega) fS_ne
  unfold ahead at this
  rcases this with h | ⟨h, h2⟩
  · exact .inl h
  · refine .inr ⟨h, ?_⟩
    unfold fS at h2
    split at h2 <;> omega
theorem more_row {p : List (List Cell)} {n : Nat} {r : List Cell} (hp : OkPage p n) (hr : okRow r) (hw : r.length = n) (hall : ∀ i, i < p.length → lead (p.getD i []) ≤ lead r) (h60 : p.length < 60) : LessR (p ++ [r]) p n p.length := by
  have hfS : ∀ i, i < p.length → fS p.length i = i := fun i hi => by unfold fS; rw [if_pos hi]
  have hT : tableOf (p ++ [r]) n = tableOf p n ++ readR (readE (blankRow n) p) [r] := readR_append _ _ _
  have htl := table_len p n
  have hlo := hp.lo
  refine { hp := ?_, hq := hp, len := by rw [List.length_append]; rfl, le := Nat.le_refl _, row := fun i hi => by rw [hfS i hi, getD_left hi], tab := fun i hi => by rw [hfS i hi, hT, getD_left (by omega)], last := fun i hi => ?_ }
  · refine { lo := by rw [List.length_append]; omega, hi := by rw [List.length_append]; show p.length + 1 ≤ 60; omega, row := fun x h => ?_, wide := fun x h => ?_, first := fun x h => ?_ }
    · rcases List.mem_append.mp h with h | h
      · exact hp.row x h
      · rw [List.mem_singleton.mp h]; exact hr
    · rcases List.mem_append.mp h with h | h
      · exact hp.wide x h
      · rw [List.mem_singleton.mp h]; exact hw
    · refine hp.first x ?_
      rw [List.head?_append] at h
      cases hh : p.head? with
      | none => rw [List.head?_eq_none_iff.mp hh] at hlo; exact absurd hlo (by decide)
      | some y => rw [hh] at h; exact h
  · have := hall i hi
    have e : (p ++ [r]).getD p.length [] = r := by
      have := getD_right (xs := p) (ys := [r]) (d := []) 0
      rw [Nat.zero_add] at this
      exact this
    rw [e]
    omega
theorem last_row {p : List (List Cell)} {n : Nat} (hp : OkPage p n) : ∃ X, tableOf p n = X ++ [readE (blankRow n) p] := by
  obtain ⟨r0, q0, e0, _⟩ := hp.split
  obtain ⟨q', x, e⟩ : ∃ q' x, p = q' ++ [x] := ⟨p.dropLast, p.getLast (by rw [e0]; exact fun h => nomatch h), (List.dropLast_concat_getLast _).symm⟩
  refine ⟨readR (blankRow n) q', ?_⟩
  rw [e]
  exact readR_snoc _ _ _
theorem lead_blankRow (n : Nat) : lead (blankRow n) = n := by
  unfold blankRow
  induction n with
  | zero => rfl
  | succ n ih => exact congrArg (· + 1) ih
theorem okRow_blank {n : Nat} (h : 1 ≤ n ∧ n ≤ 6) : okRow (blankRow n) := by
  have hl : (blankRow n).length = n := by unfold blankRow; rw [List.length_replicate]
  refine ⟨by omega, by omega, fun x hx => ?_⟩
  rw [lead_blankRow, List.drop_eq_nil_of_le (by omega)] at hx
  exact nomatch hx
/-- a row of blanks more stands behind equal rows -/
theorem more_blank {p : List (List Cell)} {n : Nat} (hp : OkPage p n) (h60 : p.length < 60) :
    LessR (p ++ [blankRow n]) p n p.length ∧ ∃ hs : List Nat, hostAt (p ++ [blankRow n]) (tableOf (p ++ [blankRow n]) n) p.length = natL hs ∧ hs.Perm ((List.range p.length).filter fun i => decide ((tableOf p n).getD i [] = readE (blankRow n) p)) := by
  have hn := hp.toOkRows.cols
  have hwl : (blankRow n).length = n := by unfold blankRow; rw [List.length_replicate]
  have R := more_row (r := blankRow n) hp (okRow_blank hn) hwl (fun i hi => by
    rw [lead_blankRow, ← hp.wide _ (List.mem_of_getElem? (getD_at hi))]
    exact lead_le _) h60
  refine ⟨R, ?_⟩
  have hE : (readE (blankRow n) p).length = n := readE_len hwl fun r h => hp.wide r h
  have hT : tableOf (p ++ [blankRow n]) n = tableOf p n ++ [readE (blankRow n) p] := by
    unfold tableOf
    rw [readR_append]
    congr 1
    show [readOne (readE (blankRow n) p) (blankRow n)] = _
    unfold readOne
    rw [lead_blankRow, List.take_of_length_le (by omega), List.drop_eq_nil_of_le (by omega), List.append_nil]
  have hg : (p ++ [blankRow n]).getD p.length [] = blankRow n := by
    have := getD_right (xs := p) (ys := [blankRow n]) (d := []) 0
    rw [Nat.zero_add] at this
    exact this
  have htl := table_len p n
  have hgT : (tableOf p n ++ [readE (blankRow n) p]).getD p.length [] = readE (blankRow n) p := by
    have := getD_right (xs := tableOf p n) (ys := [readE (blankRow n) p]) (d := []) 0
    rw [Nat.zero_add, htl] at this
    exact this
  refine ⟨((seqN p).filter fun i => decide ((tableOf p n).getD i [] = readE (blankRow n) p)), ?_, (seqN_perm p).filter _⟩
  unfold hostAt hostsL
  have hmap : (seqN p).map (fS p.length) = seqN p := by
    have : ∀ x ∈ seqN p, fS p.length x = id x := fun x hx => by
      unfold fS
      rw [if_pos (seqN_lt p x hx)]
      rfl
    rw [List.map_congr_left this, List.map_id]
  have hsq : (seqN (p ++ [blankRow n])).take p.length = seqN p := by
    rw [R.take (Nat.le_refl _), List.take_of_length_le (by rw [seqN_len]; exact Nat.le_refl _), hmap]
  rw [R.end_, hg, lead_blankRow, if_neg (by omega), hsq, hT, hgT]
  congr 1
  refine List.filter_congr fun i hi => decide_eq_decide.mpr ?_
  have hi := seqN_lt p i hi
  rw [getD_left (by omega)]
  have hTi : ((tableOf p n).getD i []).length = n := hp.table.wide _ (List.mem_of_getElem? (getD_at (by omega)))
  constructor
  · intro h
    have e := take_sh h
    rw [List.take_of_length_le (by omega), List.take_of_length_le (by omega)] at e
    exact e
  · intro h
    rw [h]
    exact take_eq_sh (by omega) (by omega) rfl
/-- a row without blanks more -/
theorem more_front {p : List (List Cell)} {n : Nat} {r : List Cell} (hp : OkPage p n) (hr : okRow r) (hw : r.length = n) (h0 : lead r = 0) (h60 : p.length < 60) :
    OkPage (p ++ [r]) n ∧ ∃ hs : List Nat, hostAt (p ++ [r]) (tableOf (p ++ [r]) n) ((seqN (p ++ [r])).idxOf p.length) = .none :: natL hs ∧ hs.length = ((List.range p.length).filter fun i => decide (lead (p.getD i []) = 0)).length := by
  have hlo := hp.lo
  have hq : OkPage (p ++ [r]) n := by
    refine { lo := by rw [List.length_append]; omega, hi := by rw [List.length_append]; show p.length + 1 ≤ 60; omega, row := fun x h => ?_, wide := fun x h => ?_, first := fun x h => ?_ }
    · rcases List.mem_append.mp h with h | h
      · exact hp.row x h
      · rw [List.mem_singleton.mp h]; exact hr
    · rcases List.mem_append.mp h with h | h
      · exact hp.wide x h
      · rw [List.mem_singleton.mp h]; exact hw
    · refine hp.first x ?_
      rw [List.head?_append] at h
      cases hh : p.head? with
      | none => rw [List.head?_eq_none_iff.mp hh] at hlo; exact absurd hlo (by decide)
      | some y => rw [hh] at h; exact h
  refine ⟨hq, ?_⟩
  have hlen : (p ++ [r]).length = p.length + 1 := by rw [List.length_append]; rfl
  have hg : (p ++ [r]).getD p.length [] = r := by
    have := getD_right (xs := p) (ys := [r]) (d := []) 0
    rw [Nat.zero_add] at this
    exact this
  have hx : (seqN (p ++ [r]))[(seqN (p ++ [r])).idxOf p.length]? = some p.length := by
    have hm : p.length ∈ seqN (p ++ [r]) := (seqN_perm _).mem_iff.mpr (List.mem_range.mpr (by omega))
    rw [List.getElem?_eq_getElem (List.idxOf_lt_length_of_mem hm), List.getElem_idxOf]
  have ha := (List.getElem?_eq_some_iff.mp hx).1
  generalize (seqN (p ++ [r])).idxOf p.length = a at hx ha
  have hgd : (seqN (p ++ [r])).getD a 0 = p.length := by rw [List.getD_eq_getElem?_getD, hx]; rfl
  rw [seqN_len] at ha
  refine ⟨(seqN (p ++ [r])).take a, ?_, ?_⟩
  · unfold hostAt hostsL
    rw [hgd, hg, h0, if_pos rfl]
  · refine List.Perm.length_eq ((List.perm_ext_iff_of_nodup ((List.take_sublist _ _).nodup (seqN_nodup _)) (List.nodup_range.filter _)).mpr fun j => ?_)
    rw [take_ahead ha, hgd, List.mem_filter, List.mem_range]
    unfold ahead
    rw [hg, h0, hlen]
    constructor
    · rintro ⟨h1, h2⟩
      have hj : j < p.length := by omega
      rw [getD_left hj] at h2
      exact ⟨hj, decide_eq_true (by omega)⟩
    · rintro ⟨h1, h2⟩
      have h2 := of_decide_eq_true h2
      refine ⟨by omega, ?_⟩
      rw [getD_left h1]
      omega
end G

set_option Elab.async false
set_option linter.all false
set_option maxRecDepth 100000
set_option maxHeartbeats 1000000
namespace G
open PySem PySem.Spec PyProof.Rows L2
/-! max of a list of data -/
def rMaxD (K : PySem.W.Frag) (xs : List V) (H : Hp) (Q : VK) : Prop := ∃ (a : Addr) (vs : List V) (d : PyData) (ds : List PyData), xs = [.ref a] ∧ SqL K H a vs ∧ DpAll K H vs (d :: ds) ∧ PySem.W.AlikeAll (d :: ds) ∧ PyData.depthAll (d :: ds) ≤ 60 ∧
  ∀ (i : Nat) (x : V), vs[i]? = some x → (d :: ds)[i]? = some (PySem.W.maxD d ds) → Q x H
theorem dpAll_at {K : PySem.W.Frag} {H : Hp} : ∀ {vs : List V} {ds : List PyData} {i : Nat} {x : V}, DpAll K H vs ds → vs[i]? = some x → ∃ d, ds[i]? = some d ∧ Dp K H x d
  | _, _, _, _, .nil, h => by simp at h
  | _, _, 0, _, .cons r _, h => by
    cases (Option.some.inj h)
    exact ⟨_, rfl, r⟩
  | _, _, i + 1, _, .cons _ rs, h => dpAll_at (i := i) rs h
theorem cr_maxD {X : Cx} (hc : X.calm = true) (hu : X.A.units + 1 + 60 < cLine) : CallR X (.builtin "max") (rMaxD X.K) := by
  intro pins s σ H xs us Q I r h
  obtain ⟨a, vs, d, ds, rfl, hS, hD, hA, hd, q⟩ := h
  obtain ⟨u, rfl, ru⟩ := vals1 r
  cases ru
  obtain ⟨its, rv, hl, hz⟩ := I.list hS
  obtain ⟨as, hr⟩ := Dp.readsAll I _ _ _ hD rv
  refine PySem.W.max_list_data (I.ok.hd hc) hl.isList (by simpa using hr) hA (by omega) fun i v h' tk bs hv hb hk => ?_
  have hv : its[i]? = some v := by simpa using hv
  have hlen := rv.length
  have hi : i < vs.length := by
    have := (List.getElem?_eq_some_iff.mp hv).1
    omega
  obtain ⟨u, hu2, ru⟩ := rv.get (List.getElem?_eq_getElem hi)
  obtain ⟨e, he, re⟩ := dpAll_at hD (List.getElem?_eq_getElem hi)
  have : u = v := Option.some.inj (hu2.symm.trans hv)
  subst this
  obtain ⟨cs, rc⟩ := Dp.reads I _ _ _ re ru
  obtain ⟨em, _⟩ := reads_det (fun b o hb _ => hk b o hb) rc hb
  exact ⟨vs[i], H, I.kept hk, ru, q i vs[i] (List.getElem?_eq_getElem hi) (by rw [em]; exact he)⟩
section
variable {c : Ct} {F : Fp} {ρ : List Sl} {pos : Pos} {e : Expr} {Φ : PyData → List Sl → Prop}
theorem we_maxD {p : Pos} (h : WE c F e ρ fun d ρ1 => ∃ (x : PyData) (xs : List PyData), d = .list (x :: xs) ∧ plainL (x :: xs) = true ∧ PySem.W.AlikeAll (x :: xs) ∧ PyData.depthAll (x :: xs) ≤ 60 ∧ Φ (PySem.W.maxD x xs) ρ1) (hk : 1 ≤ c.k := by exact of_decide_eq_true rfl) (hm : c.mg "max" = none) (hg : c.sc.names.lookup ("max" : Str) = some NameKind.globalImplicit := by rfl)
    (hs : ∀ env, starEach [e] env = (false, eval e env) :: starEach [] env := by exact star_cons rfl) (hpl : ∀ env, (backTo pos (starEach [] env)).any (·.1) = false := by intro _; rfl) : WE c F (.Call (.Name "max" p) [e] [] pos) ρ Φ := fun B σ H0 H hF E Q q =>
  wpE_of (t := tCB (rMaxD c.K) (tCons (wpE c e) tNil)) (fun X hX => by rw [← hX.K]; exact pe_callB (cr_maxD hX.calm (Nat.lt_of_le_of_lt (Nat.add_le_add_left (show 1 + 60 ≤ 64 by decide) _) hX.room.units)) (by show X.env.scope.names.lookup _ = _; rw [hX.sc]; exact hg) (by rw [hX.mg]; exact hm) (by decide +kernel) (pa_cons (peW hX) pa_nil (hs _)) (by decide) (by decide) (hs _) (hpl _)) (h B σ H0 H hF E _ fun v d ρ1 H1 H1' E1 e1 r1 ⟨x, xs, k0, k1, k2, k3, k4⟩ => by
    subst k0
    cases r1 with
    | @lst a vs _ g1 g2 =>
      refine ⟨a, vs, x, xs, rfl, SqL.of (E1.ex _ _ g1), (g2.mono E1.ex).dp k1, k2, k3, fun i u hu hi => ?_⟩
      obtain ⟨y, hy, ry⟩ := g2.get hi
      cases (Option.some.inj (hy.symm.trans hu))
      exact q _ _ ρ1 H1 H1' E1 e1 ry k4)
end
end G

set_option Elab.async false
set_option linter.all false
set_option maxRecDepth 100000
set_option maxHeartbeats 1000000
namespace G
open PySem PySem.Spec PyProof.Rows L2
/-! walks over a dict: it is locked while they run -/
structure Sw (H H' : Hp) : Prop where
  l : ∀ a xs, H a = some (.lst xs) → H' a = some (.lst xs)
  t : ∀ a xs, H a = some (.tup xs) → H' a = some (.tup xs)
  d : ∀ a kvs, Rd H a (.dK kvs) → Rd H' a (.dK kvs)
mutual
theorem Rp.sw {H H' : Hp} (s : Sw H H') : ∀ {v : V} {d : PyData}, Rp H v d → Rp H' v d
  | _, _, .non => .non
  | _, _, .bl b => .bl b
  | _, _, .int i => .int i
  | _, _, .str x => .str x
  | _, _, .lst h t => .lst (s.l _ _ h) (RpL.sw s t)
  | _, _, .tup h t => .tup (s.t _ _ h) (RpL.sw s t)
  | _, _, .dct h t => .dct (s.d _ _ h) (RpK.sw s t)
theorem RpL.sw {H H' : Hp} (s : Sw H H') : ∀ {vs : List V} {ds : List PyData}, RpL H vs ds → RpL H' vs ds
  | _, _, .nil => .nil
  | _, _, .cons r t => .cons (Rp.sw s r) (RpL.sw s t)
theorem RpK.sw {H H' : Hp} (s : Sw H H') : ∀ {vs : List (Key × V)} {ds : List (PyData × PyData)}, RpK H vs ds → RpK H' vs ds
  | _, _, .nil => .nil
  | _, _, .cons r t => .cons (Rp.sw s r) (RpK.sw s t)
end
/-- a dict, or a locked one -/
def isDk (kvs : List (Key × V)) (u : HO) : Prop := u = .dK kvs ∨ ∃ o, u = .frz o (.dK kvs)
theorem Sw.of {H : Hp} {a : Addr} {u w : HO} {kvs : List (Key × V)} (h : H a = some u) (hu : isDk kvs u) (hw : isDk kvs w) : Sw H (upd H a w) where
  l := fun b xs hb => by
    rw [upd_ne (fun z => by
      rw [z, h] at hb
      rcases hu with rfl | ⟨o, rfl⟩ <;> cases hb)]
    exact hb
  t := fun b xs hb => by
    rw [upd_ne (fun z => by
      rw [z, h] at hb
      rcases hu with rfl | ⟨o, rfl⟩ <;> cases hb)]
    exact hb
  d := fun b ks hb => by
    by_cases z : b = a
    · subst z
      have e : ks = kvs := by
        rcases hb with hb | ⟨o', hb⟩ <;> rw [h] at hb <;> rcases hu with rfl | ⟨o, rfl⟩ <;> cases hb <;> rfl
      subst e
      rcases hw with rfl | ⟨o, rfl⟩
      · exact .inl upd_same
      · exact .inr ⟨o, upd_same⟩
    · rcases hb with hb | ⟨o, hb⟩
      · exact .inl (by rw [upd_ne z]; exact hb)
      · exact .inr ⟨o, by rw [upd_ne z]; exact hb⟩
theorem En.swap {B B' : Bs} {ρ : List Sl} {σ : L2.St} {H0 H : Hp} {a : Addr} {u w : HO} {kvs : List (Key × V)} (E : En B ρ σ H0 H) (h : H0 a = some u) (hu : isDk kvs u) (hw : isDk kvs w) (eF : B'.F = B.F) (eH : B'.H = B.H) (e0 : Ex B'.H0 (upd H0 a w)) (kp : ∀ b o, B'.H b = some o → B'.H0 b = none → ¬ B.F b → B.H0 b = none) : En B' ρ σ (upd H0 a w) (upd H a w) := by
  have S := Sw.of h hu hw
  have ha := E.ex _ _ h
  have na : ∀ {b : Addr}, H0 b = none → b ≠ a := fun {b} hb z => by
    rw [z, h] at hb
    cases hb
  refine ⟨E.len, e0, E.ex.upd, fun b o h1 h2 h3 => ?_, fun b hb => ?_, fun i d q => ?_, fun i ds q => ?_, E.sep, fun i n q => ?_, E.one, E.pn, fun i es q => ?_, E.oned⟩
  · rw [eF] at h3
    have h4 := kp b o h1 h2 h3
    rw [eH] at h1
    obtain ⟨k1, k2⟩ := E.kp b o h1 h4 h3
    exact ⟨by rw [upd_ne (na k2)]; exact k1, by rw [upd_ne (na k2)]; exact k2⟩
  · rw [eF] at hb
    obtain ⟨k1, o, k2⟩ := E.fF b hb
    exact ⟨by rw [upd_ne (na k1)]; exact k1, o, by rw [upd_ne (na k1)]; exact k2⟩
  · obtain ⟨v, v1, v2⟩ := E.fz i d q
    exact ⟨v, v1, v2.sw S⟩
  · obtain ⟨l, vs, k1, k2, k3, k4, k5, k6⟩ := E.ow i ds q
    exact ⟨l, vs, k1, by rw [upd_ne (na k3)]; exact k2, by rw [upd_ne (na k3)]; exact k3, by rw [eH]; exact k4, by rw [eF]; exact k5, k6.sw S⟩
  · obtain ⟨b, k1, k2⟩ := E.dk i n q
    rw [eF]
    exact ⟨b, k1, k2.but fun f => by
      have := (E.fF a f).1
      rw [h] at this
      cases this⟩
  · obtain ⟨l, vs, k1, k2, k3, k4, k5, k6⟩ := E.od i es q
    exact ⟨l, vs, k1, by rw [upd_ne (na k3)]; exact k2, by rw [upd_ne (na k3)]; exact k3, by rw [eH]; exact k4, by rw [eF]; exact k5, k6.sw S⟩
/-- locked, over its own base -/
theorem En.locked {B : Bs} {ρ : List Sl} {σ : L2.St} {H0 H : Hp} {a : Addr} {u w : HO} {kvs : List (Key × V)} (E : En B ρ σ H0 H) (h : H0 a = some u) (hu : isDk kvs u) (hw : isDk kvs w) : En ⟨upd H0 a w, B.H, B.F⟩ ρ σ (upd H0 a w) (upd H a w) :=
  E.swap h hu hw rfl rfl (Ex.refl _) fun b o _ h2 _ => E.e0.free (by
    by_cases z : b = a
    · subst z
      have h3 : upd H0 b w b = none := h2
      rw [upd_same] at h3
      cases h3
    · have h3 : upd H0 a w b = none := h2
      rw [upd_ne z] at h3
      exact h3)
/-- .. and unlocked -/
theorem En.unlocked {B : Bs} {ρ ρ' : List Sl} {σ σ' : L2.St} {H0 H Z H' : Hp} {a : Addr} {u w : HO} {kvs : List (Key × V)} (E : En B ρ σ H0 H) (h : H0 a = some u) (hu : isDk kvs u) (hw : isDk kvs w) (E' : En ⟨upd H0 a w, B.H, B.F⟩ ρ' σ' Z H') : En B ρ' σ' (upd Z a u) (upd H' a u) ∧ Ex H0 (upd Z a u) := by
  have hz : Z a = some w := E'.e0 _ _ upd_same
  have ex : Ex H0 (upd Z a u) := fun b o hb => by
    by_cases z : b = a
    · subst z
      rw [h] at hb
      rw [upd_same]
      exact hb
    · rw [upd_ne z]
      exact E'.e0 _ _ (by rw [show (Bs.H0 ⟨upd H0 a w, B.H, B.F⟩) b = upd H0 a w b from rfl, upd_ne z]; exact hb)
  refine ⟨E'.swap hz hw hu rfl rfl (E.e0.trans ex) fun b o h1 h2 h3 => ?_, ex⟩
  obtain ⟨_, k2⟩ := E.kp b o h1 h2 h3
  show upd H0 a w b = none
  rw [upd_ne (fun z => by rw [z, h] at k2; cases k2)]
  exact k2
section
variable {c : Ct} {F : Fp} {ρ : List Sl} {pos ppos : Pos} {e : Expr} {st : Stmt} {D : SE}
abbrev Pr := L2.St → Hp → Prop
def WIz (c : Ct) (F : Fp) (Pr0 : Pr) (tg iter : Expr) (ρ : List Sl) (Φ : List PyData → List Sl → Prop) : Prop := ∀ (B : Bs) (σ : L2.St) (H0 H : Hp), B.F = F → Pr0 σ H0 → En B ρ σ H0 H → ∀ R : It → Hp → Prop,
  (∀ J ds ρ' H0' H', En B ρ' σ H0' H' → Ex H0 H0' → Src J ds H0' → Φ ds ρ' → R J H') → wpI c tg iter σ H R
def WSz (c : Ct) (F : Fp) (Pr0 : Pr) (st : Stmt) (ρ : List Sl) (D : SE) : Prop := ∀ (B : Bs) (σ : L2.St) (H0 H : Hp), B.F = F → Pr0 σ H0 → En B ρ σ H0 H → ∀ E : Ends, Fits B D E → wpS c st E σ H
def WLz (c : Ct) (F : Fp) (Pr0 : Pr) (e : Expr) (ρ : List Sl) (Φ : List PyData → List Sl → Prop) : Prop := ∀ (B : Bs) (σ : L2.St) (H0 H : Hp), B.F = F → Pr0 σ H0 → En B ρ σ H0 H → ∀ Q : VK,
  (∀ l vs ds ρ' H0' H', En B ρ' σ H0' H' → Ex H0 H0' → Fresh B ρ' σ H0' H' l vs ds → Φ ds ρ' → Q (.ref l) H') → wpE c e σ H Q
theorem ws_forz {Pr0 : Pr} {tg iter : Expr} {body : List Stmt} (h : WIz c F Pr0 tg iter ρ fun ds ρ1 => ∃ P : Nat → List Sl → Prop, P 0 ρ1 ∧ (∀ (i : Nat) (d : PyData) (ρ' : List Sl), ds[i]? = some d → P i ρ' →
      WG c F tg d ρ' fun ρ2 => WSs c F body ρ2 { nx := P (i + 1), ct := P (i + 1), bk := D.nx, rt := D.rt }) ∧ ∀ ρ', P ds.length ρ' → D.nx ρ') (hs : ∀ env x, foldedSetIterable iter env x = pure x := by intro _ _; rfl) : WSz c F Pr0 (.For tg iter body [] pos) ρ D := fun B σ H0 H hF hp E Ed f =>
  wpS_of (fun X hX => ps_for hX.own hX.calm (piW hX) (pgW hX) (pssW hX) (hs _)) (h B σ H0 H hF hp E _ fun J ds ρ1 H1 H1' E1 e1 src ⟨P, p0, step, fin⟩ => by
    refine ⟨fun j m σ' H' => m = ds.length - j ∧ j ≤ ds.length ∧ ∃ ρ' Z, En ⟨H1, B.H, B.F⟩ ρ' σ' Z H' ∧ P j ρ', ⟨_, Nat.sub_zero _ |>.symm, Nat.zero_le _, ρ1, H1, E1.raise, p0⟩, ?_⟩
    rintro j m σ' H' ⟨rfl, hj, ρ', Z, E', p⟩
    obtain ⟨s1, s2⟩ := src j Z H' E'.e0 E'.ex
    rcases Nat.lt_or_ge j ds.length with hlt | hge
    · obtain ⟨go, yl⟩ := s1 _ (List.getElem?_eq_getElem hlt)
      refine .inr ⟨go, fun σ2 H2 => ∃ ρ2 Z2, En ⟨H1, B.H, B.F⟩ ρ2 σ2 Z2 H2 ∧ P (j + 1) ρ2, fun σ2 H2 ⟨ρ2, Z2, w1, w2⟩ => ⟨_, (by omega : ds.length - (j + 1) < ds.length - j), rfl, hlt, ρ2, Z2, w1, w2⟩, fun x H2 y => ?_⟩
      obtain ⟨Z2, gr, rx⟩ := yl x H2 y
      refine step j _ ρ' (List.getElem?_eq_getElem hlt) p ⟨H1, B.H, B.F⟩ σ' Z2 H2 x hF (E'.grow gr) rx _ fun ρ3 σ3 Z3 H3 E3 _ k3 => ?_
      refine k3 ⟨H1, B.H, B.F⟩ σ3 Z3 H3 hF E3 _ ⟨?_, ?_, ?_, ?_, fun _ _ _ _ _ _ _ _ _ k => k.elim⟩
      · exact fun ρ4 σ4 Z4 H4 E4 k4 => ⟨ρ4, Z4, E4, k4⟩
      · exact fun v d ρ4 σ4 Z4 H4 E4 r4 k4 => f.rt v d ρ4 σ4 Z4 H4 (E1.lower E4) r4 k4
      · exact fun ρ4 σ4 Z4 H4 E4 k4 => f.nx ρ4 σ4 Z4 H4 (E1.lower E4) k4
      · exact fun ρ4 σ4 Z4 H4 E4 k4 => ⟨ρ4, Z4, E4, k4⟩
    · have ee : j = ds.length := Nat.le_antisymm hj hge
      subst ee
      exact .inl ⟨s2 rfl, f.nx ρ' σ' Z H' (E1.lower E') (fin ρ' p)⟩)
theorem wl_lcz {Pr0 : Pr} {elt tg iter : Expr} {ifs : List Expr} {scope : Scope} {g : TG} {Φ : List PyData → List Sl → Prop} (own : List (Str × Nat))
    (hg : ∀ X, Has (c.blk scope) X → PG X tg g) (ok : blkC c.N c.sc scope own = true)
    (h : WIz c F Pr0 tg iter ρ fun ds ρ1 => ∃ P : Nat → List PyData → List Sl → Prop, ds.length ≤ 90000 ∧ P 0 [] (unset ρ1 (own.map (·.2))) ∧ (∀ (i : Nat) (d : PyData) (acc : List PyData) (ρ' : List Sl), ds[i]? = some d → acc.length ≤ i → P i acc ρ' →
      ∃ ρ2, GD g (own.map (·.2)) ρ' d ρ2 ∧ WTs (c.blk scope) F ifs ρ2 fun b ρ3 => (b = true → WE (c.blk scope) F elt ρ3 fun z ρ4 => P (i + 1) (acc ++ [z]) (unset ρ4 (own.map (·.2)))) ∧ (b = false → P (i + 1) acc (unset ρ3 (own.map (·.2))))) ∧
      ∀ acc ρ', acc.length ≤ ds.length → P ds.length acc ρ' → Φ acc (unset ρ' (own.map (·.2)))) (hs : ∀ env x, foldedSetIterable iter env x = pure x := by intro _ _; rfl) :
    WLz c F Pr0 (.ListComp elt [⟨tg, iter, ifs, 0⟩] scope pos) ρ Φ := fun B σ H0 H hF hp E Q q => by
  have body : tLc (wpI c tg iter) g (wpTs (c.blk scope) ifs) (wpE (c.blk scope) elt) (own.map (·.2)) σ H Q :=
    (h B σ H0 H hF hp E _ fun J ds ρ1 H1 H1' E1 e1 src ⟨P, lim, p0, step, fin⟩ => by
        intro L hL
        generalize hvs : own.map (·.2) = vs at *
        refine ⟨fun i m H' => m = ds.length - i ∧ i ≤ ds.length ∧ ∃ ρ' Z avs acc, En ⟨H1, B.H, B.F⟩ ρ' (wipe σ vs) Z H' ∧ Fresh ⟨H1, B.H, B.F⟩ ρ' (wipe σ vs) Z H' L avs acc ∧ acc.length ≤ i ∧ P i acc ρ',
          ⟨ds.length, by simp, Nat.zero_le _, ?_⟩, ?_⟩
        · obtain ⟨E2, f2⟩ := (E1.raise.wiped vs).newL hL (vs := []) (ds := []) .nil
          exact ⟨_, H1, [], [], E2, f2, Nat.zero_le _, p0⟩
        rintro i m H' ⟨rfl, hi, ρ', Z, avs, acc, E', f', ha, p⟩
        obtain ⟨g1, g2⟩ := src i Z H' E'.e0 E'.ex
        by_cases hlt : i < ds.length
        · obtain ⟨go, yl⟩ := g1 _ (List.getElem?_eq_getElem hlt)
          refine .inr ⟨go, fun H2 => ∃ ρ2 Z2 avs acc, En ⟨H1, B.H, B.F⟩ ρ2 (wipe σ vs) Z2 H2 ∧ Fresh ⟨H1, B.H, B.F⟩ ρ2 (wipe σ vs) Z2 H2 L avs acc ∧ acc.length ≤ i + 1 ∧ P (i + 1) acc ρ2,
            fun H2 ⟨ρ2, Z2, avs, acc, w1, w2, w3, w4⟩ => ⟨ds.length - (i + 1), by omega, rfl, hlt, ρ2, Z2, avs, acc, w1, w2, w3, w4⟩, fun x H2 y => ?_⟩
          obtain ⟨Z2, gr, rx⟩ := yl x H2 y
          obtain ⟨ρ2, gd, ht⟩ := step i _ acc ρ' (List.getElem?_eq_getElem hlt) ha p
          have E2 := (E'.guard f').grow gr
          refine gd _ σ Z2 H2 x E2 rx _ fun σ3 E3 hw => ⟨hw, ?_⟩
          refine ht ⟨Z, upd B.H L (.lst avs), B.F⟩ σ3 Z2 H2 hF E3 _ fun k ρ3 Z3 H3 E4 e4 ⟨k1, k2⟩ => ?_
          have back : ∀ {ρ5 : List Sl} {σ5 : L2.St} {Z5 H5 : Hp}, En ⟨Z, upd B.H L (.lst avs), B.F⟩ ρ5 σ5 Z5 H5 → wipe σ5 vs = wipe σ vs → En ⟨H1, B.H, B.F⟩ (unset ρ5 vs) (wipe σ vs) Z5 H5 ∧ Fresh ⟨H1, B.H, B.F⟩ (unset ρ5 vs) (wipe σ vs) Z5 H5 L avs acc := fun {ρ5 σ5 Z5 H5} E5 w5 => by
            obtain ⟨u1, u2⟩ := E'.unguard f' E5
            have u3 := u1.wiped vs
            rw [w5] at u3
            refine ⟨u3, u2.of_eq fun j es hj hs => ?_⟩
            obtain ⟨q1, q2⟩ := unset_get hj (by intro z; cases z)
            rw [← w5, wipe_get q2] at hs
            exact u2.no j es q1 hs
          cases k with
          | true =>
            refine iteT (k1 rfl ⟨Z, upd B.H L (.lst avs), B.F⟩ σ3 Z3 H3 hF E4 _ fun z zd ρ4 Z4 H4 E5 e5 r5 k5 => ?_)
            obtain ⟨b1, b2⟩ := back E5 hw
            obtain ⟨c1, c2⟩ := b1.beside b2 (b2.rp.append (.one r5))
            refine ⟨avs, b2.at_, Nat.lt_of_le_of_lt (by rw [b2.rp.length]; omega : avs.length ≤ 90000) (by decide), _, Z4, _, _, c1, c2, ?_, k5⟩
            rw [List.length_append, List.length_singleton]
            omega
          | false =>
            obtain ⟨b1, b2⟩ := back E4 hw
            exact iteF ⟨_, Z3, avs, acc, b1, b2, by omega, k2 rfl⟩
        · have e : i = ds.length := by omega
          subst e
          refine .inl ⟨g2 rfl, ?_⟩
          have u := E1.lower E'
          refine q L avs acc (unset ρ' vs) Z H' u.unwiped (e1.trans E'.e0) (?_) (fin acc ρ' ha p)
          refine ⟨f'.at_, f'.nf, f'.nb, f'.nF, fun j es hj hs => ?_, f'.rp⟩
          obtain ⟨q1, q2⟩ := unset_get hj (by intro z; cases z)
          exact f'.no j es q1 (by rw [wipe_get q2]; exact hs))
  exact wpE_of (fun X hX => pe_lc hX.calm hX.nd (piW hX) (blkOk_by (by rw [hX.N, hX.sc]; exact ok)) (fun s H C cl fp => hg _ (hX.blk s H scope C cl fp)) (fun s H C cl fp => ptsW (hX.blk s H scope C cl fp)) (fun s H C cl fp => peW (hX.blk s H scope C cl fp)) (hs _)) body
/-- the keys of a locked dict -/
def lockedAt (i : Nat) : Pr := fun σ H0 => ∃ (a : Addr) (o : Obj) (kvs : List (Key × V)), σ[i]? = some (some (V.ref a)) ∧ H0 a = some (.frz o (.dK kvs))
theorem RpK.keys {H : Hp} : ∀ {kvs : List (Key × V)} {es : List (PyData × PyData)}, RpK H kvs es → es.map (·.1) = kvs.map fun kv => kD kv.1
  | _, _, .nil => rfl
  | _, _, .cons _ t => by rw [List.map_cons, List.map_cons, RpK.keys t]
theorem kV_rp {H : Hp} (k : Key) : Rp H (kV k) (kD k) := by
  cases k with
  | inl i => exact .int i
  | inr x => exact .str x
theorem wi_keysz (i : Nat) {x : Str} {tg : Expr} {es : List (PyData × PyData)} {Φ : List PyData → List Sl → Prop} (h0 : ρ[i]? = some (Sl.fz (.dict es))) (k : Φ (es.map (·.1)) ρ) (hN : c.N[i]? = some x := by rfl)
    (hv : Vis c.sc x := by first | exact Or.inl rfl | exact Or.inr (Or.inl rfl) | exact Or.inr (Or.inr rfl)) (hd : (x == ("__debug__" : Str)) = false := by decide) (hcd : (x == ("__classdict__" : Str)) = false := by decide) :
    WIz c F (lockedAt i) tg (.Name x pos) ρ Φ := fun B σ H0 H hF ⟨a, o, kvs, hσ, ha⟩ E R q =>
  wpI_of (fun X hX => pi_keys (pe_var (i := i) (by rw [hX.N]; exact hN) (by rw [hX.sc]; exact hv) hd hcd)) (by
    obtain ⟨v, v1, v2⟩ := E.fz i _ h0
    rw [hσ] at v1
    cases v1
    refine ⟨_, hσ, a, o, rfl, .inl ⟨kvs, E.ex _ _ ha, q _ _ ρ H0 H E (Ex.refl _) (fun j Z H' e1 e2 => ?_) k⟩⟩
    have hz := e2 _ _ (e1 _ _ ha)
    have hk : es.map (·.1) = kvs.map fun kv => kD kv.1 := by
      cases v2 with
      | dct g1 g2 =>
        rename_i kvs'
        have e : kvs' = kvs := by rcases g1 with g | ⟨o', g⟩ <;> rw [ha] at g <;> cases g; rfl
        subst e
        exact g2.keys
    rw [hk]
    refine ⟨fun d hd => ?_, fun hj => ?_⟩
    · rw [List.getElem?_map] at hd
      obtain ⟨kv, hkv, rfl⟩ := Option.map_eq_some_iff.mp hd
      refine ⟨⟨hz, (List.getElem?_eq_some_iff.mp hkv).1⟩, fun y H'' ⟨w1, k', v', w2, w3⟩ => ?_⟩
      subst w1 w3
      rw [hkv] at w2
      cases w2
      exact ⟨Z, Grow.refl e2, kV_rp _⟩
    · rw [List.length_map] at hj
      exact ⟨hz, by omega⟩)
/-- a statement that walks over the dict in slot i -/
theorem ws_lockD (i : Nat) {es : List (PyData × PyData)} (h0 : ρ[i]? = some (Sl.fz (.dict es))) (h : WSz c F (lockedAt i) st ρ D) : WS c F st ρ D := fun B σ H0 H hF E Ed f => by
  obtain ⟨v, v1, v2⟩ := E.fz i _ h0
  cases v2 with
  | dct g1 g2 =>
    rename_i a kvs
    rcases g1 with g1 | ⟨o, g1⟩
    · refine wpS_of (t := tLock (wpS c st)) (fun X hX => ps_lock (psW hX)) ⟨a, _, E.ex _ _ g1, trivial, fun od => ?_⟩
      have hu : isDk kvs (.dK kvs) := .inl rfl
      have hw : isDk kvs (.frz od (.dK kvs)) := .inr ⟨od, rfl⟩
      have E1 := E.locked g1 hu hw
      refine h ⟨upd H0 a (.frz od (.dK kvs)), B.H, B.F⟩ σ (upd H0 a (.frz od (.dK kvs))) (upd H a (.frz od (.dK kvs))) hF ⟨a, od, kvs, v1, upd_same⟩ E1 _ ⟨?_, ?_, ?_, ?_, ?_⟩
      · intro ρ' σ' Z H' E' k
        obtain ⟨E2, _⟩ := E.unlocked g1 hu hw E'
        exact ⟨E'.ex _ _ (E'.e0 _ _ upd_same), f.nx _ _ _ _ E2 k⟩
      · intro u d ρ' σ' Z H' E' r k
        obtain ⟨E2, _⟩ := E.unlocked g1 hu hw E'
        exact ⟨E'.ex _ _ (E'.e0 _ _ upd_same), f.rt _ _ _ _ _ _ E2 (r.sw (Sw.of (E'.e0 _ _ upd_same) hw hu)) k⟩
      · intro ρ' σ' Z H' E' k
        obtain ⟨E2, _⟩ := E.unlocked g1 hu hw E'
        exact ⟨E'.ex _ _ (E'.e0 _ _ upd_same), f.bk _ _ _ _ E2 k⟩
      · intro ρ' σ' Z H' E' k
        obtain ⟨E2, _⟩ := E.unlocked g1 hu hw E'
        exact ⟨E'.ex _ _ (E'.e0 _ _ upd_same), f.ct _ _ _ _ E2 k⟩
      · intro l vs ds ρ' σ' Z H' E' fr k
        obtain ⟨E2, _⟩ := E.unlocked g1 hu hw E'
        have hz : Z a = some (.frz od (.dK kvs)) := E'.e0 _ _ upd_same
        have nl : l ≠ a := fun z => by
          have := fr.nf
          rw [z, hz] at this
          cases this
        exact ⟨E'.ex _ _ hz, f.rn l vs ds ρ' σ' _ _ E2 ⟨by rw [upd_ne nl]; exact fr.at_, by rw [upd_ne nl]; exact fr.nf, fr.nb, fr.nF, fr.no, fr.rp.sw (Sw.of hz hw hu)⟩ k⟩
    · exact h B σ H0 H hF ⟨a, o, kvs, v1, g1⟩ E Ed f
theorem wl_lockD (i : Nat) {es : List (PyData × PyData)} {Φ : List PyData → List Sl → Prop} (h0 : ρ[i]? = some (Sl.fz (.dict es))) (h : WLz c F (lockedAt i) e ρ Φ) : WL c F e ρ Φ := fun B σ H0 H hF E Q q => by
  obtain ⟨v, v1, v2⟩ := E.fz i _ h0
  cases v2 with
  | dct g1 g2 =>
    rename_i a kvs
    rcases g1 with g1 | ⟨o, g1⟩
    · refine wpE_of (t := tLockE (wpE c e)) (fun X hX => pe_lock (peW hX)) ⟨a, _, E.ex _ _ g1, trivial, fun od => ?_⟩
      have hu : isDk kvs (.dK kvs) := .inl rfl
      have hw : isDk kvs (.frz od (.dK kvs)) := .inr ⟨od, rfl⟩
      have E1 := E.locked g1 hu hw
      refine h ⟨upd H0 a (.frz od (.dK kvs)), B.H, B.F⟩ σ (upd H0 a (.frz od (.dK kvs))) (upd H a (.frz od (.dK kvs))) hF ⟨a, od, kvs, v1, upd_same⟩ E1 _ fun l vs ds ρ' Z H' E' ex fr k => ?_
      obtain ⟨E2, ex2⟩ := E.unlocked g1 hu hw E'
      have hz : Z a = some (.frz od (.dK kvs)) := E'.e0 _ _ upd_same
      have nl : l ≠ a := fun z => by
        have := fr.nf
        rw [z, hz] at this
        cases this
      exact ⟨E'.ex _ _ hz, q l vs ds ρ' _ _ E2 ex2 ⟨by rw [upd_ne nl]; exact fr.at_, by rw [upd_ne nl]; exact fr.nf, fr.nb, fr.nF, fr.no, fr.rp.sw (Sw.of hz hw hu)⟩ k⟩
    · exact h B σ H0 H hF ⟨a, o, kvs, v1, g1⟩ E Q q
theorem RpK.valN {H : Hp} {k : Key} : ∀ {ks : List (Key × PyData)} {kvs : List (Key × V)}, RpK H kvs (dictD ks) → valP ks k = none → valV kvs k = none
  | [], _, r, _ => by cases r; rfl
  | kd :: ks, kvs, r, h => by
    obtain ⟨v, kvs', rfl, rv, rk⟩ := RpK.uncons (show RpK H kvs ((kD kd.1, kd.2) :: dictD ks) from r)
    by_cases e : kd.1 = k
    · unfold valP at h
      rw [List.find?_cons_of_pos (by simpa using e)] at h
      cases h
    · have h2 : valP ks k = none := by
        unfold valP at h ⊢
        rw [List.find?_cons_of_neg (by simpa using e)] at h
        exact h
      have := RpK.valN rk h2
      unfold valV at this ⊢
      rw [List.find?_cons_of_neg (by simpa using e)]
      exact this
/-- d.get(k, t) -/
theorem we_dget2 {a b e2 : Expr} {apos cpos : Pos} {Φ : PyData → List Sl → Prop} (h : WE c F a ρ fun d ρ1 => ∃ ks : List (Key × PyData), d = .dict (dictD ks) ∧ WE c F b ρ1 fun y ρ2 => WE c F e2 ρ2 fun t ρ3 => ∃ k : Key, y = kD k ∧ Φ ((valP ks k).getD t) ρ3)
    (hb : ∀ env, attributeBase a "get" env (eval a env) = eval a env := by intro _; rfl) (hfew : ∀ env, ((backTo cpos (starEach [b, e2] env)).all (fun x => !x.1) && (backToKw cpos (keywordEach [] env)).all (fun x => x.1.isSome) && decide (([b, e2] : List Expr).length + ([] : List Keyword).length + (if ([] : List Keyword).isEmpty then 0 else 1) < 30)) = true := by intro _; rfl)
    (hline : (apos.endLine == cpos.line) = true := by rfl) (ht : ∀ env, backTo cpos (starEach [b, e2] env) = [(false, eval b env), (false, eval e2 env)] := by intro _; rfl) :
    WE c F (.Call (.Attribute a "get" apos) [b, e2] [] cpos) ρ Φ := fun B σ H0 H hF E Q q =>
  wpE_of (t := tDGet2 (wpE c a) (wpE c b) (wpE c e2)) (fun X hX => pe_dget2 (hu_of hX.room) (peW hX) (peW hX) (peW hX) ⟨hb _, hfew _, hline, ht _⟩) (h B σ H0 H hF E _ fun v d ρ1 H1 H1' E1 e1 r1 ⟨ks, k0, k1⟩ => by
    subst k0
    cases r1 with
    | dct hk rk =>
      rename_i p kvs
      have up : ∀ {Z Z' : Hp}, Ex H1 Z → Ex Z Z' → Rd Z' p (.dK kvs) := fun {Z Z'} i j => hk.elim (fun h => .inl (j _ _ (i _ _ h))) fun ⟨o, h⟩ => .inr ⟨o, j _ _ (i _ _ h)⟩
      refine ⟨p, rfl, .inl ⟨kvs, up (Ex.refl _) E1.ex⟩, k1 B σ H1 H1' hF E1 _ fun u y ρ2 H2 H2' E2 e2' r2 k2 => k2 B σ H2 H2' hF E2 _ fun t d2 ρ3 H3 H3' E3 e3 r3 ⟨k, g1, g2⟩ => ?_⟩
      subst g1
      have := kD_kV (r2.mono e3)
      subst this
      refine ⟨valV kvs k, .inl ⟨kvs, k, up (e2'.trans e3) E3.ex, rfl, rfl⟩, ?_⟩
      cases hv : valP ks k with
      | none =>
        rw [RpK.valN rk hv]
        rw [hv] at g2
        exact q _ _ ρ3 H3 H3' E3 (e1.trans (e2'.trans e3)) r3 g2
      | some z =>
        obtain ⟨w, w1, w2⟩ := rk.val hv
        rw [w1]
        rw [hv] at g2
        exact q _ _ ρ3 H3 H3' E3 (e1.trans (e2'.trans e3)) (w2.mono (e2'.trans e3)) g2)
/-- x, y = {}, {} -/
theorem ws_dd (i j : Nat) {x y : Str} {pd pl p1 p2 pt pt2 : Pos} {kt k2 : Nat} (h : D.nx ((ρ.set i (.od (dictD []))).set j (.od (dictD [])))) (hi : i < ρ.length := by exact of_decide_eq_true rfl) (hj : j < ρ.length := by exact of_decide_eq_true rfl) (hij : i ≠ j := by decide)
    (hN1 : c.N[i]? = some x := by rfl) (hN2 : c.N[j]? = some y := by rfl)
    (hx : c.sc.names.lookup x = some .local := by rfl) (hy : c.sc.names.lookup y = some .local := by rfl)
    (hs1 : ∀ env, starEach [.Dict [] [] pd, .Dict [] [] pl] env = (false, eval (.Dict [] [] pd) env) :: starEach [.Dict [] [] pl] env := by intro _; rfl)
    (hw : ∀ env : Env, env.scope = c.sc → swappedStores [.Tuple [.Name x p1, .Name y p2] kt pt] (.Tuple [.Dict [] [] pd, .Dict [] [] pl] k2 pt2) env = pure (some [x, y]) := by rintro ⟨⟩ rfl; rfl)
    (hs : ∀ env, swapsWithSole [.Tuple [.Name x p1, .Name y p2] kt pt] (.Tuple [.Dict [] [] pd, .Dict [] [] pl] k2 pt2) pos.line env = pure false := by intro _; rfl) :
    WS c F (.Assign [.Tuple [.Name x p1, .Name y p2] kt pt] (.Tuple [.Dict [] [] pd, .Dict [] [] pl] k2 pt2) pos) ρ D := fun B σ H0 H hF E Ed f =>
  wpS_of (fun X hX => ps_par hX.calm hX.nd (by rw [hX.N]; exact hN1) (by rw [hX.N]; exact hN2) hij (by rw [hX.sc]; exact hx) (by rw [hX.sc]; exact hy) (pa_cons pe_dnewK (pa_cons pe_dnewK pa_nil) (hs1 _)) (hw _ hX.sc) (hs _)) (by
    have nF : ∀ {p : Addr}, H p = none → ¬ B.F p := fun {p} hp g => by
      obtain ⟨_, o, w⟩ := E.fF p g
      rw [hp] at w
      cases w
    intro p hp
    have E1 := E.junk (o := .dK []) hp
    intro q hq
    have hpq : p ≠ q := fun z => by
      subst z
      rw [upd_same] at hq
      cases hq
    have hq0 : H q = none := by rw [upd_ne (Ne.symm hpq)] at hq; exact hq
    have E2 := E1.junk (o := .dK []) hq
    have E5 := E2.setD (l := p) (kvs := []) (es := dictD []) (i := i) (by rw [upd_ne hpq, upd_same]) (E.ex.free hp) (E.fresh hp) (nF hp) .nil (E.newOd hp) hi
    have E6 := E5.setD (l := q) (kvs := []) (es := dictD []) (i := j) upd_same (E.ex.free hq0) (E.fresh hq0) (nF hq0) .nil (fun a fs h => by
      by_cases z : i = a
      · subst z
        rw [List.getElem?_set_self (by rw [E.len]; exact hi)]
        intro w
        cases w
        exact hpq rfl
      · rw [List.getElem?_set_ne z] at h ⊢
        exact E.newOd hq0 a fs h) (by rw [List.length_set]; exact hj)
    exact ⟨_, _, rfl, f.nx _ _ _ _ E6 h⟩)
/-- x, y = {}, {}, one of them a cell -/
theorem ws_ddS (i j : Nat) {x y : Str} {pd pl p1 p2 pt pt2 : Pos} {kt k2 : Nat} (h : D.nx ((ρ.set i (.od (dictD []))).set j (.od (dictD [])))) (hi : i < ρ.length := by exact of_decide_eq_true rfl) (hj : j < ρ.length := by exact of_decide_eq_true rfl) (hij : i ≠ j := by decide)
    (hN1 : c.N[i]? = some x := by rfl) (hN2 : c.N[j]? = some y := by rfl) (hx : Loc c.sc x := by first | exact Or.inl rfl | exact Or.inr rfl) (hy : Loc c.sc y := by first | exact Or.inl rfl | exact Or.inr rfl)
    (hf : c.fn x = true ∨ c.sc.names.lookup x = some .local := by first | exact .inl rfl | exact .inr rfl) (hg : c.fn y = true ∨ c.sc.names.lookup y = some .local := by first | exact .inl rfl | exact .inr rfl)
    (hs1 : ∀ env, starEach [.Dict [] [] pd, .Dict [] [] pl] env = (false, eval (.Dict [] [] pd) env) :: starEach [.Dict [] [] pl] env := by intro _; rfl)
    (hw : ∀ env : Env, env.scope = c.sc → swappedStores [.Tuple [.Name x p1, .Name y p2] kt pt] (.Tuple [.Dict [] [] pd, .Dict [] [] pl] k2 pt2) env = pure none := by rintro ⟨⟩ rfl; rfl)
    (hs : ∀ env, swapsWithSole [.Tuple [.Name x p1, .Name y p2] kt pt] (.Tuple [.Dict [] [] pd, .Dict [] [] pl] k2 pt2) pos.line env = pure false := by intro _; rfl) :
    WS c F (.Assign [.Tuple [.Name x p1, .Name y p2] kt pt] (.Tuple [.Dict [] [] pd, .Dict [] [] pl] k2 pt2) pos) ρ D := fun B σ H0 H hF E Ed f =>
  wpS_of (t := tAsg (tTup (tCons tDNewK (tCons tDNewK tNil))) (gTup c.K 2 (gCons (gName i) (gCons (gName j) gNil)))) (fun X hX => ps_asg (pe_tup (pa_cons pe_dnewK (pa_cons pe_dnewK pa_nil) (hs1 _))) (by
      rw [← hX.K]
      exact pg_tup hX.calm (pgs_cons (pg_name hX.nd (by rw [hX.N]; exact hN1) (by rw [hX.sc]; exact hx) (by rw [hX.fn, hX.sc]; exact hf)) (pgs_cons (pg_name hX.nd (by rw [hX.N]; exact hN2) (by rw [hX.sc]; exact hy) (by rw [hX.fn, hX.sc]; exact hg)) pgs_nil))) (hs _) (hw _ hX.sc)) (by
    have nF : ∀ {p : Addr}, H p = none → ¬ B.F p := fun {p} hp g => by
      obtain ⟨_, o, w⟩ := E.fF p g
      rw [hp] at w
      cases w
    intro p hp
    have E1 := E.junk (o := .dK []) hp
    intro q hq
    have hpq : p ≠ q := fun z => by
      subst z
      rw [upd_same] at hq
      cases hq
    have hq0 : H q = none := by rw [upd_ne (Ne.symm hpq)] at hq; exact hq
    have E2 := E1.junk (o := .dK []) hq
    refine ⟨by show 2 ≤ sizeLine; decide, fun T hT => ?_⟩
    have hTp : T ≠ p := fun z => by
      rw [z, upd_ne hpq, upd_same] at hT
      cases hT
    have hTq : T ≠ q := fun z => by
      rw [z, upd_same] at hT
      cases hT
    have E3 := E2.junk (o := .tup [.ref p, .ref q]) hT
    refine ⟨T, [.ref p, .ref q], rfl, SqT.of upd_same, rfl, _, _, rfl, _, _, rfl, rfl, ?_⟩
    have E5 := E3.setD (l := p) (kvs := []) (es := dictD []) (i := i) (by rw [upd_ne (Ne.symm hTp), upd_ne hpq, upd_same]) (E.ex.free hp) (E.fresh hp) (nF hp) .nil (E.newOd hp) hi
    have E6 := E5.setD (l := q) (kvs := []) (es := dictD []) (i := j) (by rw [upd_ne (Ne.symm hTq), upd_same]) (E.ex.free hq0) (E.fresh hq0) (nF hq0) .nil (fun a fs h => by
      by_cases z : i = a
      · subst z
        rw [List.getElem?_set_self (by rw [E.len]; exact hi)]
        intro w
        cases w
        exact hpq rfl
      · rw [List.getElem?_set_ne z] at h ⊢
        exact E.newOd hq0 a fs h) (by rw [List.length_set]; exact hj)
    exact f.nx _ _ _ _ E6 h)
end
end G

set_option Elab.async false
set_option linter.all false
set_option maxRecDepth 100000
set_option maxHeartbeats 1000000
namespace G
open PySem PySem.Spec PyProof.Rows L2
/-! pages of one column; a dict that counts -/
def rise (f : Nat) : Nat → Nat
  | 0 => 1
  | m + 1 => rise f m * (f + m)
theorem rise_bits {f m : Nat} (hf : f ≤ 64) (hm : m ≤ 64) : rise f m < 2 ^ (7 * m + 1) := by
  induction m with
  | zero => exact (by decide : 1 < 2 ^ (7 * 0 + 1))
  | succ m ih =>
    have h := ih (by omega)
    show rise f m * (f + m) < _
    have e : 2 ^ (7 * (m + 1) + 1) = 2 ^ (7 * m + 1) * 128 := by rw [show 7 * (m + 1) + 1 = 7 * m + 1 + 7 by omega, Nat.pow_add]
    rw [e]
    exact Nat.lt_of_le_of_lt (Nat.mul_le_mul_left _ (by omega : f + m ≤ 128)) (Nat.mul_lt_mul_of_pos_right h (by decide))
section
variable {α : Type} [DecidableEq α]
def addK (ks : List α) (s : α) : List α := if s ∈ ks then ks else ks ++ [s]
def keysF : List α → List α → List α
  | ks, [] => ks
  | ks, s :: l => keysF (addK ks s) l
def keysOf (l : List α) : List α := l.foldl addK []
theorem keysOf_snoc (l : List α) (s : α) : keysOf (l ++ [s]) = addK (keysOf l) s := by
  unfold keysOf
  rw [List.foldl_append]
  rfl
theorem addK_mem {ks : List α} {s x : α} : x ∈ addK ks s ↔ x ∈ ks ∨ x = s := by
  unfold addK
  split
  · rename_i h
    exact ⟨.inl, fun h2 => h2.elim id fun e => e ▸ h⟩
  · rw [List.mem_append, List.mem_singleton]
theorem addK_nodup {ks : List α} {s : α} (h : ks.Nodup) : (addK ks s).Nodup := by
  unfold addK
  split
  · exact h
  · rename_i hs
    exact List.nodup_append.mpr ⟨h, List.pairwise_singleton _ _, fun a ha b hb e => hs (by rw [← List.mem_singleton.mp hb, ← e]; exact ha)⟩
theorem keysOf_mem {x : α} {l : List α} : x ∈ keysOf l ↔ x ∈ l := by
  have key : ∀ (l ks : List α), x ∈ l.foldl addK ks ↔ x ∈ ks ∨ x ∈ l := by
    intro l
    induction l with
    | nil => intro ks; simp
    | cons s l ih =>
      intro ks
      rw [List.foldl_cons, ih, addK_mem, List.mem_cons, or_assoc]
  unfold keysOf
  rw [key]
  simp
theorem keysOf_nodup (l : List α) : (keysOf l).Nodup := by
  have key : ∀ (l ks : List α), ks.Nodup → (l.foldl addK ks).Nodup := by
    intro l
    induction l with
    | nil => exact fun ks h => h
    | cons s l ih => exact fun ks h => ih _ (addK_nodup h)
  exact key l [] List.nodup_nil
theorem prodN_one {ks : List α} {f g : α → Nat} {s : α} {m : Nat} (hn : ks.Nodup) (hs : s ∈ ks) (h1 : g s = f s * m) (h2 : ∀ x, x ≠ s → g x = f x) : prodN (ks.map g) = prodN (ks.map f) * m := by
  induction ks with
  | nil => exact nomatch hs
  | cons k ks ih =>
    rw [List.map_cons, List.map_cons, prodN_cons, prodN_cons]
    obtain ⟨hk, hn2⟩ := List.nodup_cons.mp hn
    by_cases e : k = s
    · subst e
      have e2 : ks.map g = ks.map f := List.map_congr_left fun x hx => h2 x fun z => hk (z ▸ hx)
      rw [h1, e2, Nat.mul_assoc, Nat.mul_comm m, ← Nat.mul_assoc]
    · rcases List.mem_cons.mp hs with e3 | hs2
      · exact absurd e3.symm e
      · rw [ih hn2 hs2, h2 k e, Nat.mul_assoc]
theorem sum_one {ks : List α} {f g : α → Nat} {s : α} {m : Nat} (hn : ks.Nodup) (hs : s ∈ ks) (h1 : g s = f s + m) (h2 : ∀ x, x ≠ s → g x = f x) : (ks.map g).sum = (ks.map f).sum + m := by
  induction ks with
  | nil => exact nomatch hs
  | cons k ks ih =>
    rw [List.map_cons, List.map_cons, List.sum_cons, List.sum_cons]
    obtain ⟨hk, hn2⟩ := List.nodup_cons.mp hn
    by_cases e : k = s
    · subst e
      have e2 : ks.map g = ks.map f := List.map_congr_left fun x hx => h2 x fun z => hk (z ▸ hx)
      rw [h1, e2]
      omega
    · rcases List.mem_cons.mp hs with e3 | hs2
      · exact absurd e3.symm e
      · rw [ih hn2 hs2, h2 k e]
        omega
theorem count_snoc (l : List α) (s x : α) : (l ++ [s]).count x = l.count x + if x = s then 1 else 0 := by
  rw [List.count_append, List.count_singleton]
  congr 1
  by_cases h : x = s
  · subst h; simp
  · rw [if_neg h, if_neg]
    simpa using fun e => h e.symm
/-- the numbers of hosts of the blanks -/
def blankC (hc : α → Nat) : List α → List α → List Nat
  | _, [] => []
  | seen, v :: vs => (hc v + seen.count v) :: blankC hc (seen ++ [v]) vs
theorem blankC_prod {hc : α → Nat} {ks : List α} (hn : ks.Nodup) : ∀ {vs seen : List α}, (∀ v ∈ vs, v ∈ ks) → prodN (ks.map fun v => rise (hc v) (seen.count v)) * prodN (blankC hc seen vs) = prodN (ks.map fun v => rise (hc v) ((seen ++ vs).count v))
  | [], seen, _ => by
    rw [List.append_nil]
    exact Nat.mul_one _
  | v :: vs, seen, h => by
    show _ * prodN ((hc v + seen.count v) :: blankC hc (seen ++ [v]) vs) = _
    rw [prodN_cons, ← Nat.mul_assoc]
    have e := prodN_one (f := fun v => rise (hc v) (seen.count v)) (g := fun x => rise (hc x) ((seen ++ [v]).count x)) (s := v) (m := hc v + seen.count v) hn (h v List.mem_cons_self) (by
      show rise (hc v) ((seen ++ [v]).count v) = _
      rw [count_snoc, if_pos rfl]
      rfl) (fun x hx => by
      show rise (hc x) ((seen ++ [v]).count x) = _
      rw [count_snoc, if_neg hx]
      rfl)
    rw [← e, blankC_prod hn (fun x hx => h x (List.mem_cons_of_mem _ hx)), List.append_assoc]
    rfl
theorem count_total {ks : List α} (hn : ks.Nodup) : ∀ {l : List α}, (∀ x ∈ l, x ∈ ks) → (ks.map fun v => l.count v).sum = l.length := by
  intro l
  induction l with
  | nil =>
    intro _
    have : ∀ ks : List α, (ks.map fun v => ([] : List α).count v).sum = 0 := by
      intro ks
      induction ks with
      | nil => rfl
      | cons k ks ih => rw [List.map_cons, List.sum_cons, ih]; rfl
    exact this ks
  | cons s l ih =>
    intro h
    rw [sum_one (f := fun v => l.count v) (s := s) (m := 1) hn (h s List.mem_cons_self) (by simp) (fun x hx => by
      show (s :: l).count x = _
      rw [List.count_cons, if_neg]
      · rfl
      · simpa using fun e => hx e.symm), ih fun x hx => h x (List.mem_cons_of_mem _ hx)]
    rfl
end
/-! ### dicts that count -/
def cntD (ks : List Str) (c : Str → Nat) : List (Key × PyData) := ks.map fun v => (.inr v, .int (c v : Int))
theorem cntD_val {c : Str → Nat} {s : Str} : ∀ {ks : List Str}, valP (cntD ks c) (.inr s) = if s ∈ ks then some (.int (c s : Int)) else none
  | [] => rfl
  | k :: ks => by
    have ih := cntD_val (c := c) (s := s) (ks := ks)
    unfold valP cntD at ih ⊢
    rw [List.map_cons]
    by_cases e : k = s
    · subst e
      rw [List.find?_cons_of_pos (by simp), if_pos List.mem_cons_self]
      rfl
    · rw [List.find?_cons_of_neg (by simpa using e), ih]
      by_cases h : s ∈ ks
      · rw [if_pos h, if_pos (List.mem_cons_of_mem _ h)]
      · rw [if_neg h, if_neg]
        intro h2
        rcases List.mem_cons.mp h2 with h2 | h2
        · exact e h2.symm
        · exact h h2
theorem cntD_any {c : Str → Nat} {s : Str} {ks : List Str} : ((cntD ks c).any fun kv => decide (kv.1 = (Sum.inr s : Key))) = decide (s ∈ ks) := by
  unfold cntD
  rw [List.any_map]
  induction ks with
  | nil => rfl
  | cons k ks ih =>
    rw [List.any_cons, ih]
    show (decide ((Sum.inr k : Key) = Sum.inr s) || _) = _
    by_cases e : k = s
    · subst e
      simp
    · have e1 : decide ((Sum.inr k : Key) = Sum.inr s) = false := decide_eq_false fun z => e (Sum.inr.inj z)
      rw [e1, Bool.false_or]
      refine decide_eq_decide.mpr ⟨List.mem_cons_of_mem _, fun h => ?_⟩
      rcases List.mem_cons.mp h with h | h
      · exact absurd h.symm e
      · exact h
theorem cntD_put {c c' : Str → Nat} {s : Str} {ks : List Str} (hn : ks.Nodup) (h : ∀ v, v ≠ s → c' v = c v) : putP (cntD ks c) (.inr s) (.int (c' s : Int)) = cntD (addK ks s) c' := by
  unfold putP
  rw [cntD_any]
  unfold addK
  by_cases hs : s ∈ ks
  · rw [decide_eq_true hs, if_pos rfl, if_pos hs]
    unfold cntD
    rw [List.map_map]
    refine List.map_congr_left fun v _ => ?_
    show (if (Sum.inr v : Key) = Sum.inr s then ((Sum.inr v : Key), PyData.int (c' s : Int)) else ((Sum.inr v : Key), PyData.int (c v : Int))) = _
    by_cases e : v = s
    · subst e
      rw [if_pos rfl]
    · rw [if_neg fun z => e (Sum.inr.inj z), h v e]
  · rw [decide_eq_false hs, if_neg (by decide), if_neg hs]
    unfold cntD
    rw [List.map_append]
    congr 1
    refine List.map_congr_left fun v hv => ?_
    rw [h v fun e => hs (e ▸ hv)]
theorem cntD_keys (ks : List Str) (c : Str → Nat) : (dictD (cntD ks c)).map (·.1) = ks.map PyData.str := by
  unfold dictD cntD
  rw [List.map_map, List.map_map]
  rfl
end G

set_option Elab.async false
set_option linter.all false
set_option maxRecDepth 100000
set_option maxHeartbeats 1000000
namespace G
open PySem PySem.Spec PyProof.Rows L2
/-! a page of one column: its orders, counted -/
def isHd (p : List (List Cell)) (i : Nat) : Bool := decide (lead (p.getD i []) = 0)
def hdsTo (p : List (List Cell)) (i : Nat) : List Nat := (List.range i).filter (isHd p)
def blsTo (p : List (List Cell)) (i : Nat) : List Nat := (List.range i).filter fun j => !isHd p j
theorem one_lead {p : List (List Cell)} (hp : OkPage p 1) {i : Nat} (hi : i < p.length) : lead (p.getD i []) ≤ 1 := by
  rw [← hp.wide _ (List.mem_of_getElem? (getD_at hi))]
  exact lead_le _
theorem one_seq {p : List (List Cell)} (hp : OkPage p 1) : seqN p = hdsTo p p.length ++ blsTo p p.length := by
  refine seqN_is ?_ (List.pairwise_append.mpr ⟨?_, ?_, fun a ha b hb => ?_⟩)
  · have := filter_split (fun j => !isHd p j) (List.range p.length)
    simp only [Bool.not_not] at this
    exact this
  · refine (List.pairwise_lt_range.filter (isHd p)).imp_of_mem fun {a b} ha hb h => ?_
    have h1 := of_decide_eq_true (List.mem_filter.mp ha).2
    have h2 := of_decide_eq_true (List.mem_filter.mp hb).2
    unfold seqLe
    exact decide_eq_true (.inr ⟨by rw [h1, h2], by omega⟩)
  · refine (List.pairwise_lt_range.filter (fun j => !isHd p j)).imp_of_mem fun {a b} ha hb h => ?_
    obtain ⟨a1, a2⟩ := List.mem_filter.mp ha
    obtain ⟨b1, b2⟩ := List.mem_filter.mp hb
    have h1 := one_lead hp (List.mem_range.mp a1)
    have h2 := one_lead hp (List.mem_range.mp b1)
    have h3 : ¬ lead (p.getD a []) = 0 := by unfold isHd at a2; simpa using a2
    have h4 : ¬ lead (p.getD b []) = 0 := by unfold isHd at b2; simpa using b2
    unfold seqLe
    exact decide_eq_true (.inr ⟨by omega, by omega⟩)
  · obtain ⟨a1, a2⟩ := List.mem_filter.mp ha
    obtain ⟨b1, b2⟩ := List.mem_filter.mp hb
    have h1 := of_decide_eq_true a2
    have h4 : ¬ lead (p.getD b []) = 0 := by unfold isHd at b2; simpa using b2
    unfold seqLe
    exact decide_eq_true (.inl (by omega))
/-- the value of a row -/
def colV (p : List (List Cell)) (i : Nat) : Str := ((((tableOf p 1).getD i []).getD 0 none)).getD Str.empty
theorem one_row {p : List (List Cell)} (hp : OkPage p 1) {i : Nat} (hi : i < p.length) : (tableOf p 1)[i]? = some [some (colV p i)] := by
  have tl := table_len p 1
  have hg := getD_at (T := tableOf p 1) (by omega : i < (tableOf p 1).length)
  have hm := List.mem_of_getElem? hg
  have hw := hp.table.wide _ hm
  have hf := (hp.table.fulls _ hm).1
  rw [hg]
  unfold colV
  generalize (tableOf p 1).getD i [] = r at hw hf
  match r, hw with
  | [x], _ =>
    obtain ⟨s, hs, _⟩ := hf x List.mem_cons_self
    subst hs
    rfl
theorem one_sh {p : List (List Cell)} (hp : OkPage p 1) {i j : Nat} (hi : i < p.length) (hj : j < p.length) : 1 ≤ sh ((tableOf p 1).getD i []) ((tableOf p 1).getD j []) ↔ colV p i = colV p j := by
  have e1 : (tableOf p 1).getD i [] = [some (colV p i)] := by rw [List.getD_eq_getElem?_getD, one_row hp hi]; rfl
  have e2 : (tableOf p 1).getD j [] = [some (colV p j)] := by rw [List.getD_eq_getElem?_getD, one_row hp hj]; rfl
  rw [e1, e2]
  unfold sh
  by_cases h : colV p i = colV p j
  · rw [h, if_pos rfl]
    exact ⟨fun _ => rfl, fun _ => Nat.le_add_left _ _⟩
  · rw [if_neg fun e => h (Option.some.inj e)]
    exact ⟨fun h2 => absurd h2 (by decide), fun h2 => absurd h2 h⟩
theorem filter_count {p : List (List Cell)} {v : Str} : ∀ l : List Nat, (l.filter fun j => decide (colV p j = v)).length = (l.map (colV p)).count v
  | [] => rfl
  | a :: l => by
    rw [List.filter_cons, List.map_cons, List.count_cons, ← filter_count l]
    by_cases h : colV p a = v
    · rw [if_pos (decide_eq_true h), if_pos (by simpa using h)]
      rfl
    · rw [if_neg (by simpa using h), if_neg (by simpa using h)]
      rfl
theorem blankC_get {hc : Str → Nat} : ∀ {vs seen : List Str} {t : Nat} {v : Str}, vs[t]? = some v → (blankC hc seen vs)[t]? = some (hc v + (seen ++ vs.take t).count v)
  | _ :: _, seen, 0, v, h => by
    cases (Option.some.inj h)
    show some _ = _
    rw [List.take_zero, List.append_nil]
  | w :: vs, seen, t + 1, v, h => by
    show (blankC hc (seen ++ [w]) vs)[t]? = _
    have h : vs[t]? = some v := h
    rw [blankC_get (seen := seen ++ [w]) h, List.append_assoc]
    rfl
theorem blankC_len {hc : Str → Nat} : ∀ (vs seen : List Str), (blankC hc seen vs).length = vs.length
  | [], _ => rfl
  | _ :: vs, seen => congrArg (· + 1) (blankC_len vs _)
theorem one_sizes {p : List (List Cell)} (hp : OkPage p 1) : hostC p 1 = ((List.range (hdsTo p p.length).length).map (· + 1)) ++ blankC (fun v => ((hdsTo p p.length).map (colV p)).count v) [] ((blsTo p p.length).map (colV p)) := by
  have hs := one_seq hp
  have hl : (hdsTo p p.length).length + (blsTo p p.length).length = p.length := by
    rw [← List.length_append, ← hs, seqN_len]
  have hdm : ∀ j ∈ hdsTo p p.length, lead (p.getD j []) = 0 ∧ j < p.length := fun j h => ⟨of_decide_eq_true (List.mem_filter.mp h).2, List.mem_range.mp (List.mem_filter.mp h).1⟩
  have blm : ∀ j ∈ blsTo p p.length, ¬ lead (p.getD j []) = 0 ∧ j < p.length := fun j h => ⟨by
    have := (List.mem_filter.mp h).2
    unfold isHd at this
    simpa using this, List.mem_range.mp (List.mem_filter.mp h).1⟩
  generalize hdsTo p p.length = hd at hs hl hdm
  generalize blsTo p p.length = bl at hs hl blm
  refine List.ext_getElem? fun a => ?_
  by_cases ha : a < hd.length
  · rw [hostC_at (by omega), List.getElem?_append_left (by rw [List.length_map, List.length_range]; exact ha), List.getElem?_map, List.getElem?_range ha]
    have hg : (seqN p).getD a 0 = hd[a] := by
      rw [hs, getD_left ha, List.getD_eq_getElem?_getD, List.getElem?_eq_getElem ha]
      rfl
    unfold hostAt hostsL
    rw [hg, (hdm _ (List.getElem_mem ha)).1, if_pos rfl]
    show some ((natL ((seqN p).take a)).length + 1) = some (a + 1)
    unfold natL
    rw [List.length_map, List.length_take, seqN_len]
    congr 2
    omega
  · by_cases hb : a < p.length
    · obtain ⟨t, rfl⟩ : ∃ t, a = hd.length + t := ⟨a - hd.length, by omega⟩
      have ht : t < bl.length := by omega
      have hg : (seqN p).getD (hd.length + t) 0 = bl[t] := by
        rw [hs, Nat.add_comm, getD_right, List.getD_eq_getElem?_getD, List.getElem?_eq_getElem ht]
        rfl
      obtain ⟨b1, b2⟩ := blm _ (List.getElem_mem ht)
      have b3 := one_lead hp b2
      rw [hostC_at hb, List.getElem?_append_right (by rw [List.length_map, List.length_range]; omega), List.length_map, List.length_range, Nat.add_sub_cancel_left, blankC_get (v := colV p bl[t]) (by rw [List.getElem?_map, List.getElem?_eq_getElem ht]; rfl)]
      unfold hostAt hostsL
      rw [hg, if_neg b1]
      congr 1
      unfold natL
      rw [List.length_map]
      have e1 : lead (p.getD bl[t] []) = 1 := by omega
      rw [e1]
      have e2 : (seqN p).take (hd.length + t) = hd ++ bl.take t := by rw [hs, List.take_length_add_append]
      rw [e2, List.filter_congr (q := fun j => decide (colV p j = colV p bl[t])), filter_count, List.map_append, List.count_append, List.nil_append, List.map_take]
      intro j hj
      refine decide_eq_decide.mpr (one_sh hp ?_ b2)
      rcases List.mem_append.mp hj with h | h
      · exact (hdm j h).2
      · exact (blm j (List.mem_of_mem_take h)).2
    · rw [List.getElem?_eq_none (by rw [hostC_len]; omega), List.getElem?_eq_none (by rw [List.length_append, List.length_map, List.length_range, blankC_len, List.length_map]; omega)]
theorem rise_prod (m : Nat) : prodN ((List.range m).map (· + 1)) = rise 1 m := by
  induction m with
  | zero => rfl
  | succ m ih =>
    rw [List.range_succ, List.map_append, prodN_append, ih]
    show rise 1 m * prodN [m + 1] = rise 1 m * (1 + m)
    rw [prodN_cons, show prodN ([] : List Nat) = 1 from rfl, Nat.mul_one, Nat.add_comm]
/-- so many orders has a page of one column -/
theorem one_count {p : List (List Cell)} (hp : OkPage p 1) {ks : List Str} (hn : ks.Nodup) (hk : ∀ i, i < p.length → colV p i ∈ ks) :
    prodN (hostC p 1) = rise 1 (hdsTo p p.length).length * prodN (ks.map fun v => rise (((hdsTo p p.length).map (colV p)).count v) (((blsTo p p.length).map (colV p)).count v)) := by
  rw [one_sizes hp, prodN_append, rise_prod]
  congr 1
  have := blankC_prod (hc := fun v => ((hdsTo p p.length).map (colV p)).count v) hn (vs := (blsTo p p.length).map (colV p)) (seen := []) fun v hv => by
    obtain ⟨j, hj, rfl⟩ := List.mem_map.mp hv
    exact hk j (List.mem_range.mp (List.mem_filter.mp hj).1)
  rw [List.nil_append] at this
  rw [← this]
  have e : ∀ ks : List Str, prodN (ks.map fun v => rise (((hdsTo p p.length).map (colV p)).count v) (([] : List Str).count v)) = 1 := by
    intro ks
    induction ks with
    | nil => rfl
    | cons k ks ih =>
      rw [List.map_cons, prodN_cons, ih]
      rfl
  rw [e, Nat.one_mul]
theorem hds_total {p : List (List Cell)} {ks : List Str} (hn : ks.Nodup) (hk : ∀ i, i < p.length → colV p i ∈ ks) : (ks.map fun v => ((hdsTo p p.length).map (colV p)).count v).sum = (hdsTo p p.length).length := by
  rw [count_total hn, List.length_map]
  intro x hx
  obtain ⟨j, hj, rfl⟩ := List.mem_map.mp hx
  exact hk j (List.mem_range.mp (List.mem_filter.mp hj).1)
theorem hds_succ (p : List (List Cell)) (i : Nat) (v : Str) : ((hdsTo p (i + 1)).map (colV p)).count v = ((hdsTo p i).map (colV p)).count v + if v = colV p i ∧ isHd p i = true then 1 else 0 := by
  unfold hdsTo
  rw [List.range_succ, List.filter_append, List.map_append, List.count_append]
  congr 1
  rw [List.filter_cons]
  by_cases h : isHd p i = true
  · rw [if_pos h]
    show [colV p i].count v = _
    by_cases e : v = colV p i
    · rw [if_pos ⟨e, h⟩, e]; simp
    · rw [if_neg (fun z => e z.1), List.count_cons, if_neg (by simpa using fun z => e z.symm)]; rfl
  · rw [if_neg h, if_neg (fun z => h z.2)]; rfl
theorem bls_succ (p : List (List Cell)) (i : Nat) (v : Str) : ((blsTo p (i + 1)).map (colV p)).count v = ((blsTo p i).map (colV p)).count v + if v = colV p i ∧ isHd p i = false then 1 else 0 := by
  unfold blsTo
  rw [List.range_succ, List.filter_append, List.map_append, List.count_append]
  congr 1
  rw [List.filter_cons]
  by_cases h : isHd p i = false
  · rw [if_pos (by rw [h]; rfl)]
    show [colV p i].count v = _
    by_cases e : v = colV p i
    · rw [if_pos ⟨e, h⟩, e]; simp
    · rw [if_neg (fun z => e z.1), List.count_cons, if_neg (by simpa using fun z => e z.symm)]; rfl
  · rw [if_neg (by simpa using h), if_neg (fun z => h z.2)]; rfl
end G

set_option Elab.async false
set_option linter.all false
set_option maxRecDepth 100000
set_option maxHeartbeats 1000000
namespace G
open PySem PySem.Spec PyProof.Rows L2 TL
/-! texts: split, lines of rows -/
section
variable {c : Ct} {F : Fp} {ρ : List Sl} {pos apos : Pos} {o e : Expr}
theorem rp_strs {H : Hp} : ∀ ys : List Str, RpL H (ys.map V.str) (ys.map PyData.str)
  | [] => .nil
  | y :: ys => .cons (.str y) (rp_strs ys)
theorem wl_split {Φ : List PyData → List Sl → Prop} (h : WE c F o ρ fun d ρ1 => ∃ a, d = .str a ∧ a.length ≤ 1000000 ∧ WE c F e ρ1 fun y ρ2 => ∃ b : Str, y = .str b ∧ (b.length == 0) = false ∧ Φ ((Txt.split a b).map PyData.str) ρ2)
    (hs : ∀ env, starEach [e] env = [(false, eval e env)] := by intro _; rfl) (hb : ∀ env, attributeBase o "split" env (eval o env) = eval o env := by intro _; rfl) (hl : (apos.endLine == pos.line) = true := by rfl) : WL c F (.Call (.Attribute o "split" apos) [e] [] pos) ρ Φ := fun B σ H0 H hF E Q q =>
  wpE_of (fun X hX => pe_split (peW hX) (peW hX) (hs _) (hb _) hl) (h B σ H0 H hF E _ fun v d ρ1 H1 H1' E1 e1 r1 ⟨a, k0, k1, k2⟩ => by
    subst k0
    cases r1
    refine ⟨⟨a, rfl⟩, k2 B σ H1 H1' hF E1 _ fun u y ρ2 H2 H2' E2 e2 r2 ⟨b, g1, g2, g3⟩ => ?_⟩
    subst g1
    cases r2
    refine ⟨a, b, rfl, rfl, g2, Nat.le_trans (by omega : a.length + 2 ≤ 1000002) (by decide), fun p hp => ?_⟩
    obtain ⟨E3, f3⟩ := E2.newL hp (rp_strs (H := H2) (Txt.split a b))
    exact q p _ _ ρ2 H2 _ E3 (e1.trans e2) f3 g3)
end
def cellS (b : Str) (x : Cell) : Str := x.getD b
def lineS (r : List Cell) : Str := Txt.join "," (r.map (cellS ""))
def textS (p : List (List Cell)) : Str := Txt.join "\n" (p.map lineS)
theorem mem_join {x : Nat} {S : List Nat} : ∀ {ps : List (List Nat)}, x ∈ joinL S ps → x ∈ S ∨ ∃ p ∈ ps, x ∈ p
  | [], h => by cases h
  | [p], h => .inr ⟨p, List.mem_cons_self, h⟩
  | p :: q :: r, h => by
    rcases List.mem_append.mp h with h | h
    · exact .inr ⟨p, List.mem_cons_self, h⟩
    · rcases List.mem_append.mp h with h | h
      · exact .inl h
      · rcases mem_join h with h | ⟨p', h1, h2⟩
        · exact .inl h
        · exact .inr ⟨p', List.mem_cons_of_mem _ h1, h2⟩
theorem len_join {S : List Nat} : ∀ ps : List (List Nat), (joinL S ps).length ≤ (ps.map List.length).sum + ps.length * S.length
  | [] => Nat.zero_le _
  | [p] => by
    show p.length ≤ p.length + 0 + 1 * S.length
    omega
  | p :: q :: r => by
    have := len_join (S := S) (q :: r)
    show (p ++ (S ++ joinL S (q :: r))).length ≤ p.length + ((q :: r).map List.length).sum + ((q :: r).length + 1) * S.length
    rw [List.length_append, List.length_append, Nat.add_mul]
    omega
theorem tl_txt (y : Str) (ps : List Str) : tl (Txt.join y ps) = joinL (tl y) (ps.map tl) := by rw [join_eq, tl_join]
theorem sgn_no : (44 : Nat) ∉ signsS.cps.toList ∧ (10 : Nat) ∉ signsS.cps.toList ∧ (32 : Nat) ∉ signsS.cps.toList := by decide +kernel
theorem cell_sgn {x : Cell} (h : okC x) : ∀ k ∈ tl (cellS "" x), k ∈ signsS.cps.toList := fun k hk => by
  cases x with
  | none =>
    have e : tl (cellS "" none) = [] := by decide +kernel
    rw [e] at hk
    exact nomatch hk
  | some s => exact (h s rfl).2.2 k hk
theorem cell_len {x : Cell} (h : okC x) : (tl (cellS "" x)).length ≤ 8 := by
  cases x with
  | none => exact (by decide +kernel : (tl ("" : Str)).length ≤ 8)
  | some s =>
    have := (h s rfl).2.1
    exact this
theorem line_split {r : List Cell} (hr : ∀ x ∈ r, okC x) (hne : r ≠ []) : Txt.split (lineS r) "," = r.map (cellS "") := by
  refine split_join (s := 44) (S := []) (by decide +kernel) (by decide +kernel) (fun e => hne (List.map_eq_nil_iff.mp e)) fun p hp => ?_
  obtain ⟨x, hx, rfl⟩ := List.mem_map.mp hp
  exact fun h => sgn_no.1 (cell_sgn (hr x hx) 44 h)
theorem sum_le {α : Type} {f : α → Nat} {k : Nat} : ∀ {l : List α}, (∀ x ∈ l, f x ≤ k) → (l.map f).sum ≤ k * l.length
  | [], _ => Nat.zero_le _
  | x :: l, h => by
    have h1 := h x List.mem_cons_self
    have h2 := sum_le (l := l) fun y hy => h y (List.mem_cons_of_mem _ hy)
    rw [List.map_cons, List.sum_cons, List.length_cons, Nat.mul_succ]
    omega
theorem line_len {r : List Cell} (hr : ∀ x ∈ r, okC x) (h6 : r.length ≤ 6) : (tl (lineS r)).length ≤ 54 := by
  unfold lineS
  rw [tl_txt, List.map_map]
  refine Nat.le_trans (len_join _) ?_
  have e : (tl ("," : Str)).length = 1 := by decide +kernel
  rw [e, List.map_map, List.length_map]
  have := sum_le (f := List.length ∘ (tl ∘ cellS "")) (k := 8) (l := r) fun x hx => cell_len (hr x hx)
  omega
theorem line_no {r : List Cell} (hr : ∀ x ∈ r, okC x) : 10 ∉ tl (lineS r) := fun h => by
  unfold lineS at h
  rw [tl_txt, List.map_map] at h
  rcases mem_join h with h | ⟨p, h1, h2⟩
  · exact absurd h (by decide +kernel)
  · obtain ⟨x, hx, rfl⟩ := List.mem_map.mp h1
    exact sgn_no.2.1 (cell_sgn (hr x hx) 10 h2)
theorem text_split {p : List (List Cell)} (hp : ∀ r ∈ p, ∀ x ∈ r, okC x) (hne : p ≠ []) : Txt.split (textS p) "\n" = p.map lineS := by
  refine split_join (s := 10) (S := []) (by decide +kernel) (by decide +kernel) (fun e => hne (List.map_eq_nil_iff.mp e)) fun q hq => ?_
  obtain ⟨r, hr, rfl⟩ := List.mem_map.mp hq
  exact line_no (hp r hr)
theorem text_len {p : List (List Cell)} {n : Nat} (hp : OkRows p n) : (tl (textS p)).length ≤ 3300 := by
  unfold textS
  rw [tl_txt, List.map_map]
  refine Nat.le_trans (len_join _) ?_
  have e : (tl ("\n" : Str)).length = 1 := by decide +kernel
  rw [e, List.map_map, List.length_map]
  have := sum_le (f := List.length ∘ (tl ∘ lineS)) (k := 54) (l := p) fun r hr => line_len (hp.cells r hr) (hp.row r hr).2.1
  have := hp.hi
  omega
theorem cell_back {x : Cell} (h : okC x) : (if cellS "" x = "" then none else some (cellS "" x)) = x := by
  cases x with
  | none => exact if_pos rfl
  | some s =>
    refine if_neg fun e => ?_
    have h1 := (h s rfl).1
    have e : s = "" := e
    rw [e] at h1
    exact absurd h1 (by decide +kernel)
theorem cellS_inj {x y : Cell} (hx : okC x) (hy : okC y) (h : cellS "" x = cellS "" y) : x = y := by
  rw [← cell_back hx, ← cell_back hy, h]
theorem line_inj {r s : List Cell} (hr : ∀ x ∈ r, okC x) (hs : ∀ x ∈ s, okC x) (hr0 : r ≠ []) (hs0 : s ≠ []) (h : lineS r = lineS s) : r = s := by
  have e : r.map (cellS "") = s.map (cellS "") := by rw [← line_split hr hr0, ← line_split hs hs0, h]
  exact map_inj_on (fun x hx y hy z => cellS_inj (hr x hx) (hs y hy) z) e
theorem text_inj {p q : List (List Cell)} {n m : Nat} (hp : OkRows p n) (hq : OkRows q m) (h : textS p = textS q) : p = q := by
  have hp0 : p ≠ [] := fun e => by have := hp.lo; rw [e] at this; exact absurd this (by decide)
  have hq0 : q ≠ [] := fun e => by have := hq.lo; rw [e] at this; exact absurd this (by decide)
  have e : p.map lineS = q.map lineS := by rw [← text_split hp.cells hp0, ← text_split hq.cells hq0, h]
  refine map_inj_on (fun r hr s hs z => line_inj (hp.cells r hr) (hq.cells s hs) (fun e => ?_) (fun e => ?_) z) e
  · have := (hp.row r hr).1
    rw [e] at this
    exact absurd this (by decide)
  · have := (hq.row s hs).1
    rw [e] at this
    exact absurd this (by decide)
theorem light_str {s : Str} {k : Nat} (h : (tl s).length ≤ k) : Light k (.str s) :=
  ⟨by simp only [PyData.weight]; exact h, by simp [PyData.showable], by simp [PyData.intsShort]⟩
theorem light_none {k : Nat} : Light k .none := ⟨Nat.zero_le _, by simp [PyData.showable], by simp [PyData.intsShort]⟩
theorem ok_txt {y : Str} {ps : List Str} (hy : PyData.strOk y = true) (h : ∀ p ∈ ps, PyData.strOk p = true) : PyData.strOk (Txt.join y ps) = true := by
  unfold PyData.strOk at *
  rw [← Array.all_toList] at *
  refine List.all_eq_true.mpr fun x hx => ?_
  rw [show (Txt.join y ps).cps.toList = joinL (tl y) (ps.map tl) from tl_txt y ps] at hx
  rcases mem_join hx with hx | ⟨p, h1, h2⟩
  · exact List.all_eq_true.mp hy x hx
  · obtain ⟨q, hq, rfl⟩ := List.mem_map.mp h1
    have := h q hq
    rw [← Array.all_toList] at this
    exact List.all_eq_true.mp this x h2
theorem ok_cellS {x : Cell} (h : okC x) : PyData.strOk (cellS "" x) = true := by
  cases x with
  | none => decide +kernel
  | some s => exact strOk_of (h s rfl)
theorem ok_textS {p : List (List Cell)} (hp : ∀ r ∈ p, ∀ x ∈ r, okC x) : PyData.strOk (textS p) = true :=
  ok_txt (by decide +kernel) fun q hq => by
    obtain ⟨r, hr, rfl⟩ := List.mem_map.mp hq
    refine ok_txt (by decide +kernel) fun q hq => ?_
    obtain ⟨x, hx, rfl⟩ := List.mem_map.mp hq
    exact ok_cellS (hp r hr x hx)
end G

set_option Elab.async false
set_option linter.all false
set_option maxRecDepth 100000
set_option maxHeartbeats 1000000
/-! list(zip(a, b)): the tuples stay out while the next one is made -/
namespace G
open PySem PySem.Spec PyProof.Rows L2
theorem zl_no_len : typeLookup (.type "zip") "__len__" = pure none := by rw [typeLookup_type, builtinLookup_eq_fast]; kernel_rfl
theorem zl_no_hint : typeLookup (.type "zip") "__length_hint__" = pure none := by rw [typeLookup_type, builtinLookup_eq_fast]; kernel_rfl
section
variable {prog : Program} {w : World} {A : Around} {E : Value → Shared → Prop} {s : Shared} {z TI TO i1 i2 S0 : Addr} {fp1 fp2 : List Addr} {n1 n2 i : Nat} {P1 P2 : Nat → Value → Prop} {St1 St2 : Nat → Heap → Prop} {T : Addr} {f : Bool} {oT : Obj}
theorem zl_next_item {Q : Value → Shared → Prop} (S : ZipSep2 z TI TO i1 i2 fp1 fp2) (D1 : Draws prog w A i1 fp1 n1 P1 St1) (D2 : Draws prog w A i2 fp2 n2 P2 St2)
    (hz : IsZipHeld s.heap z TI TO T f) (hT : s.heap.get? T = some oT) (hTI : IsTupOf2 s.heap TI (.ref i1) (.ref i2)) (st1 : St1 i s.heap) (st2 : St2 i s.heap) (hlt1 : i < n1) (hlt2 : i < n2)
    (hQ : ∀ x1 x2 h' tk, P1 i x1 → P2 i x2 → IsZipHeld h' z TI TO T true → St1 (i + 1) h' → St2 (i + 1) h' → IsTupOf2 h' s.heap.objs.size x1 x2 → h'.objs.size = s.heap.objs.size + 1 →
      (∀ c o, c ≠ z → c ≠ i1 → c ≠ i2 → s.heap.get? c = some o → h'.get? c = some o) → Q (.ref s.heap.objs.size) { s with heap := h', toks := tk }) :
    wpAny (model prog w) A (Builtin.«zip.__next__» ⟨[.ref z], []⟩) (fun fin s' => ∃ v, fin = .done (.ret v) ∧ Q v s') E s := by
  obtain ⟨hp, g, d, tk0, os⟩ := s
  show wpAny _ _ (field (.ref z) 2 >>= _) _ _ _
  refine wpAny_bind (wpAny_field hz rfl (x := .bool false) rfl ?_)
  show wpAny _ _ (field (.ref z) 3 >>= _) _ _ _
  refine wpAny_bind (wpAny_field hz rfl (x := .ref TI) rfl ?_)
  refine wpAny_bind (wpAny_seqItems hTI rfl ?_)
  show wpAny _ _ (Builtin.SmallTypes.ownedTupleIsFree (.ref z) >>= _) _ _ _
  refine wpAny_bind (wpAny_tupleHeld_zip hz hT fun h₁ hz₁ hs₁ => ?_)
  replace hs₁ : Heap.SameBut z hp h₁ := hs₁
  simp only [Bool.false_eq_true, if_false]
  refine wpAny_bind ?_
  rw [← Array.forIn_toList]
  simp only [List.forIn_cons, List.forIn_nil]
  refine wpAny_bind (wpAny_bind (wpAny_holding ?_))
  show wpAny _ _ (Builtin.SmallTypes.nextOf (.ref i1) >>= _) _ _ ⟨h₁, g, d, tk0, os⟩
  refine wpAny_bind (D1.item i _ _ _ hlt1 (D1.over st1 hs₁ S.zf1) fun x1 p1 tk1 hx1 sn1 hp1 => wpAny_pure ?_)
  replace hp1 : Heap.SameBut i1 h₁ p1 := hp1
  refine wpAny_pure ?_
  refine wpAny_bind (wpAny_bind (wpAny_holding ?_))
  show wpAny _ _ (Builtin.SmallTypes.nextOf (.ref i2) >>= _) _ _ ⟨p1, g, d, tk1, os⟩
  refine wpAny_bind (D2.item i _ _ _ hlt2 (D2.over (D2.over st2 hs₁ S.zf2) hp1 S.sep1_2) fun x2 p2 tk2 hx2 sn2 hp2 => wpAny_pure ?_)
  replace hp2 : Heap.SameBut i2 p1 p2 := hp2
  refine wpAny_pure (wpAny_pure ?_)
  show wpAny _ _ (newTuple [x1, x2] >>= _) _ _ ⟨p2, g, d, tk2, os⟩
  refine wpAny_bind (wpAny_newTuple ?_)
  have hsz : p2.objs.size = hp.objs.size := by rw [hp2.1, hp1.1, hs₁.1]
  have hz₃ : IsZipHeld p2 z TI TO T true := hp2.extBut _ _ S.zi2 (hp1.extBut _ _ S.zi1 hz₁)
  have hk : ∀ c o, c ≠ z → c ≠ i1 → c ≠ i2 → hp.get? c = some o → p2.get? c = some o := fun c o c1 c2 c3 e => hp2.extBut _ _ c3 (hp1.extBut _ _ c2 (hs₁.extBut _ _ c1 e))
  have hj1 : St1 (i + 1) p2 := D1.over sn1 hp2 S.sep2_1
  refine wpAny_pure ⟨_, rfl, ?_⟩
  show Q (.ref p2.objs.size) _
  have hp : IsTupOf2 (p2.push { cls := .type "tuple", data := .seq #[x1, x2] }) p2.objs.size x1 x2 := Heap.get?_push_size _ rfl
  have hz4 : (p2.push { cls := .type "tuple", data := .seq #[x1, x2] }).objs.size = p2.objs.size + 1 := Heap.size_push ..
  rw [hsz] at hp hz4 ⊢
  exact hQ x1 x2 _ _ hx1 hx2 (Heap.get?_push_of_some _ hz₃) (D1.frame _ _ _ hj1 fun b _ o e => Heap.get?_push_of_some _ e) (D2.frame _ _ _ sn2 fun b _ o e => Heap.get?_push_of_some _ e) hp hz4 fun c o c1 c2 c3 e => Heap.get?_push_of_some _ (hk c o c1 c2 c3 e)
theorem zl_next_end {Q : Fin → Shared → Prop} (S : ZipSep2 z TI TO i1 i2 fp1 fp2) (D1 : Draws prog w A i1 fp1 n1 P1 St1) (D2 : Draws prog w A i2 fp2 n2 P2 St2)
    (hz : IsZipHeld s.heap z TI TO T f) (hT : s.heap.get? T = some oT) (hTI : IsTupOf2 s.heap TI (.ref i1) (.ref i2)) (st1 : St1 i s.heap) (st2 : St2 i s.heap) (hle1 : i ≤ n1) (hle2 : i ≤ n2) (hend : i = n1 ∨ i = n2)
    (hE : ∀ h' tk e, (∀ c o, c ≠ z → c ≠ i1 → c ≠ i2 → s.heap.get? c = some o → h'.get? c = some o) → (∃ o, h'.get? e = some o ∧ o.cls = .type "StopIteration") → E (.ref e) { s with heap := h', toks := tk }) :
    wpAny (model prog w) A (Builtin.«zip.__next__» ⟨[.ref z], []⟩) Q E s := by
  obtain ⟨hp, g, d, tk0, os⟩ := s
  show wpAny _ _ (field (.ref z) 2 >>= _) _ _ _
  refine wpAny_bind (wpAny_field hz rfl (x := .bool false) rfl ?_)
  show wpAny _ _ (field (.ref z) 3 >>= _) _ _ _
  refine wpAny_bind (wpAny_field hz rfl (x := .ref TI) rfl ?_)
  refine wpAny_bind (wpAny_seqItems hTI rfl ?_)
  show wpAny _ _ (Builtin.SmallTypes.ownedTupleIsFree (.ref z) >>= _) _ _ _
  refine wpAny_bind (wpAny_tupleHeld_zip hz hT fun h₁ hz₁ hs₁ => ?_)
  replace hs₁ : Heap.SameBut z hp h₁ := hs₁
  simp only [Bool.false_eq_true, if_false]
  refine wpAny_bind ?_
  rw [← Array.forIn_toList]
  simp only [List.forIn_cons, List.forIn_nil]
  refine wpAny_bind (wpAny_bind (wpAny_holding ?_))
  show wpAny _ _ (Builtin.SmallTypes.nextOf (.ref i1) >>= _) _ _ ⟨h₁, g, d, tk0, os⟩
  by_cases hlt1 : i < n1
  · refine wpAny_bind (D1.item i _ _ _ hlt1 (D1.over st1 hs₁ S.zf1) fun x1 p1 tk1 hx1 sn1 hp1 => wpAny_pure ?_)
    replace hp1 : Heap.SameBut i1 h₁ p1 := hp1
    have hi2 : i = n2 := by omega
    refine wpAny_pure ?_
    refine wpAny_bind (wpAny_bind (wpAny_holding ?_))
    show wpAny _ _ (Builtin.SmallTypes.nextOf (.ref i2) >>= _) _ _ ⟨p1, g, d, tk1, os⟩
    refine wpAny_bind (D2.done ⟨p1, g, d, tk1, os⟩ _ _ (by rw [← hi2]; exact D2.over (D2.over st2 hs₁ S.zf2) hp1 S.sep1_2) fun q e hq he => ?_)
    replace hq : Heap.ExtBut i2 p1 q := hq
    exact hE q tk1 e (fun c o c1 c2 c3 x => hq _ _ c3 (hp1.extBut _ _ c2 (hs₁.extBut _ _ c1 x))) he
  · have hi1 : i = n1 := by omega
    refine wpAny_bind (D1.done ⟨h₁, g, d, tk0, os⟩ _ _ (by rw [← hi1]; exact D1.over st1 hs₁ S.zf1) fun q e hq he => ?_)
    replace hq : Heap.ExtBut i1 h₁ q := hq
    exact hE q tk0 e (fun c o c1 c2 _ x => hq _ _ c2 (hs₁.extBut _ _ c1 x)) he
/-- the zip before its i-th turn, the tuple that it gave out last still out -/
structure ZSt (z TI TO i1 i2 S0 : Addr) (St1 St2 : Nat → Heap → Prop) (i : Nat) (h : Heap) : Prop where
  ti : IsTupOf2 h TI (.ref i1) (.ref i2)
  s1 : St1 i h
  s2 : St2 i h
  zz : (IsZip h z TI TO .none ∧ ∃ x y, IsTupOf2 h TO x y) ∨ ∃ T f oT, IsZipHeld h z TI TO T f ∧ h.get? T = some oT ∧ T ≠ z ∧ T ≠ i1 ∧ T ≠ i2 ∧ T ≠ S0
theorem ZSt.over {h h' : Heap} (Z : ZSt z TI TO i1 i2 S0 St1 St2 i h) (D1 : Draws prog w A i1 fp1 n1 P1 St1) (D2 : Draws prog w A i2 fp2 n2 P2 St2) (d1 : S0 ∉ fp1) (d2 : S0 ∉ fp2) (dz : z ≠ S0) (dI : TI ≠ S0) (dO : TO ≠ S0) (hk : ∀ b o, b ≠ S0 → h.get? b = some o → h'.get? b = some o) : ZSt z TI TO i1 i2 S0 St1 St2 i h' := by
  refine ⟨hk _ _ dI Z.ti, D1.frame _ _ _ Z.s1 fun b hb o e => hk b o (fun q => d1 (q ▸ hb)) e, D2.frame _ _ _ Z.s2 fun b hb o e => hk b o (fun q => d2 (q ▸ hb)) e, ?_⟩
  rcases Z.zz with ⟨hz, x, y, hTO⟩ | ⟨T, f, oT, hz, hT, r1, r2, r3, r4⟩
  · exact .inl ⟨hk _ _ dz hz, x, y, hk _ _ dO hTO⟩
  · exact .inr ⟨T, f, oT, hk _ _ dz hz, hk _ _ r4 hT, r1, r2, r3, r4⟩
/-- the tuples so far: behind S0, rising, with the items -/
structure ZTs (P1 P2 : Nat → Value → Prop) (S0 : Addr) (as : List Addr) (h : Heap) : Prop where
  above : ∀ a ∈ as, S0 < a
  rise : as.Pairwise (· < ·)
  pairs : ∀ j a, as[j]? = some a → ∃ x y, P1 j x ∧ P2 j y ∧ IsTupOf2 h a x y
theorem zl_pyNext_item {Q : Option Value → Shared → Prop} (S : ZipSep2 z TI TO i1 i2 fp1 fp2) (D1 : Draws prog w A.in1 i1 fp1 n1 P1 St1) (D2 : Draws prog w A.in1 i2 fp2 n2 P2 St2) (Z : ZSt z TI TO i1 i2 S0 St1 St2 i s.heap) (hlt1 : i < n1) (hlt2 : i < n2) (hS : ∃ o, s.heap.get? S0 = some o)
    (hQ : ∀ x1 x2 h' tk, P1 i x1 → P2 i x2 → ZSt z TI TO i1 i2 S0 St1 St2 (i + 1) h' → IsTupOf2 h' s.heap.objs.size x1 x2 → h'.objs.size = s.heap.objs.size + 1 →
      (∀ c o, c ≠ z → c ≠ TO → c ≠ i1 → c ≠ i2 → s.heap.get? c = some o → h'.get? c = some o) → Q (some (.ref s.heap.objs.size)) { s with heap := h', toks := tk }) : wpAny (model prog w) A (pyNext (.ref z)) Q E s := by
  obtain ⟨o1, e1⟩ := D1.live _ _ Z.s1
  obtain ⟨o2, e2⟩ := D2.live _ _ Z.s2
  obtain ⟨oS, eS⟩ := hS
  have n1 : s.heap.objs.size ≠ i1 := Nat.ne_of_gt (Heap.lt_size e1)
  have n2 : s.heap.objs.size ≠ i2 := Nat.ne_of_gt (Heap.lt_size e2)
  have nS : s.heap.objs.size ≠ S0 := Nat.ne_of_gt (Heap.lt_size eS)
  rcases Z.zz with ⟨hz, x, y, hTO⟩ | ⟨T, f, oT, hz, hT, r1, r2, r3, r4⟩
  · have nz : s.heap.objs.size ≠ z := Nat.ne_of_gt (Heap.lt_size hz)
    refine wpAny_pyNext_zipD2_item S D1 D2 hz Z.ti hTO Z.s1 Z.s2 hlt1 hlt2 fun x1 x2 h' tk p1 p2 hz' _ t1 t2 hT hsz hk => ?_
    exact hQ x1 x2 h' tk p1 p2 ⟨hk _ _ S.TIz S.TITO S.TIi1 S.TIi2 Z.ti, t1, t2, .inr ⟨_, false, _, hz', hT, nz, n1, n2, nS⟩⟩ hT hsz hk
  · have hTy : s.TypeIs (.ref z) "zip" := ⟨_, hz, rfl⟩
    unfold pyNext
    refine wpAny_bind (wpAny_attempt (wpAny_callSpecial?_slot (name := Str.ofString "__next__") hTy F.slot_zip_next
      (wpAny_call_entry F.slot_zip_next hTy F.entry_zip_next
        (zl_next_item S D1 D2 hz hT Z.ti Z.s1 Z.s2 hlt1 hlt2 fun x1 x2 h' tk p1 p2 hz' t1 t2 hT' hsz hk => wpAny_pure ?_) (F.args_zip_next_1 _))))
    exact hQ x1 x2 h' tk p1 p2 ⟨hk _ _ S.TIz S.TIi1 S.TIi2 Z.ti, t1, t2, .inr ⟨T, true, oT, hz', hk _ _ r1 r2 r3 hT, r1, r2, r3, r4⟩⟩ hT' hsz fun c o c1 _ c3 c4 e => hk c o c1 c3 c4 e
theorem zl_pyNext_end {Q : Option Value → Shared → Prop} (S : ZipSep2 z TI TO i1 i2 fp1 fp2) (D1 : Draws prog w A.in1 i1 fp1 n1 P1 St1) (D2 : Draws prog w A.in1 i2 fp2 n2 P2 St2) (Z : ZSt z TI TO i1 i2 S0 St1 St2 i s.heap) (hle1 : i ≤ n1) (hle2 : i ≤ n2) (hend : i = n1 ∨ i = n2)
    (hQ : ∀ h' tk, (∀ c o, c ≠ z → c ≠ TO → c ≠ i1 → c ≠ i2 → s.heap.get? c = some o → h'.get? c = some o) → Q none { s with heap := h', toks := tk }) : wpAny (model prog w) A (pyNext (.ref z)) Q E s := by
  rcases Z.zz with ⟨hz, x, y, hTO⟩ | ⟨T, f, oT, hz, hT, r1, r2, r3, r4⟩
  · exact wpAny_pyNext_zipD2_end S D1 D2 hz Z.ti hTO Z.s1 Z.s2 hle1 hle2 hend hQ
  · have hTy : s.TypeIs (.ref z) "zip" := ⟨_, hz, rfl⟩
    unfold pyNext
    refine wpAny_bind (wpAny_attempt (wpAny_callSpecial?_slot (name := Str.ofString "__next__") hTy F.slot_zip_next
      (wpAny_call_entry F.slot_zip_next hTy F.entry_zip_next (zl_next_end S D1 D2 hz hT Z.ti Z.s1 Z.s2 hle1 hle2 hend fun h' tk e hk he => ?_) (F.args_zip_next_1 _))))
    obtain ⟨o, ho, hc⟩ := he
    refine wpAny_bind (wpAny_isInstance (T := "StopIteration") (b := true) ⟨o, ho, hc⟩ isSubtype_stop ?_)
    exact wpAny_pure (hQ _ _ fun c o c1 _ c3 c4 x => hk c o c1 c3 c4 x)
theorem zl_loop {R : Result → Shared → Prop} (S : ZipSep2 z TI TO i1 i2 fp1 fp2) (D1 : Draws prog w A.in1.in1 i1 fp1 n1 P1 St1) (D2 : Draws prog w A.in1.in1 i2 fp2 n2 P2 St2) (d1 : S0 ∉ fp1) (d2 : S0 ∉ fp2) (dI : TI ≠ S0) (lz : z < S0) (lO : TO < S0) (l1 : i1 < S0) (l2 : i2 < S0) (hn : min n1 n2 ≤ sizeLine) (res : Value) :
    ∀ (k i : Nat) (s : Shared) (acc : Array Value) (c : Nat) (as : List Addr), min n1 n2 - i = k → i ≤ min n1 n2 → ZSt z TI TO i1 i2 S0 St1 St2 i s.heap → s.heap.get? S0 = some { cls := .type "list", dict := none, data := .seq acc c, slots := #[] } → acc.toList = as.map Value.ref → as.length = i → ZTs P1 P2 S0 as s.heap → (∀ a ∈ as, a < s.heap.objs.size) →
    (∀ h' tk acc' c' (as' : List Addr), (∀ b o, b ≠ z → b ≠ TO → b ≠ i1 → b ≠ i2 → b ≠ S0 → s.heap.get? b = some o → h'.get? b = some o) → h'.get? S0 = some { cls := .type "list", dict := none, data := .seq acc' c', slots := #[] } → acc'.toList = as'.map Value.ref → as'.length = min n1 n2 → ZTs P1 P2 S0 as' h' → R (.ok (.ret res)) { s with heap := h', toks := tk }) →
    codeAny (model prog w) A (.builtin "list.extend.loop" ⟨[.ref S0, .ref z, res], []⟩) R s := by
  intro k
  induction k with
  | zero =>
    intro i s acc c as hk hi Z hS ha hl T hlt hR
    have hin : i = min n1 n2 := by omega
    subst hin
    refine codeAny_builtin F.entry_extend_loop ?_
    rw [Around.under_plainId F.plain_extend_loop _]
    show wpAny _ A.in1 (pyNext (.ref z) >>= _) _ _ s
    refine wpAny_bind (zl_pyNext_end S D1 D2 Z (Nat.min_le_left ..) (Nat.min_le_right ..) (by omega) fun h' tk hk => ?_)
    refine wpAny_pure (hR h' tk acc c as (fun b o b1 b2 b3 b4 _ e => hk b o b1 b2 b3 b4 e) (hk _ _ (Nat.ne_of_gt lz) (Nat.ne_of_gt lO) (Nat.ne_of_gt l1) (Nat.ne_of_gt l2) hS) ha hl ⟨T.above, T.rise, fun j a e => ?_⟩)
    obtain ⟨x, y, g1, g2, g3⟩ := T.pairs j a e
    have hb := T.above a (List.mem_of_getElem? e)
    exact ⟨x, y, g1, g2, hk _ _ (Nat.ne_of_gt (Nat.lt_trans lz hb)) (Nat.ne_of_gt (Nat.lt_trans lO hb)) (Nat.ne_of_gt (Nat.lt_trans l1 hb)) (Nat.ne_of_gt (Nat.lt_trans l2 hb)) g3⟩
  | succ k ih =>
    intro i s acc c as hk hi Z hS ha hl T hlt hR
    have hlt1 : i < n1 := by omega
    have hlt2 : i < n2 := by omega
    have asz : acc.size = i := by rw [← hl, ← Array.length_toList, ha, List.length_map]
    refine codeAny_builtin F.entry_extend_loop ?_
    rw [Around.under_plainId F.plain_extend_loop _]
    show wpAny _ A.in1 (pyNext (.ref z) >>= _) _ _ s
    refine wpAny_bind (zl_pyNext_item S D1 D2 Z hlt1 hlt2 ⟨_, hS⟩ fun x1 x2 h' tk p1 p2 Z' hT hsz hk => ?_)
    have hS' := hk _ _ (Nat.ne_of_gt lz) (Nat.ne_of_gt lO) (Nat.ne_of_gt l1) (Nat.ne_of_gt l2) hS
    have lS : S0 < s.heap.objs.size := Heap.lt_size hS
    show wpAny _ A.in1 (updateSeq S0 (·.push (.ref s.heap.objs.size)) >>= _) _ _ _
    refine wpAny_bind ?_
    have oth : ∀ b o, b ≠ S0 → h'.get? b = some o → (h'.update S0 (Obj.mapSeq (·.push (.ref s.heap.objs.size)))).get? b = some o := fun b o hb e => (Heap.get?_update_other _ _ (Ne.symm hb)).trans e
    refine wpAny_updateSeq (s := { s with heap := h', toks := tk }) hS' rfl (wpAny_pure ⟨plainId_quiet F.plain_extend_loop _, ih (i + 1) _ (acc.push (.ref s.heap.objs.size)) _ (as ++ [s.heap.objs.size]) (by omega) (by omega) (Z'.over D1 D2 d1 d2 (Nat.ne_of_lt lz) dI (Nat.ne_of_lt lO) oth) (Heap.get?_update_self _ hS' rfl) (by rw [Array.toList_push, ha, List.map_append]; rfl) (by rw [List.length_append, hl]; rfl) ⟨fun a h => ?_, ?_, fun j a e => ?_⟩ (fun a h => ?_) fun h'' tk' acc' c' as' hk'' hS'' ha'' hl'' T'' => ?_⟩)
      (by rw [asz]; omega) (by show (acc.push _).size ≤ sizeLine + 1; rw [Array.size_push, asz]; omega)
    · rcases List.mem_append.mp h with h | h
      · exact T.above a h
      · rw [List.mem_singleton.mp h]; exact lS
    · refine List.pairwise_append.mpr ⟨T.rise, List.pairwise_singleton .., fun a h b hb => ?_⟩
      rw [List.mem_singleton.mp hb]
      exact hlt a h
    · rw [List.getElem?_append] at e
      split at e
      · obtain ⟨x, y, g1, g2, g3⟩ := T.pairs j a e
        have hb := T.above a (List.mem_of_getElem? e)
        exact ⟨x, y, g1, g2, oth _ _ (Nat.ne_of_gt hb) (hk _ _ (Nat.ne_of_gt (Nat.lt_trans lz hb)) (Nat.ne_of_gt (Nat.lt_trans lO hb)) (Nat.ne_of_gt (Nat.lt_trans l1 hb)) (Nat.ne_of_gt (Nat.lt_trans l2 hb)) g3)⟩
      · rename_i hj
        have hj0 : j - as.length = 0 := by
          have := (List.getElem?_eq_some_iff.mp e).1
          rw [List.length_singleton] at this
          omega
        rw [hj0] at e
        cases e
        have hji : j = i := by omega
        rw [hji]
        exact ⟨x1, x2, p1, p2, oth _ _ (Nat.ne_of_gt lS) hT⟩
    · show a < (h'.update S0 _).objs.size
      rw [show (h'.update S0 (Obj.mapSeq (·.push (.ref s.heap.objs.size)))).objs.size = h'.objs.size from Heap.size_update .., hsz]
      rcases List.mem_append.mp h with h | h
      · exact Nat.lt_succ_of_lt (hlt a h)
      · rw [List.mem_singleton.mp h]; exact Nat.lt_succ_self _
    · exact hR h'' tk' acc' c' as' (fun b o b1 b2 b3 b4 b5 e => hk'' b o b1 b2 b3 b4 b5 (oth b o b5 (hk b o b1 b2 b3 b4 e))) hS'' ha'' hl'' T''
theorem zl_extend {R : Result → Shared → Prop} (S : ZipSep2 z TI TO i1 i2 fp1 fp2) (D1 : Draws prog w A.in1.in1 i1 fp1 n1 P1 St1) (D2 : Draws prog w A.in1.in1 i2 fp2 n2 P2 St2) (d1 : S0 ∉ fp1) (d2 : S0 ∉ fp2) (dI : TI ≠ S0) (lz : z < S0) (lO : TO < S0) (l1 : i1 < S0) (l2 : i2 < S0) (hn : min n1 n2 ≤ sizeLine) (res : Value) (c₀ : Nat)
    (hz : IsZip s.heap z TI TO .none) (hTI : IsTupOf2 s.heap TI (.ref i1) (.ref i2)) (hTO : ∃ x y, IsTupOf2 s.heap TO x y) (st1 : St1 0 s.heap) (st2 : St2 0 s.heap) (hS : s.heap.get? S0 = some { cls := .type "list", data := .seq #[] c₀ })
    (hR : ∀ h' tk acc' c' (as' : List Addr), (∀ b o, b ≠ z → b ≠ TO → b ≠ i1 → b ≠ i2 → b ≠ S0 → s.heap.get? b = some o → h'.get? b = some o) → h'.get? S0 = some { cls := .type "list", dict := none, data := .seq acc' c', slots := #[] } → acc'.toList = as'.map Value.ref → as'.length = min n1 n2 → ZTs P1 P2 S0 as' h' → R (.ok (.ret res)) { s with heap := h', toks := tk }) :
    wpAny (model prog w) A.in1 (Builtin.List.listExtendWith (.ref S0) (.ref z) res)
      (fun fin s' => match fin with | .done f => R (.ok f) s' | .again c' => c'.quiet = true ∧ codeAny (model prog w) A c' R s') (fun e s' => R (.error e) s') s := by
  have hSz : S0 ≠ z := Nat.ne_of_gt lz
  have hT : s.TypeIs (.ref z) "zip" := ⟨_, hz, rfl⟩
  unfold Builtin.List.listExtendWith
  refine wpAny_bind (wpAny_typeOf hT ?_)
  have h1 : Builtin.List.listSameRef (.ref S0) (.ref z) = false := by simp [Builtin.List.listSameRef, hSz]
  have h2 : (Value.type "zip" == Value.type "list") = false := by decide
  have h3 : (Value.type "zip" == Value.type "tuple") = false := by decide
  simp only [h1, h2, h3, Bool.or_false, Bool.false_eq_true, if_false]
  refine wpAny_bind (wpAny_pyIter_zip hz ?_)
  refine wpAny_bind (wpAny_holding ?_)
  unfold Builtin.List.listLengthHint
  refine wpAny_bind (wpAny_specialOf hT zl_no_len ?_)
  show wpAny _ A.in1 (specialOf (Value.ref z) (Str.ofString "__length_hint__") >>= _) _ _ _
  refine wpAny_bind (wpAny_specialOf hT zl_no_hint ?_)
  refine wpAny_pure ?_
  show wpAny _ A.in1 (rule "list.extend.makes-room" >>= fun _ => Builtin.List.listTouch (.ref S0) >>= fun _ =>
    again (.builtin "list.extend.loop" ⟨[.ref S0, .ref z, res], []⟩)) _ _ _
  refine wpAny_bind (wpAny_rule ?_)
  refine wpAny_bind ?_
  show wpAny _ A.in1 (updateSeq S0 (·.push .none) >>= fun _ => updateSeq S0 (·.pop)) _ _ _
  refine wpAny_bind (wpAny_updateSeq hS rfl ?_)
  have hS₂ := Heap.get?_update_self (Obj.mapSeq (·.push Value.none)) hS rfl
  refine wpAny_updateSeq (hz := by seq_fits) hS₂ rfl ?_
  have hS₃ := Heap.get?_update_self (Obj.mapSeq (·.pop)) hS₂ rfl
  have oth : ∀ b o, b ≠ S0 → s.heap.get? b = some o → ((s.heap.update S0 (Obj.mapSeq (·.push Value.none))).update S0 (Obj.mapSeq (·.pop))).get? b = some o :=
    fun b o hb e => (Heap.get?_update_other _ _ (Ne.symm hb)).trans ((Heap.get?_update_other _ _ (Ne.symm hb)).trans e)
  obtain ⟨x, y, hTO⟩ := hTO
  have Z0 : ZSt z TI TO i1 i2 S0 St1 St2 0 s.heap := ⟨hTI, st1, st2, .inl ⟨hz, x, y, hTO⟩⟩
  refine wpAny_pure ⟨plainId_quiet F.plain_extend_loop _, zl_loop S D1 D2 d1 d2 dI lz lO l1 l2 hn res (min n1 n2) 0 _ _ _ [] rfl (Nat.zero_le _) (Z0.over D1 D2 d1 d2 (Nat.ne_of_lt lz) dI (Nat.ne_of_lt lO) oth) hS₃ rfl rfl ⟨(fun a h => nomatch h), List.Pairwise.nil, (fun j a e => nomatch e)⟩ (fun a h => nomatch h) fun h' tk acc' c' as' hk hS' ha hl T => ?_⟩
  exact hR h' tk acc' c' as' (fun b o b1 b2 b3 b4 b5 e => hk b o b1 b2 b3 b4 b5 (oth b o b5 e)) hS' ha hl T
theorem zl_init {R : Result → Shared → Prop} (S : ZipSep2 z TI TO i1 i2 fp1 fp2) (D1 : Draws prog w A.in1.in1 i1 fp1 n1 P1 St1) (D2 : Draws prog w A.in1.in1 i2 fp2 n2 P2 St2) (d1 : S0 ∉ fp1) (d2 : S0 ∉ fp2) (dI : TI ≠ S0) (lz : z < S0) (lO : TO < S0) (l1 : i1 < S0) (l2 : i2 < S0) (hn : min n1 n2 ≤ sizeLine)
    (hz : IsZip s.heap z TI TO .none) (hTI : IsTupOf2 s.heap TI (.ref i1) (.ref i2)) (hTO : ∃ x y, IsTupOf2 s.heap TO x y) (st1 : St1 0 s.heap) (st2 : St2 0 s.heap) (hS : s.heap.get? S0 = some { cls := .type "list", data := .seq #[] })
    (hR : ∀ h' tk acc' c' (as' : List Addr), (∀ b o, b ≠ z → b ≠ TO → b ≠ i1 → b ≠ i2 → b ≠ S0 → s.heap.get? b = some o → h'.get? b = some o) → h'.get? S0 = some { cls := .type "list", dict := none, data := .seq acc' c', slots := #[] } → acc'.toList = as'.map Value.ref → as'.length = min n1 n2 → ZTs P1 P2 S0 as' h' → R (.ok (.ret .none)) { s with heap := h', toks := tk }) :
    wpAny (model prog w) A.in1 (Builtin.«list.__init__» ⟨[.ref S0, .ref z], []⟩)
      (fun fin s' => match fin with | .done f => R (.ok f) s' | .again c' => c'.quiet = true ∧ codeAny (model prog w) A c' R s') (fun e s' => R (.error e) s') s := by
  show wpAny _ A.in1 (do let old ← Builtin.List.listItems (.ref S0); Builtin.List.listUpdate (.ref S0) (fun _ => #[]); letGo old.toList.reverse; Builtin.List.listExtendWith (.ref S0) (.ref z) .none) _ _ s
  refine wpAny_bind ?_
  unfold Builtin.List.listItems
  refine wpAny_bind (wpAny_seqItems hS rfl (wpAny_pure ?_))
  show wpAny _ A.in1 (updateSeq S0 (fun _ => #[]) >>= fun _ => letGo (#[] : Array Value).toList.reverse >>= fun _ => Builtin.List.listExtendWith (.ref S0) (.ref z) .none) _ _ s
  refine wpAny_bind (wpAny_updateSeq hS rfl ?_)
  have hS₂ := Heap.get?_update_self (Obj.mapSeq (fun _ => (#[] : Array Value))) hS rfl
  have oth : ∀ b o, b ≠ S0 → s.heap.get? b = some o → (s.heap.update S0 (Obj.mapSeq (fun _ => (#[] : Array Value)))).get? b = some o :=
    fun b o hb e => (Heap.get?_update_other _ _ (Ne.symm hb)).trans e
  refine wpAny_bind (wpAny_letGo ?_)
  obtain ⟨x, y, hTO⟩ := hTO
  refine zl_extend (s := { s with heap := s.heap.update S0 (Obj.mapSeq (fun _ => (#[] : Array Value))) }) S D1 D2 d1 d2 dI lz lO l1 l2 hn .none _ (oth _ _ (Nat.ne_of_lt lz) hz) (oth _ _ dI hTI) ⟨x, y, oth _ _ (Nat.ne_of_lt lO) hTO⟩ (D1.frame _ _ _ st1 fun b hb o e => oth b o (fun q => d1 (q ▸ hb)) e) (D2.frame _ _ _ st2 fun b hb o e => oth b o (fun q => d2 (q ▸ hb)) e) hS₂ fun h' tk acc' c' as' hk hS' ha hl T => ?_
  exact hR h' tk acc' c' as' (fun b o b1 b2 b3 b4 b5 e => hk b o b1 b2 b3 b4 b5 (oth b o b5 e)) hS' ha hl T
theorem zl_call {Q : Value → Shared → Prop} (S : ZipSep2 z TI TO i1 i2 fp1 fp2) (D1 : ∀ B : Around, B.handled = none → Draws prog w B i1 fp1 n1 P1 St1) (D2 : ∀ B : Around, B.handled = none → Draws prog w B i2 fp2 n2 P2 St2) (hh : A.handled = none) (hn : min n1 n2 ≤ sizeLine)
    (hz : IsZip s.heap z TI TO .none) (hTI : IsTupOf2 s.heap TI (.ref i1) (.ref i2)) (hTO : ∃ x y, IsTupOf2 s.heap TO x y) (st1 : St1 0 s.heap) (st2 : St2 0 s.heap) (hf1 : ∀ b ∈ fp1, b < s.heap.objs.size) (hf2 : ∀ b ∈ fp2, b < s.heap.objs.size)
    (hQ : ∀ h' tk acc' c' (as' : List Addr), (∀ b o, b ≠ z → b ≠ TO → b ≠ i1 → b ≠ i2 → s.heap.get? b = some o → h'.get? b = some o) → h'.get? s.heap.objs.size = some { cls := .type "list", dict := none, data := .seq acc' c', slots := #[] } → acc'.toList = as'.map Value.ref → as'.length = min n1 n2 → ZTs P1 P2 s.heap.objs.size as' h' → Q (.ref s.heap.objs.size) { s with heap := h', toks := tk }) :
    wpAny (model prog w) A (call (.type "list") [.ref z]) Q E s := by
  refine callType_codes (Q₁ := fun obj s₁ => obj = .ref s.heap.objs.size ∧ s₁ = { s with heap := s.heap.push { cls := .type "list", data := .seq #[] } }) F.called_list (F.typeCall_list_1 _) F.entry_list_init
    (code_list_new _ ⟨rfl, rfl⟩) fun obj s₁ h₁ => ?_
  obtain ⟨rfl, rfl⟩ := h₁
  have hS : (s.heap.push { cls := .type "list", data := .seq #[] }).get? s.heap.objs.size = some { cls := .type "list", data := .seq #[] } := Heap.get?_push_size _ rfl
  obtain ⟨x, y, hTO⟩ := hTO
  have up : ∀ b o, s.heap.get? b = some o → (s.heap.push { cls := .type "list", data := .seq #[] }).get? b = some o := fun b o e => Heap.get?_push_of_some _ e
  refine ⟨⟨_, hS, rfl⟩, F.args_list_init_2 _ _, zl_init (A := A.in1) S (D1 _ hh) (D2 _ hh) (fun h => Nat.lt_irrefl _ (hf1 _ h)) (fun h => Nat.lt_irrefl _ (hf2 _ h)) (Nat.ne_of_lt (Heap.lt_size hTI)) (Heap.lt_size hz) (Heap.lt_size hTO) (hf1 _ S.mem1) (hf2 _ S.mem2) hn (up _ _ hz) (up _ _ hTI) ⟨x, y, up _ _ hTO⟩ ((D1 _ hh).frame _ _ _ st1 fun b _ o e => up b o e) ((D2 _ hh).frame _ _ _ st2 fun b _ o e => up b o e) hS fun h' tk acc' c' as' hk hS' ha hl T => ?_⟩
  exact ⟨rfl, hQ h' tk acc' c' as' (fun b o b1 b2 b3 b4 e => hk b o b1 b2 b3 b4 (Nat.ne_of_lt (Heap.lt_size e)) (up b o e)) hS' ha hl T⟩
end
end G

set_option Elab.async false
set_option linter.all false
set_option maxRecDepth 100000
set_option maxHeartbeats 1000000
/-! list(zip(a, b)) over data -/
namespace G
open PySem PySem.Spec PyProof.Rows L2
/-- the pairs laid, one behind the other -/
def layP : Hp → List Addr → List V → List V → Hp
  | H, a :: as, v :: vs, u :: us => layP (upd H a (.tup [v, u])) as vs us
  | H, _, _, _ => H
theorem layP_off {b : Addr} : ∀ (as : List Addr) (vs us : List V) (H : Hp), b ∉ as → layP H as vs us b = H b
  | [], _, _, _, _ => rfl
  | _ :: _, [], _, _, _ => rfl
  | _ :: _, _ :: _, [], _, _ => rfl
  | a :: as, v :: vs, u :: us, H, h => by
    show layP (upd H a (.tup [v, u])) as vs us b = H b
    rw [layP_off as vs us _ (fun z => h (List.mem_cons_of_mem _ z)), upd_ne (fun z => h (by rw [z]; exact List.mem_cons_self))]
theorem layP_at : ∀ {as : List Addr} {vs us : List V} {H : Hp} {j : Nat} {a : Addr} {v u : V}, as.Nodup → as[j]? = some a → vs[j]? = some v → us[j]? = some u → layP H as vs us a = some (.tup [v, u])
  | a :: as, v :: vs, u :: us, H, 0, b, x, y, hn, h1, h2, h3 => by
    cases h1
    cases h2
    cases h3
    show layP (upd H a (.tup [v, u])) as vs us a = _
    rw [layP_off as vs us _ (List.nodup_cons.mp hn).1, upd_same]
  | a :: as, v :: vs, u :: us, H, j + 1, b, x, y, hn, h1, h2, h3 => layP_at (as := as) (vs := vs) (us := us) (j := j) (List.nodup_cons.mp hn).2 h1 h2 h3
  | [], _, _, _, _, _, _, _, _, h1, _, _ => nomatch h1
  | _ :: _, [], _, _, 0, _, _, _, _, _, h2, _ => nomatch h2
  | _ :: _, [], _, _, _ + 1, _, _, _, _, _, h2, _ => nomatch h2
  | _ :: _, _ :: _, [], _, 0, _, _, _, _, _, _, h3 => nomatch h3
  | _ :: _, _ :: _, [], _, _ + 1, _, _, _, _, _, _, h3 => nomatch h3
theorem layP_grow : ∀ {as : List Addr} {vs us : List V} {xs ys : List PyData} {Z H : Hp}, Ex Z H → (∀ a ∈ as, H a = none) → as.Nodup → as.length = min vs.length us.length → RpL Z vs xs → RpL Z us ys → ∃ Z', Grow Z H Z' (layP H as vs us) ∧ RpL Z' (as.map V.ref) (pairsD xs ys)
  | [], vs, us, xs, ys, Z, H, e, _, _, hl, r1, r2 => by
    refine ⟨Z, Grow.refl e, ?_⟩
    have h1 := r1.length
    have h2 := r2.length
    have h0 : (pairsD xs ys).length = 0 := by rw [pairsD_len]; simp only [List.length_nil] at hl; omega
    rw [List.eq_nil_of_length_eq_zero h0]
    exact .nil
  | a :: as, [], us, xs, ys, Z, H, _, _, _, hl, _, _ => by simp at hl
  | a :: as, v :: vs, [], xs, ys, Z, H, _, _, _, hl, _, _ => by simp at hl
  | a :: as, v :: vs, u :: us, xs, ys, Z, H, e, hf, hn, hl, r1, r2 => by
    cases r1 with
    | cons rv r1 =>
      cases r2 with
      | cons ru r2 =>
        have g := Grow.laid e (o := .tup [v, u]) (hf a List.mem_cons_self)
        obtain ⟨ha, hn⟩ := List.nodup_cons.mp hn
        obtain ⟨Z', g2, r⟩ := layP_grow (as := as) (vs := vs) (us := us) g.sub (fun b hb => by
          have hne : b ≠ a := fun z => ha (by rw [← z]; exact hb)
          rw [upd_ne hne]
          exact hf b (List.mem_cons_of_mem _ hb)) hn (by simp only [List.length_cons] at hl; omega) (r1.mono g.fz) (r2.mono g.fz)
        exact ⟨Z', g.trans g2, .cons (.tup (g2.fz _ _ upd_same) (.cons ((rv.mono g.fz).mono g2.fz) (.one ((ru.mono g.fz).mono g2.fz)))) r⟩
section
variable {X : Cx} {pins : List (Addr × Obj)} {σ : L2.St} {H : Hp} {s : Shared}
theorem zl_laid {h' : Heap} {tk : Nat} {xs ys : List V} {us vs : List Value} {acc : Array Value} {c : Nat} {as : List Addr} {S0 : Addr} (I : Inv X pins σ H s) (hz : min xs.length ys.length ≤ sizeLine) (r1 : Vals xs us) (r2 : Vals ys vs) (hS0 : s.heap.objs.size ≤ S0)
    (hk : ∀ b o, s.heap.get? b = some o → h'.get? b = some o) (hS : h'.get? S0 = some { cls := .type "list", dict := none, data := .seq acc c, slots := #[] }) (ha : acc.toList = as.map Value.ref) (hl : as.length = min xs.length ys.length) (T : ZTs (fun i v => us.toArray[i]? = some v) (fun i v => vs.toArray[i]? = some v) S0 as h') :
    H S0 = none ∧ (∀ t ∈ as, H t = none) ∧ S0 ∉ as ∧ as.Nodup ∧ Inv X pins σ (upd (layP H as xs ys) S0 (.lst (as.map V.ref))) { s with heap := h', toks := tk } := by
  have hSn : S0 ∉ as := fun z => Nat.lt_irrefl _ (T.above _ z)
  have nd : as.Nodup := List.Pairwise.imp (fun {a b} (h : a < b) => Nat.ne_of_lt h) T.rise
  have new : ∀ t ∈ as, H t = none := fun t ht => I.hok.fresh (Nat.le_trans hS0 (Nat.le_of_lt (T.above t ht)))
  have newS : H S0 = none := I.hok.fresh hS0
  have off : ∀ b, b ∉ as → b ≠ S0 → upd (layP H as xs ys) S0 (.lst (as.map V.ref)) b = H b := fun b h1 h2 => by rw [upd_ne h2, layP_off as xs ys _ h1]
  have low : ∀ b o, s.heap.get? b = some o → b ∉ as ∧ b ≠ S0 := fun b o e => by
    have := Heap.lt_size e
    exact ⟨fun z => absurd this (Nat.not_lt.mpr (Nat.le_trans hS0 (Nat.le_of_lt (T.above b z)))), fun z => absurd this (by rw [z]; exact Nat.not_lt.mpr hS0)⟩
  have kp : ∀ b u, H b = some u → upd (layP H as xs ys) S0 (.lst (as.map V.ref)) b = some u := fun b u e => by
    rw [off b (fun z => by rw [new b z] at e; cases e) (fun z => by rw [z, newS] at e; cases e)]
    exact e
  refine ⟨newS, new, hSn, nd, ?_⟩
  refine I.call' (ch := []) rfl ⟨fun b o q _ _ _ => hk b o q, fun b o q _ _ _ => ⟨o.slots, hk b o q⟩, fun b o q n _ => ?_, fun b o q _ => ⟨o, hk b o q⟩, fun b xs q => kp b _ q, fun b o u q => kp b _ q, fun b ps q => ⟨#[], by rw [kp b _ q]; simp⟩⟩ (fun b u q => ?_) I.bare fun b z => by simp at z
  · obtain ⟨z1, z2⟩ := low b o q
    rw [off b z1 z2]
    exact n
  · by_cases hb2 : b = S0
    · rw [hb2] at q ⊢
      rw [upd_same] at q
      cases q
      refine ⟨by rw [List.length_map]; omega, acc.toList, c, by rw [ha]; exact LiI.vals_refs as, ?_⟩
      rw [Array.toArray_toList]
      exact hS
    · by_cases hb : b ∈ as
      · obtain ⟨j, hj⟩ := List.getElem?_of_mem hb
        obtain ⟨x, y, g1, g2, g3⟩ := T.pairs j b hj
        have hjl := (List.getElem?_eq_some_iff.mp hj).1
        have l1 := r1.length
        have l2 := r2.length
        obtain ⟨x', e1, rx⟩ := r1.get (List.getElem?_eq_getElem (show j < xs.length by omega))
        obtain ⟨y', e2, ry⟩ := r2.get (List.getElem?_eq_getElem (show j < ys.length by omega))
        have f1 : us[j]? = some x := by simpa using g1
        have f2 : vs[j]? = some y := by simpa using g2
        rw [e1] at f1
        rw [e2] at f2
        cases f1
        cases f2
        rw [upd_ne hb2, layP_at nd hj (List.getElem?_eq_getElem (show j < xs.length by omega)) (List.getElem?_eq_getElem (show j < ys.length by omega))] at q
        cases q
        exact ⟨by show 2 ≤ sizeLine; decide, [x, y], .cons rx (.cons ry .nil), ⟨_, g3, rfl, _, rfl⟩⟩
      · rw [off b hb hb2] at q
        exact (I.hok b u q).stay (fun d v _ y => hk d v y) (fun d y => kp d _ y) fun d xs y => kp d _ y
end
def tListZip (j k : Bool) (K : PySem.W.Frag) (ta : TA) : TE := fun σ H Q => ta σ H fun vs H1 => ∃ a b xs ys, vs = [.ref a, .ref b] ∧ SqX j K H1 a xs ∧ SqX k K H1 b ys ∧ min xs.length ys.length ≤ sizeLine ∧
  ∀ (p : Addr) (ts : List Addr), H1 p = none → (∀ t ∈ ts, H1 t = none) → p ∉ ts → ts.Nodup → ts.length = min xs.length ys.length → Q (.ref p) (upd (layP H1 ts xs ys) p (.lst (ts.map V.ref)))
theorem pe_listZip (j k : Bool) {X : Cx} {e e2 : Expr} {ta : TA} {p p1 pos pos1 : Pos} (hc : X.calm = true) (hg1 : Gl X "list") (hm1 : X.mg "list" = none) (hg : Gl X "zip") (hm : X.mg "zip" = none) (ha : PA X [e, e2] ta)
    (hs1 : starEach [.Call (.Name "zip" p) [e, e2] [] pos] X.env = (false, eval (.Call (.Name "zip" p) [e, e2] [] pos) X.env) :: starEach [] X.env := by rfl)
    (hs : starEach [e, e2] X.env = (false, eval e X.env) :: starEach [e2] X.env := by rfl) (hpl : (backTo pos (starEach [e2] X.env)).any (·.1) = false := by rfl) :
    PE X (.Call (.Name "list" p1) [.Call (.Name "zip" p) [e, e2] [] pos] [] pos1) (tListZip j k X.K ta) := by
  refine ⟨fun pins s σ H Q I hq => ?_⟩
  refine wpAny_Call_Name_kw (ld_blt I hg1 hm1 (show bootBuiltins "list" = some (.type "list") by decide +kernel) ?_)
  refine PyProof.Rows.callWith_type1 ?_ hs1 rfl
  rw [hs1]
  show wpAny _ _ (spliced ((false, eval (.Call (.Name "zip" p) [e, e2] [] pos) X.env) :: backTo pos1 (starEach [] X.env))) _ _ s
  refine Calls.spliced_cons ?_
  refine Call_ (ld_blt I hg hm PyProof.Rows.boot_zip (PyProof.Rows.callWith_type1 (thn (ha.run pos pins s σ H _ I hq) fun us s1 ⟨vs, H1, I1, rr, a, b, xs, ys, ev, q1, q2, hz, q⟩ => ?_) hs hpl))
  subst ev
  cases rr with
  | cons ra rr =>
    cases rr with
    | cons rb rr =>
      cases rr
      cases ra
      cases rb
      obtain ⟨u1, r1, p1⟩ := seqX I1 q1
      obtain ⟨u2, r2, p2⟩ := seqX I1 q2
      have beg : ∀ (k : Bool) (l : Addr) (its : Array Value), ∃ o : Obj, Begins (.ref l) o (fun h => IsX k h l its) ∧ ∀ (h : Heap) (it : Addr), h.get? it = some o → ItX k h it l 0 := fun k l its => by
        cases k with
        | true => exact ⟨_, begins_tuple l its, fun h it e => ⟨_, e, rfl, rfl⟩⟩
        | false => exact ⟨_, begins_list l its, fun h it e => ⟨_, e, rfl, rfl⟩⟩
      obtain ⟨o1, b1, g1⟩ := beg j a u1.toArray
      obtain ⟨o2, b2, g2⟩ := beg k b u2.toArray
      have lt : ∀ {k : Bool} {l : Addr} {its : Array Value}, IsX k s1.heap l its → l < s1.heap.objs.size := fun {k l its} x => by
        cases k with
        | true => obtain ⟨o, e, _⟩ := (show s1.heap.IsTuple l its from x); exact Heap.lt_size e
        | false => obtain ⟨o, e, _⟩ := (show s1.heap.IsList l its from x); exact Heap.lt_size e
      have keepX : ∀ {k : Bool} {l : Addr} {its : Array Value} {h' : Heap}, IsX k s1.heap l its → (∀ c o, s1.heap.get? c = some o → h'.get? c = some o) → IsX k h' l its := fun {k l its h'} x hk => by
        cases k with
        | true => exact (show s1.heap.IsTuple l its from x).at fun o e => hk _ o e
        | false => exact (show s1.heap.IsList l its from x).at fun o e => hk _ o e
      have la := lt p1
      have lb := lt p2
      have l1 := r1.length
      have l2 := r2.length
      refine zip_begins2 b1 b2 p1 p2 fun h' hz' hTI hTO h1 h2 hsz hk => ?_
      refine Calls.spliced_nil ?_
      have hsep : ZipSep2 (s1.heap.objs.size + 4) (s1.heap.objs.size + 2) (s1.heap.objs.size + 3) s1.heap.objs.size (s1.heap.objs.size + 1) [s1.heap.objs.size, a] [s1.heap.objs.size + 1, b] :=
        zip_sep2 (fun c hc => by rw [List.mem_singleton] at hc; rw [hc]; exact la) (fun c hc => by rw [List.mem_singleton] at hc; rw [hc]; exact lb)
      have hh : X.A.in1.handled = none := I1.ok.hd hc
      have le : ∀ {c : Addr}, s1.heap.objs.size ≤ c → ∀ {d : Addr} {o : Obj}, s1.heap.get? d = some o → d ≠ c := fun h d o e => Nat.ne_of_lt (Nat.lt_of_lt_of_le (Heap.lt_size e) h)
      refine zl_call (s := { s1 with heap := h' }) (P1 := fun i v => u1.toArray[i]? = some v) (P2 := fun i v => u2.toArray[i]? = some v) (n1 := u1.toArray.size) (n2 := u2.toArray.size) (St1 := fun i h => ItX j h s1.heap.objs.size a i ∧ IsX j h a u1.toArray) (St2 := fun i h => ItX k h (s1.heap.objs.size + 1) b i ∧ IsX k h b u2.toArray) hsep
        (fun B hB => drawsX j hB s1.heap.objs.size a (Nat.ne_of_lt la) u1.toArray) (fun B hB => drawsX k hB (s1.heap.objs.size + 1) b (Nat.ne_of_lt (Nat.lt_succ_of_lt lb)) u2.toArray) hh (by rw [List.size_toArray, List.size_toArray, ← l1, ← l2]; exact hz)
        hz' hTI ⟨_, _, hTO⟩ ⟨g1 _ _ h1, keepX p1 hk⟩ ⟨g2 _ _ h2, keepX p2 hk⟩ (fun c hcm => ?_) (fun c hcm => ?_) fun h'' tk acc c as hk' hS hac hal T => ?_
      · show c < h'.objs.size
        rw [hsz]
        rcases List.mem_cons.mp hcm with e | e
        · rw [e]; exact Nat.lt_add_of_pos_right (by decide)
        · rw [List.mem_singleton.mp e]; exact Nat.lt_of_lt_of_le la (Nat.le_add_right _ _)
      · show c < h'.objs.size
        rw [hsz]
        rcases List.mem_cons.mp hcm with e | e
        · rw [e]; exact Nat.add_lt_add_left (by decide) _
        · rw [List.mem_singleton.mp e]; exact Nat.lt_of_lt_of_le lb (Nat.le_add_right _ _)
      · have hal' : as.length = min xs.length ys.length := by rw [hal, List.size_toArray, List.size_toArray, ← l1, ← l2]
        obtain ⟨k1, k2, k3, k4, J⟩ := zl_laid (h' := h'') (tk := tk) (S0 := h'.objs.size) I1 hz r1 r2 (by rw [hsz]; exact Nat.le_add_right _ _) (fun d o e => hk' d o (le (Nat.le_add_right _ _) e) (le (Nat.le_add_right _ _) e) (le (Nat.le_refl _) e) (le (Nat.le_add_right _ _) e) (hk d o e)) hS hac hal' T
        exact ⟨.ref h'.objs.size, _, J, rfl, q _ as k1 k2 k3 k4 hal'⟩
section
variable {c : Ct} {F : Fp} {ρ : List Sl} {pos pos1 : Pos} {a b : Expr}
theorem wl_listZip (j k : Bool) {p p1 : Pos} {Φ : List PyData → List Sl → Prop} (h : WE c F a ρ fun d ρ1 => WE c F b ρ1 fun y ρ2 => ∃ xs ys, isTup d = some j ∧ itemsD d = some xs ∧ isTup y = some k ∧ itemsD y = some ys ∧ min xs.length ys.length ≤ 100000 ∧ Φ (pairsD xs ys) ρ2) (hm : c.mg "zip" = none) (hm1 : c.mg "list" = none)
    (hg : c.sc.names.lookup ("zip" : Str) = some NameKind.globalImplicit := by rfl) (hg1 : c.sc.names.lookup ("list" : Str) = some NameKind.globalImplicit := by rfl)
    (hs1 : ∀ env, starEach [.Call (.Name "zip" p) [a, b] [] pos] env = (false, eval (.Call (.Name "zip" p) [a, b] [] pos) env) :: starEach [] env := by intro _; rfl)
    (hs : ∀ env, starEach [a, b] env = (false, eval a env) :: starEach [b] env := by intro _; rfl) (hs2 : ∀ env, starEach [b] env = (false, eval b env) :: starEach [] env := by intro _; rfl)
    (hpl : ∀ env, (backTo pos (starEach [b] env)).any (·.1) = false := by intro _; rfl) : WL c F (.Call (.Name "list" p1) [.Call (.Name "zip" p) [a, b] [] pos] [] pos1) ρ Φ := fun B σ H0 H hF E R q =>
  wpE_of (t := tListZip j k c.K (tCons (wpE c a) (tCons (wpE c b) tNil))) (fun X hX => by rw [← hX.K]; exact pe_listZip j k hX.calm (by show X.env.scope.names.lookup _ = _; rw [hX.sc]; exact hg1) (by rw [hX.mg]; exact hm1) (by show X.env.scope.names.lookup _ = _; rw [hX.sc]; exact hg) (by rw [hX.mg]; exact hm) (pa_cons (peW hX) (pa_cons (peW hX) pa_nil (hs2 _)) (hs _)) (hs1 _) (hs _) (hpl _))
    (h B σ H0 H hF E _ fun v d ρ1 H1 H1' E1 e1 r1 k1 => k1 B σ H1 H1' hF E1 _ fun u y ρ2 H2 H2' E2 e2 r2 ⟨xs, ys, g1, g2, g3, g4, hl, k2⟩ => by
    obtain ⟨p1, vs, rfl, s1, rl1, st1⟩ := rp_seq (K := c.K) (r1.mono e2) g1 g2
    obtain ⟨p2, us, rfl, s2, rl2, st2⟩ := rp_seq (K := c.K) r2 g3 g4
    have l1 := rl1.length
    have l2 := rl2.length
    refine ⟨p1, p2, vs, us, rfl, st1 _ E2.ex, st2 _ E2.ex, Nat.le_trans (by rw [l1, l2]; exact hl) (by decide), fun p ts n1 n2 n3 n4 n5 => ?_⟩
    obtain ⟨Z, g, r⟩ := layP_grow E2.ex n2 n4 n5 rl1 rl2
    obtain ⟨E3, f⟩ := (E2.grow g).newL (p := p) (by rw [layP_off ts vs us _ n3]; exact n1) r
    exact q p _ _ ρ2 Z _ E3 ((e1.trans e2).trans g.fz) f k2)
end
end G

set_option Elab.async false
set_option linter.all false
set_option maxRecDepth 100000
set_option maxHeartbeats 1000000
namespace G
open PySem PySem.Spec PyProof.Rows L2
/-! ### keeping, by neighbours -/
theorem chn_zip {R : Nat → Nat → Prop} : ∀ {os : List Nat} {a : Nat}, chn R a os ↔ ∀ z ∈ List.zip (a :: os) os, R z.1 z.2
  | [], a => ⟨fun _ z h => (by cases h), fun _ => trivial⟩
  | b :: os, a => by
    have ih := chn_zip (R := R) (os := os) (a := b)
    constructor
    · rintro ⟨h1, h2⟩ z hz
      rcases List.mem_cons.mp hz with rfl | hz
      · exact h1
      · exact ih.mp h2 z hz
    · intro h
      exact ⟨h (a, b) List.mem_cons_self, ih.mpr fun z hz => h z (List.mem_cons_of_mem _ hz)⟩
def badZ (p T : List (List Cell)) (zs : List (Nat × Nat)) : List (Nat × Nat) := zs.filter fun z => decide (sh (T.getD z.2 []) (T.getD z.1 []) < lead (p.getD z.2 []))
theorem fits_iff {p : List (List Cell)} {n a : Nat} {os : List Nat} (hp : OkPage p n) (ho : (a :: os).Perm (List.range p.length)) (h0 : lead (p.getD a []) = 0) : (badZ p (tableOf p n) (List.zip (a :: os) os) = []) ↔ wrongN p n (a :: os) = [] := by
  rw [wrong_iff hp ho]
  unfold badZ
  rw [List.filter_eq_nil_iff]
  show _ ↔ lead (p.getD a []) = 0 ∧ chn (folR p (tableOf p n)) a os
  rw [chn_zip]
  constructor
  · intro h
    refine ⟨h0, fun z hz => ?_⟩
    have := h z hz
    rw [decide_eq_true_iff] at this
    unfold folR
    rw [sh_comm]
    omega
  · rintro ⟨_, h⟩ z hz
    have := h z hz
    unfold folR at this
    rw [sh_comm] at this
    rw [decide_eq_true_iff]
    omega
theorem not_fits {p : List (List Cell)} {n a : Nat} {os : List Nat} (hp : OkPage p n) (ho : (a :: os).Perm (List.range p.length)) (h0 : 0 < lead (p.getD a [])) : wrongN p n (a :: os) ≠ [] := fun h => by
  have := (wrong_iff hp ho).mp h
  have := this.1
  omega
/-- as many ones as there are items -/
def onesL {α : Type} (l : List α) : List PyData := l.map fun _ => PyData.int 1
theorem eqv_ones {α : Type} (l : List α) : PyData.eqv (.list (onesL l)) (.list []) = decide (l = []) := by
  cases l with
  | nil => rfl
  | cons a l => rw [decide_eq_false (fun h => by cases h)]; rfl
theorem okD_ones {α : Type} (l : List α) : okD (.list (onesL l)) := (okN_list (n := 0) fun d hd => by
  obtain ⟨_, _, rfl⟩ := List.mem_map.mp hd
  exact okN_int _).okD
theorem wrongN_nil {p : List (List Cell)} {n : Nat} {os : List Nat} : wrongZ (tableOf p n) (List.zip os (readL p n os)) = [] ↔ wrongN p n os = [] := by
  unfold wrongN
  constructor
  · intro h
    rw [h]
    exact List.eq_nil_of_length_eq_zero (by rw [List.length_mergeSort]; rfl)
  · intro h
    have := congrArg List.length h
    rw [List.length_mergeSort] at this
    exact List.eq_nil_of_length_eq_zero this
end G

set_option Elab.async false
set_option linter.all false
set_option maxRecDepth 100000
set_option maxHeartbeats 1000000
namespace G
open PySem PySem.Spec PyProof.Rows L2
/-! ### the text by places -/
def topS (i : Nat) : Stmt := PySem.Challenge.pw_dittorows_k08_orders_that_keep_a_page.main.body.getD i (.Pass ⟨0, 0, 0, 0⟩)
abbrev s_is_number : Stmt := topS 9
abbrev n_is_number : List Str := ["value", "count"]
theorem c_is_number : FnScope n_is_number ["value", "count"] (defScope s_is_number) := ⟨rfl, rfl, rfl, by decide +kernel, rfl, by decide +kernel, by decide +kernel⟩
abbrev s_is_order : Stmt := topS 10
abbrev n_is_order : List Str := ["value", "count", "entry"]
theorem c_is_order : FnScope n_is_order ["value", "count"] (defScope s_is_order) := ⟨rfl, rfl, rfl, by decide +kernel, rfl, by decide +kernel, by decide +kernel⟩
abbrev s_check_order : Stmt := topS 11
abbrev n_check_order : List Str := ["order", "count"]
theorem c_check_order : FnScope n_check_order ["order", "count"] (defScope s_check_order) := ⟨rfl, rfl, rfl, by decide +kernel, rfl, by decide +kernel, by decide +kernel⟩
abbrev s_is_value : Stmt := topS 12
abbrev n_is_value : List Str := ["cell", "sign"]
theorem c_is_value : FnScope n_is_value ["cell"] (defScope s_is_value) := ⟨rfl, rfl, rfl, by decide +kernel, rfl, by decide +kernel, by decide +kernel⟩
abbrev s_leading_blanks : Stmt := topS 13
abbrev n_leading_blanks : List Str := ["row", "blanks"]
theorem c_leading_blanks : FnScope n_leading_blanks ["row"] (defScope s_leading_blanks) := ⟨rfl, rfl, rfl, by decide +kernel, rfl, by decide +kernel, by decide +kernel⟩
abbrev s_is_printed_row : Stmt := topS 14
abbrev n_is_printed_row : List Str := ["value", "cell"]
theorem c_is_printed_row : FnScope n_is_printed_row ["value"] (defScope s_is_printed_row) := ⟨rfl, rfl, rfl, by decide +kernel, rfl, by decide +kernel, by decide +kernel⟩
abbrev s_are_printed_rows : Stmt := topS 15
abbrev n_are_printed_rows : List Str := ["value", "row"]
theorem c_are_printed_rows : FnScope n_are_printed_rows ["value"] (defScope s_are_printed_rows) := ⟨rfl, rfl, rfl, by decide +kernel, rfl, by decide +kernel, by decide +kernel⟩
abbrev s_read_rows : Stmt := topS 16
abbrev n_read_rows : List Str := ["rows", "above", "read", "row", "blanks"]
theorem c_read_rows : FnScope n_read_rows ["rows"] (defScope s_read_rows) := ⟨rfl, rfl, rfl, by decide +kernel, rfl, by decide +kernel, by decide +kernel⟩
abbrev s_is_page : Stmt := topS 18
abbrev n_is_page : List Str := ["value"]
theorem c_is_page : FnScope n_is_page ["value"] (defScope s_is_page) := ⟨rfl, rfl, rfl, by decide +kernel, rfl, by decide +kernel, by decide +kernel⟩
abbrev s_check_page : Stmt := topS 19
abbrev n_check_page : List Str := ["page"]
theorem c_check_page : FnScope n_check_page ["page"] (defScope s_check_page) := ⟨rfl, rfl, rfl, by decide +kernel, rfl, by decide +kernel, by decide +kernel⟩
abbrev s_filled : Stmt := topS 20
abbrev n_filled : List Str := ["page"]
theorem c_filled : FnScope n_filled ["page"] (defScope s_filled) := ⟨rfl, rfl, rfl, by decide +kernel, rfl, by decide +kernel, by decide +kernel⟩
abbrev s_keeps : Stmt := topS 22
abbrev n_keeps : List Str := ["page", "order"]
theorem c_keeps : FnScope n_keeps ["page", "order"] (defScope s_keeps) := ⟨rfl, rfl, rfl, by decide +kernel, rfl, by decide +kernel, by decide +kernel⟩
abbrev s_read_in : Stmt := topS 23
abbrev n_read_in : List Str := ["page", "order", "row"]
theorem c_read_in : FnScope n_read_in ["page", "order"] (defScope s_read_in) := ⟨rfl, rfl, rfl, by decide +kernel, rfl, by decide +kernel, by decide +kernel⟩
abbrev s_wrong_rows : Stmt := topS 24
abbrev n_wrong_rows : List Str := ["page", "order", "table", "read", "row", "meaning"]
theorem c_wrong_rows : FnScope n_wrong_rows ["page", "order"] (defScope s_wrong_rows) := ⟨rfl, rfl, rfl, by decide +kernel, rfl, by decide +kernel, by decide +kernel⟩
abbrev s_law_deck : Stmt := topS 26
abbrev n_law_deck : List Str := ["script", "pools", "k", "cell"]
theorem c_law_deck : FnScope n_law_deck ["script"] (defScope s_law_deck) := ⟨rfl, rfl, rfl, by decide +kernel, rfl, by decide +kernel, by decide +kernel⟩
abbrev s_law_draw : Stmt := topS 27
abbrev n_law_draw : List Str := ["deck", "many", "pool", "found", "mixed"]
theorem c_law_draw : FnScope n_law_draw ["deck", "many"] (defScope s_law_draw) := ⟨rfl, rfl, rfl, by decide +kernel, rfl, by decide +kernel, by decide +kernel⟩
abbrev s_law_same : Stmt := topS 28
abbrev n_law_same : List Str := ["found", "due", "one", "two"]
theorem c_law_same : FnScope n_law_same ["found", "due"] (defScope s_law_same) := ⟨rfl, rfl, rfl, by decide +kernel, rfl, by decide +kernel, by decide +kernel⟩
abbrev s_law_value : Stmt := topS 29
abbrev n_law_value : List Str := ["deck", "few", "signs", "turn"]
theorem c_law_value : FnScope n_law_value ["deck", "few"] (defScope s_law_value) := ⟨rfl, rfl, rfl, by decide +kernel, rfl, by decide +kernel, by decide +kernel⟩
abbrev s_law_table : Stmt := topS 30
abbrev n_law_table : List Str := ["deck", "most", "wide", "sizes", "many", "style", "few", "rows_here", "turn", "row", "cut", "spot"]
theorem c_law_table : FnScope n_law_table ["deck", "most", "wide"] (defScope s_law_table) := ⟨rfl, rfl, rfl, by decide +kernel, rfl, by decide +kernel, by decide +kernel⟩
abbrev s_law_shared : Stmt := topS 31
abbrev n_law_shared : List Str := ["row", "other", "found"]
theorem c_law_shared : FnScope n_law_shared ["row", "other"] (defScope s_law_shared) := ⟨rfl, rfl, rfl, by decide +kernel, rfl, by decide +kernel, by decide +kernel⟩
abbrev s_law_most : Stmt := topS 32
abbrev n_law_most : List Str := ["table_here", "row", "above"]
theorem c_law_most : FnScope n_law_most ["table_here"] (defScope s_law_most) := ⟨rfl, rfl, rfl, by decide +kernel, rfl, by decide +kernel, by decide +kernel⟩
abbrev s_law_with : Stmt := topS 33
abbrev n_law_with : List Str := ["table_here", "blanks", "row", "count"]
theorem c_law_with : FnScope n_law_with ["table_here", "blanks"] (defScope s_law_with) := ⟨rfl, rfl, rfl, by decide +kernel, rfl, by decide +kernel, by decide +kernel⟩
abbrev s_law_page : Stmt := topS 34
abbrev n_law_page : List Str := ["deck", "table_here", "style", "blanks", "count"]
theorem c_law_page : FnScope n_law_page ["deck", "table_here"] (defScope s_law_page) := ⟨rfl, rfl, rfl, by decide +kernel, rfl, by decide +kernel, by decide +kernel⟩
abbrev s_law_read : Stmt := topS 35
abbrev n_law_read : List Str := ["rows_here", "found", "row", "above", "spot", "cell"]
theorem c_law_read : FnScope n_law_read ["rows_here"] (defScope s_law_read) := ⟨rfl, rfl, rfl, by decide +kernel, rfl, by decide +kernel, by decide +kernel⟩
abbrev s_law_blanks : Stmt := topS 36
abbrev n_law_blanks : List Str := ["page_here", "row", "cell"]
theorem c_law_blanks : FnScope n_law_blanks ["page_here"] (defScope s_law_blanks) := ⟨rfl, rfl, rfl, by decide +kernel, rfl, by decide +kernel, by decide +kernel⟩
abbrev s_law_drawn : Stmt := topS 37
abbrev n_law_drawn : List Str := ["deck", "many", "left", "turn"]
theorem c_law_drawn : FnScope n_law_drawn ["deck", "many"] (defScope s_law_drawn) := ⟨rfl, rfl, rfl, by decide +kernel, rfl, by decide +kernel, by decide +kernel⟩
abbrev s_law_hosts : Stmt := topS 38
abbrev n_law_hosts : List Str := ["page_here", "blanks", "full", "row", "sequence", "found", "ahead", "count", "other"]
theorem c_law_hosts : FnScope n_law_hosts ["page_here"] (defScope s_law_hosts) := ⟨rfl, rfl, rfl, by decide +kernel, rfl, by decide +kernel, by decide +kernel⟩
abbrev s_law_kept_order : Stmt := topS 39
abbrev n_law_kept_order : List Str := ["deck", "page_here", "sequence", "hosts", "found", "row", "host"]
theorem c_law_kept_order : FnScope n_law_kept_order ["deck", "page_here"] (defScope s_law_kept_order) := ⟨rfl, rfl, rfl, by decide +kernel, rfl, by decide +kernel, by decide +kernel⟩
abbrev s_law_fits : Stmt := topS 40
abbrev n_law_fits : List Str := ["page_here", "row_order", "blanks", "full", "pairs", "above", "row"]
theorem c_law_fits : FnScope n_law_fits ["page_here", "row_order"] (defScope s_law_fits) := ⟨rfl, rfl, rfl, by decide +kernel, rfl, by decide +kernel, by decide +kernel⟩
abbrev s_law_orders : Stmt := topS 41
abbrev n_law_orders : List Str := ["many", "found", "turn", "longer", "row", "spot"]
theorem c_law_orders : FnScope n_law_orders ["many"] (defScope s_law_orders) := ⟨rfl, rfl, rfl, by decide +kernel, rfl, by decide +kernel, by decide +kernel⟩
abbrev s_law_is_kept : Stmt := topS 42
abbrev n_law_is_kept : List Str := ["page_here", "row_order", "full", "read", "row", "found"]
theorem c_law_is_kept : FnScope n_law_is_kept ["page_here", "row_order"] (defScope s_law_is_kept) := ⟨rfl, rfl, rfl, by decide +kernel, rfl, by decide +kernel, by decide +kernel⟩
abbrev s_law_right : Stmt := topS 43
abbrev n_law_right : List Str := ["page_here", "row_order", "kept", "due", "told"]
theorem c_law_right : FnScope n_law_right ["page_here", "row_order"] (defScope s_law_right) := ⟨rfl, rfl, rfl, by decide +kernel, rfl, by decide +kernel, by decide +kernel⟩
abbrev s_law_exchanged : Stmt := topS 44
abbrev n_law_exchanged : List Str := ["deck", "row_order", "found", "one", "two"]
theorem c_law_exchanged : FnScope n_law_exchanged ["deck", "row_order"] (defScope s_law_exchanged) := ⟨rfl, rfl, rfl, by decide +kernel, rfl, by decide +kernel, by decide +kernel⟩
abbrev s_law : Stmt := topS 45
abbrev n_law : List Str := ["script", "deck", "lap", "page_here", "row_order", "good"]
theorem c_law : FnScope n_law ["script"] (defScope s_law) := ⟨rfl, rfl, rfl, by decide +kernel, rfl, by decide +kernel, by decide +kernel⟩
end G

set_option Elab.async false
set_option linter.all false
set_option maxRecDepth 100000
set_option maxHeartbeats 2000000
namespace G
open PySem PySem.Spec PyProof.Rows L2
section
variable {P : Program} {w : World} {K : PySem.W.Frag} {mg : Str → Option Value} {base : Heap} {f : Addr} {fd : FuncData} {k : Nat}
theorem ok_inn (Fu : Fun K "is_number" "is_number" s_is_number f fd) (m : Mgs mg) : FnOk P w K mg base CX0 1 f fd ["value", "count"] (PF S_inn) := by
  refine pf_ok Fu c_is_number (fun ds Ψ ⟨r, s, e, _⟩ => by rw [e]; rfl) fun ds Ψ ⟨i, n, e, hΨ⟩ => ?_
  subst e
  show WSs _ _ _ [Sl.fz (.int i), Sl.fz (.int n)] _
  refine wss_cons (ws_if (wt_of (ww_or (wt_not (wt_val (we_isi (T := "int") (we_name 0 rfl ⟨true, (by decide +kernel : kitB "int" "int" = some true), _, rfl, ?_⟩) m.isi m.int (by decide +kernel)))))))
  refine ⟨fun _ => ww_one (wt_val (we_isi (T := "bool") (we_name 0 rfl ⟨false, (by decide +kernel : kitB "int" "bool" = some false), _, rfl, ?_⟩) m.isi m.bool (by decide +kernel))), fun h => nomatch h⟩
  refine ⟨(fun h => nomatch h), fun _ => wss_nil ?_⟩
  show WSs _ _ _ _ _
  refine wss_one (ws_ret (we_lelt (we_int (we_name 0 rfl ⟨_, _, rfl, rfl, fun h => we_name 1 rfl ⟨_, rfl, ?_⟩, fun h => ?_⟩))))
  · rw [h, Bool.true_and] at hΨ
    exact hΨ
  · rw [h, Bool.false_and] at hΨ
    exact hΨ

theorem ok_iso (Fu : Fun K "is_order" "is_order" s_is_order f fd) (m : Mgs mg) (cN : Cal P w K mg base 1 "is_number" (PF S_inn)) : FnOk P w K mg base CX0 2 f fd ["value", "count"] (PF S_iso) := by
  refine pf_ok Fu c_is_order (fun ds Ψ ⟨a, b, e, _⟩ => by rw [e]; rfl) fun ds Ψ ⟨os, L, e, ho, hL, hΨ⟩ => ?_
  subst e
  have hl := ord_len ho
  show WSs _ _ _ [Sl.fz (ordD os), Sl.fz (.int (L : Int)), Sl.un] _
  refine wss_cons (ws_if (wt_of (ww_or (wt_not (wt_val (we_isi (T := "tuple") (we_name 0 rfl ⟨true, (by decide +kernel : kitB "tuple" "tuple" = some true), _, rfl, fun _ => ?_, fun h => nomatch h⟩) m.isi m.tuple (by decide +kernel)))))))
  refine ww_one (wt_c (wc_neq (we_len (hm := m.len) (we_name 0 rfl ⟨os.length, by show (some (natL os).length) = _; unfold natL; rw [List.length_map], we_name 1 rfl ⟨okD_int _, okD_int _, false, ?_, (fun h => nomatch h), fun _ => wss_nil ?_⟩⟩))))
  · rw [hl, eqv_int, decide_eq_true rfl]; rfl
  refine wss_cons (ws_if (wt_not (wt_val (we_all (we_wl (wl_to1 [("entry", 2)] 2 (by kernel_rfl) (wi_tup (we_name 0 rfl ⟨_, rfl, (natL os).map fun _ => .bool true, ?_, ?_, Nat.lt_of_sub_pos (by exact of_decide_eq_true rfl), fun i d hd => ?_, ?_⟩)))) m.all))))
  · unfold natL; rw [List.length_map]; omega
  · rw [List.length_map]
  · unfold natL at hd ⊢
    rw [List.getElem?_map] at hd
    obtain ⟨x, hx, rfl⟩ := Option.map_eq_some_iff.mp hd
    have hlt := ord_lt ho x (List.mem_of_getElem? hx)
    refine we_call cN (wa_cons (we_name 2 rfl (wa_cons (we_name 1 rfl (wa_nil ⟨(x : Int), (L : Int), rfl, ?_, rfl⟩)))))
    rw [List.getElem?_map, List.getElem?_map, hx, decide_eq_true (by omega : (0 : Int) ≤ (x : Int)), decide_eq_true (by omega : (x : Int) < (L : Int))]
    rfl
  · refine ⟨List.replicate (natL os).length true, by rw [List.map_const', List.map_replicate], true, by rw [all_true], (fun h => nomatch h), fun _ => wss_nil ?_⟩
    show WSs _ _ _ _ _
    refine wss_one (ws_ret (we_c (wc_eq (we_sortedTup (hm := m.sorted) (we_name 0 rfl ⟨os.map fun (k : Nat) => (k : Int), by unfold ordD; rw [natL_ints], fun ks hp hs => we_wl (wl_listRg (hm := m.list) (hr := m.range) (we_name 1 rfl ⟨L, rfl, by omega, ?_⟩))⟩)))))
    have e : ks = (List.range L).map fun (k : Nat) => (k : Int) := sorted_unique (hp.trans (ho.map _)) hs (range_sorted L)
    have o := Ok0.nats (List.range L)
    have en : PyData.list (ks.map PyData.int) = natsD (List.range L) := by
      rw [e, natsD_ints]
    rw [en]
    refine ⟨o.ok, o.ok, ?_⟩
    have e2 : PyData.eqv (natsD (List.range L)) (.list (natL (List.range L))) = true := o.eq
    rw [e2]
    exact hΨ

theorem ok_cho (Fu : Fun K "check_order" "check_order" s_check_order f fd) (cA : Cal P w K mg base 2 "is_order" (PF S_iso)) : FnOk P w K mg base CX0 3 f fd ["order", "count"] (PF S_cho) := by
  refine pf_ok Fu c_check_order (fun ds Ψ ⟨r, n, e, _⟩ => by rw [e]; rfl) fun ds Ψ ⟨os, L, e, ho, hL, hΨ⟩ => ?_
  subst e
  show WSs _ _ _ [Sl.fz (ordD os), Sl.fz (.int (L : Int))] _
  exact wss_one (ws_if (wt_not (wt_val (we_call cA (wa_cons (we_name 0 rfl (wa_cons (we_name 1 rfl (wa_nil ⟨os, L, rfl, ho, hL, true, rfl, (fun h => nomatch h), fun _ => wss_nil hΨ⟩)))))))))

theorem ok_isv (Fu : Fun K "is_value" "is_value" s_is_value f fd) (m : Mgs mg) : FnOk P w K mg base CX0 (k + 1) f fd ["cell"] (PF S_isv) := by
  refine pf_ok Fu c_is_value (fun ds Ψ ⟨r, e, _⟩ => by rw [e]; rfl) fun ds Ψ ⟨s, e, hv, hΨ⟩ => ?_
  subst e
  obtain ⟨v1, v2, v3⟩ := hv
  show WSs _ _ _ [Sl.fz (.str s), Sl.un] _
  refine wss_cons (ws_if (wt_of (ww_or (wt_not (wt_val (we_isi (T := "str") (we_name 0 rfl ⟨true, (by decide +kernel : kitB "str" "str" = some true), _, rfl, ?_⟩) m.isi m.str (by decide +kernel)))))))
  refine ⟨fun _ => ww_one (wt_not (wt_lele (we_int (we_len (we_name 0 rfl ⟨s.length, if_pos (by omega), _, _, rfl, rfl, fun _ => we_globI m.ms ⟨8, rfl, ?_⟩, fun h => ?_⟩) m.len)))), fun h => nomatch h⟩
  · have e8 : decide ((s.length : Int) ≤ 8) = true := decide_eq_true (by omega)
    rw [e8]
    refine ⟨(fun h => nomatch h), fun _ => wss_nil ?_⟩
    show WSs _ _ _ _ _
    refine wss_one (ws_ret (we_all (we_wl (wl_lc [("sign", 1)] (pg_own 1) (by kernel_rfl) (wi_str (we_name 0 rfl ⟨s, rfl, fun i acc ρ => acc = List.replicate i (.bool true) ∧ ρ = [Sl.fz (.str s), Sl.un], ?_, ⟨rfl, rfl⟩, ?_, ?_⟩)))) m.all))
    · show (signsD s).length ≤ 90000
      unfold signsD
      rw [List.length_map, Array.length_toList]
      have : s.cps.size = s.length := rfl
      omega
    · rintro i d acc _ hd _ ⟨rfl, rfl⟩
      obtain ⟨q, hq, rfl⟩ : ∃ q, s.cps.toList[i]? = some q ∧ d = .str ⟨#[q]⟩ := by
        unfold signsD at hd
        rw [List.getElem?_map] at hd
        cases e : s.cps.toList[i]? with
        | none => rw [e] at hd; cases hd
        | some q => rw [e] at hd; exact ⟨q, rfl, (Option.some.inj hd).symm⟩
      refine ⟨_, gd_name 1, wts_nil ⟨fun _ => we_c (wc_inS (we_name 1 rfl (we_globS m.signs ⟨q, signsS, rfl, rfl, ?_, rfl⟩))), fun h => nomatch h⟩⟩
      rw [decide_eq_true (v3 q (List.mem_of_getElem? hq))]
      exact List.replicate_succ'.symm
    · rintro acc _ _ ⟨rfl, rfl⟩
      refine ⟨List.replicate _ true, by rw [List.map_replicate], ?_⟩
      rw [all_true]
      exact hΨ
  · have := of_decide_eq_false h
    omega

theorem ok_lead (Fu : Fun K "leading_blanks" "leading_blanks" s_leading_blanks f fd) (m : Mgs mg) : FnOk P w K mg base CX0 (k + 1) f fd ["row"] (PF S_lead) := by
  refine pf_ok Fu c_leading_blanks (fun ds Ψ ⟨r, e, _⟩ => by rw [e]; rfl) fun ds Ψ ⟨r, e, hΨ⟩ => ?_
  subst e
  show WSs _ _ _ [Sl.fz (rowD r), Sl.un] _
  refine wss_cons (ws_asg (we_int (wg_name 1 ?_)))
  refine wss_cons (ws_while (fun m ρ => ∃ i : Nat, ρ = [Sl.fz (rowD r), Sl.fz (.int (i : Int))] ∧ i ≤ lead r ∧ m = r.length - i) r.length ⟨0, rfl, Nat.zero_le _, rfl⟩ ?_)
  rintro m _ ⟨i, rfl, hi, rfl⟩
  refine wt_of (ww_and (wt_c (wc_lt (we_name 1 rfl (we_len (we_name 0 rfl ⟨r.length, by simp [rowD, lenD], _, rfl, _, rfl, ?_⟩) m.len)))))
  have hl := lead_le r
  refine ⟨fun h1 => ww_one (wt_c (wc_isN (we_idx (we_name 0 rfl (we_name 1 rfl ?_))))), fun h1 => ?_⟩
  · have h1 : i < r.length := by have := of_decide_eq_true h1; omega
    refine ⟨cellD r[i], ?_, ?_⟩
    · show atI (r.map cellD) (i : Int) = some (cellD r[i])
      exact atI_nat (by rw [List.getElem?_map, List.getElem?_eq_getElem h1]; rfl)
    · refine ⟨_, rfl, fun h2 => ?_, fun h2 => ?_⟩
      · refine wss_one (ws_inc 1 (we_int ⟨i, 1, rfl, rfl, r.length - (i + 1), by omega, i + 1, rfl, ?_, rfl⟩) rfl)
        have : i ≠ lead r := fun z => by
          obtain ⟨s, hs⟩ := lead_end (r := r) (by omega)
          rw [← z, List.getElem?_eq_getElem h1] at hs
          rw [Option.some.inj hs] at h2
          cases h2
        omega
      · refine wss_one (ws_ret (we_name 1 rfl ?_))
        have : i = lead r := Nat.le_antisymm hi (by
          apply Nat.not_lt.mp
          intro z
          have := lead_get z
          rw [List.getElem?_eq_getElem h1] at this
          rw [Option.some.inj this] at h2
          cases h2)
        rw [this]
        exact hΨ
  · have h1 : ¬ i < r.length := by have := of_decide_eq_false h1; omega
    have : i = lead r := by omega
    refine ⟨(fun h => nomatch h), fun _ => ?_⟩
    show WSs _ _ _ _ _
    refine wss_one (ws_ret (we_name 1 rfl ?_))
    rw [this]
    exact hΨ

theorem ok_ipr (Fu : Fun K "is_printed_row" "is_printed_row" s_is_printed_row f fd) (m : Mgs mg) (cL : Cal P w K mg base 1 "leading_blanks" (PF S_lead)) (cV : Cal P w K mg base 1 "is_value" (PF S_isv)) : FnOk P w K mg base CX0 2 f fd ["value"] (PF S_ipr) := by
  refine pf_ok Fu c_is_printed_row (fun ds Ψ ⟨r, e, _⟩ => by rw [e]; rfl) fun ds Ψ ⟨r, e, hr, hΨ⟩ => ?_
  subst e
  obtain ⟨v1, v2, v3⟩ := hr
  show WSs _ _ _ [Sl.fz (rowD r), Sl.un] _
  refine wss_cons (ws_if (wt_of (ww_or (wt_not (wt_val (we_isi (T := "tuple") (we_name 0 rfl ⟨true, (by decide +kernel : kitB "tuple" "tuple" = some true), _, rfl, ?_⟩) m.isi m.tuple (by decide +kernel)))))))
  refine ⟨fun _ => ww_one (wt_not (wt_lele (we_int (we_len (we_name 0 rfl ⟨r.length, by simp [rowD, lenD], _, _, rfl, rfl, fun _ => we_globI m.mc ⟨6, rfl, ?_⟩, fun h => ?_⟩) m.len)))), fun h => nomatch h⟩
  · rw [decide_eq_true (by omega : (r.length : Int) ≤ 6)]
    refine ⟨(fun h => nomatch h), fun _ => wss_nil ?_⟩
    show WSs _ _ _ _ _
    refine wss_one (ws_ret (we_all (we_wl (wl_map [("cell", 1)] 1 (fun _ => .bool true) (by kernel_rfl) (wi_tup (we_slice (we_name 0 rfl (wo_some (we_call cL (wa_cons (we_name 0 rfl (wa_nil ⟨r, rfl, _, rfl, wo_none ⟨_, rfl, _, rfl, ?_⟩⟩)))))))))) m.all))
    rw [cutD_from]
    refine ⟨by rw [List.length_drop, List.length_map]; omega, Nat.lt_of_sub_pos (by decide : 0 < 2 - 1), fun d hd => ?_, ?_⟩
    · rw [← List.map_drop] at hd
      obtain ⟨x, hx, rfl⟩ := List.mem_map.mp hd
      obtain ⟨s, rfl, hs⟩ := v3 x hx
      exact we_call cV (wa_cons (we_name 1 rfl (wa_nil ⟨s, rfl, hs, rfl, rfl⟩)))
    · exact all_const _ hΨ
  · have := of_decide_eq_false h
    omega

theorem ok_apr (Fu : Fun K "are_printed_rows" "are_printed_rows" s_are_printed_rows f fd) (m : Mgs mg) (cR : Cal P w K mg base 2 "is_printed_row" (PF S_ipr)) : FnOk P w K mg base CX0 3 f fd ["value"] (PF S_apr) := by
  refine pf_ok Fu c_are_printed_rows (fun ds Ψ ⟨r, n, e, _⟩ => by rw [e]; rfl) fun ds Ψ ⟨p, n, e, hp, hΨ⟩ => ?_
  subst e
  have lo := hp.lo
  have hi := hp.hi
  obtain ⟨r0, h0, m0, w0⟩ := hp.head
  show WSs _ _ _ [Sl.fz (pageD p), Sl.un] _
  refine wss_cons (ws_if (wt_of (ww_or (wt_not (wt_val (we_isi (T := "tuple") (we_name 0 rfl ⟨true, (by decide +kernel : kitB "tuple" "tuple" = some true), _, rfl, ?_⟩) m.isi m.tuple (by decide +kernel)))))))
  refine ⟨fun _ => ww_one (wt_not (wt_lele (we_int (we_len (we_name 0 rfl ⟨p.length, by simp [pageD, lenD], _, _, rfl, rfl, fun _ => we_globI m.mr ⟨60, rfl, ?_⟩, fun h => ?_⟩) m.len)))), fun h => nomatch h⟩
  · rw [decide_eq_true (by omega : (p.length : Int) ≤ 60)]
    refine ⟨(fun h => nomatch h), fun _ => wss_nil ?_⟩
    show WSs _ _ _ _ _
    refine wss_cons (ws_if (wt_not (wt_val (we_all (we_wl (wl_map [("row", 1)] 1 (fun _ => .bool true) (by kernel_rfl) (wi_tup (we_name 0 rfl ⟨_, rfl, ?_, Nat.lt_of_sub_pos (by decide : 0 < 2 - 1), fun d hd => ?_, ?_⟩)))) m.all))))
    · rw [List.length_map]; omega
    · obtain ⟨r, hr, rfl⟩ := List.mem_map.mp hd
      exact we_call cR (wa_cons (we_name 1 rfl (wa_nil ⟨r, rfl, hp.row r hr, rfl, rfl⟩)))
    · refine ⟨List.replicate p.length true, by rw [List.map_const', List.map_replicate, List.length_map], _, rfl, ?_⟩
      rw [all_true]
      refine ⟨(fun h => nomatch h), fun _ => wss_nil ?_⟩
      show WSs _ _ _ _ _
      refine wss_one (ws_ret (we_all (we_wl (wl_map [("row", 1)] 1 (fun _ => .bool true) (by kernel_rfl) (wi_tup (we_name 0 rfl ⟨_, rfl, ?_, Nat.lt_of_sub_pos (by decide : 0 < 2 - 1), fun d hd => ?_, ?_⟩)))) m.all))
      · rw [List.length_map]; omega
      · obtain ⟨r, hr, rfl⟩ := List.mem_map.mp hd
        refine we_c (wc_eq (we_len (we_name 1 rfl ⟨r.length, by simp [rowD, lenD], we_len (we_idx (we_name 0 rfl (we_int ⟨rowD r0, page_at h0, r0.length, by simp [rowD, lenD], okD_int _, okD_int _, ?_, rfl⟩))) m.len⟩) m.len))
        rw [eqv_int, hp.wide r hr, w0, decide_eq_true rfl]
      · exact all_const _ hΨ
  · have := of_decide_eq_false h
    omega

theorem ok_rr (Fu : Fun K "read_rows" "read_rows" s_read_rows f fd) (m : Mgs mg) (cL : Cal P w K mg base 1 "leading_blanks" (PF S_lead)) : FnOk P w K mg base CX0 2 f fd ["rows"] (PF S_rr) := by
  refine pf_ok Fu c_read_rows (fun ds Ψ ⟨r, s, e, _⟩ => by rw [e]; rfl) fun ds Ψ ⟨p, n, e, hp, hΨ⟩ => ?_
  subst e
  have lo := hp.lo
  have hi := hp.hi
  obtain ⟨r0, h0, m0, w0⟩ := hp.head
  have hn : 1 ≤ n ∧ n ≤ 6 := by have := hp.row r0 m0; rw [← w0]; exact ⟨this.1, this.2.1⟩
  show WSs _ _ _ [Sl.fz (pageD p), Sl.un, Sl.un, Sl.un, Sl.un] _
  refine wss_cons (ws_asg (we_mul (we_tup (wa_cons (we_none (wa_nil ⟨by decide, we_len (we_idx (we_name 0 rfl (we_int ⟨rowD r0, page_at h0, r0.length, len_row r0, _, .inr (.inl ⟨[.none], r0.length, rfl, rfl, rfl, by simp, by decide, by omega⟩), wg_name 1 ?_⟩))) m.len⟩))))))
  rw [w0, blankRow_D]
  refine wss_cons (ws_own 2 (wl_lst (wa_nil ⟨by decide, Nat.lt_of_sub_pos (by exact of_decide_eq_true rfl), ?_⟩)))
  refine wss_cons (ws_for (wi_tup (we_name 0 rfl ⟨_, rfl, fun i ρ => ∃ s3 s4, ρ = [Sl.fz (pageD p), Sl.fz (rowD (readE (blankRow n) (p.take i))), Sl.ow ((readR (blankRow n) (p.take i)).map rowD), s3, s4], ⟨_, _, rfl⟩, ?_, ?_⟩)))
  · rintro i d _ hd ⟨s3, s4, rfl⟩
    rw [List.getElem?_map] at hd
    obtain ⟨r, hr, rfl⟩ := Option.map_eq_some_iff.mp hd
    have hm := List.mem_of_getElem? hr
    have hrn := hp.wide r hm
    have hil : i < p.length := (List.getElem?_eq_some_iff.mp hr).1
    have hab : (readE (blankRow n) (p.take i)).length = n := readE_len (by simp [blankRow]) fun s hs => hp.wide s (List.mem_of_mem_take hs)
    refine wg_name 3 ?_
    refine wss_cons (ws_asg (we_call cL (wa_cons (we_name 3 rfl (wa_nil ⟨r, rfl, wg_name 4 ?_⟩)))))
    refine wss_cons (ws_asg (we_add (we_slice (we_name 1 rfl (wo_none (wo_some (we_name 4 rfl ⟨_, rfl, _, cut_row_to _ _, we_slice (we_name 3 rfl (wo_some (we_name 4 rfl ⟨_, rfl, wo_none ⟨_, cut_row_from _ _, _, cat_row ?_, wg_name 1 ?_⟩⟩)))⟩)))))))
    · rw [List.length_take, List.length_drop]; omega
    · refine wss_one (ws_append 2 (we_name 1 rfl ⟨_, rfl, ?_, .fz (rowD r), .fz (.int (lead r : Int)), ?_⟩) rfl)
      · rw [List.length_map, readR_length, List.length_take]; omega
      · rw [take_snoc hr, readR_append, readE_append, List.map_append]
        rfl
  · rintro _ ⟨s3, s4, rfl⟩
    rw [List.length_map, List.take_length]
    refine wss_one (ws_freeze 2 rfl (ws_ret (we_name 2 rfl ?_)))
    exact hΨ

theorem ok_isp (Fu : Fun K "is_page" "is_page" s_is_page f fd) (cA : Cal P w K mg base 3 "are_printed_rows" (PF S_apr)) (cL : Cal P w K mg base 1 "leading_blanks" (PF S_lead)) : FnOk P w K mg base CX0 4 f fd ["value"] (PF S_isp) := by
  refine pf_ok Fu c_is_page (fun ds Ψ ⟨r, n, e, _⟩ => by rw [e]; rfl) fun ds Ψ ⟨p, n, e, hp, hΨ⟩ => ?_
  subst e
  obtain ⟨r0, h0, m0, w0⟩ := hp.toOkRows.head
  show WSs _ _ _ [Sl.fz (pageD p)] _
  refine wss_one (ws_ret (we_and (we_call cA (wa_cons (we_name 0 rfl (wa_nil ⟨p, n, rfl, hp.toOkRows, true, rfl, fun _ => ?_, fun h => nomatch h⟩))))))
  refine we_one (we_c (wc_eq (we_call cL (wa_cons (we_idx (we_name 0 rfl (we_int ⟨rowD r0, page_at h0, wa_nil ⟨r0, rfl, we_int ⟨okD_int _, okD_int _, ?_⟩⟩⟩)))))))
  rw [eqv_int, hp.first r0 (by rw [List.head?_eq_getElem?]; exact h0)]
  exact hΨ

theorem ok_chp (Fu : Fun K "check_page" "check_page" s_check_page f fd) (cA : Cal P w K mg base 4 "is_page" (PF S_isp)) : FnOk P w K mg base CX0 5 f fd ["page"] (PF S_chp) := by
  refine pf_ok Fu c_check_page (fun ds Ψ ⟨r, n, e, _⟩ => by rw [e]; rfl) fun ds Ψ ⟨p, n, e, hp, hΨ⟩ => ?_
  subst e
  show WSs _ _ _ [Sl.fz (pageD p)] _
  exact wss_one (ws_if (wt_not (wt_val (we_call cA (wa_cons (we_name 0 rfl (wa_nil ⟨p, n, rfl, hp, true, rfl, (fun h => nomatch h), fun _ => wss_nil hΨ⟩)))))))

theorem ok_fil (Fu : Fun K "filled" "filled" s_filled f fd) (m : Mgs mg) (cC : Cal P w K mg base 5 "check_page" (PF S_chp)) (cR : Cal P w K mg base 2 "read_rows" (PF S_rr)) : FnOk P w K mg base CX0 6 f fd ["page"] (PF S_fil) := by
  refine pf_ok Fu c_filled (fun ds Ψ ⟨r, n, e, _⟩ => by rw [e]; rfl) fun ds Ψ ⟨p, n, e, hp, hΨ⟩ => ?_
  subst e
  show WSs _ _ _ [Sl.fz (pageD p)] _
  refine wss_cons (ws_expr (we_call cC (wa_cons (we_name 0 rfl (wa_nil ⟨p, n, rfl, hp, ?_⟩)))))
  exact wss_one (ws_ret (we_tuple (we_call cR (wa_cons (we_name 0 rfl (wa_nil ⟨p, n, rfl, hp.toOkRows, _, rfl, hΨ⟩)))) m.tuple))

def S_rrL (ds : List PyData) (Ψ : PyData → Prop) : Prop := ∃ (p : List (List Cell)) (n : Nat), ds = [.list (p.map rowD)] ∧ OkRows p n ∧ Ψ (.list ((readR (blankRow n) p).map rowD))
theorem ok_rrL (Fu : Fun K "read_rows" "read_rows" s_read_rows f fd) (m : Mgs mg) (cL : Cal P w K mg base 1 "leading_blanks" (PF S_lead)) : FnOk P w K mg base CX0 2 f fd ["rows"] (PF S_rrL) := by
  refine pf_ok Fu c_read_rows (fun ds Ψ ⟨r, s, e, _⟩ => by rw [e]; rfl) fun ds Ψ ⟨p, n, e, hp, hΨ⟩ => ?_
  subst e
  have lo := hp.lo
  have hi := hp.hi
  obtain ⟨r0, h0, m0, w0⟩ := hp.head
  have hn : 1 ≤ n ∧ n ≤ 6 := by have := hp.row r0 m0; rw [← w0]; exact ⟨this.1, this.2.1⟩
  show WSs _ _ _ [Sl.fz (.list (p.map rowD)), Sl.un, Sl.un, Sl.un, Sl.un] _
  refine wss_cons (ws_asg (we_mul (we_tup (wa_cons (we_none (wa_nil ⟨by decide, we_len (we_idx (we_name 0 rfl (we_int ⟨rowD r0, (by show atI (p.map rowD) ((0 : Nat) : Int) = _; exact atI_nat (by rw [List.getElem?_map, h0]; rfl)), r0.length, len_row r0, _, .inr (.inl ⟨[.none], r0.length, rfl, rfl, rfl, by simp, by decide, by omega⟩), wg_name 1 ?_⟩))) m.len⟩))))))
  rw [w0, blankRow_D]
  refine wss_cons (ws_own 2 (wl_lst (wa_nil ⟨by decide, Nat.lt_of_sub_pos (by exact of_decide_eq_true rfl), ?_⟩)))
  refine wss_cons (ws_for (wi_list (we_name 0 rfl ⟨_, rfl, fun i ρ => ∃ s3 s4, ρ = [Sl.fz (.list (p.map rowD)), Sl.fz (rowD (readE (blankRow n) (p.take i))), Sl.ow ((readR (blankRow n) (p.take i)).map rowD), s3, s4], ⟨_, _, rfl⟩, ?_, ?_⟩)))
  · rintro i d _ hd ⟨s3, s4, rfl⟩
    rw [List.getElem?_map] at hd
    obtain ⟨r, hr, rfl⟩ := Option.map_eq_some_iff.mp hd
    have hm := List.mem_of_getElem? hr
    have hrn := hp.wide r hm
    have hil : i < p.length := (List.getElem?_eq_some_iff.mp hr).1
    have hab : (readE (blankRow n) (p.take i)).length = n := readE_len (by simp [blankRow]) fun s hs => hp.wide s (List.mem_of_mem_take hs)
    refine wg_name 3 ?_
    refine wss_cons (ws_asg (we_call cL (wa_cons (we_name 3 rfl (wa_nil ⟨r, rfl, wg_name 4 ?_⟩)))))
    refine wss_cons (ws_asg (we_add (we_slice (we_name 1 rfl (wo_none (wo_some (we_name 4 rfl ⟨_, rfl, _, cut_row_to _ _, we_slice (we_name 3 rfl (wo_some (we_name 4 rfl ⟨_, rfl, wo_none ⟨_, cut_row_from _ _, _, cat_row ?_, wg_name 1 ?_⟩⟩)))⟩)))))))
    · rw [List.length_take, List.length_drop]; omega
    · refine wss_one (ws_append 2 (we_name 1 rfl ⟨_, rfl, ?_, .fz (rowD r), .fz (.int (lead r : Int)), ?_⟩) rfl)
      · rw [List.length_map, readR_length, List.length_take]; omega
      · rw [take_snoc hr, readR_append, readE_append, List.map_append]
        rfl
  · rintro _ ⟨s3, s4, rfl⟩
    rw [List.length_map, List.take_length]
    refine wss_one (ws_freeze 2 rfl (ws_ret (we_name 2 rfl ?_)))
    exact hΨ

def S_rei (ds : List PyData) (Ψ : PyData → Prop) : Prop := ∃ (p : List (List Cell)) (n : Nat) (os : List Nat), ds = [pageD p, ordD os] ∧ OkPage p n ∧ os.Perm (List.range p.length) ∧ Ψ (.list ((readR (blankRow n) (permT p os)).map rowD))
theorem ok_rei (Fu : Fun K "read_in" "read_in" s_read_in f fd) (m : Mgs mg) (cP : Cal P w K mg base 5 "check_page" (PF S_chp)) (cO : Cal P w K mg base 3 "check_order" (PF S_cho)) (cR : Cal P w K mg base 2 "read_rows" (PF S_rrL)) : FnOk P w K mg base CX0 6 f fd ["page", "order"] (PF S_rei) := by
  refine pf_ok Fu c_read_in (fun ds Ψ ⟨a, b, d, e, _⟩ => by rw [e]; rfl) fun ds Ψ ⟨p, n, os, e, hp, ho, hΨ⟩ => ?_
  subst e
  have hi := hp.hi
  have hl := ord_len ho
  show WSs _ _ _ [Sl.fz (pageD p), Sl.fz (ordD os), Sl.un] _
  refine wss_cons (ws_expr (we_call cP (wa_cons (we_name 0 rfl (wa_nil ⟨p, n, rfl, hp, ?_⟩)))))
  refine wss_cons (ws_expr (we_call cO (wa_cons (we_name 1 rfl (wa_cons (we_len (hm := m.len) (we_name 0 rfl ⟨p.length, len_page p, wa_nil ⟨os, p.length, rfl, ho, hi, ?_⟩⟩)))))))
  refine wss_one <| ws_ret <| we_call cR <| wa_cons <| we_wl <| wl_to1 [("row", 2)] 2 (by kernel_rfl) <| wi_tup <| we_name 1 rfl ⟨_, rfl, (permT p os).map rowD, ?_, ?_, Nat.lt_of_sub_pos (by exact of_decide_eq_true rfl), fun i d hd => ?_, wa_nil ⟨permT p os, n, rfl, permP_ok hp.toOkRows ho, hΨ⟩⟩
  · unfold natL; rw [List.length_map]; omega
  · unfold natL permT; rw [List.length_map, List.length_map, List.length_map]
  · unfold natL at hd
    obtain ⟨x, hx, rfl⟩ := nats_get hd
    have hlt := ord_lt ho x (List.mem_of_getElem? hx)
    refine we_idx <| we_name 0 rfl <| we_name 2 rfl ⟨rowD (p.getD x []), page_at (getD_at hlt), ?_, rfl⟩
    unfold permT
    rw [List.getElem?_map, List.getElem?_map, hx]
    rfl

def S_wro (ds : List PyData) (Ψ : PyData → Prop) : Prop := ∃ (p : List (List Cell)) (n : Nat) (os : List Nat), ds = [pageD p, ordD os] ∧ OkPage p n ∧ os.Perm (List.range p.length) ∧ Ψ (natsD (wrongN p n os))
theorem ok_wro (Fu : Fun K "wrong_rows" "wrong_rows" s_wrong_rows f fd) (m : Mgs mg) (cF : Cal P w K mg base 6 "filled" (PF S_fil)) (cR : Cal P w K mg base 6 "read_in" (PF S_rei)) : FnOk P w K mg base CX0 7 f fd ["page", "order"] (PF S_wro) := by
  refine pf_ok Fu c_wrong_rows (fun ds Ψ ⟨a, b, d, e, _⟩ => by rw [e]; rfl) fun ds Ψ ⟨p, n, os, e, hp, ho, hΨ⟩ => ?_
  subst e
  have hi := hp.hi
  have hl := ord_len ho
  have hTl := table_len p n
  have okT := hp.table
  have okP := permP_ok hp.toOkRows ho
  have hPl : (permT p os).length = os.length := List.length_map ..
  have hrl : (readL p n os).length = os.length := by unfold readL; rw [readR_length, hPl]
  have hrc : ∀ r ∈ readL p n os, ∀ x ∈ r, okC x := readR_cells (fun x hx s e => by
    unfold blankRow at hx
    rw [List.eq_of_mem_replicate hx] at e
    cases e) okP.cells
  show WSs _ _ _ [Sl.fz (pageD p), Sl.fz (ordD os), Sl.un, Sl.un, Sl.un, Sl.un] _
  refine wss_cons <| ws_asg <| we_call cF <| wa_cons <| we_name 0 rfl <| wa_nil ⟨p, n, rfl, hp, wg_name 2 ?_⟩
  refine wss_cons <| ws_asg <| we_call cR <| wa_cons <| we_name 0 rfl <| wa_cons <| we_name 1 rfl <| wa_nil ⟨p, n, os, rfl, hp, ho, wg_name 3 ?_⟩
  have hΨ : Ψ (natsD ((wrongZ (tableOf p n) (List.zip os (readL p n os))).mergeSort fun a b => decide (a ≤ b))) := hΨ
  show WSs _ _ _ [Sl.fz (pageD p), Sl.fz (ordD os), Sl.fz (pageD (tableOf p n)), Sl.fz (.list ((readL p n os).map rowD)), Sl.un, Sl.un] _
  generalize hrd : readL p n os = rd at hrl hrc hΨ
  refine wss_one <| ws_ret <| we_sorted (hm := m.sorted) <| we_wl <| wl_lc [("row", 4), ("meaning", 5)] (pg_own2 4 5) (by kernel_rfl) <| wi_zip true false (hm := m.zip) <| we_name 1 rfl <| we_name 3 rfl ⟨_, _, rfl, rfl, rfl, rfl, fun j acc ρ' => acc = natL (wrongZ (tableOf p n) ((List.zip os rd).take j)) ∧ ρ' = [Sl.fz (pageD p), Sl.fz (ordD os), Sl.fz (pageD (tableOf p n)), Sl.fz (.list (rd.map rowD)), Sl.un, Sl.un], ?_, ⟨rfl, rfl⟩, ?_, ?_⟩
  · rw [pairsD_len]; unfold natL; rw [List.length_map, List.length_map]; omega
  · rintro j d acc _ hd _ ⟨rfl, rfl⟩
    obtain ⟨x, y, h1, h2, rfl⟩ := pairsD_get hd
    unfold natL at h1
    obtain ⟨a, ha, rfl⟩ := nats_get h1
    rw [List.getElem?_map] at h2
    obtain ⟨r, hr, rfl⟩ := Option.map_eq_some_iff.mp h2
    have hlt := ord_lt ho a (List.mem_of_getElem? ha)
    have hT := getD_at (T := tableOf p n) (by omega : a < (tableOf p n).length)
    have hz : (List.zip os rd)[j]? = some (a, r) := zip_get ha hr
    refine ⟨_, gd_tup2 4 5, wts_one <| wt_c <| wc_neq <| we_name 5 rfl <| we_idx <| we_name 2 rfl <| we_name 4 rfl ⟨_, page_at hT, (okN_row (hrc r (List.mem_of_getElem? hr))).okD, (okN_row (okT.toOkRows.cells _ (List.mem_of_getElem? hT))).okD, !decide (r = (tableOf p n).getD a []), ?_, fun q => we_name 4 rfl ⟨?_, rfl⟩, fun q => ⟨?_, rfl⟩⟩⟩
    · rw [eqv_row]
    · rw [take_snoc hz]
      unfold wrongZ natL
      rw [List.filter_append, List.map_append, List.map_append]
      congr 1
      rw [List.filter_cons, if_pos q]
      rfl
    · rw [take_snoc hz]
      unfold wrongZ natL
      rw [List.filter_append, List.map_append, List.map_append, List.filter_cons, if_neg (by rw [q]; decide)]
      simp
  · rintro acc _ _ ⟨rfl, rfl⟩
    have el : (pairsD (natL os) (rd.map rowD)).length = (List.zip os rd).length := by rw [pairsD_len]; unfold natL; rw [List.length_map, List.length_map, List.length_zip]
    refine ⟨_, rfl, can_natL _, ?_⟩
    rw [nat_sort, el, List.take_length]
    exact hΨ

def S_kee (ds : List PyData) (Ψ : PyData → Prop) : Prop := ∃ (p : List (List Cell)) (n : Nat) (os : List Nat), ds = [pageD p, ordD os] ∧ OkPage p n ∧ os.Perm (List.range p.length) ∧ Ψ (.bool (decide (wrongN p n os = [])))
theorem ok_kee (Fu : Fun K "keeps" "keeps" s_keeps f fd) (cW : Cal P w K mg base 7 "wrong_rows" (PF S_wro)) : FnOk P w K mg base CX0 8 f fd ["page", "order"] (PF S_kee) := by
  refine pf_ok Fu c_keeps (fun ds Ψ ⟨a, b, d, e, _⟩ => by rw [e]; rfl) fun ds Ψ ⟨p, n, os, e, hp, ho, hΨ⟩ => ?_
  subst e
  show WSs _ _ _ [Sl.fz (pageD p), Sl.fz (ordD os)] _
  refine wss_one <| ws_ret <| we_c <| wc_eq <| we_call cW <| wa_cons <| we_name 0 rfl <| wa_cons <| we_name 1 rfl <| wa_nil ⟨p, n, os, rfl, hp, ho, we_lst <| wa_nil ⟨Nat.zero_le _, (okN_nats _).okD, (okN_nats []).okD, ?_⟩⟩
  show Ψ (.bool (PyData.eqv (natsD (wrongN p n os)) (natsD [])))
  rw [eqv_nats]
  exact hΨ

theorem ok_deck (Fu : Fun K "_law_deck" "_law_deck" s_law_deck f fd) (m : Mgs mg) : FnOk P w K mg base CX0 1 f fd ["script"] (spDeck K) := by
  refine Fu.ok c_law_deck (fun vs H Q E ⟨a, ns, e, _⟩ => by rw [e]; rfl) fun cdv A outer s H vs Q E hr ⟨a, ns, e, hS, hl, q⟩ => ?_
  subst e
  have nd : n_law_deck.Nodup := by decide +kernel
  refine ⟨_, pss_cons (ps_set (i := 1) nd rfl (Or.inl rfl) (pe_lst pa_nil))
    (pss_cons (ps_for PassesOwn.never rfl (pi_range1 rfl m.range (pa_cons (pe_callB (call_max2 rfl) rfl m.max (by decide +kernel) (pa_cons pe_int (pa_cons (pe_callB (call_min2 rfl) rfl m.min (by decide +kernel) (pa_cons pe_int (pa_cons (pe_len1 m.len rfl (pv 0)) pa_nil))) pa_nil))) pa_nil)) (pg_name (i := 2) nd rfl (Or.inl rfl))
      (pss_cons (ps_set (i := 3) nd rfl (Or.inl rfl) pe_int)
      (pss_cons (ps_if (pt_cmpR op_lt (pv 2) (pe_len1 m.len rfl (pv 0)) (nomark _)) (pss_one (ps_set (i := 3) nd rfl (Or.inl rfl) (pe_ix ix_list (pv 0) (pv 2) (by intro _ _; rfl)))) pss_nil)
      (pss_one (ps_expr (pe_bm PySem.F.plainAttrs_list PySem.F.slot_list_append PySem.F.type_list_append mt_append (pv 1) (pa_cons (pe_lst (pa_cons (pv 3) (pa_cons (pe_callTy call_int1 rfl m.int (by decide +kernel) (pa_cons (pe_cmpR op_ge (pv 3) (pe_op op_pow pe_int pe_int) (nomark _)) pa_nil)) (pa_cons (pe_op op_add (pe_op op_mulW pe_int (pv 2)) pe_int) pa_nil)))) pa_nil) rfl rfl rfl rfl rfl))))))
    (pss_one (ps_ret (pe_lst (pa_cons (pv 1) (pa_cons pe_int pa_nil)))))), ?_⟩
  refine ⟨(by show 0 ≤ sizeLine; decide), fun l hl => ?_⟩
  have e0 : Ex H (upd H l (.lst [])) := Ex.new hl
  have hS0 : SqL K (upd H l (.lst [])) a (ns.map V.int) := Same.seq (H := H) e0 hS
  refine ⟨_, rfl, a, _, rfl, .inl hS0, 63, _, rfl, 1, _, rfl, _, rfl, ?_, ?_, ?_⟩
  · rw [List.length_map]
    show _ ≤ _
    split <;> split <;> omega
  · rw [List.length_map]
    show _ < _
    split <;> split <;> omega
  · generalize hN : (if (if ((ns.map V.int).length : Int) < 63 then ((ns.map V.int).length : Int) else 63) > 1 then (if ((ns.map V.int).length : Int) < 63 then ((ns.map V.int).length : Int) else 63) else 1 : Int) = N
    have hN1 : 1 ≤ N ∧ N ≤ 63 := by
      rw [← hN, List.length_map]
      constructor
      · split <;> omega
      · split <;> split <;> omega
    refine for_range (lo := 0) (n := N.toNat) (fun i σ H1 => ∃ (ps : List Addr) (v2 v3 : Option V), σ = [some (.ref a), some (.ref l), v2, v3] ∧ Ex H H1 ∧ H1 l = some (.lst (ps.map V.ref)) ∧ ps.length = i ∧ ∀ p ∈ ps, H p = none ∧ p ≠ l ∧ ∃ x y z : Int, H1 p = some (.lst [.int x, .int y, .int z]) ∧ 0 ≤ z ∧ z ≤ 4000)
      ⟨[], none, none, rfl, e0, upd_same, rfl, fun p hp => by cases hp⟩ ?_ ?_
    · rintro i σ H1 hi ⟨ps, v2, v3, rfl, e1, h1, h2, h3⟩
      have hS1 : SqL K H1 a (ns.map V.int) := Same.seq (H := H) e1 hS
      refine ⟨_, rfl, _, rfl, a, _, rfl, .inl hS1, _, _, rfl, rfl, _, rfl, ?_⟩
      have hi' : (i : Int) < 63 := by omega
      have rest : ∀ (x : Int) (v3' : Option V), v3' = some (.int x) → ∀ (Q2 : L2.St → Hp → Prop), True := fun _ _ _ _ => trivial
      rcases Decidable.em ((0 + (i : Int) : Int) < (((ns.map V.int).length : Nat) : Int)) with hc | hc
      case' inl =>
        change (if decide (0 + (i : Int) < (((ns.map V.int).length : Nat) : Int)) = true then _ else _)
        rw [if_pos (decide_eq_true hc)]
        obtain ⟨x, hx⟩ : ∃ x, ns[i]? = some x := by
          rw [List.length_map] at hc
          exact ⟨ns[i]'(by omega), List.getElem?_eq_getElem (by omega)⟩
        refine ⟨_, rfl, _, rfl, a, _, _, .int x, rfl, rfl, hS1, (by rw [Int.zero_add]; exact atI_nat (by rw [List.getElem?_map, hx]; rfl)), ?_⟩
      case' inr =>
        change (if decide (0 + (i : Int) < (((ns.map V.int).length : Nat) : Int)) = true then _ else _)
        rw [if_neg (by rw [decide_eq_false hc]; decide)]
      all_goals
        refine ⟨_, rfl, .inl ⟨rfl, _, SqL.of h1⟩, ?_⟩
        refine ⟨_, rfl, _, rfl, 10, 18, rfl, rfl, (by unfold CPow; decide +kernel), _, _, rfl, rfl, .inr ⟨_, rfl, ?_⟩⟩
        refine ⟨_, rfl, 61, _, rfl, rfl, ?_, _, 37, rfl, rfl, (by show 3 ≤ sizeLine; decide), fun p hp => ?_⟩
        · unfold CMulW
          have b : (0 + (i : Int)).natAbs.log2 < 6 := log2_lt (by omega) (by decide)
          have b2 : (61 : Int).natAbs.log2 < 6 := log2_lt (by decide) (by decide)
          omega
        · have lp : l ≠ p := ne_of_none h1 hp
          refine ⟨l, ps.map V.ref, .ref p, rfl, rfl, (by rw [upd_ne lp]; exact h1), ?_, ?_⟩
          · rw [List.length_map]
            exact Nat.lt_of_lt_of_le (by omega : ps.length < 63) (by decide)
          · refine ⟨ps ++ [p], _, _, rfl, ?_, ?_, by rw [List.length_append, h2]; rfl, fun p' hp' => ?_⟩
            · intro b o hb
              rw [upd_ne (ne_of_none hb hl), upd_ne (ne_of_none (e1 b o hb) hp)]
              exact e1 b o hb
            · rw [upd_same, List.map_append]; rfl
            · rcases List.mem_append.mp hp' with hp' | hp'
              · obtain ⟨w0, w1, x, y, z, w, w2, w3⟩ := h3 p' hp'
                exact ⟨w0, w1, x, y, z, by rw [upd_ne w1, upd_ne (ne_of_none w hp)]; exact w, w2, w3⟩
              · cases List.mem_singleton.mp hp'
                refine ⟨?_, Ne.symm lp, _, _, _, by rw [upd_ne (Ne.symm lp), upd_same], by omega, by omega⟩
                cases z : H p with
                | none => rfl
                | some o => rw [e1 p o z] at hp; cases hp
    · rintro σ H1 ⟨ps, v2, v3, rfl, e1, h1, h2, h3⟩
      refine ⟨_, rfl, (by show 2 ≤ sizeLine; decide), fun d hd => ?_⟩
      have ld : l ≠ d := ne_of_none h1 hd
      refine q d ⟨fun x => x = d ∨ x = l ∨ x ∈ ps, d⟩ _ (e1.trans (Ex.new hd)) ⟨⟨.inl rfl, rfl⟩, l, 0, ps, upd_same, ?_, ⟨.inr (.inl rfl), ld, fun hp => (h3 l hp).2.1 rfl⟩, ?_, ?_, fun p hp => ⟨.inr (.inr hp), ?_⟩, fun p hp => ?_⟩ fun x hx => ?_
      · rw [upd_ne ld]; exact h1
      · intro z
        rw [z] at h2
        simp at h2
        omega
      · omega
      · obtain ⟨_, _, x, y, z, w, _⟩ := h3 p hp
        exact ne_of_none w hd
      · obtain ⟨_, _, x, y, z, w, w2, w3⟩ := h3 p hp
        exact ⟨x, y, z, by rw [upd_ne (ne_of_none w hd)]; exact w, w2, w3⟩
      · rcases hx with rfl | rfl | hx
        · refine ⟨?_, _, upd_same⟩
          cases z : H x with
          | none => rfl
          | some o => rw [e1 x o z] at hd; cases hd
        · exact ⟨hl, _, by rw [upd_ne ld]; exact h1⟩
        · obtain ⟨w0, _, x', y, z, w, w2, w3⟩ := h3 x hx
          exact ⟨w0, _, by rw [upd_ne (ne_of_none w hd)]; exact w⟩

theorem ok_draw (Fu : Fun K "_law_draw" "_law_draw" s_law_draw f fd) (m : Mgs mg) : FnOk P w K mg base CX0 1 f fd ["deck", "many"] (DF S_draw) := by
  refine Fu.ok c_law_draw (fun vs H Q E ⟨Fd, H0, a, ws, ds, n, Ψ, e0, e, hf, dk, r, ⟨k, h1, _⟩, _⟩ => by rw [e0, List.length_cons, r.length, h1]; rfl) fun cdv A outer s H vs Q E hr ⟨Fd, H0, a, ws, ds, n, Ψ, e0, e, hf, dk, r, ⟨k, h1, k0, k1, hn, hΨ⟩, q⟩ => ?_
  have hn : n < 2 ^ 1000 := hn
  subst e0 h1
  have hw : ws = [.int k] := by
    cases r with
    | cons r1 r2 =>
      cases r1
      cases r2
      rfl
  subst hw
  obtain ⟨⟨fa, ta⟩, l, c, ps, d1, d2, ⟨fl, la, lp⟩, d3, d4, d5, d6⟩ := dk
  have nd : n_law_draw.Nodup := by decide +kernel
  have gx : ∀ {X : Cx} {a b : Expr} {ta tb : TE} {pos : Pos}, PE X a ta → PE X b tb → PlainIx b → PE X (a.Subscript b pos) (tOp (rIxL X.K) ta tb) := fun h1 h2 h3 => pe_ix ix_list h1 h2 h3
  refine ⟨_, pss_cons (ps_set (i := 2) nd rfl (Or.inl rfl) (gx (gx (pv 0) pe_int (by intro _ _; rfl)) (pe_op op_mod (gx (pv 0) pe_int (by intro _ _; rfl)) (pe_callB call_len_seq rfl m.len (by decide +kernel) (pa_cons (gx (pv 0) pe_int (by intro _ _; rfl)) pa_nil))) (by intro _ _; rfl)))
    (pss_cons (ps_asg (pe_op op_add (gx (pv 0) pe_int (by intro _ _; rfl)) pe_int) (pg_sub (pv 0) pe_int set_list))
    (pss_cons (ps_if (PW.pt (pw_and (pt_cmpR op_eq (gx (pv 2) pe_int (by intro _ _; rfl)) pe_int (by first | exact nobehind _ (by decide) (by decide) | rfl)) (pw_and1 (pt_cmpR op_gt (gx (pv 2) pe_int (by intro _ _; rfl)) pe_int (by first | exact nobehind _ (by decide) (by decide) | rfl)))))
      (pss_cons (ps_set (i := 3) nd rfl (Or.inl rfl) (pe_op op_mod (gx (pv 2) pe_int (by intro _ _; rfl)) (pv 1)))
        (pss_cons (ps_asg (pe_op op_fdivW (gx (pv 2) pe_int (by intro _ _; rfl)) (pv 1)) (pg_sub (pv 2) pe_int set_list))
          (pss_one (ps_ret (pv 3)))))
      pss_nil)
    (pss_cons (ps_asg (pe_op op_add (gx (pv 2) pe_int (by intro _ _; rfl)) pe_int) (pg_sub (pv 2) pe_int set_list))
    (pss_cons (ps_set (i := 4) nd rfl (Or.inl rfl) (pe_op op_add (pe_op op_mod (gx (pv 2) pe_int (by intro _ _; rfl)) pe_int) (pe_op op_mulW pe_int (gx (pv 2) pe_int (by intro _ _; rfl)))))
    (pss_cons (ps_set (i := 4) nd rfl (Or.inl rfl) (pe_op op_mod (pe_op op_powB (pv 4) pe_int) pe_int))
    (pss_cons (ps_set (i := 4) nd rfl (Or.inl rfl) (pe_op op_mod (pe_op op_powB (pe_op op_add (pv 4) (pe_op op_mulW pe_int (gx (pv 2) pe_int (by intro _ _; rfl)))) pe_int) pe_int))
    (pss_one (ps_ret (pe_op op_mod (pe_op op_fdiv (pv 4) pe_int) (pv 1)))))))))), ?_⟩
  obtain ⟨pv', hat, hmem⟩ := atI_mod (xs := ps.map V.ref) (by intro z; exact d3 (List.map_eq_nil_iff.mp z)) c
  obtain ⟨p, hp, rfl⟩ := List.mem_map.mp hmem
  obtain ⟨fp, pa⟩ := d5 p hp
  obtain ⟨x, y, z, d7, z0, zn⟩ := d6 p hp
  have lp' : l ≠ p := fun e => lp (e ▸ hp)
  have hpos : (0 : Int) < ((ps.map V.ref).length : Int) := by
    rw [List.length_map]
    have := List.length_pos_iff.mpr d3
    omega
  refine ⟨_, rfl, a, _, 0, .ref l, rfl, rfl, SqL.of d1, atI_0, _, rfl, a, _, 1, .int c, rfl, rfl, SqL.of d1, atI_1, _, rfl, a, _, 0, .ref l, rfl, rfl, SqL.of d1, atI_0, l, _, rfl, .inl (SqL.of d2), c, _, rfl, rfl, hpos, l, _, _, .ref p, rfl, rfl, SqL.of d2, hat, ?_⟩
  refine ⟨_, rfl, a, _, 1, .int c, rfl, rfl, SqL.of d1, atI_1, c, 1, rfl, rfl, _, rfl, a, _, 1, 1, rfl, rfl, d1, rfl, ?_⟩
  have d8 : upd H a (.lst [.ref l, .int (c + 1)]) p = some (.lst [.int x, .int y, .int z]) := by rw [upd_ne pa]; exact d7
  -- the deck behind the draw
  have deck' : ∀ x' y' z' : Int, 0 ≤ z' → z' ≤ ((n + 1 : Nat) : Int) → Deck Fd (upd (upd H a (.lst [.ref l, .int (c + 1)])) p (.lst [.int x', .int y', .int z'])) a (n + 1) := fun x' y' z' hz hz' => by
    refine ⟨⟨fa, ta⟩, l, c + 1, ps, ?_, ?_, ⟨fl, la, lp⟩, d3, d4, d5, fun p' hp' => ?_⟩
    · rw [upd_ne (Ne.symm pa), upd_same]
    · rw [upd_ne lp', upd_ne la]
      exact d2
    · by_cases h : p' = p
      · subst h
        exact ⟨x', y', z', upd_same, hz, hz'⟩
      · obtain ⟨x2, y2, z2, w1, w2, w3⟩ := d6 p' hp'
        exact ⟨x2, y2, z2, by rw [upd_ne h, upd_ne (d5 p' hp').2]; exact w1, w2, by omega⟩
  have done : ∀ (x' y' z' i : Int), 0 ≤ z' → z' ≤ ((n + 1 : Nat) : Int) → 0 ≤ i → i < k → Q (.int i) (upd (upd H a (.lst [.ref l, .int (c + 1)])) p (.lst [.int x', .int y', .int z'])) := fun x' y' z' i hz hz' h0 h1 => by
    exact q _ _ _ H0 _ (DGrow.deck (p := p) (l := l) (c := c) (x := x) (y := y) (z := z) (ps := ps) (n := n) e hf fa fp) (deck' x' y' z' hz hz') (.int i) (hΨ i h0 h1)
  have tail : ∀ x1 : Int, True := fun _ => trivial
  refine ⟨_, rfl, p, _, 1, .int y, rfl, rfl, SqL.of d8, atI_1, rfl, _, rfl, ?_⟩
  rcases Decidable.em (y = 1) with hy | hy
  case' inl =>
    rw [if_pos (decide_eq_true (by rw [hy]))]
    refine ⟨_, rfl, p, _, 0, .int x, rfl, rfl, SqL.of d8, atI_0, x, 0, rfl, rfl, _, rfl, ?_⟩
    rcases Decidable.em (0 < x) with hx | hx
  case inl.inl =>
    rw [if_pos (decide_eq_true hx)]
    refine ⟨_, rfl, p, _, 0, .int x, rfl, rfl, SqL.of d8, atI_0, _, rfl, x, k, rfl, rfl, k0, ?_⟩
    refine ⟨_, rfl, p, _, 0, .int x, rfl, rfl, SqL.of d8, atI_0, _, rfl, x, k, rfl, rfl, ⟨k0, k1⟩, _, rfl, p, _, 0, 0, rfl, rfl, d8, rfl, ?_⟩
    refine ⟨_, rfl, ?_⟩
    exact done (x / k) y z (x % k) z0 (by omega) (Int.emod_nonneg _ (by omega)) (Int.emod_lt_of_pos _ k0)
  case' inl.inr => rw [if_neg (by rw [decide_eq_false hx]; decide)]
  case' inr => rw [if_neg (by rw [decide_eq_false (by intro z; exact hy (V.int.inj z))]; decide)]
  all_goals
    refine ⟨_, rfl, p, _, 2, .int z, rfl, rfl, SqL.of d8, atI_2, z, 1, rfl, rfl, _, rfl, p, _, 2, 2, rfl, rfl, d8, rfl, ?_⟩
    have d9 : upd (upd H a (.lst [.ref l, .int (c + 1)])) p (.lst [.int x, .int y, .int (z + 1)]) p = some (.lst [.int x, .int y, .int (z + 1)]) := upd_same
    have b1 := mul_big (c := 994009321) (by decide +kernel) z0 zn hn
    have b2 := mul_big (c := 49979687) (by decide +kernel) z0 zn hn
    have b3 := mod_big x (j := 162259276829213363391578010288127) (by decide) (by decide +kernel)
    refine ⟨_, rfl, p, _, 0, .int x, rfl, rfl, SqL.of d9, atI_0, x, 162259276829213363391578010288127, rfl, rfl, (by decide : (0 : Int) < 162259276829213363391578010288127), _, rfl, p, _, 2, .int (z + 1), rfl, rfl, SqL.of d9, atI_2, 994009321, z + 1, rfl, rfl, mulW_big (by decide +kernel) z0 zn hn, _, _, rfl, rfl, ?_⟩
    have b4 := mod_big ((x % 162259276829213363391578010288127 + 994009321 * (z + 1)) ^ (3 : Int).toNat) (j := 618970019642690137449562111) (by decide) (by decide +kernel)
    refine ⟨_, rfl, _, 3, rfl, rfl, powB_big b3.1 b3.2 b1.1 b1.2, _, _, rfl, rfl, (by decide : (0 : Int) < 618970019642690137449562111), ?_⟩
    refine ⟨_, rfl, _, rfl, p, _, 2, .int (z + 1), rfl, rfl, SqL.of d9, atI_2, 49979687, z + 1, rfl, rfl, mulW_big (by decide +kernel) z0 zn hn, _, _, rfl, rfl, _, 3, rfl, rfl, powB_big b4.1 b4.2 b2.1 b2.2, _, _, rfl, rfl, (by decide : (0 : Int) < 162259276829213363391578010288127), ?_⟩
    refine ⟨_, rfl, _, 32768, rfl, rfl, (by decide : (0 : Int) < 32768 ∧ (32768 : Int) < 1073741824), _, rfl, _, k, rfl, rfl, k0, ?_⟩
    exact done x y (z + 1) _ (by omega) (by omega) (Int.emod_nonneg _ (by omega)) (Int.emod_lt_of_pos _ k0)

theorem ok_same (Fu : Fun K "_law_same" "_law_same" s_law_same f fd) (m : Mgs mg) (mf : mg "_law_same" = some (.ref f)) (bd : Binds K fd ["found", "due"] []) : ∀ k : Nat, k ≤ 60 → FnOk P w K mg base CX0 (k + 1) f fd ["found", "due"] (PF (S_same k))
  | k, hk60 => by
    have ih : ∀ j, k = j + 1 → Cal P w K mg base k "_law_same" (PF (S_same j)) := fun j e => ⟨f, fd, _, by subst e; exact ok_same Fu m mf bd j (by omega), mf, Fu.kp, bd⟩
    refine pf_ok Fu c_law_same (fun ds Ψ ⟨r, e, _⟩ => by rw [e]; rfl) fun ds Ψ ⟨d, e, hd, hw, hΨ⟩ => ?_
    subst e
    have isi : ∀ (T : String) (b : Bool), kitB (tyN d) T = some b → kitB (tyN d) T = some b := fun _ _ h => h
    show WSs _ _ _ [Sl.fz d, Sl.fz d, Sl.un, Sl.un] _
    have scalar : isSeq d = false → kitB (tyN d) "list" = some false → kitB (tyN d) "tuple" = some false → (∃ b, kitB (tyN d) "bool" = some b) → WSs (ctOf P w K mg base n_law_same s_law_same k) noF (defBody s_law_same) [Sl.fz d, Sl.fz d, Sl.un, Sl.un] { nx := fun _ => Ψ .none, rt := fun d _ => Ψ d } := fun h0 h1 h2 ⟨b, h3⟩ => by
      refine wss_cons <| ws_if <| wt_val <| we_isi2 (A := "list") (B := "tuple") (we_name 1 rfl ⟨false, false, h1, h2, _, rfl, (fun h => nomatch h), fun _ => wss_nil ?_⟩) m.isi m.list m.tuple (by decide +kernel) (by decide +kernel)
      show WSs _ _ _ _ _
      by_cases hN : isNone d = true
      · refine wss_cons <| ws_if <| wt_of <| ww_or <| wt_c <| wc_isN <| we_name 1 rfl ⟨_, rfl, fun h => ?_, fun _ => ⟨fun _ => ?_, (fun h => nomatch h)⟩⟩
        · rw [hN] at h; cases h
        · refine wss_one <| ws_ret <| we_and <| we_c <| wc_isN <| we_name 1 rfl ⟨_, rfl, fun _ => we_one <| we_c <| wc_isN <| we_name 0 rfl ?_, fun h => ?_⟩
          · rw [hN]; exact hΨ
          · rw [hN] at h; cases h
      · have hN : isNone d = false := by cases q : isNone d with
          | false => rfl
          | true => exact absurd q hN
        refine wss_cons <| ws_if <| wt_of <| ww_or <| wt_c <| wc_isN <| we_name 1 rfl ⟨_, rfl, fun _ => ww_one <| wt_c <| wc_isN <| we_name 0 rfl ⟨_, rfl, fun h => ?_, fun _ => wss_nil ?_⟩, fun h => ?_⟩
        · rw [hN] at h; cases h
        · show WSs _ _ _ _ _
          refine wss_one <| ws_ret <| we_and <| we_c <| wc_eq <| we_isi (T := "bool") (we_name 0 rfl ⟨b, h3, we_isi (T := "bool") (we_name 1 rfl ⟨b, h3, ⟨rfl, by unfold SeqAt.shaped; simp [PyData.canLay0, PyData.depth]⟩, ⟨rfl, by unfold SeqAt.shaped; simp [PyData.canLay0, PyData.depth]⟩, true, ?_, fun _ => we_one <| we_c <| wc_eq <| we_name 0 rfl <| we_name 1 rfl ⟨hd.okD (by omega), hd.okD (by omega), ?_⟩, (fun h => nomatch h)⟩) m.isi m.bool (by decide +kernel)⟩) m.isi m.bool (by decide +kernel)
          · cases b <;> simp [PyData.eqv]
          · rw [eqv_self_scalar hd.pl h0]; exact hΨ
        · rw [hN] at h; cases h
    cases d with
    | none => exact scalar rfl (by decide +kernel : kitB "NoneType" "list" = some false) (by decide +kernel : kitB "NoneType" "tuple" = some false) ⟨false, (by decide +kernel : kitB "NoneType" "bool" = some false)⟩
    | bool v => exact scalar rfl (by decide +kernel : kitB "bool" "list" = some false) (by decide +kernel : kitB "bool" "tuple" = some false) ⟨true, (by decide +kernel : kitB "bool" "bool" = some true)⟩
    | int v => exact scalar rfl (by decide +kernel : kitB "int" "list" = some false) (by decide +kernel : kitB "int" "tuple" = some false) ⟨false, (by decide +kernel : kitB "int" "bool" = some false)⟩
    | str v => exact scalar rfl (by decide +kernel : kitB "str" "list" = some false) (by decide +kernel : kitB "str" "tuple" = some false) ⟨false, (by decide +kernel : kitB "str" "bool" = some false)⟩
    | dict _ => exact absurd hd.pl (fun h => nomatch h)
    | list xs =>
      obtain ⟨j, rfl⟩ : ∃ j, k = j + 1 := by
        have := hd.dp
        simp only [PyData.depth] at this
        exact ⟨k - 1, by omega⟩
      have items := okN_items (.inl hd)
      have hw' : PyData.weightAll xs ≤ 80000 := by simpa [PyData.weight] using hw
      have hl := weightAll_len xs
      refine wss_cons <| ws_if <| wt_val <| we_isi2 (A := "list") (B := "tuple") (we_name 1 rfl ⟨true, false, (by decide +kernel : kitB "list" "list" = some true), (by decide +kernel : kitB "list" "tuple" = some false), _, rfl, fun _ => ?_, (fun h => nomatch h)⟩) m.isi m.list m.tuple (by decide +kernel) (by decide +kernel)
      refine wss_cons <| ws_if <| wt_of <| ww_or <| wt_same <| we_isi (T := "list") (we_name 0 rfl ⟨true, (by decide +kernel : kitB "list" "list" = some true), we_isi (T := "list") (we_name 1 rfl ⟨true, (by decide +kernel : kitB "list" "list" = some true), rfl, Ok0.bool _, fun _ => ww_one <| wt_same <| we_isi (T := "tuple") (we_name 0 rfl ⟨false, (by decide +kernel : kitB "list" "tuple" = some false), we_isi (T := "tuple") (we_name 1 rfl ⟨false, (by decide +kernel : kitB "list" "tuple" = some false), rfl, Ok0.bool _, (fun h => nomatch h), fun _ => wss_nil ?_⟩) m.isi m.tuple (by decide +kernel)⟩) m.isi m.tuple (by decide +kernel), (fun h => nomatch h)⟩) m.isi m.list (by decide +kernel)⟩) m.isi m.list (by decide +kernel)
      show WSs _ _ _ _ _
      refine wss_cons <| ws_if <| wt_same <| we_len (hm := m.len) <| we_name 0 rfl ⟨xs.length, rfl, we_len (hm := m.len) <| we_name 1 rfl ⟨xs.length, rfl, rfl, Ok0.int _, (fun h => nomatch h), fun _ => wss_nil ?_⟩⟩
      show WSs _ _ _ _ _
      refine wss_one <| ws_ret <| we_same <| we_wl <| wl_lc [("one", 2), ("two", 3)] (pg_own2 2 3) (by kernel_rfl) <| wi_zip false false (we_name 0 rfl <| we_name 1 rfl ⟨xs, xs, rfl, rfl, rfl, rfl, fun i acc ρ' => acc = [] ∧ ρ' = [Sl.fz (.list xs), Sl.fz (.list xs), Sl.un, Sl.un], ?_, ⟨rfl, rfl⟩, ?_, ?_⟩) m.zip
      · rw [pairsD_len]; omega
      · rintro i d acc _ h _ ⟨rfl, rfl⟩
        obtain ⟨x, hx, rfl⟩ := pairs_self h
        have := weightAll_mem hx
        exact ⟨_, gd_tup2 2 3, wts_one <| wt_not <| wt_val <| we_call (hk := Nat.le_refl _) (ih j rfl) <| wa_cons <| we_name 2 rfl <| wa_cons <| we_name 3 rfl <| wa_nil ⟨x, rfl, items x hx, by omega, true, rfl, (fun h => nomatch h), fun _ => ⟨rfl, rfl⟩⟩⟩
      · rintro acc _ _ ⟨rfl, rfl⟩
        exact we_lst <| wa_nil ⟨Nat.zero_le _, rfl, Ok0.nil, hΨ⟩
    | tuple xs =>
      obtain ⟨j, rfl⟩ : ∃ j, k = j + 1 := by
        have := hd.dp
        simp only [PyData.depth] at this
        exact ⟨k - 1, by omega⟩
      have items := okN_items (.inr hd)
      have hw' : PyData.weightAll xs ≤ 80000 := by simpa [PyData.weight] using hw
      have hl := weightAll_len xs
      refine wss_cons <| ws_if <| wt_val <| we_isi2 (A := "list") (B := "tuple") (we_name 1 rfl ⟨false, true, (by decide +kernel : kitB "tuple" "list" = some false), (by decide +kernel : kitB "tuple" "tuple" = some true), _, rfl, fun _ => ?_, (fun h => nomatch h)⟩) m.isi m.list m.tuple (by decide +kernel) (by decide +kernel)
      refine wss_cons <| ws_if <| wt_of <| ww_or <| wt_same <| we_isi (T := "list") (we_name 0 rfl ⟨false, (by decide +kernel : kitB "tuple" "list" = some false), we_isi (T := "list") (we_name 1 rfl ⟨false, (by decide +kernel : kitB "tuple" "list" = some false), rfl, Ok0.bool _, fun _ => ww_one <| wt_same <| we_isi (T := "tuple") (we_name 0 rfl ⟨true, (by decide +kernel : kitB "tuple" "tuple" = some true), we_isi (T := "tuple") (we_name 1 rfl ⟨true, (by decide +kernel : kitB "tuple" "tuple" = some true), rfl, Ok0.bool _, (fun h => nomatch h), fun _ => wss_nil ?_⟩) m.isi m.tuple (by decide +kernel)⟩) m.isi m.tuple (by decide +kernel), (fun h => nomatch h)⟩) m.isi m.list (by decide +kernel)⟩) m.isi m.list (by decide +kernel)
      show WSs _ _ _ _ _
      refine wss_cons <| ws_if <| wt_same <| we_len (hm := m.len) <| we_name 0 rfl ⟨xs.length, rfl, we_len (hm := m.len) <| we_name 1 rfl ⟨xs.length, rfl, rfl, Ok0.int _, (fun h => nomatch h), fun _ => wss_nil ?_⟩⟩
      show WSs _ _ _ _ _
      refine wss_one <| ws_ret <| we_same <| we_wl <| wl_lc [("one", 2), ("two", 3)] (pg_own2 2 3) (by kernel_rfl) <| wi_zip true true (we_name 0 rfl <| we_name 1 rfl ⟨xs, xs, rfl, rfl, rfl, rfl, fun i acc ρ' => acc = [] ∧ ρ' = [Sl.fz (.tuple xs), Sl.fz (.tuple xs), Sl.un, Sl.un], ?_, ⟨rfl, rfl⟩, ?_, ?_⟩) m.zip
      · rw [pairsD_len]; omega
      · rintro i d acc _ h _ ⟨rfl, rfl⟩
        obtain ⟨x, hx, rfl⟩ := pairs_self h
        have := weightAll_mem hx
        exact ⟨_, gd_tup2 2 3, wts_one <| wt_not <| wt_val <| we_call (hk := Nat.le_refl _) (ih j rfl) <| wa_cons <| we_name 2 rfl <| wa_cons <| we_name 3 rfl <| wa_nil ⟨x, rfl, items x hx, by omega, true, rfl, (fun h => nomatch h), fun _ => ⟨rfl, rfl⟩⟩⟩
      · rintro acc _ _ ⟨rfl, rfl⟩
        exact we_lst <| wa_nil ⟨Nat.zero_le _, rfl, Ok0.nil, hΨ⟩

theorem ok_val (Fu : Fun K "_law_value" "_law_value" s_law_value f fd) (m : Mgs mg) (cD : Cal P w K mg base 1 "_law_draw" (DF S_draw)) : FnOk P w K mg base CX0 2 f fd ["deck", "few"] (DF S_val) := by
  refine df_ok Fu c_law_value (fun n ds Ψ ⟨k, e, _⟩ => by rw [e]; rfl) fun F n ds Ψ ⟨k, e, k1, k7, hn, hΨ⟩ => ?_
  subst e
  show WSs _ _ _ [Sl.dk n, Sl.fz (.int k), Sl.un, Sl.un] _
  refine wss_cons (ws_if (wt_c (wc_gt (we_draw 0 cD rfl (we_int ⟨n, 6, rfl, rfl, by decide, by decide +kernel, by omega, fun i i0 i1 => we_int ⟨_, rfl, ⟨_, rfl, fun h => ?_, fun h => ?_⟩⟩⟩)))))
  · refine wss_one (ws_ret (we_idx (we_lst (wa_cons (we_str (wa_cons (we_str (wa_cons (we_str (wa_cons (we_str (wa_cons (we_str (wa_cons (we_str (wa_cons (we_str (wa_nil ⟨Nat.le_of_sub_eq_zero (by exact of_decide_eq_true rfl), we_draw 0 cD rfl (we_name 1 rfl ⟨n + 1, k, rfl, rfl, by omega, ?_, by omega, fun j j0 j1 => ?_⟩)⟩))))))))))))))))))
    · exact lg (by omega) (by omega)
    · have hj : j = 0 ∨ j = 1 ∨ j = 2 ∨ j = 3 ∨ j = 4 ∨ j = 5 ∨ j = 6 := by omega
      rcases hj with rfl | rfl | rfl | rfl | rfl | rfl | rfl <;> exact ⟨_, rfl, 0, n + 1 + 1, rfl, rfl, hΨ _ _ (okV_of (by decide +kernel)) (by omega)⟩
  · refine wss_nil ?_
    show WSs _ _ _ _ _
    refine wss_cons (ws_asg (we_str (wg_name 2 ?_)))
    refine wss_one (ws_ret (we_join (we_str ⟨_, rfl, we_wl (wl_lc [("turn", 3)] (pg_own 3) (by kernel_rfl) (wi_rng1 (we_add (we_int (we_draw 0 cD rfl (we_int ⟨n + 1, 8, rfl, rfl, by decide, by decide +kernel, by omega, fun j j0 j1 => ⟨.int (1 + j), rfl, 1 + j, rfl, by omega, by omega,
      fun t acc ρ' => ∃ (ks : List Nat) (q : Nat), acc = ks.map (fun k => PyData.str ⟨#[k]⟩) ∧ ks.length = t ∧ (∀ x ∈ ks, x ∈ signsS.cps.toList) ∧ ρ' = [Sl.dk q, Sl.fz (.int k), Sl.fz (.str signsS), Sl.un] ∧ q ≤ n + 2 + t, ?_, ⟨[], n + 2, rfl, rfl, fun x hx => (by cases hx), rfl, by omega⟩, ?_, ?_⟩⟩)))) m.range))⟩)))
    · rw [rgD_len]; omega
    · rintro t d acc _ hd _ ⟨ks, q, rfl, hl, hk, rfl, hq⟩
      have ht := (rgD_get hd).1
      refine ⟨_, gd_name 3, wts_nil ⟨fun _ => we_idx (we_name 2 rfl (we_draw 0 cD rfl (we_int ⟨q, 36, rfl, rfl, by decide, by decide +kernel, by omega, fun x x0 x1 => ?_⟩))), fun h => nomatch h⟩⟩
      obtain ⟨y, hy, hi⟩ := sign_at x0 x1
      refine ⟨_, hi, ks ++ [y], q + 1, by rw [List.map_append]; rfl, by rw [List.length_append, hl]; rfl, fun z hz => ?_, rfl, by omega⟩
      rcases List.mem_append.mp hz with hz | hz
      · exact hk z hz
      · cases List.mem_singleton.mp hz
        exact hy
    · rintro acc _ _ ⟨ks, q, rfl, hl, hk, rfl, hq⟩
      rw [rgD_len] at hl hq
      refine ⟨ks.map fun k => (⟨#[k]⟩ : Str), by rw [List.map_map]; rfl, ?_, 0, q, rfl, rfl, ?_⟩
      · rw [ones_sum, List.length_map]
        have e : (Str.ofString "").length = 0 := by decide +kernel
        rw [e]
        omega
      · rw [show (Str.ofString "" : Str) = Str.empty from rfl, glued_one]
        exact hΨ _ _ (toStr_ok (by omega) (by omega) hk) (by omega)

theorem ok_tab (Fu : Fun K "_law_table" "_law_table" s_law_table f fd) (m : Mgs mg) (cD : Cal P w K mg base 1 "_law_draw" (DF S_draw)) (cV : Cal P w K mg base 2 "_law_value" (DF S_val)) : FnOk P w K mg base CX0 3 f fd ["deck", "most", "wide"] (DF S_tab) := by
  refine df_ok Fu c_law_table (fun n ds Ψ ⟨a, b, e, _⟩ => by rw [e]; rfl) fun F n ds Ψ ⟨most, wide, e, m1, m60, w1, w6, hn, hΨ⟩ => ?_
  subst e
  show WSs _ _ _ [Sl.dk n, Sl.fz (.int (most : Int)), Sl.fz (.int (wide : Int)), Sl.un, Sl.un, Sl.un, Sl.un, Sl.un, Sl.un, Sl.un, Sl.un, Sl.un] _
  -- sizes
  refine wss_cons (ws_asg (we_lst (wa_cons (we_add (we_int (we_draw 0 cD rfl (we_min (we_name 1 rfl (we_int ⟨_, _, rfl, rfl, n, _, rfl, rfl, ?_, ?_, by omega, fun a a0 a1 => ⟨_, rfl, ?_⟩⟩)) m.min)))))))
  · split <;> omega
  · exact lg (by split <;> omega) (by split <;> omega)
  refine wa_cons (we_add (we_int (we_draw 0 cD rfl (we_name 1 rfl ⟨n + 1, _, rfl, rfl, by omega, lg (by omega) (by omega), by omega, fun b b0 b1 => ⟨_, rfl, wa_cons (we_name 1 rfl (wa_nil ⟨few_ok (n := 3) rfl, wg_name 3 ?_⟩))⟩⟩))))
  have a1' : 1 + a ≤ (most : Int) := by
    revert a1
    split <;> omega
  -- many, style, few, rows_here
  refine wss_cons (ws_par4 4 5 6 7 (we_idx (we_name 3 rfl (we_draw 0 cD rfl (we_int ⟨n + 1 + 1, 3, rfl, rfl, by decide, by decide +kernel, by omega, fun x x0 x1 => ?_⟩)))))
  obtain ⟨many, hm1, hm2, hm⟩ : ∃ many : Nat, 1 ≤ many ∧ many ≤ most ∧ idxD (.list [.int (1 + a), .int (1 + b), .int (most : Int)]) (.int x) = some (.int (many : Int)) := by
    have hx : x = 0 ∨ x = 1 ∨ x = 2 := by omega
    rcases hx with rfl | rfl | rfl
    · exact ⟨(1 + a).toNat, by omega, by omega, by rw [show (((1 + a).toNat : Nat) : Int) = 1 + a by omega]; rfl⟩
    · exact ⟨(1 + b).toNat, by omega, by omega, by rw [show (((1 + b).toNat : Nat) : Int) = 1 + b by omega]; rfl⟩
    · exact ⟨most, m1, Nat.le_refl _, rfl⟩
  refine ⟨_, hm, we_draw 0 cD rfl (we_int ⟨n + 1 + 1 + 1, 4, rfl, rfl, by decide, by decide +kernel, by omega, fun style s0 s1 => we_add (we_int (we_draw 0 cD rfl (we_int ⟨n + 1 + 1 + 1 + 1, 7, rfl, rfl, by decide, by decide +kernel, by omega, fun few f0 f1 => ⟨_, rfl, ?_⟩⟩)))⟩)⟩
  refine ⟨Nat.lt_of_sub_pos (by exact of_decide_eq_true rfl), Nat.lt_of_sub_pos (by exact of_decide_eq_true rfl), Nat.lt_of_sub_pos (by exact of_decide_eq_true rfl), Nat.lt_of_sub_pos (by exact of_decide_eq_true rfl), ?_⟩
  generalize hz : PyData.list [.int (1 + a), .int (1 + b), .int (most : Int)] = sizes
  show WSs _ _ _ [Sl.dk (n + 5), Sl.fz (.int (most : Int)), Sl.fz (.int (wide : Int)), Sl.fz sizes, Sl.fz (.int (many : Int)), Sl.fz (.int style), Sl.fz (.int (1 + few)), Sl.ow [], Sl.un, Sl.un, Sl.un, Sl.un] _
  -- the rows
  refine wss_cons (ws_for (wi_rng1 (we_name 4 rfl ⟨_, rfl, by omega, by omega, fun i ρ => ∃ (t : List (List Cell)) (q : Nat) (s8 s9 s10 : Sl), ρ = [Sl.dk q, Sl.fz (.int (most : Int)), Sl.fz (.int (wide : Int)), Sl.fz sizes, Sl.fz (.int (many : Int)), Sl.fz (.int style), Sl.fz (.int (1 + few)), Sl.ow (t.map rowD), s8, s9, s10, Sl.un] ∧ t.length = i ∧ (∀ r ∈ t, Full r ∧ r.length = wide) ∧ q ≤ n + 5 + 130 * i,
    ⟨[], n + 5, _, _, _, rfl, rfl, fun r hr => (by cases hr), by omega⟩, ?_, ?_⟩) m.range))
  · rintro i d _ hd ⟨t, q, s8, s9, s10, rfl, hl, ht, hq⟩
    have hi := (rgD_get hd).1
    have hi' : i < 60 := by omega
    refine wg_name 8 ?_
    refine wss_cons (ws_asg (we_tuple (we_wl (wl_lc [("spot", 11)] (pg_own 11) (by kernel_rfl) (wi_rng1 (we_name 2 rfl ⟨_, rfl, by omega, by omega, fun j acc ρ' => ∃ (r : List Cell) (q' : Nat), acc = r.map cellD ∧ r.length = j ∧ Full r ∧ ρ' = [Sl.dk q', Sl.fz (.int (most : Int)), Sl.fz (.int (wide : Int)), Sl.fz sizes, Sl.fz (.int (many : Int)), Sl.fz (.int style), Sl.fz (.int (1 + few)), Sl.ow (t.map rowD), Sl.fz d, s9, s10, Sl.un] ∧ q' ≤ q + 20 * j,
      ?_, ⟨[], q, rfl, rfl, fun x hx => (by cases hx), rfl, by omega⟩, ?_, ?_⟩) m.range))) m.tuple))
    · rw [rgD_len]; omega
    · rintro j e acc _ he _ ⟨r, q', rfl, hr, hf, rfl, hq'⟩
      have hj := (rgD_get he).1
      refine ⟨_, gd_name 11, wts_nil ⟨fun _ => we_callD 0 cV (wa_cons (we_name 6 rfl (wa_nil ⟨q', rfl, 1 + few, rfl, by omega, by omega, by omega, fun s m2 hs hm2 => ?_⟩))) rfl, fun h => nomatch h⟩⟩
      refine ⟨r ++ [some s], m2, by rw [List.map_append]; rfl, by rw [List.length_append, hr]; rfl, fun x hx => ?_, rfl, by omega⟩
      rcases List.mem_append.mp hx with hx | hx
      · exact hf x hx
      · cases List.mem_singleton.mp hx
        exact ⟨s, rfl, hs⟩
    · rintro acc _ _ ⟨r, q', rfl, hr, hf, rfl, hq'⟩
      rw [rgD_len] at hr hq'
      have hr : r.length = wide := by omega
      refine ⟨_, rfl, wg_name 9 ?_⟩
      show WSs _ _ _ [Sl.dk q', Sl.fz (.int (most : Int)), Sl.fz (.int (wide : Int)), Sl.fz sizes, Sl.fz (.int (many : Int)), Sl.fz (.int style), Sl.fz (.int (1 + few)), Sl.ow (t.map rowD), Sl.fz d, Sl.fz (rowD r), s10, Sl.un] _
      have o1 : okD (.list (t.map rowD)) := (okN_list (n := 1) fun d hd => by
        obtain ⟨r, hr, rfl⟩ := List.mem_map.mp hd
        exact okN_row (ht r hr).1.cells).okD
      have o2 : okD (.list []) := (okN_list (n := 1) fun d hd => (by cases hd)).okD
      refine wss_cons (ws_if (wt_of (ww_and (wt_c (wc_gt (we_name 5 rfl (we_int ⟨_, rfl, _, rfl, fun h1 => ww_one (wt_look (wt_c (wc_neq (we_name 7 rfl (we_lst (wa_nil ⟨Nat.zero_le _, o1, o2, _, rfl, rfl, fun h2 => ?tt, fun h2 => ?tf⟩)))))), fun h1 => ⟨(fun h => nomatch h), fun _ => ?f⟩⟩)))))))
      case tt =>
        have hne : t ≠ [] := fun z => by
          subst z
          exact absurd h2 (by decide +kernel)
        obtain ⟨lastD, hlast, hmem⟩ := atI_last (xs := t.map rowD) (by simpa using hne)
        obtain ⟨lastR, hlr, rfl⟩ := List.mem_map.mp hmem
        obtain ⟨lf, ll⟩ := ht lastR hlr
        refine wss_cons (ws_asg (we_draw 0 cD rfl (we_add (we_name 2 rfl (we_int ⟨_, rfl, q', (wide : Int) + 1, rfl, rfl, by omega, lg (by omega) (by omega), by omega, fun cut c0 c1 => wg_name 10 ?_⟩)))))
        obtain ⟨ct, rfl⟩ := Int.eq_ofNat_of_zero_le c0
        refine wss_one (ws_asg (we_add (we_slice (we_ownix 7 (we_neg (we_int ⟨1, rfl, _, _, _, rfl, rfl, hlast, wo_none (wo_some (we_name 10 rfl ⟨_, rfl, _, cut_row_to _ _, we_slice (we_name 9 rfl (wo_some (we_name 10 rfl ⟨_, rfl, wo_none ⟨_, cut_row_from _ _, _, cat_row ?_, wg_name 9 ?_⟩⟩)))⟩))⟩)) rfl))))
        · rw [List.length_take, List.length_drop]; omega
        · refine wss_one (ws_append 7 (we_name 9 rfl ⟨_, rfl, ?_, t ++ [lastR.take ct ++ r.drop ct], q' + 1, .fz d, .fz (rowD (lastR.take ct ++ r.drop ct)), .fz (.int (ct : Int)), ?_, ?_, ?_, ?_⟩) rfl)
          · rw [List.length_map]; omega
          · rw [List.map_append]; rfl
          · rw [List.length_append, hl]; rfl
          · intro r2 hr2
            rcases List.mem_append.mp hr2 with hr2 | hr2
            · exact ht r2 hr2
            · cases List.mem_singleton.mp hr2
              exact ⟨(lf.take _).append (hf.drop _), by rw [List.length_append, List.length_take, List.length_drop]; omega⟩
          · omega
      all_goals
        refine wss_nil ?_
        show WSs _ _ _ _ _
        refine wss_one (ws_append 7 (we_name 9 rfl ⟨_, rfl, ?_, t ++ [r], q', .fz d, .fz (rowD r), s10, ?_, ?_, ?_, ?_⟩) rfl)
        · rw [List.length_map]; omega
        · rw [List.map_append]; rfl
        · rw [List.length_append, hl]; rfl
        · intro r2 hr2
          rcases List.mem_append.mp hr2 with hr2 | hr2
          · exact ht r2 hr2
          · cases List.mem_singleton.mp hr2
            exact ⟨hf, hr⟩
        · omega
  · rintro _ ⟨t, q, s8, s9, s10, rfl, hl, ht, hq⟩
    rw [rgD_len] at hl hq
    have hl : t.length = many := by omega
    refine wss_one (ws_freeze 7 rfl (ws_ret (we_tuple (we_ife (wt_c (wc_eq (we_name 5 rfl (we_int ⟨okD_int _, okD_int _, _, rfl, fun h => ?_, fun h => ?_⟩))))) m.tuple)))
    · refine we_sorted (we_name 7 rfl ⟨_, rfl, can_sort w1 ht, _, rfl, 0, q, rfl, rfl, ?_⟩) m.sorted
      rw [sort_rows]
      exact hΨ _ _ (full_table (by rw [List.length_mergeSort]; omega) (by rw [List.length_mergeSort]; omega) ⟨w1, w6⟩ fun r hr => ht r (List.mem_mergeSort.mp hr)) (by rw [List.length_mergeSort]; omega) (by omega)
    · exact we_name 7 rfl ⟨_, rfl, 0, q, rfl, rfl, hΨ _ _ (full_table (by omega) (by omega) ⟨w1, w6⟩ ht) (by omega) (by omega)⟩

theorem ok_lsh (Fu : Fun K "_law_shared" "_law_shared" s_law_shared f fd) (m : Mgs mg) : FnOk P w K mg base CX0 1 f fd ["row", "other"] (PF S_vs) := by
  refine pf_ok Fu c_law_shared (fun ds Ψ ⟨r, s, e, _⟩ => by rw [e]; rfl) fun ds Ψ ⟨r, s, e, hr, hs, hl, hΨ⟩ => ?_
  subst e
  show WSs _ _ _ [Sl.fz (rowD r), Sl.fz (rowD s), Sl.un] _
  refine wss_cons (ws_asg (we_int (wg_name 2 ?_)))
  refine wss_cons (ws_while (fun m ρ => ∃ i : Nat, ρ = [Sl.fz (rowD r), Sl.fz (rowD s), Sl.fz (.int (i : Int))] ∧ i ≤ sh r s ∧ m = r.length - i) r.length ⟨0, rfl, Nat.zero_le _, rfl⟩ ?_)
  rintro m' _ ⟨i, rfl, hi, rfl⟩
  have hsh := sh_le r s
  refine wt_of (ww_and (wt_c (wc_lt (we_name 2 rfl (we_len (we_name 0 rfl ⟨r.length, len_row r, _, rfl, _, rfl, ?_⟩) m.len)))))
  refine ⟨fun h1 => ?_, fun h1 => ?_⟩
  · have h1 : i < r.length := by have := of_decide_eq_true h1; omega
    have h2 : i < s.length := by omega
    refine ww_one (wt_c (wc_eq (we_idx (we_name 0 rfl (we_name 2 rfl ⟨cellD r[i], row_at (List.getElem?_eq_getElem h1), we_idx (we_name 1 rfl (we_name 2 rfl ⟨cellD s[i], row_at (List.getElem?_eq_getElem h2), (okN_cell (hr _ (List.getElem_mem h1))).okD, (okN_cell (hs _ (List.getElem_mem h2))).okD, _, rfl, ?_⟩))⟩)))))
    rw [eqv_cell]
    refine ⟨fun h3 => ?_, fun h3 => ?_⟩
    · have h3 := of_decide_eq_true h3
      refine wss_one (ws_asg (we_add (we_name 2 rfl (we_int ⟨_, rfl, wg_name 2 ⟨r.length - (i + 1), by omega, i + 1, rfl, ?_, rfl⟩⟩))))
      have : i ≠ sh r s := fun z => by
        have := sh_end (xs := r) (ys := s) (by omega) (by omega)
        rw [← z, List.getElem?_eq_getElem h1, List.getElem?_eq_getElem h2, h3] at this
        exact this rfl
      omega
    · have h3 := of_decide_eq_false h3
      refine wss_one (ws_ret (we_name 2 rfl ?_))
      have : i = sh r s := Nat.le_antisymm hi (by
        apply Nat.not_lt.mp
        intro z
        have := sh_get z
        rw [List.getElem?_eq_getElem h1, List.getElem?_eq_getElem h2] at this
        exact h3 (Option.some.inj this))
      rw [this]
      exact hΨ
  · have h1 : ¬ i < r.length := by have := of_decide_eq_false h1; omega
    have : i = sh r s := by omega
    refine ⟨(fun h => nomatch h), fun _ => ?_⟩
    show WSs _ _ _ _ _
    refine wss_one (ws_ret (we_name 2 rfl ?_))
    rw [this]
    exact hΨ

theorem ok_lmo (Fu : Fun K "_law_most" "_law_most" s_law_most f fd) (m : Mgs mg) (cS : Cal P w K mg base 1 "_law_shared" (PF S_vs)) : FnOk P w K mg base CX0 2 f fd ["table_here"] (PF S_lmo) := by
  refine pf_ok Fu c_law_most (fun ds Ψ ⟨r, n, e, _⟩ => by rw [e]; rfl) fun ds Ψ ⟨t, n, e, ht, hΨ⟩ => ?_
  subst e
  have hi := ht.hi
  have lo := ht.lo
  obtain ⟨r0, q, rfl⟩ : ∃ r0 q, t = r0 :: q := by cases t with
    | nil => exact absurd lo (by decide)
    | cons r q => exact ⟨r, q, rfl⟩
  rw [List.length_cons] at hi
  show WSs _ _ _ [Sl.fz (pageD (r0 :: q)), Sl.un, Sl.un] _
  refine wss_one (ws_ret (we_add (we_lst (wa_cons (we_int (wa_nil ⟨few_ok (n := 1) rfl, we_wl (wl_to2 [("row", 1), ("above", 2)] 1 2 (by kernel_rfl) (wi_zip true true (we_slice (we_name 0 rfl (wo_some (we_int ⟨1, rfl, wo_none ⟨_, cut_page_from (r0 :: q) 1, we_name 0 rfl ⟨q.map rowD, (r0 :: q).map rowD, rfl, rfl, rfl, rfl, (shFrom r0 q).map fun (n : Nat) => PyData.int (n : Int), ?_, ?_, Nat.lt_of_sub_pos (by exact of_decide_eq_true rfl), Nat.lt_of_sub_pos (by exact of_decide_eq_true rfl), fun i d hd => ?_, .list ((sharedN (r0 :: q)).map fun (n : Nat) => PyData.int (n : Int)), ?_, hΨ⟩⟩⟩)))) m.zip))⟩))))))
  · rw [pairsD_len, List.length_map, List.length_map]; omega
  · rw [pairsD_len, List.length_map, shFrom_length, List.length_map, List.length_map, List.length_cons]; omega
  · obtain ⟨x, y, h1, h2, rfl⟩ := pairsD_get hd
    rw [List.getElem?_map] at h1 h2
    obtain ⟨r, hr, rfl⟩ := Option.map_eq_some_iff.mp h1
    obtain ⟨a, ha, rfl⟩ := Option.map_eq_some_iff.mp h2
    obtain ⟨a', ha', hs⟩ := shFrom_get (ab := r0) hr
    rw [ha] at ha'
    cases ha'
    have ma := List.mem_of_getElem? ha
    have mr : r ∈ r0 :: q := List.mem_cons_of_mem _ (List.mem_of_getElem? hr)
    refine ⟨_, _, rfl, we_call cS (wa_cons (we_name 1 rfl (wa_cons (we_name 2 rfl (wa_nil ⟨r, a, rfl, (ht.row r mr).cells, (ht.row a ma).cells, by rw [ht.wide r mr, ht.wide a ma]; exact Nat.le_refl _, ?_, rfl⟩)))))⟩
    rw [List.getElem?_map, hs, sh_comm r a]
    rfl
  · rw [addD_list (by rw [List.length_map, shFrom_length]; simp only [List.length_cons, List.length_nil]; omega)]
    rfl

theorem ok_lwi (Fu : Fun K "_law_with" "_law_with" s_law_with f fd) (m : Mgs mg) : FnOk P w K mg base CX0 1 f fd ["table_here", "blanks"] (PF S_wb) := by
  refine pf_ok Fu c_law_with (fun ds Ψ ⟨r, n, e, _⟩ => by rw [e]; rfl) fun ds Ψ ⟨t, ns, e, ht, hr, hn, hΨ⟩ => ?_
  subst e
  have hl : (withB t ns).length = min t.length ns.length := List.length_zipWith ..
  show WSs _ _ _ [Sl.fz (pageD t), Sl.fz (natsD ns), Sl.un, Sl.un] _
  refine wss_one (ws_ret (we_tuple (we_wl (wl_to2 [("row", 2), ("count", 3)] 2 3 (by kernel_rfl) (wi_zip true false (we_name 0 rfl (we_name 1 rfl ⟨_, _, rfl, rfl, rfl, rfl, (withB t ns).map rowD, ?_, ?_, Nat.lt_of_sub_pos (by exact of_decide_eq_true rfl), Nat.lt_of_sub_pos (by exact of_decide_eq_true rfl), fun i d hd => ?_, _, rfl, hΨ⟩)) m.zip))) m.tuple))
  · rw [pairsD_len, List.length_map, List.length_map]; omega
  · rw [pairsD_len, List.length_map, List.length_map, List.length_map, hl]
  · obtain ⟨x, y, h1, h2, rfl⟩ := pairsD_get hd
    rw [List.getElem?_map] at h1
    obtain ⟨r, hr', rfl⟩ := Option.map_eq_some_iff.mp h1
    obtain ⟨b, hb, rfl⟩ := nats_get h2
    have hb6 := hn b (List.mem_of_getElem? hb)
    have hr6 := hr r (List.mem_of_getElem? hr')
    refine ⟨_, _, rfl, we_add (we_mul (we_tup (wa_cons (we_none (wa_nil ⟨by decide, we_name 3 rfl ⟨_, .inr (.inl ⟨[.none], b, rfl, rfl, rfl, by simp, by decide, by omega⟩), we_slice (we_name 2 rfl (wo_some (we_name 3 rfl ⟨_, rfl, wo_none ⟨_, cut_row_from _ _, rowD (blankRow b ++ r.drop b), ?_, ?_, rfl⟩⟩)))⟩⟩)))))⟩
    · rw [blankRow_D]
      exact cat_row (by rw [List.length_drop]; simp only [blankRow, List.length_replicate]; omega)
    · have : (withB t ns)[i]? = some (blankRow b ++ r.drop b) := by
        unfold withB
        rw [List.getElem?_zipWith, hr', hb]
      rw [List.getElem?_map, this]
      rfl

theorem ok_pag (Fu : Fun K "_law_page" "_law_page" s_law_page f fd) (m : Mgs mg) (cD : Cal P w K mg base 1 "_law_draw" (DF S_draw)) (cM : Cal P w K mg base 2 "_law_most" (PF S_lmo)) (cW : Cal P w K mg base 1 "_law_with" (PF S_wb)) : FnOk P w K mg base CX0 3 f fd ["deck", "table_here"] (DF S_pag) := by
  refine df_ok Fu c_law_page (fun n ds Ψ ⟨a, b, e, _⟩ => by rw [e]; rfl) fun F n ds Ψ ⟨t, k, e, ht, hn, hΨ⟩ => ?_
  subst e
  have hi := ht.hi
  show WSs _ _ _ [Sl.dk n, Sl.fz (pageD t), Sl.un, Sl.un, Sl.un] _
  refine wss_cons (ws_asg (we_draw 0 cD rfl (we_int ⟨n, 4, rfl, rfl, by decide, by decide +kernel, by omega, fun style s0 s1 => wg_name 2 ?_⟩)))
  refine wss_cons (ws_own 3 (wl_lst (wa_nil ⟨by decide, Nat.lt_of_sub_pos (by exact of_decide_eq_true rfl), ?_⟩)))
  refine wss_cons (ws_for (wi_list (we_call cM (wa_cons (we_name 1 rfl (wa_nil ⟨t, k, rfl, ht, _, rfl, fun i ρ => ∃ (bs : List Nat) (q : Nat) (s4 : Sl), ρ = [Sl.dk q, Sl.fz (pageD t), Sl.fz (.int style), Sl.ow (bs.map fun (n : Nat) => PyData.int (n : Int)), s4] ∧ bs.length = i ∧ (∀ (j b m : Nat), bs[j]? = some b → (sharedN t)[j]? = some m → b ≤ m) ∧ q ≤ n + 1 + 2 * i,
    ⟨[], n + 1, _, rfl, rfl, fun j b m h => (by cases h), by omega⟩, ?_, ?_⟩))))))
  · rintro i d _ hd ⟨bs, q, s4, rfl, hl, hb, hq⟩
    obtain ⟨c, hc, rfl⟩ := nats_get hd
    have hil := (List.getElem?_eq_some_iff.mp hc).1
    rw [sharedN_length] at hil
    have c6 := sharedN_le ht.le6 c (List.mem_of_getElem? hc)
    refine wg_name 4 ?_
    refine wss_one (ws_append 3 (we_idx (we_lst (wa_cons (we_name 4 rfl (wa_cons (we_draw 0 cD rfl (we_add (we_name 4 rfl (we_int ⟨_, rfl, q, (c : Int) + 1, rfl, rfl, by omega, lg (by omega) (by omega), by omega, fun x x0 x1 => ?_⟩))))))))) rfl)
    refine wa_cons (we_name 4 rfl (wa_cons (we_idx (we_lst (wa_cons (we_int (wa_cons (we_name 4 rfl (wa_nil ⟨few_ok (n := 2) rfl, we_draw 0 cD rfl (we_int ⟨q + 1, 2, rfl, rfl, by decide, by decide +kernel, by omega, fun y y0 y1 => ?_⟩)⟩)))))))))
    obtain ⟨yv, hy1, hy⟩ : ∃ yv : Nat, yv ≤ c ∧ idxD (.list [.int 0, .int (c : Int)]) (.int y) = some (.int (yv : Int)) := by
      have hy : y = 0 ∨ y = 1 := by omega
      rcases hy with rfl | rfl
      · exact ⟨0, Nat.zero_le _, rfl⟩
      · exact ⟨c, Nat.le_refl _, rfl⟩
    obtain ⟨xv, rfl⟩ := Int.eq_ofNat_of_zero_le x0
    refine ⟨_, hy, wa_nil ⟨few_ok (n := 4) rfl, we_name 2 rfl ?_⟩⟩
    obtain ⟨v, hv1, hv⟩ : ∃ v : Nat, v ≤ c ∧ idxD (.list [.int (c : Int), .int (xv : Int), .int (c : Int), .int (yv : Int)]) (.int style) = some (.int (v : Int)) := by
      have hs : style = 0 ∨ style = 1 ∨ style = 2 ∨ style = 3 := by omega
      rcases hs with rfl | rfl | rfl | rfl
      · exact ⟨c, Nat.le_refl _, rfl⟩
      · exact ⟨xv, by omega, rfl⟩
      · exact ⟨c, Nat.le_refl _, rfl⟩
      · exact ⟨yv, hy1, rfl⟩
    refine ⟨_, hv, _, rfl, by rw [List.length_map]; omega, bs ++ [v], q + 1 + 1, _, by rw [List.map_append]; rfl, by rw [List.length_append, hl]; rfl, fun j b m h1 h2 => ?_, by omega⟩
    by_cases hj : j < bs.length
    · rw [List.getElem?_append_left hj] at h1
      exact hb j b m h1 h2
    · rw [List.getElem?_append_right (by omega)] at h1
      have : j = i := by
        have := (List.getElem?_eq_some_iff.mp h1).1
        simp at this
        omega
      subst this
      rw [hl, Nat.sub_self] at h1
      cases h1
      rw [hc] at h2
      cases h2
      exact hv1
  · rintro _ ⟨bs, q, s4, rfl, hl, hb, hq⟩
    rw [List.length_map, sharedN_length] at hl hq
    have hw : Within bs (sharedN t) := Within.of_get (by rw [sharedN_length, hl]) hb
    obtain ⟨hp, hp2⟩ := with_page ht hw
    refine wss_one (ws_freeze 3 rfl (ws_ret (we_call cW (wa_cons (we_name 1 rfl (wa_cons (we_name 3 rfl (wa_nil ⟨t, bs, rfl, hi, ht.le6, ?_, 0, q, rfl, rfl, hΨ _ _ hp hp2 (by omega)⟩))))))))
    intro b hb'
    obtain ⟨j, hj, e⟩ := List.mem_iff_getElem.mp hb'
    have h2 : j < (sharedN t).length := by rw [sharedN_length]; omega
    have := hb j b _ (by rw [← e]; exact List.getElem?_eq_getElem hj) (List.getElem?_eq_getElem h2)
    have := sharedN_le ht.le6 _ (List.getElem_mem h2)
    omega

theorem ok_lrd (Fu : Fun K "_law_read" "_law_read" s_law_read f fd) (m : Mgs mg) : FnOk P w K mg base CX0 1 f fd ["rows_here"] (PF S_rr) := by
  refine pf_ok Fu c_law_read (fun ds Ψ ⟨r, s, e, _⟩ => by rw [e]; rfl) fun ds Ψ ⟨p, n, e, hp, hΨ⟩ => ?_
  subst e
  have lo := hp.lo
  have hi := hp.hi
  have hn := hp.cols
  show WSs _ _ _ [Sl.fz (pageD p), Sl.un, Sl.un, Sl.un, Sl.un, Sl.un] _
  refine wss_cons (ws_own 1 (wl_lst (wa_nil ⟨by decide, Nat.lt_of_sub_pos (by exact of_decide_eq_true rfl), ?_⟩)))
  refine wss_cons (ws_for (wi_tup (we_name 0 rfl ⟨_, rfl, fun i ρ => ∃ s2 s3, ρ = [Sl.fz (pageD p), Sl.ow ((readR (blankRow n) (p.take i)).map rowD), s2, s3, Sl.un, Sl.un], ⟨_, _, rfl⟩, ?_, ?_⟩)))
  · rintro i d _ hd ⟨s2, s3, rfl⟩
    rw [List.getElem?_map] at hd
    obtain ⟨r, hr, rfl⟩ := Option.map_eq_some_iff.mp hd
    have hm := List.mem_of_getElem? hr
    have hrn := hp.wide r hm
    have hro := hp.row r hm
    have hil : i < p.length := (List.getElem?_eq_some_iff.mp hr).1
    have hab : (readE (blankRow n) (p.take i)).length = n := readE_len (by simp [blankRow]) fun s hs => hp.wide s (List.mem_of_mem_take hs)
    have step : ∀ D : SE, (∀ s2 s3, D.nx [Sl.fz (pageD p), Sl.ow ((readR (blankRow n) (p.take (i + 1))).map rowD), s2, s3, Sl.un, Sl.un]) → WSs (ctOf P w K mg base n_law_read s_law_read 0) noF ((forBody ((defBody s_law_read).getD 1 (.Pass ⟨0, 0, 0, 0⟩))).drop 1) [Sl.fz (pageD p), Sl.ow ((readR (blankRow n) (p.take i)).map rowD), Sl.fz (rowD r), Sl.fz (rowD (readE (blankRow n) (p.take i))), Sl.un, Sl.un] D := fun D hD => by
      refine wss_one (ws_append 1 (we_tuple (we_wl (wl_to2 [("spot", 4), ("cell", 5)] 4 5 (by kernel_rfl) (wi_enumT (we_name 2 rfl ⟨_, rfl, (readOne (readE (blankRow n) (p.take i)) r).map cellD, ?_, ?_, Nat.lt_of_sub_pos (by exact of_decide_eq_true rfl), Nat.lt_of_sub_pos (by exact of_decide_eq_true rfl), fun j d hd => ?_, _, rfl, _, rfl, ?_, ?_⟩) m.enum))) m.tuple) rfl)
      · rw [enumD_len, List.length_map]; omega
      · rw [enumD_len, List.length_map, List.length_map, readOne_len hab hrn, hrn]
      · obtain ⟨y, hy, rfl⟩ := enumD_get hd
        rw [List.getElem?_map] at hy
        obtain ⟨x, hx, rfl⟩ := Option.map_eq_some_iff.mp hy
        have hj : j < n := by have := (List.getElem?_eq_some_iff.mp hx).1; omega
        obtain ⟨g1, g2⟩ := readOne_get (ab := readE (blankRow n) (p.take i)) (r := r) (by rw [hab, hrn]) j
        refine ⟨_, _, rfl, we_ife (wt_c (wc_isN (we_name 5 rfl ⟨_, rfl, fun q => ?_, fun q => we_name 5 rfl ⟨?_, rfl⟩⟩)))⟩
        · rw [hro.none_iff hx] at q
          have q := of_decide_eq_true q
          have hj2 : j < (readE (blankRow n) (p.take i)).length := by omega
          refine we_idx (we_name 3 rfl (we_name 4 rfl ⟨cellD (readE (blankRow n) (p.take i))[j], ?_, ?_, rfl⟩))
          · rw [Nat.zero_add]
            exact row_at (List.getElem?_eq_getElem hj2)
          · rw [List.getElem?_map, g1 q, List.getElem?_eq_getElem hj2]
            rfl
        · rw [hro.none_iff hx] at q
          have q := of_decide_eq_false q
          rw [List.getElem?_map, g2 (by omega), hx]
          rfl
      · rw [List.length_map, readR_length, List.length_take]; omega
      · have e1 : (readR (blankRow n) (p.take (i + 1))).map rowD = (readR (blankRow n) (p.take i)).map rowD ++ [rowD (readOne (readE (blankRow n) (p.take i)) r)] := by
          rw [take_snoc hr, readR_snoc, readE_append, List.map_append]
          rfl
        have := hD (.fz (rowD r)) (.fz (rowD (readE (blankRow n) (p.take i))))
        rw [e1] at this
        exact this
    have oR : okD (.list ((readR (blankRow n) (p.take i)).map rowD)) := (okN_list (n := 1) fun d hd => by
      obtain ⟨t, ht, rfl⟩ := List.mem_map.mp hd
      exact okN_row (readR_cells (fun x hx s e => by
        unfold blankRow at hx
        rw [List.eq_of_mem_replicate hx] at e
        cases e) (fun r hr => (hp.row r (List.mem_of_mem_take hr)).cells) t ht)).okD
    have o0 : okD (.list []) := (okN_list (n := 1) fun d hd => (by cases hd)).okD
    refine wg_name 2 ?_
    cases i with
    | zero =>
      refine wss_cons (ws_asg (we_ife (wt_look (wt_c (wc_neq (we_name 1 rfl (we_lst (wa_nil ⟨Nat.zero_le _, oR, o0, false, by rfl, rfl, (fun h => nomatch h), fun _ => ?_⟩))))))))
      refine we_mul (we_tup (wa_cons (we_none (wa_nil ⟨by decide, we_len (we_name 2 rfl ⟨r.length, len_row r, _, .inr (.inl ⟨[.none], r.length, rfl, rfl, rfl, by simp, by decide, by omega⟩), wg_name 3 ?_⟩) m.len⟩))))
      rw [hrn, blankRow_D]
      exact step _ fun s2 s3 => ⟨s2, s3, rfl⟩
    | succ i =>
      obtain ⟨r', hr'⟩ : ∃ r', p[i]? = some r' := ⟨p[i], List.getElem?_eq_getElem (by omega)⟩
      have hne : (readR (blankRow n) (p.take (i + 1))).map rowD = (readR (blankRow n) (p.take i)).map rowD ++ [rowD (readE (blankRow n) (p.take (i + 1)))] := by
        rw [take_snoc hr', readR_snoc, List.map_append]
        rfl
      refine wss_cons (ws_asg (we_ife (wt_look (wt_c (wc_neq (we_name 1 rfl (we_lst (wa_nil ⟨Nat.zero_le _, oR, o0, true, ?_, rfl, fun _ => ?_, (fun h => nomatch h)⟩))))))))
      · rw [hne, eqv_list]
        cases (readR (blankRow n) (p.take i)).map rowD <;> simp [PyData.eqvAll]
      · refine we_ownix 1 (we_neg (we_int ⟨1, rfl, _, _, rowD (readE (blankRow n) (p.take (i + 1))), rfl, rfl, ?_, wg_name 3 (step _ fun s2 s3 => ⟨s2, s3, rfl⟩)⟩)) rfl
        rw [hne]
        exact atI_snoc _ _
  · rintro _ ⟨s2, s3, rfl⟩
    rw [List.length_map, List.take_length]
    refine wss_one (ws_freeze 1 rfl (ws_ret (we_name 1 rfl ?_)))
    exact hΨ

theorem ok_lbl (Fu : Fun K "_law_blanks" "_law_blanks" s_law_blanks f fd) (m : Mgs mg) : FnOk P w K mg base CX0 1 f fd ["page_here"] (PF S_lbl) := by
  refine pf_ok Fu c_law_blanks (fun ds Ψ ⟨r, n, e, _⟩ => by rw [e]; rfl) fun ds Ψ ⟨p, n, e, hp, hΨ⟩ => ?_
  subst e
  have hi := hp.hi
  show WSs _ _ _ [Sl.fz (pageD p), Sl.un, Sl.un] _
  refine wss_one <| ws_ret <| we_wl <| wl_to1 [("row", 1)] 1 (by kernel_rfl) <| wi_tup <| we_name 0 rfl ⟨_, rfl, (p.map lead).map fun (n : Nat) => PyData.int (n : Int), ?_, ?_, Nat.lt_of_sub_pos (by exact of_decide_eq_true rfl), fun i d hd => ?_, hΨ⟩
  · rw [List.length_map]; omega
  · rw [List.length_map, List.length_map, List.length_map]
  · rw [List.getElem?_map] at hd
    obtain ⟨r, hr, rfl⟩ := Option.map_eq_some_iff.mp hd
    have hrow := hp.row r (List.mem_of_getElem? hr)
    have hll := lead_le r
    refine we_len (hm := m.len) <| we_wl <| wl_lc [("cell", 2)] (pg_own 2) (by kernel_rfl) <| wi_tup <| we_name 1 rfl ⟨_, rfl, fun j acc ρ' => acc = List.replicate (min j (lead r)) .none ∧ ρ' = [Sl.fz (pageD p), Sl.fz (rowD r), Sl.un], ?_, ⟨by rw [Nat.zero_min]; rfl, rfl⟩, ?_, ?_⟩
    · rw [List.length_map]; have := hrow.2.1; omega
    · rintro j d acc _ h _ ⟨rfl, rfl⟩
      rw [List.getElem?_map] at h
      obtain ⟨x, hx, rfl⟩ := Option.map_eq_some_iff.mp h
      refine ⟨_, gd_name 2, wts_one <| wt_c <| wc_isN <| we_name 2 rfl ⟨_, rfl, fun q => we_name 2 rfl ⟨?_, rfl⟩, fun q => ⟨?_, rfl⟩⟩⟩
      · have hj : j < lead r := by
          apply Nat.not_le.mp
          intro z
          have : x ∈ r.drop (lead r) := List.mem_iff_getElem?.mpr ⟨j - lead r, by rw [List.getElem?_drop, show lead r + (j - lead r) = j by omega]; exact hx⟩
          obtain ⟨s, e, _⟩ := hrow.2.2 x this
          rw [e] at q
          cases q
        have hx2 := lead_get hj
        rw [hx] at hx2
        cases hx2
        rw [Nat.min_eq_left (by omega), Nat.min_eq_left (by omega)]
        exact List.replicate_succ'.symm
      · have hj : lead r ≤ j := by
          apply Nat.not_lt.mp
          intro z
          have hx2 := lead_get z
          rw [hx] at hx2
          cases hx2
          cases q
        rw [Nat.min_eq_right hj, Nat.min_eq_right (by omega)]
    · rintro acc _ _ ⟨rfl, rfl⟩
      rw [List.length_map, Nat.min_eq_right hll]
      refine ⟨lead r, by simp [lenD], ?_, rfl⟩
      rw [List.getElem?_map, List.getElem?_map, hr]
      rfl

theorem ok_dra (Fu : Fun K "_law_drawn" "_law_drawn" s_law_drawn f fd) (m : Mgs mg) (cD : Cal P w K mg base 1 "_law_draw" (DF S_draw)) : FnOk P w K mg base CX0 2 f fd ["deck", "many"] (DF S_shu) := by
  refine df_ok Fu c_law_drawn (fun n ds Ψ ⟨a, e, _⟩ => by rw [e]; rfl) fun F n ds Ψ ⟨many, e, m1, m60, hn, hΨ⟩ => ?_
  subst e
  show WSs _ _ _ [Sl.dk n, Sl.fz (.int (many : Int)), Sl.un, Sl.un] _
  refine wss_cons <| ws_own 2 <| wl_listRg (hm := m.list) (hr := m.range) <| we_name 1 rfl ⟨many, rfl, by omega, Nat.lt_of_sub_pos (by exact of_decide_eq_true rfl), ?_⟩
  show WSs _ _ _ [Sl.dk n, Sl.fz (.int (many : Int)), Sl.ow (natL (List.range many)), Sl.un] _
  refine wss_one <| ws_ret <| we_tuple (hm := m.tuple) <| we_wl <| wl_lc [("turn", 3)] (pg_own 3) (by kernel_rfl) <| wi_rng1 (hm := m.range) <| we_name 1 rfl ⟨many, rfl, by omega, by omega, fun i acc ρ' => ∃ (left found : List Nat) (q : Nat), ρ' = [Sl.dk q, Sl.fz (.int (many : Int)), Sl.ow (natL left), Sl.un] ∧ acc = natL found ∧ (found ++ left).Perm (List.range many) ∧ left.length + i = many ∧ q ≤ n + i, ?_, ⟨List.range many, [], n, rfl, rfl, List.Perm.refl _, by rw [List.length_range]; rfl, Nat.le_refl _⟩, ?_, ?_⟩
  · rw [rgD_len]; omega
  · rintro i d acc _ hd _ ⟨left, found, q, rfl, rfl, hp, hl, hq⟩
    obtain ⟨hi, rfl⟩ := rgD_get hd
    have hi : i < many := by omega
    refine ⟨_, gd_name 3, wts_nil ⟨fun _ => ?_, (fun h => nomatch h)⟩⟩
    refine we_pop 2 (we_draw 0 cD rfl <| we_look <| we_len (hm := m.len) <| we_name 2 rfl ⟨left.length, by show (some (natL left).length) = _; unfold natL; rw [List.length_map], rfl, rfl, q, (left.length : Int), rfl, rfl, by omega, lg (by omega) (by omega), by have := big_lt; omega, fun k k0 k1 => ?_⟩) rfl
    obtain ⟨j, rfl⟩ := Int.eq_ofNat_of_zero_le k0
    have hj : j < left.length := by omega
    refine ⟨j, natL left, .int ((left[j] : Nat) : Int), rfl, rfl, by omega, ?_, left.eraseIdx j, found ++ [left[j]], q + 1, ?_, ?_, ?_, ?_, by omega⟩
    · unfold natL
      rw [List.getElem?_map, List.getElem?_eq_getElem hj]
      rfl
    · rw [eraseIdx_nat]
      rfl
    · unfold natL
      rw [List.map_append]
      rfl
    · refine List.Perm.trans ?_ hp
      rw [List.append_assoc]
      refine List.Perm.append_left _ ?_
      show (left[j] :: left.eraseIdx j).Perm left
      exact erase_perm hj
    · rw [List.length_eraseIdx, if_pos hj]
      omega
  · rintro acc _ hac ⟨left, found, q, rfl, rfl, hp, hl, hq⟩
    rw [rgD_len] at hl hq
    have hl0 : left = [] := List.length_eq_zero_iff.mp (by omega)
    subst hl0
    rw [List.append_nil] at hp
    exact ⟨_, rfl, 0, q, rfl, rfl, hΨ found q hp (by omega)⟩

theorem ok_lhs (Fu : Fun K "_law_hosts" "_law_hosts" s_law_hosts f fd) (m : Mgs mg) (cB : Cal P w K mg base 1 "_law_blanks" (PF S_lbl)) (cR : Cal P w K mg base 1 "_law_read" (PF S_rr)) (cS : Cal P w K mg base 1 "_law_shared" (PF S_vs)) : FnOk P w K mg base CX0 2 f fd ["page_here"] (PF S_lhs) := by
  refine pf_ok Fu c_law_hosts (fun ds Ψ ⟨_, _, e, _⟩ => by rw [e]; rfl) fun ds Ψ ⟨p, n, e, hp, hΨ⟩ => ?_
  subst e
  have hi := hp.hi
  have hs := seqN_len p
  have hlt := seqN_lt p
  have hTl := table_len p n
  have okT := hp.table
  show WSs _ _ _ [Sl.fz (pageD p), Sl.un, Sl.un, Sl.un, Sl.un, Sl.un, Sl.un, Sl.un, Sl.un] _
  refine wss_cons <| ws_asgS <| we_tup <| wa_cons <| we_call cB <| wa_cons <| we_name 0 rfl <| wa_nil ⟨p, n, rfl, hp.toOkRows, wa_cons <| we_call cR <| wa_cons <| we_name 0 rfl <| wa_nil ⟨p, n, rfl, hp.toOkRows, wa_nil ⟨few_ok (n := 2) rfl, wg_tup ⟨_, rfl, rfl, wgs_cons <| wg_name 1 <| wgs_cons <| wg_name 2 <| wgs_nil ?_⟩⟩⟩⟩
  show WSs _ _ _ [Sl.fz (pageD p), Sl.fz (natsD (p.map lead)), Sl.fz (.list ((tableOf p n).map rowD)), Sl.un, Sl.un, Sl.un, Sl.un, Sl.un, Sl.un] _
  refine wss_cons <| ws_asgC 4 <| wlc_to2 [("count", 7), ("row", 3)] 7 3 (by kernel_rfl) <| wi_list <| we_sorted (hm := m.sorted) <| we_wl <| wl_to2 [("row", 3), ("count", 7)] 3 7 (by kernel_rfl) <| wi_enum (hm := m.enum) <| we_name 1 rfl ⟨_, rfl, (List.range p.length).map (pD p), ?_, ?_, Nat.lt_of_sub_pos (by exact of_decide_eq_true rfl), Nat.lt_of_sub_pos (by exact of_decide_eq_true rfl), fun i d hd => ?_, _, rfl, can_pD p _, ?_⟩
  · rw [enumD_len, List.length_map, List.length_map]; omega
  · rw [enumD_len, List.length_map, List.length_map, List.length_map, List.length_range]
  · obtain ⟨x, hx, rfl⟩ := enumD_get hd
    obtain ⟨b, hb, rfl⟩ := nats_get hx
    rw [List.getElem?_map] at hb
    obtain ⟨r, hr, rfl⟩ := Option.map_eq_some_iff.mp hb
    have hlt := (List.getElem?_eq_some_iff.mp hr).1
    refine ⟨_, _, rfl, we_tup <| wa_cons <| we_name 7 rfl <| wa_cons <| we_name 3 rfl <| wa_nil ⟨few_ok (n := 2) rfl, ?_, rfl⟩⟩
    rw [List.getElem?_map, List.getElem?_range hlt]
    have e := getD_at hlt
    rw [hr] at e
    have e : r = p.getD i [] := Option.some.inj e
    show some (pD p i) = _
    unfold pD
    rw [← e, Nat.zero_add]
  rw [seq_sort]
  have ese : (List.range p.length).mergeSort (seqLe p) = seqN p := rfl
  rw [ese]
  refine ⟨_, rfl, natL (seqN p), ?_, ?_, Nat.lt_of_sub_pos (by exact of_decide_eq_true rfl), Nat.lt_of_sub_pos (by exact of_decide_eq_true rfl), fun i d hd => ?_, Nat.lt_of_sub_pos (by exact of_decide_eq_true rfl), ?_⟩
  · rw [List.length_map]; omega
  · unfold natL; rw [List.length_map, List.length_map]
  · rw [List.getElem?_map] at hd
    obtain ⟨x, hx, rfl⟩ := Option.map_eq_some_iff.mp hd
    refine ⟨_, _, rfl, we_name 3 rfl ⟨?_, rfl⟩⟩
    unfold natL
    rw [List.getElem?_map, hx]
    rfl
  show WSs _ _ _ [Sl.fz (pageD p), Sl.fz (natsD (p.map lead)), Sl.fz (.list ((tableOf p n).map rowD)), Sl.un, Sl.fz (natsD (seqN p)), Sl.un, Sl.un, Sl.un, Sl.un] _
  refine wss_cons <| ws_dl 5 6 ?_
  show WSs _ _ _ [Sl.fz (pageD p), Sl.fz (natsD (p.map lead)), Sl.fz (.list ((tableOf p n).map rowD)), Sl.un, Sl.fz (natsD (seqN p)), Sl.od (dictD []), Sl.fz (natsD []), Sl.un, Sl.un] _
  have rowT : ∀ a, a < p.length → idxD (.list ((tableOf p n).map rowD)) (.int (a : Int)) = some (rowD ((tableOf p n).getD a [])) := fun a ha => by
    show atI ((tableOf p n).map rowD) ((a : Nat) : Int) = _
    exact atI_nat (by rw [List.getElem?_map, getD_at (by omega)]; rfl)
  refine wss_cons <| ws_for <| wi_list <| we_name 4 rfl ⟨_, rfl, fun i ρ => ∃ (ks : List (Key × PyData)) (s3 : Sl), ρ = [Sl.fz (pageD p), Sl.fz (natsD (p.map lead)), Sl.fz (.list ((tableOf p n).map rowD)), s3, Sl.fz (natsD (seqN p)), Sl.od (dictD ks), Sl.fz (natsD ((seqN p).take i)), Sl.un, Sl.un] ∧ ks.length ≤ 2 * i ∧ ∀ a, a < i → valP ks (.inl ((seqN p).getD a 0 : Int)) = some (.list (hostAt p (tableOf p n) a)), ⟨[], _, rfl, Nat.le_refl _, fun a h => (by omega)⟩, ?_, ?_⟩
  · rintro i d _ hd ⟨ks, s3, rfl, hk, hat⟩
    obtain ⟨r, hr, rfl⟩ := nats_get hd
    have hil := (List.getElem?_eq_some_iff.mp hr).1
    have hrl := hlt r (List.mem_of_getElem? hr)
    have er : (seqN p).getD i 0 = r := by rw [List.getD_eq_getElem?_getD, hr]; rfl
    have hh : hostAt p (tableOf p n) i = hostsL p (tableOf p n) ((seqN p).take i) r := by unfold hostAt; rw [er]
    have hne : ∀ a, a < i → (seqN p).getD a 0 ≠ r := fun a ha z => by
      have h1 := seqN_at (p := p) (a := a) (by omega)
      rw [z] at h1
      obtain ⟨q1, q2⟩ := List.getElem?_eq_some_iff.mp h1
      obtain ⟨q3, q4⟩ := List.getElem?_eq_some_iff.mp hr
      exact List.pairwise_iff_getElem.mp (seqN_nodup p) a i q1 q3 ha (by rw [q2, q4])
    have tk : (seqN p).take (i + 1) = (seqN p).take i ++ [r] := take_snoc hr
    have hal : ∀ h ∈ (seqN p).take i, h < p.length := fun h hh => hlt h (List.mem_of_mem_take hh)
    have hahl : ((seqN p).take i).length ≤ 60 := by rw [List.length_take]; omega
    generalize hah : (seqN p).take i = ah at hh tk hal hahl
    have step : ∀ (ks' : List (Key × PyData)) (D : SE), ks'.length ≤ 2 * (i + 1) → (∀ a, a < i + 1 → valP ks' (.inl ((seqN p).getD a 0 : Int)) = some (.list (hostAt p (tableOf p n) a))) → (∀ ρ, (∃ (ks : List (Key × PyData)) (s3 : Sl), ρ = [Sl.fz (pageD p), Sl.fz (natsD (p.map lead)), Sl.fz (.list ((tableOf p n).map rowD)), s3, Sl.fz (natsD (seqN p)), Sl.od (dictD ks), Sl.fz (natsD ((seqN p).take (i + 1))), Sl.un, Sl.un] ∧ ks.length ≤ 2 * (i + 1) ∧ ∀ a, a < i + 1 → valP ks (.inl ((seqN p).getD a 0 : Int)) = some (.list (hostAt p (tableOf p n) a))) → D.nx ρ) →
        WSs (ctOf P w K mg base n_law_hosts s_law_hosts 1) noF ((forBody ((defBody s_law_hosts).getD 3 (.Pass ⟨0, 0, 0, 0⟩))).drop 2) [Sl.fz (pageD p), Sl.fz (natsD (p.map lead)), Sl.fz (.list ((tableOf p n).map rowD)), Sl.fz (.int (r : Int)), Sl.fz (natsD (seqN p)), Sl.od (dictD ks'), Sl.fz (natsD ah), Sl.un, Sl.un] D := fun ks' D h1 h2 hD => by
      refine wss_one <| ws_asg <| we_add <| we_name 6 rfl <| we_lst <| wa_cons <| we_name 3 rfl <| wa_nil ⟨few_ok (n := 1) rfl, natsD (ah ++ [r]), ?_, wg_name 6 (hD _ ⟨ks', Sl.fz (.int (r : Int)), ?_, h1, h2⟩)⟩
      · unfold natsD
        rw [addD_list (by rw [List.length_map]; simp only [List.length_cons, List.length_nil]; omega), List.map_append]
        rfl
      · rw [tk]; rfl
    refine wg_name 3 ?_
    refine wss_cons <| ws_dput 5 (we_wl <| wl_lc [("other", 8)] (pg_own 8) (by kernel_rfl) <| wi_list <| we_name 6 rfl ⟨_, rfl, fun j acc ρ' => acc = natL ((ah.take j).filter fun h => decide (lead (p.getD r []) ≤ sh ((tableOf p n).getD h []) ((tableOf p n).getD r []))) ∧ ρ' = [Sl.fz (pageD p), Sl.fz (natsD (p.map lead)), Sl.fz (.list ((tableOf p n).map rowD)), Sl.fz (.int (r : Int)), Sl.fz (natsD (seqN p)), Sl.od (dictD ks), Sl.fz (natsD ah), Sl.un, Sl.un], ?_, ⟨rfl, rfl⟩, ?_, ?_⟩) rfl
    · rw [List.length_map]; omega
    · rintro j d acc _ hd2 _ ⟨rfl, rfl⟩
      obtain ⟨x, hx, rfl⟩ := nats_get hd2
      have hxl := hal x (List.mem_of_getElem? hx)
      have m1 := List.mem_of_getElem? (getD_at (T := tableOf p n) (by omega : r < (tableOf p n).length))
      have m2 := List.mem_of_getElem? (getD_at (T := tableOf p n) (by omega : x < (tableOf p n).length))
      refine ⟨_, gd_name 8, wts_one <| wt_c <| wc_ge <| we_call cS <| wa_cons <| we_idx <| we_name 2 rfl <| we_name 3 rfl ⟨_, rowT r hrl, wa_cons <| we_idx <| we_name 2 rfl <| we_name 8 rfl ⟨_, rowT x hxl, wa_nil ⟨_, _, rfl, okT.toOkRows.cells _ m1, okT.toOkRows.cells _ m2, ?_, we_idx <| we_name 1 rfl <| we_name 3 rfl ⟨_, leads_at hrl, _, _, rfl, rfl, _, rfl, fun q => we_name 8 rfl ⟨?_, rfl⟩, fun q => ⟨?_, rfl⟩⟩⟩⟩⟩⟩
      · rw [okT.wide _ m1, okT.wide _ m2]
        exact Nat.le_refl _
      · have q := of_decide_eq_true q
        rw [sh_comm] at q
        unfold natL
        rw [take_snoc hx, List.filter_append, List.map_append]
        congr 1
        rw [List.filter_cons, if_pos (by exact decide_eq_true (by omega))]
        rfl
      · have q := of_decide_eq_false q
        rw [sh_comm] at q
        unfold natL
        rw [take_snoc hx, List.filter_append, List.map_append, List.filter_cons, if_neg (by rw [decide_eq_false (by omega)]; decide)]
        simp
    rintro acc _ _ ⟨rfl, rfl⟩
    have el : (ah.map fun (n : Nat) => PyData.int (n : Int)).length = ah.length := List.length_map ..
    rw [el, List.take_length]
    refine we_name 3 rfl ⟨ks, .inl (r : Int), rfl, rfl, by omega, ?_⟩
    show WSs _ _ _ [Sl.fz (pageD p), Sl.fz (natsD (p.map lead)), Sl.fz (.list ((tableOf p n).map rowD)), Sl.fz (.int (r : Int)), Sl.fz (natsD (seqN p)), Sl.od (dictD (putP ks (.inl (r : Int)) (.list (natL (ah.filter fun h => decide (lead (p.getD r []) ≤ sh ((tableOf p n).getD h []) ((tableOf p n).getD r []))))))), Sl.fz (natsD ah), Sl.un, Sl.un] _
    have far : ∀ (ks : List (Key × PyData)) (z : PyData), (∀ a, a < i → valP ks (.inl ((seqN p).getD a 0 : Int)) = some (.list (hostAt p (tableOf p n) a))) → ∀ a, a < i → valP (putP ks (.inl (r : Int)) z) (.inl ((seqN p).getD a 0 : Int)) = some (.list (hostAt p (tableOf p n) a)) := fun ks z h a ha => by
      rw [valP_put, if_neg (by intro q; injection q with q; exact hne a ha (by omega))]
      exact h a ha
    refine wss_cons <| ws_if <| wt_c <| wc_eq <| we_idx <| we_name 1 rfl <| we_name 3 rfl ⟨_, leads_at hrl, we_int ⟨okD_int _, okD_int _, decide (lead (p.getD r []) = 0), ?_, fun h => ?_, fun h => wss_nil ?_⟩⟩
    · rw [eqv_int]
      by_cases h : lead (p.getD r []) = 0
      · rw [decide_eq_true h, decide_eq_true (by omega)]
      · rw [decide_eq_false h, decide_eq_false (by omega)]
    · have h := of_decide_eq_true h
      refine wss_one <| ws_dput 5 (we_add <| we_lst <| wa_cons <| we_none <| wa_nil ⟨few_ok (n := 1) rfl, we_name 6 rfl ⟨.list (.none :: natL ah), addD_list (by rw [List.length_map]; simp only [List.length_cons, List.length_nil]; omega), we_name 3 rfl ⟨_, .inl (r : Int), rfl, rfl, ?_, ?_⟩⟩⟩) rfl
      · have := putP_len ks (.inl (r : Int)) (.list (natL (ah.filter fun h => decide (lead (p.getD r []) ≤ sh ((tableOf p n).getD h []) ((tableOf p n).getD r [])))))
        omega
      · refine step _ _ ?_ ?_ fun ρ h => h
        · have := putP_len ks (.inl (r : Int)) (.list (natL (ah.filter fun h => decide (lead (p.getD r []) ≤ sh ((tableOf p n).getD h []) ((tableOf p n).getD r [])))))
          have := putP_len (putP ks (.inl (r : Int)) (.list (natL (ah.filter fun h => decide (lead (p.getD r []) ≤ sh ((tableOf p n).getD h []) ((tableOf p n).getD r [])))))) (.inl (r : Int)) (.list (.none :: natL ah))
          omega
        · intro a ha
          by_cases hai : a = i
          · subst hai
            rw [er, valP_put, if_pos rfl, hh]
            unfold hostsL
            rw [if_pos h]
          · exact far _ _ (far _ _ hat) a (by omega)
    · have h := of_decide_eq_false h
      refine step _ _ ?_ ?_ fun ρ h => h
      · have := putP_len ks (.inl (r : Int)) (.list (natL (ah.filter fun h => decide (lead (p.getD r []) ≤ sh ((tableOf p n).getD h []) ((tableOf p n).getD r [])))))
        omega
      · intro a ha
        by_cases hai : a = i
        · subst hai
          rw [er, valP_put, if_pos rfl, hh]
          unfold hostsL
          rw [if_neg h]
        · exact far _ _ hat a (by omega)
  · rintro _ ⟨ks, s3, rfl, hk, hat⟩
    have el : ((seqN p).map fun (n : Nat) => PyData.int (n : Int)).length = p.length := by rw [List.length_map, hs]
    rw [el] at hk hat
    refine wss_freezeD 5 rfl <| wss_one <| ws_ret <| we_tup <| wa_cons <| we_name 4 rfl <| wa_cons <| we_name 5 rfl <| wa_nil ⟨few_ok (n := 2) rfl, hΨ ks ⟨hat⟩⟩

theorem ok_kor (Fu : Fun K "_law_kept_order" "_law_kept_order" s_law_kept_order f fd) (m : Mgs mg) (cD : Cal P w K mg base 1 "_law_draw" (DF S_draw)) (cH : Cal P w K mg base 2 "_law_hosts" (PF S_lhs)) : FnOk P w K mg base CX0 3 f fd ["deck", "page_here"] (DF S_kor) := by
  refine df_ok Fu c_law_kept_order (fun n ds Ψ ⟨_, _, e, _⟩ => by rw [e]; rfl) fun F n ds Ψ ⟨p, k, e, hp, hn, hΨ⟩ => ?_
  subst e
  have hi := hp.hi
  have hs := seqN_len p
  have bl := big_lt
  show WSs _ _ _ [Sl.dk n, Sl.fz (pageD p), Sl.un, Sl.un, Sl.un, Sl.un, Sl.un] _
  refine wss_cons <| ws_asg <| we_call cH <| wa_cons <| we_name 1 rfl <| wa_nil ⟨p, k, rfl, hp, fun ks hks => wg_tup ⟨_, rfl, rfl, wgs_cons <| wg_name 2 <| wgs_cons <| wg_name 3 <| wgs_nil ?_⟩⟩
  refine wss_cons <| ws_own 4 <| wl_lst <| wa_nil ⟨Nat.zero_le _, Nat.lt_of_sub_pos (by exact of_decide_eq_true rfl), ?_⟩
  show WSs _ _ _ [Sl.dk n, Sl.fz (pageD p), Sl.fz (natsD (seqN p)), Sl.fz (.dict (dictD ks)), Sl.ow (natL []), Sl.un, Sl.un] _
  refine wss_cons <| ws_for <| wi_list <| we_name 2 rfl ⟨_, rfl, fun i ρ => ∃ (os : List Nat) (q : Nat) (s5 s6 : Sl), ρ = [Sl.dk q, Sl.fz (pageD p), Sl.fz (natsD (seqN p)), Sl.fz (.dict (dictD ks)), Sl.ow (natL os), s5, s6] ∧ os.Perm ((seqN p).take i) ∧ q ≤ n + i, ⟨[], n, _, _, rfl, List.Perm.refl _, Nat.le_refl _⟩, ?_, ?_⟩
  · rintro i d _ hd ⟨os, q, s5, s6, rfl, hos, hq⟩
    obtain ⟨r, hr, rfl⟩ := nats_get hd
    have hil : i < p.length := by have := (List.getElem?_eq_some_iff.mp hr).1; omega
    have er : (seqN p).getD i 0 = r := by rw [List.getD_eq_getElem?_getD, hr]; rfl
    have hv := hks.at_ i hil
    rw [er] at hv
    have hpos := host_pos hp hil
    have hfew := host_few (p := p) (n := k) (a := i)
    have hmem : ∀ z ∈ hostAt p (tableOf p k) i, z = .none ∨ ∃ h ∈ (seqN p).take i, z = .int (h : Int) := fun z hz => host_mem hz
    have hol : os.length = i := by rw [hos.length_eq, List.length_take]; omega
    have hnd : os.Nodup := hos.nodup_iff.mpr ((seqN_nodup p).sublist (List.take_sublist _ _))
    have tk : (seqN p).take (i + 1) = (seqN p).take i ++ [r] := take_snoc hr
    generalize hostAt p (tableOf p k) i = hl at hv hpos hfew hmem
    have fin : ∀ (c : Nat) (s5 s6 : Sl), ∃ (os' : List Nat) (q' : Nat) (t5 t6 : Sl), [Sl.dk (q + 1), Sl.fz (pageD p), Sl.fz (natsD (seqN p)), Sl.fz (.dict (dictD ks)), Sl.ow ((natL os).take c ++ [PyData.int (r : Int)] ++ (natL os).drop c), s5, s6] = [Sl.dk q', Sl.fz (pageD p), Sl.fz (natsD (seqN p)), Sl.fz (.dict (dictD ks)), Sl.ow (natL os'), t5, t6] ∧ os'.Perm ((seqN p).take (i + 1)) ∧ q' ≤ n + (i + 1) := fun c s5 s6 => by
      refine ⟨os.take c ++ [r] ++ os.drop c, q + 1, s5, s6, ?_, ?_, by omega⟩
      · unfold natL
        rw [List.map_append, List.map_append, List.map_take, List.map_drop]
        rfl
      · rw [tk]
        have h1 : (os.take c ++ [r] ++ os.drop c).Perm (r :: (os.take c ++ os.drop c)) := by
          rw [List.append_assoc]
          exact List.perm_middle
        rw [List.take_append_drop] at h1
        exact (h1.trans (List.Perm.cons r hos)).trans (List.perm_append_singleton r _).symm
    refine wg_name 5 ?_
    refine wss_cons <| ws_asg <| we_idx <| we_dget <| we_name 3 rfl <| we_name 5 rfl ⟨ks, .inl (r : Int), _, rfl, rfl, hv, we_draw 0 cD rfl <| we_len (hm := m.len) <| we_dget <| we_name 3 rfl <| we_name 5 rfl ⟨ks, .inl (r : Int), _, rfl, rfl, hv, hl.length, rfl, q, (hl.length : Int), rfl, rfl, by omega, lg (by omega) (by omega), by omega, fun x x0 x1 => ?_⟩⟩
    obtain ⟨j, rfl⟩ := Int.eq_ofNat_of_zero_le x0
    have hj : j < hl.length := by omega
    refine ⟨hl[j], atI_nat (List.getElem?_eq_getElem hj), wg_name 6 ?_⟩
    rcases hmem _ (List.getElem_mem hj) with hz | ⟨h, hh, hz⟩
    · rw [hz]
      show WSs _ _ _ [Sl.dk (q + 1), Sl.fz (pageD p), Sl.fz (natsD (seqN p)), Sl.fz (.dict (dictD ks)), Sl.ow (natL os), Sl.fz (.int (r : Int)), Sl.fz .none] _
      refine wss_one <| ws_insert 4 (we_ife <| wt_c <| wc_isN <| we_name 6 rfl ⟨true, rfl, fun _ => we_int <| we_name 5 rfl ⟨0, natL os, rfl, by decide, rfl, ?_, fin 0 _ _⟩, (fun h => nomatch h)⟩) rfl
      unfold natL
      rw [List.length_map]
      omega
    · rw [hz]
      have hho : h ∈ os := hos.mem_iff.mpr hh
      obtain ⟨c, hc⟩ := List.mem_iff_getElem?.mp hho
      have hcl := (List.getElem?_eq_some_iff.mp hc).1
      show WSs _ _ _ [Sl.dk (q + 1), Sl.fz (pageD p), Sl.fz (natsD (seqN p)), Sl.fz (.dict (dictD ks)), Sl.ow (natL os), Sl.fz (.int (r : Int)), Sl.fz (.int (h : Int))] _
      refine wss_one <| ws_insert 4 (we_ife <| wt_c <| wc_isN <| we_name 6 rfl ⟨false, rfl, (fun h => nomatch h), fun _ => we_add <| we_index 4 (we_name 6 rfl ⟨os, c, h, rfl, rfl, hc, fun a z ha hza he => ?_, we_int ⟨.int ((c + 1 : Nat) : Int), by rfl, we_name 5 rfl ⟨c + 1, natL os, rfl, by omega, rfl, ?_, fin (c + 1) _ _⟩⟩⟩) rfl⟩) rfl
      · rw [he] at hza
        obtain ⟨q1, q2⟩ := List.getElem?_eq_some_iff.mp hza
        obtain ⟨q3, q4⟩ := List.getElem?_eq_some_iff.mp hc
        exact List.pairwise_iff_getElem.mp hnd a c q1 q3 ha (by rw [q2, q4])
      · unfold natL
        rw [List.length_map]
        omega
  · rintro _ ⟨os, q, s5, s6, rfl, hos, hq⟩
    have el : ((seqN p).map fun (n : Nat) => PyData.int (n : Int)).length = p.length := by rw [List.length_map, hs]
    rw [el] at hos hq
    rw [List.take_of_length_le (by omega)] at hos
    refine wss_one <| ws_freeze 4 rfl <| ws_ret <| we_tuple (hm := m.tuple) <| we_name 4 rfl ⟨_, rfl, 0, q, rfl, rfl, hΨ os q (hos.trans (seqN_perm p)) (by omega)⟩

def S_los (ds : List PyData) (Ψ : PyData → Prop) : Prop := ∃ m : Nat, ds = [.int (m : Int)] ∧ m ≤ 6 ∧ Ψ (.list ((ordersF m m).map ordD))
theorem ok_los (Fu : Fun K "_law_orders" "_law_orders" s_law_orders f fd) (mg' : Mgs mg) : FnOk P w K mg base CX0 1 f fd ["many"] (PF S_los) := by
  refine pf_ok Fu c_law_orders (fun ds Ψ ⟨_, e, _⟩ => by rw [e]; rfl) fun ds Ψ ⟨m, e, hm, hΨ⟩ => ?_
  subst e
  have hbig : ∀ t, t ≤ m → (ordersF m t).length ≤ 46656 := fun t ht => Nat.le_trans (orders_len hm t) (Nat.le_trans (Nat.pow_le_pow_right (by decide) (by omega : t ≤ 6)) (by decide))
  show WSs _ _ _ [Sl.fz (.int (m : Int)), Sl.un, Sl.un, Sl.un, Sl.un, Sl.un] _
  refine wss_cons <| ws_asg <| we_lst <| wa_cons <| we_tup <| wa_nil ⟨Nat.zero_le _, wa_nil ⟨few_ok (n := 1) rfl, wg_name 1 ?_⟩⟩
  show WSs _ _ _ [Sl.fz (.int (m : Int)), Sl.fz (.list ((ordersF m 0).map ordD)), Sl.un, Sl.un, Sl.un, Sl.un] _
  refine wss_cons <| ws_for <| wi_rng1 (hm := mg'.range) <| we_name 0 rfl ⟨(m : Int), rfl, by omega, by omega, fun t ρ => ∃ s2 s3 s4 : Sl, ρ = [Sl.fz (.int (m : Int)), Sl.fz (.list ((ordersF m t).map ordD)), s2, s3, s4, Sl.un], ⟨_, _, _, rfl⟩, ?_, ?_⟩
  · rintro t d _ hd ⟨s2, s3, s4, rfl⟩
    obtain ⟨ht, rfl⟩ := rgD_get hd
    rw [Int.zero_add]
    have ht : t < m := by omega
    have hb := hbig t (by omega)
    have hb2 := hbig (t + 1) (by omega)
    have hmem := fun row (h : row ∈ ordersF m t) => orders_mem h
    have eN : ordersF m (t + 1) = (ordersF m t).flatMap (nextO m) := rfl
    rw [eN] at hb2
    generalize hxs : ordersF m t = xs at hb hb2 hmem eN
    refine wg_name 2 ?_
    refine wss_cons <| ws_own 3 <| wl_lst <| wa_nil ⟨Nat.zero_le _, Nat.lt_of_sub_pos (by exact of_decide_eq_true rfl), ?_⟩
    show WSs _ _ _ [Sl.fz (.int (m : Int)), Sl.fz (.list (xs.map ordD)), Sl.fz (.int (t : Int)), Sl.ow [], s4, Sl.un] _
    refine wss_cons <| ws_for <| wi_list <| we_name 1 rfl ⟨_, rfl, fun i ρ => ∃ s4 : Sl, ρ = [Sl.fz (.int (m : Int)), Sl.fz (.list (xs.map ordD)), Sl.fz (.int (t : Int)), Sl.ow (((xs.take i).flatMap (nextO m)).map ordD), s4, Sl.un], ⟨_, rfl⟩, ?_, ?_⟩
    · rintro i d _ hd ⟨s4, rfl⟩
      rw [List.getElem?_map] at hd
      obtain ⟨row, hr, rfl⟩ := Option.map_eq_some_iff.mp hd
      obtain ⟨_, _, hrl⟩ := hmem row (List.mem_of_getElem? hr)
      have hpl : ((xs.take i).flatMap (nextO m)).length ≤ 46656 := by
        have h1 : (xs.flatMap (nextO m)).length = ((xs.take i).flatMap (nextO m)).length + ((xs.drop i).flatMap (nextO m)).length := by
          rw [← List.length_append, ← List.flatMap_append, List.take_append_drop]
        omega
      have hnl := nextO_len m row
      refine wg_name 4 ?_
      show WSs _ _ _ [Sl.fz (.int (m : Int)), Sl.fz (.list (xs.map ordD)), Sl.fz (.int (t : Int)), Sl.ow (((xs.take i).flatMap (nextO m)).map ordD), Sl.fz (ordD row), Sl.un] _
      refine wss_one <| ws_extend 3 (we_wl <| wl_lc [("spot", 5)] (pg_own 5) (by kernel_rfl) <| wi_rng1 (hm := mg'.range) <| we_name 0 rfl ⟨(m : Int), rfl, by omega, by omega, fun j acc ρ' => acc = (((List.range j).filter fun s => !decide (s ∈ row)).map fun s => row ++ [s]).map ordD ∧ ρ' = [Sl.fz (.int (m : Int)), Sl.fz (.list (xs.map ordD)), Sl.fz (.int (t : Int)), Sl.ow (((xs.take i).flatMap (nextO m)).map ordD), Sl.fz (ordD row), Sl.un], ?_, ⟨rfl, rfl⟩, ?_, ?_⟩) rfl
      · rw [rgD_len]; omega
      · rintro j d acc _ hdj _ ⟨rfl, rfl⟩
        obtain ⟨hj, rfl⟩ := rgD_get hdj
        rw [Int.zero_add]
        refine ⟨_, gd_name 5, wts_one <| wt_c <| wc_notIn <| we_name 5 rfl <| we_name 4 rfl ⟨j, row, rfl, .inr rfl, _, rfl, fun q => we_add <| we_name 4 rfl <| we_tup <| wa_cons <| we_name 5 rfl <| wa_nil ⟨few_ok (n := 1) rfl, ordD (row ++ [j]), ?_, ?_, rfl⟩, fun q => ⟨?_, rfl⟩⟩⟩
        · show addD (.tuple (natL row)) (.tuple [PyData.int (j : Int)]) = some (.tuple (natL (row ++ [j])))
          unfold natL
          rw [addD_tup (by rw [List.length_map, List.length_singleton]; omega), List.map_append]
          rfl
        · rw [List.range_succ, List.filter_append, List.filter_cons, if_pos q, List.map_append, List.map_append]
          rfl
        · rw [List.range_succ, List.filter_append, List.filter_cons, if_neg (by rw [q]; decide), List.filter_nil, List.append_nil]
      · rintro acc _ _ ⟨rfl, rfl⟩
        have el : (rgD 0 (m : Int).toNat).length = m := by rw [rgD_len]; omega
        rw [el]
        refine ⟨_, _, rfl, rfl, ?_, Sl.fz (ordD row), ?_⟩
        · rw [List.length_map, List.length_map]
          have : (((List.range m).filter fun s => !decide (s ∈ row)).map fun s => row ++ [s]).length ≤ m := hnl
          omega
        · rw [take_snoc hr, List.flatMap_append, List.map_append, List.flatMap_singleton]
          rfl
    · rintro _ ⟨s4, rfl⟩
      rw [List.length_map, List.take_length]
      refine wss_freeze 3 rfl ?_
      show WSs _ _ _ [Sl.fz (.int (m : Int)), Sl.fz (.list (xs.map ordD)), Sl.fz (.int (t : Int)), Sl.fz (.list ((xs.flatMap (nextO m)).map ordD)), s4, Sl.un] _
      exact wss_one <| ws_asg <| we_name 3 rfl <| wg_name 1 ⟨Sl.fz (.int (t : Int)), Sl.fz (.list ((xs.flatMap (nextO m)).map ordD)), s4, by rw [eN]; rfl⟩
  · rintro _ ⟨s2, s3, s4, rfl⟩
    rw [rgD_len, show (m : Int).toNat = m by omega]
    exact wss_one <| ws_ret <| we_name 1 rfl hΨ

def S_exc (n : Nat) (ds : List PyData) (Ψ : PyData → Nat → Prop) : Prop := ∃ (os : List Nat) (L : Nat), ds = [ordD os] ∧ os.Perm (List.range L) ∧ 1 ≤ L ∧ L ≤ 60 ∧ n + 100 < big ∧ ∀ ns : List Nat, ns.Perm (List.range L) → Ψ (ordD ns) (n + 2)
theorem ok_exc (Fu : Fun K "_law_exchanged" "_law_exchanged" s_law_exchanged f fd) (m : Mgs mg) (cD : Cal P w K mg base 1 "_law_draw" (DF S_draw)) : FnOk P w K mg base CX0 2 f fd ["deck", "row_order"] (DF S_exc) := by
  refine df_ok Fu c_law_exchanged (fun n ds Ψ ⟨_, _, e, _⟩ => by rw [e]; rfl) fun F n ds Ψ ⟨os, L, e, ho, l1, l60, hn, hΨ⟩ => ?_
  subst e
  have hl := ord_len ho
  have bl := big_lt
  show WSs _ _ _ [Sl.dk n, Sl.fz (ordD os), Sl.un, Sl.un, Sl.un] _
  refine wss_cons <| ws_own 2 <| wl_list (hm := m.list) <| we_name 1 rfl ⟨natL os, rfl, Nat.lt_of_sub_pos (by exact of_decide_eq_true rfl), ?_⟩
  show WSs _ _ _ [Sl.dk n, Sl.fz (ordD os), Sl.ow (natL os), Sl.un, Sl.un] _
  have hlen : lenD (.list (natL os)) = some L := by show (some (natL os).length) = _; unfold natL; rw [List.length_map, hl]
  refine wss_cons <| ws_par 3 4 (wa_cons <| we_draw 0 cD rfl <| we_look <| we_len (hm := m.len) <| we_name 2 rfl ⟨L, hlen, rfl, rfl, n, (L : Int), rfl, rfl, by omega, lg (by omega) (by omega), by omega, fun x x0 x1 => wa_cons <| we_draw 0 cD rfl <| we_look <| we_len (hm := m.len) <| we_name 2 rfl ⟨L, hlen, rfl, rfl, n + 1, (L : Int), rfl, rfl, by omega, lg (by omega) (by omega), by omega, fun y y0 y1 => wa_nil ⟨_, _, rfl, ?_, Nat.lt_of_sub_pos (by exact of_decide_eq_true rfl), Nat.lt_of_sub_pos (by exact of_decide_eq_true rfl)⟩⟩⟩) (hw := by rintro ⟨⟩ rfl; rfl)
  obtain ⟨a, rfl⟩ := Int.eq_ofNat_of_zero_le x0
  obtain ⟨b, rfl⟩ := Int.eq_ofNat_of_zero_le y0
  have ha : a < os.length := by omega
  have hb : b < os.length := by omega
  show WSs _ _ _ [Sl.dk (n + 2), Sl.fz (ordD os), Sl.ow (natL os), Sl.fz (.int (a : Int)), Sl.fz (.int (b : Int))] _
  have ga : atI (natL os) (a : Int) = some (.int ((os[a] : Nat) : Int)) := atI_nat (by unfold natL; rw [List.getElem?_map, List.getElem?_eq_getElem ha]; rfl)
  have gb : atI (natL os) (b : Int) = some (.int ((os[b] : Nat) : Int)) := atI_nat (by unfold natL; rw [List.getElem?_map, List.getElem?_eq_getElem hb]; rfl)
  refine wss_cons <| ws_asgS <| we_tup <| wa_cons <| we_ownix 2 (we_name 4 rfl ⟨(b : Int), natL os, _, rfl, rfl, gb, wa_cons <| we_ownix 2 (we_name 3 rfl ⟨(a : Int), natL os, _, rfl, rfl, ga, wa_nil ⟨few_ok (n := 2) rfl, wg_tup ⟨_, rfl, rfl, wgs_cons <| wg_sub 2 (we_name 3 rfl ⟨natL os, a, rfl, rfl, by unfold natL; rw [List.length_map]; exact ha, wgs_cons <| wg_sub 2 (we_name 4 rfl ⟨_, b, rfl, rfl, by unfold natL; rw [List.length_set, List.length_map]; exact hb, wgs_nil ?_⟩) rfl⟩) rfl⟩⟩⟩) rfl⟩) rfl
  have e : ((natL os).set a (.int ((os[b] : Nat) : Int))).set b (.int ((os[a] : Nat) : Int)) = natL ((os.set a os[b]).set b os[a]) := by
    unfold natL
    rw [List.map_set, List.map_set]
  show WSs _ _ _ [Sl.dk (n + 2), Sl.fz (ordD os), Sl.ow (((natL os).set a (.int ((os[b] : Nat) : Int))).set b (.int ((os[a] : Nat) : Int))), Sl.fz (.int (a : Int)), Sl.fz (.int (b : Int))] _
  rw [e]
  exact wss_one <| ws_freeze 2 rfl <| ws_ret <| we_tuple (hm := m.tuple) <| we_name 2 rfl ⟨_, rfl, 0, n + 2, rfl, rfl, hΨ _ ((swap_perm ha hb).trans ho)⟩

def S_koK (n : Nat) (ds : List PyData) (Ψ : PyData → Nat → Prop) : Prop := ∃ (p : List (List Cell)) (k : Nat), ds = [pageD p] ∧ OkPage p k ∧ n + 100 < big ∧ ∀ (os : List Nat) (m : Nat), os.Perm (List.range p.length) → Kept p (tableOf p k) os → m ≤ n + 60 → Ψ (ordD os) m
theorem ok_koK (Fu : Fun K "_law_kept_order" "_law_kept_order" s_law_kept_order f fd) (m : Mgs mg) (cD : Cal P w K mg base 1 "_law_draw" (DF S_draw)) (cH : Cal P w K mg base 2 "_law_hosts" (PF S_lhs)) : FnOk P w K mg base CX0 3 f fd ["deck", "page_here"] (DF S_koK) := by
  refine df_ok Fu c_law_kept_order (fun n ds Ψ ⟨_, _, e, _⟩ => by rw [e]; rfl) fun F n ds Ψ ⟨p, k, e, hp, hn, hΨ⟩ => ?_
  subst e
  have hi := hp.hi
  have hs := seqN_len p
  have bl := big_lt
  show WSs _ _ _ [Sl.dk n, Sl.fz (pageD p), Sl.un, Sl.un, Sl.un, Sl.un, Sl.un] _
  refine wss_cons <| ws_asg <| we_call cH <| wa_cons <| we_name 1 rfl <| wa_nil ⟨p, k, rfl, hp, fun ks hks => wg_tup ⟨_, rfl, rfl, wgs_cons <| wg_name 2 <| wgs_cons <| wg_name 3 <| wgs_nil ?_⟩⟩
  refine wss_cons <| ws_own 4 <| wl_lst <| wa_nil ⟨Nat.zero_le _, Nat.lt_of_sub_pos (by exact of_decide_eq_true rfl), ?_⟩
  show WSs _ _ _ [Sl.dk n, Sl.fz (pageD p), Sl.fz (natsD (seqN p)), Sl.fz (.dict (dictD ks)), Sl.ow (natL []), Sl.un, Sl.un] _
  refine wss_cons <| ws_for <| wi_list <| we_name 2 rfl ⟨_, rfl, fun i ρ => ∃ (os : List Nat) (q : Nat) (s5 s6 : Sl), ρ = [Sl.dk q, Sl.fz (pageD p), Sl.fz (natsD (seqN p)), Sl.fz (.dict (dictD ks)), Sl.ow (natL os), s5, s6] ∧ os.Perm ((seqN p).take i) ∧ Kept p (tableOf p k) os ∧ q ≤ n + i, ⟨[], n, _, _, rfl, List.Perm.refl _, trivial, Nat.le_refl _⟩, ?_, ?_⟩
  · rintro i d _ hd ⟨os, q, s5, s6, rfl, hos, hke, hq⟩
    obtain ⟨r, hr, rfl⟩ := nats_get hd
    have hil : i < p.length := by have := (List.getElem?_eq_some_iff.mp hr).1; omega
    have er : (seqN p).getD i 0 = r := by rw [List.getD_eq_getElem?_getD, hr]; rfl
    have hv := hks.at_ i hil
    rw [er] at hv
    have hpos := host_pos hp hil
    have hfew := host_few (p := p) (n := k) (a := i)
    have hmem : ∀ z ∈ hostAt p (tableOf p k) i, z = .none ∨ ∃ h ∈ (seqN p).take i, z = .int (h : Int) := fun z hz => host_mem hz
    have hkz : ∀ z ∈ hostAt p (tableOf p k) i, Kept p (tableOf p k) (insAt os z r) := fun z hz => by
      refine ins_kept hke (fun b hb => by rw [← er]; exact seq_le hil (hos.mem_iff.mp hb)) ?_
      rcases host_R hz with h | ⟨j, hj, h3, h4⟩
      · rw [er] at h; exact .inl h
      · rw [er] at h4; exact .inr ⟨j, hos.mem_iff.mpr hj, h3, h4⟩
    have hol : os.length = i := by rw [hos.length_eq, List.length_take]; omega
    have hnd : os.Nodup := hos.nodup_iff.mpr ((seqN_nodup p).sublist (List.take_sublist _ _))
    have tk : (seqN p).take (i + 1) = (seqN p).take i ++ [r] := take_snoc hr
    generalize hostAt p (tableOf p k) i = hl at hv hpos hfew hmem hkz
    have fin : ∀ (z : PyData) (xs : List PyData) (s5 s6 : Sl), z ∈ hl → xs = natL (insAt os z r) → ∃ (os' : List Nat) (q' : Nat) (t5 t6 : Sl), [Sl.dk (q + 1), Sl.fz (pageD p), Sl.fz (natsD (seqN p)), Sl.fz (.dict (dictD ks)), Sl.ow xs, s5, s6] = [Sl.dk q', Sl.fz (pageD p), Sl.fz (natsD (seqN p)), Sl.fz (.dict (dictD ks)), Sl.ow (natL os'), t5, t6] ∧ os'.Perm ((seqN p).take (i + 1)) ∧ Kept p (tableOf p k) os' ∧ q' ≤ n + (i + 1) := fun z xs s5 s6 hz hx => by
      refine ⟨insAt os z r, q + 1, s5, s6, by rw [hx], ?_, hkz z hz, by omega⟩
      rw [tk]
      exact ((ins_perm os z r).trans (List.Perm.cons r hos)).trans (List.perm_append_singleton r _).symm
    refine wg_name 5 ?_
    refine wss_cons <| ws_asg <| we_idx <| we_dget <| we_name 3 rfl <| we_name 5 rfl ⟨ks, .inl (r : Int), _, rfl, rfl, hv, we_draw 0 cD rfl <| we_len (hm := m.len) <| we_dget <| we_name 3 rfl <| we_name 5 rfl ⟨ks, .inl (r : Int), _, rfl, rfl, hv, hl.length, rfl, q, (hl.length : Int), rfl, rfl, by omega, lg (by omega) (by omega), by omega, fun x x0 x1 => ?_⟩⟩
    obtain ⟨j, rfl⟩ := Int.eq_ofNat_of_zero_le x0
    have hj : j < hl.length := by omega
    refine ⟨hl[j], atI_nat (List.getElem?_eq_getElem hj), wg_name 6 ?_⟩
    have hzm := List.getElem_mem hj
    rcases hmem _ (List.getElem_mem hj) with hz | ⟨h, hh, hz⟩
    · rw [hz] at hzm ⊢
      show WSs _ _ _ [Sl.dk (q + 1), Sl.fz (pageD p), Sl.fz (natsD (seqN p)), Sl.fz (.dict (dictD ks)), Sl.ow (natL os), Sl.fz (.int (r : Int)), Sl.fz .none] _
      refine wss_one <| ws_insert 4 (we_ife <| wt_c <| wc_isN <| we_name 6 rfl ⟨true, rfl, fun _ => we_int <| we_name 5 rfl ⟨0, natL os, rfl, by decide, rfl, ?_, fin _ _ _ _ hzm rfl⟩, (fun h => nomatch h)⟩) rfl
      unfold natL
      rw [List.length_map]
      omega
    · rw [hz] at hzm ⊢
      have hho : h ∈ os := hos.mem_iff.mpr hh
      obtain ⟨c, hc, hci⟩ : ∃ c, os[c]? = some h ∧ os.idxOf h = c := ⟨os.idxOf h, by rw [List.getElem?_eq_getElem (List.idxOf_lt_length_of_mem hho), List.getElem_idxOf], rfl⟩
      have hcl := (List.getElem?_eq_some_iff.mp hc).1
      show WSs _ _ _ [Sl.dk (q + 1), Sl.fz (pageD p), Sl.fz (natsD (seqN p)), Sl.fz (.dict (dictD ks)), Sl.ow (natL os), Sl.fz (.int (r : Int)), Sl.fz (.int (h : Int))] _
      refine wss_one <| ws_insert 4 (we_ife <| wt_c <| wc_isN <| we_name 6 rfl ⟨false, rfl, (fun h => nomatch h), fun _ => we_add <| we_index 4 (we_name 6 rfl ⟨os, c, h, rfl, rfl, hc, fun a z ha hza he => ?_, we_int ⟨.int ((c + 1 : Nat) : Int), by rfl, we_name 5 rfl ⟨c + 1, natL os, rfl, by omega, rfl, ?_, fin _ _ _ _ hzm ?_⟩⟩⟩) rfl⟩) rfl
      · rw [he] at hza
        obtain ⟨q1, q2⟩ := List.getElem?_eq_some_iff.mp hza
        obtain ⟨q3, q4⟩ := List.getElem?_eq_some_iff.mp hc
        exact List.pairwise_iff_getElem.mp hnd a c q1 q3 ha (by rw [q2, q4])
      · unfold natL
        rw [List.length_map]
        omega
      · show _ = natL (os.take (os.idxOf ((h : Int).toNat) + 1) ++ [r] ++ os.drop (os.idxOf ((h : Int).toNat) + 1))
        rw [Int.toNat_natCast, hci]
        unfold natL
        rw [List.map_append, List.map_append, List.map_take, List.map_drop]
        rfl
  · rintro _ ⟨os, q, s5, s6, rfl, hos, hke, hq⟩
    have el : ((seqN p).map fun (n : Nat) => PyData.int (n : Int)).length = p.length := by rw [List.length_map, hs]
    rw [el] at hos hq
    rw [List.take_of_length_le (by omega)] at hos
    refine wss_one <| ws_freeze 4 rfl <| ws_ret <| we_tuple (hm := m.tuple) <| we_name 4 rfl ⟨_, rfl, 0, q, rfl, rfl, hΨ os q (hos.trans (seqN_perm p)) hke (by omega)⟩

end
end G

set_option Elab.async false
set_option linter.all false
set_option maxRecDepth 100000
set_option maxHeartbeats 1000000
namespace G
open PySem PySem.Spec PyProof.Rows L2
section
variable {P : Program} {w : World} {K : PySem.W.Frag} {mg : Str → Option Value} {base : Heap} {f : Addr} {fd : FuncData}
theorem ok_lrdL (Fu : Fun K "_law_read" "_law_read" s_law_read f fd) (m : Mgs mg) : FnOk P w K mg base CX0 1 f fd ["rows_here"] (PF S_rrL) := by
  refine pf_ok Fu c_law_read (fun ds Ψ ⟨r, s, e, _⟩ => by rw [e]; rfl) fun ds Ψ ⟨p, n, e, hp, hΨ⟩ => ?_
  subst e
  have lo := hp.lo
  have hi := hp.hi
  have hn := hp.cols
  show WSs _ _ _ [Sl.fz (.list (p.map rowD)), Sl.un, Sl.un, Sl.un, Sl.un, Sl.un] _
  refine wss_cons (ws_own 1 (wl_lst (wa_nil ⟨by decide, Nat.lt_of_sub_pos (by exact of_decide_eq_true rfl), ?_⟩)))
  refine wss_cons (ws_for (wi_list (we_name 0 rfl ⟨_, rfl, fun i ρ => ∃ s2 s3, ρ = [Sl.fz (.list (p.map rowD)), Sl.ow ((readR (blankRow n) (p.take i)).map rowD), s2, s3, Sl.un, Sl.un], ⟨_, _, rfl⟩, ?_, ?_⟩)))
  · rintro i d _ hd ⟨s2, s3, rfl⟩
    rw [List.getElem?_map] at hd
    obtain ⟨r, hr, rfl⟩ := Option.map_eq_some_iff.mp hd
    have hm := List.mem_of_getElem? hr
    have hrn := hp.wide r hm
    have hro := hp.row r hm
    have hil : i < p.length := (List.getElem?_eq_some_iff.mp hr).1
    have hab : (readE (blankRow n) (p.take i)).length = n := readE_len (by simp [blankRow]) fun s hs => hp.wide s (List.mem_of_mem_take hs)
    have step : ∀ D : SE, (∀ s2 s3, D.nx [Sl.fz (.list (p.map rowD)), Sl.ow ((readR (blankRow n) (p.take (i + 1))).map rowD), s2, s3, Sl.un, Sl.un]) → WSs (ctOf P w K mg base n_law_read s_law_read 0) noF ((forBody ((defBody s_law_read).getD 1 (.Pass ⟨0, 0, 0, 0⟩))).drop 1) [Sl.fz (.list (p.map rowD)), Sl.ow ((readR (blankRow n) (p.take i)).map rowD), Sl.fz (rowD r), Sl.fz (rowD (readE (blankRow n) (p.take i))), Sl.un, Sl.un] D := fun D hD => by
      refine wss_one (ws_append 1 (we_tuple (we_wl (wl_to2 [("spot", 4), ("cell", 5)] 4 5 (by kernel_rfl) (wi_enumT (we_name 2 rfl ⟨_, rfl, (readOne (readE (blankRow n) (p.take i)) r).map cellD, ?_, ?_, Nat.lt_of_sub_pos (by exact of_decide_eq_true rfl), Nat.lt_of_sub_pos (by exact of_decide_eq_true rfl), fun j d hd => ?_, _, rfl, _, rfl, ?_, ?_⟩) m.enum))) m.tuple) rfl)
      · rw [enumD_len, List.length_map]; omega
      · rw [enumD_len, List.length_map, List.length_map, readOne_len hab hrn, hrn]
      · obtain ⟨y, hy, rfl⟩ := enumD_get hd
        rw [List.getElem?_map] at hy
        obtain ⟨x, hx, rfl⟩ := Option.map_eq_some_iff.mp hy
        have hj : j < n := by have := (List.getElem?_eq_some_iff.mp hx).1; omega
        obtain ⟨g1, g2⟩ := readOne_get (ab := readE (blankRow n) (p.take i)) (r := r) (by rw [hab, hrn]) j
        refine ⟨_, _, rfl, we_ife (wt_c (wc_isN (we_name 5 rfl ⟨_, rfl, fun q => ?_, fun q => we_name 5 rfl ⟨?_, rfl⟩⟩)))⟩
        · rw [hro.none_iff hx] at q
          have q := of_decide_eq_true q
          have hj2 : j < (readE (blankRow n) (p.take i)).length := by omega
          refine we_idx (we_name 3 rfl (we_name 4 rfl ⟨cellD (readE (blankRow n) (p.take i))[j], ?_, ?_, rfl⟩))
          · rw [Nat.zero_add]
            exact row_at (List.getElem?_eq_getElem hj2)
          · rw [List.getElem?_map, g1 q, List.getElem?_eq_getElem hj2]
            rfl
        · rw [hro.none_iff hx] at q
          have q := of_decide_eq_false q
          rw [List.getElem?_map, g2 (by omega), hx]
          rfl
      · rw [List.length_map, readR_length, List.length_take]; omega
      · have e1 : (readR (blankRow n) (p.take (i + 1))).map rowD = (readR (blankRow n) (p.take i)).map rowD ++ [rowD (readOne (readE (blankRow n) (p.take i)) r)] := by
          rw [take_snoc hr, readR_snoc, readE_append, List.map_append]
          rfl
        have := hD (.fz (rowD r)) (.fz (rowD (readE (blankRow n) (p.take i))))
        rw [e1] at this
        exact this
    have oR : okD (.list ((readR (blankRow n) (p.take i)).map rowD)) := (okN_list (n := 1) fun d hd => by
      obtain ⟨t, ht, rfl⟩ := List.mem_map.mp hd
      exact okN_row (readR_cells (fun x hx s e => by
        unfold blankRow at hx
        rw [List.eq_of_mem_replicate hx] at e
        cases e) (fun r hr => (hp.row r (List.mem_of_mem_take hr)).cells) t ht)).okD
    have o0 : okD (.list []) := (okN_list (n := 1) fun d hd => (by cases hd)).okD
    refine wg_name 2 ?_
    cases i with
    | zero =>
      refine wss_cons (ws_asg (we_ife (wt_look (wt_c (wc_neq (we_name 1 rfl (we_lst (wa_nil ⟨Nat.zero_le _, oR, o0, false, by rfl, rfl, (fun h => nomatch h), fun _ => ?_⟩))))))))
      refine we_mul (we_tup (wa_cons (we_none (wa_nil ⟨by decide, we_len (we_name 2 rfl ⟨r.length, len_row r, _, .inr (.inl ⟨[.none], r.length, rfl, rfl, rfl, by simp, by decide, by omega⟩), wg_name 3 ?_⟩) m.len⟩))))
      rw [hrn, blankRow_D]
      exact step _ fun s2 s3 => ⟨s2, s3, rfl⟩
    | succ i =>
      obtain ⟨r', hr'⟩ : ∃ r', p[i]? = some r' := ⟨p[i], List.getElem?_eq_getElem (by omega)⟩
      have hne : (readR (blankRow n) (p.take (i + 1))).map rowD = (readR (blankRow n) (p.take i)).map rowD ++ [rowD (readE (blankRow n) (p.take (i + 1)))] := by
        rw [take_snoc hr', readR_snoc, List.map_append]
        rfl
      refine wss_cons (ws_asg (we_ife (wt_look (wt_c (wc_neq (we_name 1 rfl (we_lst (wa_nil ⟨Nat.zero_le _, oR, o0, true, ?_, rfl, fun _ => ?_, (fun h => nomatch h)⟩))))))))
      · rw [hne, eqv_list]
        cases (readR (blankRow n) (p.take i)).map rowD <;> simp [PyData.eqvAll]
      · refine we_ownix 1 (we_neg (we_int ⟨1, rfl, _, _, rowD (readE (blankRow n) (p.take (i + 1))), rfl, rfl, ?_, wg_name 3 (step _ fun s2 s3 => ⟨s2, s3, rfl⟩)⟩)) rfl
        rw [hne]
        exact atI_snoc _ _
  · rintro _ ⟨s2, s3, rfl⟩
    rw [List.length_map, List.take_length]
    refine wss_one (ws_freeze 1 rfl (ws_ret (we_name 1 rfl ?_)))
    exact hΨ
theorem ok_fit (Fu : Fun K "_law_fits" "_law_fits" s_law_fits f fd) (m : Mgs mg) (cB : Cal P w K mg base 1 "_law_blanks" (PF S_lbl)) (cR : Cal P w K mg base 1 "_law_read" (PF S_rr)) (cS : Cal P w K mg base 1 "_law_shared" (PF S_vs)) : FnOk P w K mg base CX0 2 f fd ["page_here", "row_order"] (PF S_kee) := by
  refine pf_ok Fu c_law_fits (fun ds Ψ ⟨_, _, _, e, _⟩ => by rw [e]; rfl) fun ds Ψ ⟨p, n, os, e, hp, ho, hΨ⟩ => ?_
  subst e
  have hi := hp.hi
  have hlo := hp.lo
  have hl := ord_len ho
  have okT := hp.table
  have hTl := table_len p n
  have rowT : ∀ a, a < p.length → idxD (.list ((tableOf p n).map rowD)) (.int (a : Int)) = some (rowD ((tableOf p n).getD a [])) := fun a ha => by
    show atI ((tableOf p n).map rowD) ((a : Nat) : Int) = _
    exact atI_nat (by rw [List.getElem?_map, getD_at (by omega)]; rfl)
  show WSs _ _ _ [Sl.fz (pageD p), Sl.fz (ordD os), Sl.un, Sl.un, Sl.un, Sl.un, Sl.un] _
  refine wss_cons <| ws_asgS <| we_tup <| wa_cons <| we_call cB <| wa_cons <| we_name 0 rfl <| wa_nil ⟨p, n, rfl, hp.toOkRows, wa_cons <| we_call cR <| wa_cons <| we_name 0 rfl <| wa_nil ⟨p, n, rfl, hp.toOkRows, wa_nil ⟨few_ok (n := 2) rfl, wg_tup ⟨_, rfl, rfl, wgs_cons <| wg_name 2 <| wgs_cons <| wg_name 3 <| wgs_nil ?_⟩⟩⟩⟩
  show WSs _ _ _ [Sl.fz (pageD p), Sl.fz (ordD os), Sl.fz (natsD (p.map lead)), Sl.fz (.list ((tableOf p n).map rowD)), Sl.un, Sl.un, Sl.un] _
  cases os with
  | nil => simp only [List.length_nil] at hl; omega
  | cons a os =>
    have ha : a < p.length := ord_lt ho a List.mem_cons_self
    refine wss_cons <| ws_if <| wt_c <| wc_gt <| we_idx <| we_name 2 rfl <| we_idx <| we_name 1 rfl <| we_int ⟨.int (a : Int), atI_0, _, leads_at ha, we_int ⟨decide ((0 : Int) < (lead (p.getD a []) : Int)), rfl, _, rfl, fun q => ?_, fun q => wss_nil ?_⟩⟩
    · have q := of_decide_eq_true q
      rw [decide_eq_false (not_fits hp ho (by omega))] at hΨ
      exact wss_one <| ws_ret <| we_bool hΨ
    · have q := of_decide_eq_false q
      have h0 : lead (p.getD a []) = 0 := by omega
      have hfi := fits_iff hp ho h0
      refine wss_cons <| ws_asg <| we_wl <| wl_listZip true true (hm := m.zip) (hm1 := m.list) <| we_name 1 rfl <| we_slice <| we_name 1 rfl <| wo_some <| we_int ⟨1, rfl, wo_none ⟨_, cut_ord_from (a :: os) 1, natL (a :: os), natL os, rfl, rfl, rfl, rfl, ?_, wg_name 4 ?_⟩⟩
      · unfold natL; rw [List.length_map, List.length_map, List.length_cons]; simp only [List.length_cons] at hl; omega
      show WSs _ _ _ [Sl.fz (pageD p), Sl.fz (ordD (a :: os)), Sl.fz (natsD (p.map lead)), Sl.fz (.list ((tableOf p n).map rowD)), Sl.fz (.list (pairsD (natL (a :: os)) (natL os))), Sl.un, Sl.un] _
      refine wss_one <| ws_ret <| we_c <| wc_eq <| we_wl <| wl_lc [("above", 5), ("row", 6)] (pg_own2 5 6) (by kernel_rfl) <| wi_list <| we_name 4 rfl ⟨_, rfl, fun j acc ρ' => acc = onesL (badZ p (tableOf p n) ((List.zip (a :: os) os).take j)) ∧ ρ' = [Sl.fz (pageD p), Sl.fz (ordD (a :: os)), Sl.fz (natsD (p.map lead)), Sl.fz (.list ((tableOf p n).map rowD)), Sl.fz (.list (pairsD (natL (a :: os)) (natL os))), Sl.un, Sl.un], ?_, ⟨rfl, rfl⟩, ?_, ?_⟩
      · rw [pairsD_len]; unfold natL; rw [List.length_map, List.length_map]; simp only [List.length_cons] at hl ⊢; omega
      · rintro j d acc _ hd _ ⟨rfl, rfl⟩
        obtain ⟨x, y, h1, h2, rfl⟩ := pairsD_get hd
        unfold natL at h1 h2
        obtain ⟨b, hb, rfl⟩ := nats_get h1
        obtain ⟨r, hr, rfl⟩ := nats_get h2
        have hbl := ord_lt ho b (List.mem_of_getElem? hb)
        have hrl := ord_lt ho r (List.mem_cons_of_mem _ (List.mem_of_getElem? hr))
        have m1 := List.mem_of_getElem? (getD_at (T := tableOf p n) (by omega : r < (tableOf p n).length))
        have m2 := List.mem_of_getElem? (getD_at (T := tableOf p n) (by omega : b < (tableOf p n).length))
        have hz : (List.zip (a :: os) os)[j]? = some (b, r) := zip_get hb hr
        refine ⟨_, gd_tup2 5 6, wts_one <| wt_c <| wc_lt <| we_call cS <| wa_cons <| we_idx <| we_name 3 rfl <| we_name 6 rfl ⟨_, rowT r hrl, wa_cons <| we_idx <| we_name 3 rfl <| we_name 5 rfl ⟨_, rowT b hbl, wa_nil ⟨_, _, rfl, okT.toOkRows.cells _ m1, okT.toOkRows.cells _ m2, ?_, we_idx <| we_name 2 rfl <| we_name 6 rfl ⟨_, leads_at hrl, decide ((sh ((tableOf p n).getD r []) ((tableOf p n).getD b []) : Int) < (lead (p.getD r []) : Int)), rfl, _, rfl, fun q => we_int ⟨?_, rfl⟩, fun q => ⟨?_, rfl⟩⟩⟩⟩⟩⟩
        · rw [okT.wide _ m1, okT.wide _ m2]
          exact Nat.le_refl _
        · have q := of_decide_eq_true q
          unfold onesL badZ
          rw [take_snoc hz, List.filter_append, List.map_append]
          congr 1
          rw [List.filter_cons, if_pos (by exact decide_eq_true (by show sh ((tableOf p n).getD r []) ((tableOf p n).getD b []) < lead (p.getD r []); omega))]
          rfl
        · have q := of_decide_eq_false q
          unfold onesL badZ
          rw [take_snoc hz, List.filter_append, List.map_append, List.filter_cons, if_neg (by rw [decide_eq_false (by show ¬ sh ((tableOf p n).getD r []) ((tableOf p n).getD b []) < lead (p.getD r []); omega)]; decide)]
          simp
      · rintro acc _ _ ⟨rfl, rfl⟩
        have el : (pairsD (natL (a :: os)) (natL os)).length = (List.zip (a :: os) os).length := by rw [pairsD_len]; unfold natL; rw [List.length_map, List.length_map, List.length_zip]
        rw [el, List.take_length]
        refine we_lst <| wa_nil ⟨Nat.zero_le _, okD_ones _, (okN_nats []).okD, ?_⟩
        rw [eqv_ones]
        have e : decide (badZ p (tableOf p n) (List.zip (a :: os) os) = []) = decide (wrongN p n (a :: os) = []) := by
          by_cases h : wrongN p n (a :: os) = []
          · rw [decide_eq_true h, decide_eq_true (hfi.mpr h)]
          · rw [decide_eq_false h, decide_eq_false fun z => h (hfi.mp z)]
        rw [e]
        exact hΨ
theorem ok_lik (Fu : Fun K "_law_is_kept" "_law_is_kept" s_law_is_kept f fd) (m : Mgs mg) (cR : Cal P w K mg base 1 "_law_read" (PF S_rr)) (cRL : Cal P w K mg base 1 "_law_read" (PF S_rrL)) : FnOk P w K mg base CX0 2 f fd ["page_here", "row_order"] (PF S_kee) := by
  refine pf_ok Fu c_law_is_kept (fun ds Ψ ⟨_, _, _, e, _⟩ => by rw [e]; rfl) fun ds Ψ ⟨p, n, os, e, hp, ho, hΨ⟩ => ?_
  subst e
  have hi := hp.hi
  have hl := ord_len ho
  have okT := hp.table
  have hTl := table_len p n
  obtain ⟨hrc, hrl, hr6⟩ := readL_cells hp ho
  have okP := permP_ok hp.toOkRows ho
  have eRd : ∀ Ψ' : List PyData → Prop, Ψ' ((readL p n os).map rowD) → Ψ' ((readR (blankRow n) (permT p os)).map rowD) := fun _ h => h
  have rowT : ∀ a, a < p.length → idxD (.list ((tableOf p n).map rowD)) (.int (a : Int)) = some (rowD ((tableOf p n).getD a [])) := fun a ha => by
    show atI ((tableOf p n).map rowD) ((a : Nat) : Int) = _
    exact atI_nat (by rw [List.getElem?_map, getD_at (by omega)]; rfl)
  have eW := wrongN_nil (p := p) (n := n) (os := os)
  show WSs _ _ _ [Sl.fz (pageD p), Sl.fz (ordD os), Sl.un, Sl.un, Sl.un, Sl.un] _
  refine wss_cons <| ws_asgS <| we_tup <| wa_cons <| we_call cR <| wa_cons <| we_name 0 rfl <| wa_nil ⟨p, n, rfl, hp.toOkRows, wa_cons <| we_call cRL <| wa_cons <| we_wl <| wl_to1 [("row", 4)] 4 (by kernel_rfl) <| wi_tup <| we_name 1 rfl ⟨_, rfl, (permT p os).map rowD, ?_, ?_, Nat.lt_of_sub_pos (by exact of_decide_eq_true rfl), fun i d hd => ?_, wa_nil ⟨permT p os, n, rfl, okP, wa_nil ⟨few_ok (n := 2) rfl, wg_tup ⟨_, rfl, rfl, wgs_cons <| wg_name 2 <| wgs_cons <| wg_name 3 <| wgs_nil ?_⟩⟩⟩⟩⟩
  · unfold natL; rw [List.length_map]; omega
  · unfold natL permT; rw [List.length_map, List.length_map, List.length_map]
  · unfold natL at hd
    obtain ⟨x, hx, rfl⟩ := nats_get hd
    have hlt := ord_lt ho x (List.mem_of_getElem? hx)
    refine we_idx <| we_name 0 rfl <| we_name 4 rfl ⟨rowD (p.getD x []), page_at (getD_at hlt), ?_, rfl⟩
    unfold permT
    rw [List.getElem?_map, List.getElem?_map, hx]
    rfl
  show WSs _ _ _ [Sl.fz (pageD p), Sl.fz (ordD os), Sl.fz (.list ((tableOf p n).map rowD)), Sl.fz (.list ((readL p n os).map rowD)), Sl.un, Sl.un] _
  generalize hrd : readL p n os = rd at hrc hrl hr6 eRd eW
  refine wss_one <| ws_ret <| we_c <| wc_eq <| we_wl <| wl_lc [("row", 4), ("found", 5)] (pg_own2 4 5) (by kernel_rfl) <| wi_zip true false (hm := m.zip) <| we_name 1 rfl <| we_name 3 rfl ⟨_, _, rfl, rfl, rfl, rfl, fun j acc ρ' => acc = onesL (wrongZ (tableOf p n) ((List.zip os rd).take j)) ∧ ρ' = [Sl.fz (pageD p), Sl.fz (ordD os), Sl.fz (.list ((tableOf p n).map rowD)), Sl.fz (.list (rd.map rowD)), Sl.un, Sl.un], ?_, ⟨rfl, rfl⟩, ?_, ?_⟩
  · rw [pairsD_len]; unfold natL; rw [List.length_map, List.length_map]; omega
  · rintro j d acc _ hd _ ⟨rfl, rfl⟩
    obtain ⟨x, y, h1, h2, rfl⟩ := pairsD_get hd
    unfold natL at h1
    obtain ⟨a, ha, rfl⟩ := nats_get h1
    rw [List.getElem?_map] at h2
    obtain ⟨r, hr, rfl⟩ := Option.map_eq_some_iff.mp h2
    have hlt := ord_lt ho a (List.mem_of_getElem? ha)
    have hT := getD_at (T := tableOf p n) (by omega : a < (tableOf p n).length)
    have hz : (List.zip os rd)[j]? = some (a, r) := zip_get ha hr
    refine ⟨_, gd_tup2 4 5, wts_one <| wt_c <| wc_neq <| we_name 5 rfl <| we_idx <| we_name 2 rfl <| we_name 4 rfl ⟨_, rowT a hlt, (okN_row (hrc r (List.mem_of_getElem? hr))).okD, (okN_row (okT.toOkRows.cells _ (List.mem_of_getElem? hT))).okD, !decide (r = (tableOf p n).getD a []), ?_, fun q => we_int ⟨?_, rfl⟩, fun q => ⟨?_, rfl⟩⟩⟩
    · rw [eqv_row]
    · rw [take_snoc hz]
      unfold wrongZ onesL
      rw [List.filter_append, List.map_append, List.map_append]
      congr 1
      rw [List.filter_cons, if_pos q]
      rfl
    · rw [take_snoc hz]
      unfold wrongZ onesL
      rw [List.filter_append, List.map_append, List.map_append, List.filter_cons, if_neg (by rw [q]; decide)]
      simp
  rintro acc _ _ ⟨rfl, rfl⟩
  have el : (pairsD (natL os) (rd.map rowD)).length = (List.zip os rd).length := by rw [pairsD_len]; unfold natL; rw [List.length_map, List.length_map, List.length_zip]
  rw [el, List.take_length]
  refine we_lst <| wa_nil ⟨Nat.zero_le _, okD_ones _, (okN_nats []).okD, ?_⟩
  rw [eqv_ones]
  have e : decide (wrongZ (tableOf p n) (List.zip os rd) = []) = decide (wrongN p n os = []) := by
    by_cases h : wrongN p n os = []
    · rw [decide_eq_true h, decide_eq_true (eW.mpr h)]
    · rw [decide_eq_false h, decide_eq_false fun z => h (eW.mp z)]
  rw [e]
  exact hΨ
end
end G

set_option Elab.async false
set_option linter.all false
set_option maxRecDepth 100000
set_option maxHeartbeats 400000
namespace G
open PySem PySem.Spec PyProof.Rows L2
section
variable {P : Program} {w : World} {K : PySem.W.Frag} {mg : Str → Option Value} {base : Heap} {f : Addr} {fd : FuncData}
def S_ri8 (ds : List PyData) (Ψ : PyData → Prop) : Prop := ∃ (p : List (List Cell)) (n : Nat) (os : List Nat), ds = [pageD p, ordD os] ∧ OkPage p n ∧ os.Perm (List.range p.length) ∧ Ψ (.bool true)
theorem ok_ri8 (Fu : Fun K "_law_right" "_law_right" s_law_right f fd) (m : Mgs mg) (mr : mg "repr" = none) (cI : Cal P w K mg base 2 "_law_is_kept" (PF S_kee)) (cF : Cal P w K mg base 2 "_law_fits" (PF S_kee)) (cK : Cal P w K mg base 8 "keeps" (PF S_kee)) (kK : CalK P w K mg base 8 "keeps" ["order", "page"] (fun xs => xs.reverse) (PF S_kee)) (cS : Cal P w K mg base 2 "_law_same" (PF (S_same 1))) : FnG P w K mg base 9 f fd ["page_here", "row_order"] (PF S_ri8) := by
  refine pf_okG Fu c_law_right (fun ds Ψ ⟨a, b, d, e, _⟩ => by rw [e]; rfl) fun ds Ψ ⟨p, n, os, e, hp, ho, hΨ⟩ => ?_
  subst e
  have hi := hp.hi
  have sk : CanShow (.list [pageD p, ordD os]) := (light_twoA (k := 3300) (light_page hp.toOkRows) (light_upA (light_ordA ho hi) (by decide))).show (okN_twoA (k := 2) (okN_page hp.toOkRows.cells) (okN_upA (okN_ordA os) (by decide)))
  show WSs _ _ _ [Sl.fz (pageD p), Sl.fz (ordD os), Sl.un, Sl.un, Sl.un] _
  refine wss_cons <| ws_par 2 3 (wa_cons <| we_repr (hm := mr) <| we_lst <| wa_cons <| we_name 0 rfl <| wa_cons <| we_name 1 rfl <| wa_nil ⟨few_ok (n := 2) rfl, rfl, sk, wa_cons <| we_call cI <| wa_cons <| we_name 0 rfl <| wa_cons <| we_name 1 rfl <| wa_nil ⟨p, n, os, rfl, hp, ho, wa_nil ⟨_, _, rfl, ?_, Nat.lt_of_sub_pos (by exact of_decide_eq_true rfl), Nat.lt_of_sub_pos (by exact of_decide_eq_true rfl)⟩⟩⟩) (hw := by rintro ⟨⟩ rfl; rfl)
  generalize hb : decide (wrongN p n os = []) = b
  show WSs _ _ _ [Sl.fz (pageD p), Sl.fz (ordD os), Sl.fz (.str (PyData.list [pageD p, ordD os]).shown), Sl.fz (.bool b), Sl.un] _
  refine wss_cons <| ws_if <| wt_c <| wc_neq <| we_name 3 rfl <| we_call cF <| wa_cons <| we_name 0 rfl <| wa_cons <| we_name 1 rfl <| wa_nil ⟨p, n, os, rfl, hp, ho, okD_bool _, okD_bool _, false, by rw [eqv_bool, hb, decide_eq_true rfl]; rfl, (fun h => nomatch h), fun _ => wss_nil ?_⟩
  refine wss_cons <| ws_asg <| we_lst <| wa_cons <| we_call cK <| wa_cons <| we_name 0 rfl <| wa_cons <| we_name 1 rfl <| wa_nil ⟨p, n, os, rfl, hp, ho, wa_cons <| we_callK2 (fun xs => xs.reverse) kK (fun r => r.reverse) <| we_name 1 rfl <| we_name 0 rfl ⟨p, n, os, rfl, hp, ho, wa_nil ⟨few_ok (n := 2) rfl, wg_name 4 ?_⟩⟩⟩
  rw [hb]
  show WSs _ _ _ [Sl.fz (pageD p), Sl.fz (ordD os), Sl.fz (.str (PyData.list [pageD p, ordD os]).shown), Sl.fz (.bool b), Sl.fz (.list [.bool b, .bool b])] _
  have o1 : okN 1 (.list [.bool b, .bool b]) := by cases b <;> exact ⟨rfl, by decide +kernel, by decide +kernel⟩
  have w1 : (PyData.list [.bool b, .bool b]).weight ≤ 80000 := by cases b <;> decide +kernel
  refine wss_one <| ws_ret <| we_and <| we_call cS <| wa_cons <| we_name 4 rfl <| wa_cons <| we_lst <| wa_cons <| we_name 3 rfl <| wa_cons <| we_name 3 rfl <| wa_nil ⟨few_ok (n := 2) rfl, wa_nil ⟨_, rfl, o1, w1, true, rfl, fun _ => ?_, (fun h => nomatch h)⟩⟩
  refine we_one <| we_c <| wc_eqS <| we_repr (hm := mr) <| we_lst <| wa_cons <| we_name 0 rfl <| wa_cons <| we_name 1 rfl <| wa_nil ⟨few_ok (n := 2) rfl, rfl, sk, we_name 2 rfl ⟨_, _, rfl, rfl, ?_⟩⟩
  rw [decide_eq_true rfl]
  exact hΨ
abbrev lapBody : List Stmt := forBody ((defBody s_law).getD 1 (.Pass ⟨0, 0, 0, 0⟩))
abbrev restBody : List Stmt := (defBody s_law).drop 2
theorem ok_lap (m : Mgs mg) (cD : Cal P w K mg base 1 "_law_draw" (DF S_draw)) (cT : Cal P w K mg base 3 "_law_table" (DF S_tab)) (cP : Cal P w K mg base 3 "_law_page" (DF S_pag)) (cL : Cal P w K mg base 1 "_law_orders" (PF S_los)) (cO : Cal P w K mg base 3 "_law_kept_order" (DF S_koK)) (cK : Cal P w K mg base 8 "keeps" (PF S_kee)) (cX : Cal P w K mg base 2 "_law_exchanged" (DF S_exc)) (cA : Cal P w K mg base 2 "_law_drawn" (DF S_shu)) (cR : CalG P w K mg base 9 "_law_right" (PF S_ri8)) {F : Fp} {i q : Nat} {s3 s4 s5 : Sl} {D : SE} (hq : q + 30000 < big)
    (hD : ∀ (q' : Nat) (s2 s3 s4 s5 : Sl), q' ≤ q + 30000 → D.nx [Sl.un, Sl.dk q', s2, s3, s4, s5]) : WSs (ctOfG P w K mg base n_law s_law 9) F lapBody [Sl.un, Sl.dk q, Sl.fz (.int (0 + (i : Int))), s3, s4, s5] D := by
  rw [Int.zero_add]
  refine wss_cons <| ws_asg <| we_callD 1 cP (wa_cons <| we_callD 1 cT (wa_cons <| we_int <| wa_cons <| we_add <| we_int <| we_draw 1 cD rfl <| we_int ⟨q, 3, rfl, rfl, by decide, by decide +kernel, by omega, fun x x0 x1 => ⟨_, rfl, wa_nil ⟨q + 1, rfl, 5, (1 + x).toNat, ?_, by decide, by decide, by omega, by omega, by omega, fun t m1 ht hl hm1 => ?_⟩⟩⟩) rfl) rfl
  · rw [Int.toNat_of_nonneg (by omega)]
    rfl
  generalize (1 + x).toNat = k at ht
  refine wa_nil ⟨m1, rfl, t, k, rfl, ht, by omega, fun p m2 hp hpt hm2 => wg_name 3 ?_⟩
  show WSs _ _ _ [Sl.un, Sl.dk m2, Sl.fz (.int (i : Int)), Sl.fz (pageD p), s4, s5] _
  have h5 : p.length ≤ 5 := by rw [← table_len p k, hpt]; exact hl
  have hol : (ordersF p.length p.length).length ≤ 7776 := Nat.le_trans (orders_len (by omega) p.length) (Nat.le_trans (Nat.pow_le_pow_right (by decide) h5) (by decide))
  refine wss_cons <| ws_if <| wt_c <| wc_neq <| we_wl <| wl_lc [("row_order", 4)] (pg_own 4) (by kernel_rfl) <| wi_list <| we_call cL <| wa_cons <| we_len (hm := m.len) <| we_name 3 rfl ⟨p.length, len_page p, wa_nil ⟨p.length, rfl, by omega, _, rfl, fun j acc ρ' => acc = [] ∧ ρ' = [Sl.un, Sl.dk m2, Sl.fz (.int (i : Int)), Sl.fz (pageD p), Sl.un, s5], ?_, ⟨rfl, rfl⟩, ?_, ?_⟩⟩
  · rw [List.length_map]; omega
  · rintro j d acc _ hd _ ⟨rfl, rfl⟩
    rw [List.getElem?_map] at hd
    obtain ⟨os, hos, rfl⟩ := Option.map_eq_some_iff.mp hd
    exact ⟨_, gd_name 4, wts_one <| wt_not <| wt_val <| we_callG cR <| wa_cons <| we_name 3 rfl <| wa_cons <| we_name 4 rfl <| wa_nil ⟨p, k, os, rfl, hp, orders_perm (List.mem_of_getElem? hos), true, rfl, (fun h => nomatch h), fun _ => ⟨rfl, rfl⟩⟩⟩
  rintro acc _ _ ⟨rfl, rfl⟩
  refine we_lst <| wa_nil ⟨Nat.zero_le _, (okN_nats []).okD, (okN_nats []).okD, false, rfl, (fun h => nomatch h), fun _ => wss_nil ?_⟩
  show WSs _ _ _ [Sl.un, Sl.dk m2, Sl.fz (.int (i : Int)), Sl.fz (pageD p), Sl.un, s5] _
  generalize Sl.fz (pageD p) = s3'
  refine wss_cons <| ws_asg <| we_callD 1 cP (wa_cons <| we_callD 1 cT (wa_cons <| we_int <| wa_cons <| we_add <| we_int <| we_draw 1 cD rfl <| we_int ⟨m2, 6, rfl, rfl, by decide, by decide +kernel, by omega, fun y y0 y1 => ⟨_, rfl, wa_nil ⟨m2 + 1, rfl, 60, (1 + y).toNat, ?_, by decide, by decide, by omega, by omega, by omega, fun t m3 ht hl hm3 => ?_⟩⟩⟩) rfl) rfl
  · rw [Int.toNat_of_nonneg (by omega)]
    rfl
  generalize (1 + y).toNat = k at ht
  refine wa_nil ⟨m3, rfl, t, k, rfl, ht, by omega, fun p m4 hp hpt hm4 => wg_name 3 ?_⟩
  show WSs _ _ _ [Sl.un, Sl.dk m4, Sl.fz (.int (i : Int)), Sl.fz (pageD p), Sl.un, s5] _
  have hlo := hp.lo
  have hhi := hp.hi
  refine wss_cons <| ws_asg <| we_callD 1 cO (wa_cons <| we_name 3 rfl <| wa_nil ⟨m4, rfl, p, k, rfl, hp, by omega, fun g m5 hg hgk hm5 => wg_name 5 ?_⟩) rfl
  show WSs _ _ _ [Sl.un, Sl.dk m5, Sl.fz (.int (i : Int)), Sl.fz (pageD p), Sl.un, Sl.fz (ordD g)] _
  have w1 : decide (wrongN p k g = []) = true := decide_eq_true ((wrong_iff hp hg).mpr hgk)
  have hr : (List.range p.length).Perm (List.range p.length) := List.Perm.refl _
  have w2 : decide (wrongN p k (List.range p.length) = []) = true := decide_eq_true ((wrong_iff hp hr).mpr (kept_id hp))
  refine wss_cons <| ws_if <| wt_of <| ww_or <| wt_c <| wc_notB <| we_call cK <| wa_cons <| we_name 3 rfl <| wa_cons <| we_name 5 rfl <| wa_nil ⟨p, k, g, rfl, hp, hg, true, by rw [w1], false, rfl, fun _ => ww_one <| wt_c <| wc_notB <| we_call cK <| wa_cons <| we_name 3 rfl <| wa_cons <| we_tupRg (hm := m.tuple) (hr := m.range) <| we_len (hm := m.len) <| we_name 3 rfl ⟨p.length, len_page p, p.length, rfl, by omega, wa_nil ⟨p, k, List.range p.length, rfl, hp, hr, true, by rw [w2], false, rfl, (fun h => nomatch h), fun _ => wss_nil ?_⟩⟩, (fun h => nomatch h)⟩
  have erev : PyData.tuple (natL g).reverse = ordD g.reverse := by
    unfold ordD natL
    rw [List.map_reverse]
  refine wss_one <| ws_for <| wi_list <| we_lst <| wa_cons <| we_name 5 rfl <| wa_cons <| we_callD 1 cX (wa_cons <| we_name 5 rfl <| wa_nil ⟨m5, rfl, g, p.length, rfl, hg, hlo, hhi, by omega, fun o1 ho1 => wa_cons <| we_callD 1 cA (wa_cons <| we_len (hm := m.len) <| we_name 3 rfl ⟨p.length, len_page p, wa_nil ⟨m5 + 2, rfl, p.length, rfl, hlo, hhi, by omega, fun o2 m6 ho2 hm6 => wa_cons <| we_revT <| we_name 5 rfl ⟨_, rfl, ?_⟩⟩⟩) rfl⟩) rfl
  rw [erev]
  refine wa_nil ⟨few_ok (n := 4) rfl, _, rfl, fun j ρ => ∃ s4, ρ = [Sl.un, Sl.dk m6, Sl.fz (.int (i : Int)), Sl.fz (pageD p), s4, Sl.fz (ordD g)], ⟨_, rfl⟩, ?_, ?_⟩
  · rintro j d _ hd ⟨s4, rfl⟩
    have hm := List.mem_of_getElem? hd
    obtain ⟨os, rfl, hos⟩ : ∃ os, d = ordD os ∧ os.Perm (List.range p.length) := by
      simp only [List.mem_cons, List.mem_nil_iff, or_false] at hm
      rcases hm with rfl | rfl | rfl | rfl
      · exact ⟨_, rfl, hg⟩
      · exact ⟨_, rfl, ho1⟩
      · exact ⟨_, rfl, ho2⟩
      · exact ⟨_, rfl, (List.reverse_perm g).trans hg⟩
    refine wg_name 4 ?_
    exact wss_one <| ws_if <| wt_not <| wt_val <| we_callG cR <| wa_cons <| we_name 3 rfl <| wa_cons <| we_name 4 rfl <| wa_nil ⟨p, k, os, rfl, hp, hos, true, rfl, (fun h => nomatch h), fun _ => wss_nil ⟨_, rfl⟩⟩
  · rintro _ ⟨s4, rfl⟩
    exact hD m6 _ _ _ _ (by omega)
def p08 : List (List Cell) := [[some "ann", some "oslo", some "1"], [none, none, some "2"], [none, none, some "3"], [none, some "rome", some "1"], [some "bob", some "rome", some "1"]]
theorem p08_ok : OkPage p08 3 := by
  refine ⟨⟨by decide, by decide, fun r hr => ?_, fun r hr => ?_⟩, fun r hr => ?_⟩
  · simp only [p08, List.mem_cons, List.mem_nil_iff, or_false] at hr
    rcases hr with rfl | rfl | rfl | rfl | rfl <;> refine ⟨by decide, by decide, fun x hx => ?_⟩ <;> simp only [lead, List.drop, List.mem_cons, List.mem_nil_iff, or_false] at hx <;> (try rcases hx with rfl | rfl | rfl) <;> (try rcases hx with rfl | rfl) <;> (try subst hx) <;> exact ⟨_, rfl, okV_of (by decide +kernel)⟩
  · simp only [p08, List.mem_cons, List.mem_nil_iff, or_false] at hr
    rcases hr with rfl | rfl | rfl | rfl | rfl <;> rfl
  · cases hr
    rfl
theorem ok_rest (cK : Cal P w K mg base 8 "keeps" (PF S_kee)) {F : Fp} {q : Nat} {s2 s3 s4 s5 : Sl} {D : SE} (hD : ∀ ρ, D.rt (.bool true) ρ) : WSs (ctOfG P w K mg base n_law s_law 9) F restBody [Sl.un, Sl.dk q, s2, s3, s4, s5] D := by
  have p1 : ([4, 0, 2, 1, 3] : List Nat).Perm (List.range p08.length) := by decide
  have p2 : ([0, 3, 1, 2, 4] : List Nat).Perm (List.range p08.length) := by decide
  have z1 : wrongZ (tableOf p08 3) (List.zip [4, 0, 2, 1, 3] (readL p08 3 [4, 0, 2, 1, 3])) = [] := by decide +kernel
  have z2 : wrongZ (tableOf p08 3) (List.zip [0, 3, 1, 2, 4] (readL p08 3 [0, 3, 1, 2, 4])) ≠ [] := by decide +kernel
  have e1 : decide (wrongN p08 3 [4, 0, 2, 1, 3] = []) = true := decide_eq_true (wrongN_nil.mp z1)
  have e2 : decide (wrongN p08 3 [0, 3, 1, 2, 4] = []) = false := decide_eq_false fun h => z2 (wrongN_nil.mpr h)
  refine wss_cons ?_
  refine ws_asg ?_
  refine we_tup ?_
  refine wa_cons ?_
  refine we_tup ?_
  refine wa_cons ?_
  refine we_str ?_
  refine wa_cons ?_
  refine we_str ?_
  refine wa_cons ?_
  refine we_str ?_
  refine wa_nil ⟨few_ok (n := 3) rfl, ?_⟩
  refine wa_cons ?_
  refine we_tup ?_
  refine wa_cons ?_
  refine we_none ?_
  refine wa_cons ?_
  refine we_none ?_
  refine wa_cons ?_
  refine we_str ?_
  refine wa_nil ⟨few_ok (n := 3) rfl, ?_⟩
  refine wa_cons ?_
  refine we_tup ?_
  refine wa_cons ?_
  refine we_none ?_
  refine wa_cons ?_
  refine we_none ?_
  refine wa_cons ?_
  refine we_str ?_
  refine wa_nil ⟨few_ok (n := 3) rfl, ?_⟩
  refine wa_cons ?_
  refine we_tup ?_
  refine wa_cons ?_
  refine we_none ?_
  refine wa_cons ?_
  refine we_str ?_
  refine wa_cons ?_
  refine we_str ?_
  refine wa_nil ⟨few_ok (n := 3) rfl, ?_⟩
  refine wa_cons ?_
  refine we_tup ?_
  refine wa_cons ?_
  refine we_str ?_
  refine wa_cons ?_
  refine we_str ?_
  refine wa_cons ?_
  refine we_str ?_
  refine wa_nil ⟨few_ok (n := 3) rfl, ?_⟩
  refine wa_nil ⟨few_ok (n := 5) rfl, ?_⟩
  refine wg_name 3 ?_
  show WSs _ _ _ [Sl.un, Sl.dk q, s2, Sl.fz (pageD p08), s4, s5] _
  have ok := p08_ok
  have q1 : ∀ Ψ : PyData → Prop, Ψ (.bool true) → S_kee [pageD p08, ordD [4, 0, 2, 1, 3]] Ψ := fun Ψ h => ⟨p08, 3, _, rfl, ok, p1, by rw [e1]; exact h⟩
  have q2 : ∀ Ψ : PyData → Prop, Ψ (.bool false) → S_kee [pageD p08, ordD [0, 3, 1, 2, 4]] Ψ := fun Ψ h => ⟨p08, 3, _, rfl, ok, p2, by rw [e2]; exact h⟩
  generalize pageD p08 = pd at q1 q2
  refine wss_one <| ws_ret ?_
  refine we_and ?_
  refine we_c <| wc_isB ?_
  refine we_call cK ?_
  refine wa_cons <| we_name 3 rfl ?_
  refine wa_cons ?_
  refine we_tup ?_
  refine wa_cons ?_
  refine we_int ?_
  refine wa_cons ?_
  refine we_int ?_
  refine wa_cons ?_
  refine we_int ?_
  refine wa_cons ?_
  refine we_int ?_
  refine wa_cons ?_
  refine we_int ?_
  refine wa_nil ⟨few_ok (n := 5) rfl, ?_⟩
  refine wa_nil ?_
  refine q1 _ ⟨true, rfl, true, rfl, fun _ => ?_, (fun h => nomatch h)⟩
  refine we_one ?_
  refine we_c <| wc_isB ?_
  refine we_call cK ?_
  refine wa_cons <| we_name 3 rfl ?_
  refine wa_cons ?_
  refine we_tup ?_
  refine wa_cons ?_
  refine we_int ?_
  refine wa_cons ?_
  refine we_int ?_
  refine wa_cons ?_
  refine we_int ?_
  refine wa_cons ?_
  refine we_int ?_
  refine wa_cons ?_
  refine we_int ?_
  refine wa_nil ⟨few_ok (n := 5) rfl, ?_⟩
  refine wa_nil ?_
  exact q2 _ ⟨false, rfl, hD _⟩
theorem ok_law (Fu : Fun K "law" "law" s_law f fd) (m : Mgs mg) {fk : Addr} {fdk : FuncData} (GK : FnOk P w K mg base CX0 1 fk fdk ["script"] (spDeck K)) (mk : mg "_law_deck" = some (.ref fk)) (kk : PySem.W.keepIn K (.ref fk) = true) (bk : Binds K fdk ["script"] [])
    (cD : Cal P w K mg base 1 "_law_draw" (DF S_draw)) (cT : Cal P w K mg base 3 "_law_table" (DF S_tab)) (cP : Cal P w K mg base 3 "_law_page" (DF S_pag)) (cL : Cal P w K mg base 1 "_law_orders" (PF S_los)) (cO : Cal P w K mg base 3 "_law_kept_order" (DF S_koK)) (cK : Cal P w K mg base 8 "keeps" (PF S_kee)) (cX : Cal P w K mg base 2 "_law_exchanged" (DF S_exc)) (cA : Cal P w K mg base 2 "_law_drawn" (DF S_shu)) (cR : CalG P w K mg base 9 "_law_right" (PF S_ri8)) : FnG P w K mg base 10 f fd ["script"] (spLaw K) := by
  refine fnG_of Fu c_law (fun vs H Q E ⟨a, ns, e, _⟩ => by rw [e]; rfl) fun cdv A outer s H vs Q hr hgd ⟨a, ns, e, hS, hl, q⟩ => ?_
  subst e
  have nd : n_law.Nodup := by decide +kernel
  have hX : Has (ctOfG P w K mg base n_law s_law 9) (cxOf CX0 P w K mg base n_law "law" (defScope s_law) f cdv A outer s H E0).nox := hasG_of c_law hr hgd
  refine ⟨_, PSs.nox (pss_cons (ps_set (i := 1) nd rfl (Or.inl rfl) (pe_call (fd := fdk) (ps := ["script"]) (CX := CX0) (k := 1) GK (hr.mono (by decide)) rfl mk kk bk .nil pass0 (pa_cons (pv 0) pa_nil)))
    (pss_cons (ps_for PassesOwn.never rfl (pi_range1 rfl m.range (pa_cons (pe_callB (call_max2 rfl) rfl m.max (by decide +kernel) (pa_cons pe_int (pa_cons (pe_callB (call_min2 rfl) rfl m.min (by decide +kernel) (pa_cons pe_int (pa_cons (pe_len1 m.len rfl (pv 0)) pa_nil))) pa_nil))) pa_nil)) (pg_name (i := 2) nd rfl (Or.inl rfl)) (pssW (sts := lapBody) hX))
    (pssW (sts := restBody) hX))), ?_⟩
  refine ⟨_, rfl, a, ns, rfl, hS, hl, fun d Fd H1 e1 dk hf => ?_⟩
  have hS1 : SqL K H1 a (ns.map V.int) := Same.seq (H := H) e1 hS
  refine ⟨_, rfl, a, _, rfl, .inl hS1, 6, _, rfl, 2, _, rfl, _, rfl, ?_, ?_, ?_⟩
  · rw [List.length_map]
    show _ ≤ _
    split <;> split <;> omega
  · rw [List.length_map]
    show _ < _
    split <;> split <;> omega
  · generalize hN : (if (if ((ns.map V.int).length : Int) < 6 then ((ns.map V.int).length : Int) else 6) > 2 then (if ((ns.map V.int).length : Int) < 6 then ((ns.map V.int).length : Int) else 6) else 2 : Int) = N
    have hN1 : 2 ≤ N ∧ N ≤ 6 := by
      rw [← hN, List.length_map]
      constructor
      · split <;> omega
      · split <;> split <;> omega
    have bl := big_lt
    refine for_range (lo := 0) (n := N.toNat) (fun i σ H2 => ∃ (Z : Hp) (n : Nat) (s2 s3 s4 s5 : Sl), En ⟨Hp0, H1, Fd⟩ [Sl.un, Sl.dk n, s2, s3, s4, s5] σ Z H2 ∧ n ≤ 4000 + 30000 * i) ⟨Hp0, 4000, .un, .un, .un, .un, En.first dk (fun x hx => (hf x hx).2) 4, by omega⟩ ?_ ?_
    · rintro i σ H2 hi ⟨Z, n, s2, s3, s4, s5, E2, hn⟩
      have E3 := E2.set (i := 2) (v := .int (0 + (i : Int))) (d := .int (0 + (i : Int))) (.int _) (by show 2 < 6; decide)
      refine ok_lap (K := K) (mg := mg) (base := base) m cD cT cP cL cO cK cX cA cR (i := i) (q := n) (s3 := s3) (s4 := s4) (s5 := s5) (D := { nx := fun ρ => ∃ (n' : Nat) (s2 s3 s4 s5 : Sl), ρ = [Sl.un, Sl.dk n', s2, s3, s4, s5] ∧ n' ≤ n + 30000 }) (by omega) (fun q' s2 s3 s4 s5 hq' => ⟨q', _, _, _, _, rfl, hq'⟩) ⟨Hp0, H1, Fd⟩ _ Z H2 rfl E3 _ ⟨?_, ?_, ?_, ?_, fun _ _ _ _ _ _ _ _ _ k => k.elim⟩
      · rintro ρ σ' Z' H' E' ⟨n', t2, t3, t4, t5, rfl, hn'⟩
        exact ⟨Z', n', t2, t3, t4, t5, E', by omega⟩
      · exact fun v d ρ σ' Z' H' E' r k => k.elim
      · exact fun ρ σ' Z' H' E' k => k.elim
      · exact fun ρ σ' Z' H' E' k => k.elim
    · rintro σ H2 ⟨Z, n, s2, s3, s4, s5, E2, hn⟩
      have R := @ok_rest P w K mg base cK Fd n s2 s3 s4 s5 { rt := fun d _ => d = .bool true } (fun ρ => rfl)
      show wpSs (ctOfG P w K mg base n_law s_law 9) restBody _ σ H2
      generalize restBody = rb at R ⊢
      refine R ⟨Hp0, H1, Fd⟩ _ Z H2 rfl E2 _ ⟨?_, ?_, ?_, ?_, fun _ _ _ _ _ _ _ _ _ k => k.elim⟩
      · exact fun ρ σ' Z' H' E' k => k.elim
      · rintro v d ρ σ' Z' H' E' r rfl
        cases r
        exact q H'
      · exact fun ρ σ' Z' H' E' k => k.elim
      · exact fun ρ σ' Z' H' E' k => k.elim
end
end G

set_option Elab.async false
set_option linter.all false
set_option maxRecDepth 100000
set_option maxHeartbeats 2000000
namespace G
open PySem PySem.Spec PyProof.Rows L2
/-! ### what the top has written, and the end -/
theorem cal_of {P : Program} {w : World} {K : PySem.W.Frag} {mg : Str → Option Value} {base : Heap} {k : Nat} {x qual : Str} {st : Stmt} {f : Addr} {fd : FuncData} {ps : List Str} {sp : Sp} (F : Fun K x qual st f fd) (m : mg x = some (.ref f)) (kp : PySem.W.keepIn K (.ref f) = true) (b : Binds K fd ps []) (G : FnOk P w K mg base CX0 k f fd ps sp) : Cal P w K mg base k x sp := ⟨f, fd, ps, G, m, kp, b⟩
theorem all_mk {l : PySem.W.OpenLaw} {w : World} {K : PySem.W.Frag} {h : Heap} {mg : Str → Option Value} {fa : Addr} (X : K.In h) (G : h.Ns mainGlobals mg) (hfa : mg "law" = some (.ref fa))
    {f0 f1 f2 f3 f4 f5 f6 f7 f8 f9 f10 f11 f12 f13 f14 f15 f16 f17 f18 f19 f20 f21 f22 f23 f24 f25 f26 f27 f28 f29 f30 f31 f32 f33 : Addr} {od0 an0 od1 an1 od2 an2 od3 an3 od4 an4 od5 an5 od6 an6 od7 an7 od8 an8 od9 an9 od10 an10 od11 an11 od12 an12 od13 an13 od14 an14 od15 an15 od16 an16 od17 an17 od18 an18 od19 an19 od20 an20 od21 an21 od22 an22 od23 an23 od24 an24 od25 an25 od26 an26 od27 an27 od28 an28 od29 an29 od30 an30 od31 an31 od32 an32 od33 an33 : Option Addr} {sl0 sl1 sl2 sl3 sl4 sl5 sl6 sl7 sl8 sl9 sl10 sl11 sl12 sl13 sl14 sl15 sl16 sl17 sl18 sl19 sl20 sl21 sl22 sl23 sl24 sl25 sl26 sl27 sl28 sl29 sl30 sl31 sl32 sl33 : Array (Option Value)} {oc0 kV0 dc0 pm0 cd0 ct0 oc1 kV1 dc1 pm1 cd1 ct1 oc2 kV2 dc2 pm2 cd2 ct2 oc3 kV3 dc3 pm3 cd3 ct3 oc4 kV4 dc4 pm4 cd4 ct4 oc5 kV5 dc5 pm5 cd5 ct5 oc6 kV6 dc6 pm6 cd6 ct6 oc7 kV7 dc7 pm7 cd7 ct7 oc8 kV8 dc8 pm8 cd8 ct8 oc9 kV9 dc9 pm9 cd9 ct9 oc10 kV10 dc10 pm10 cd10 ct10 oc11 kV11 dc11 pm11 cd11 ct11 oc12 kV12 dc12 pm12 cd12 ct12 oc13 kV13 dc13 pm13 cd13 ct13 oc14 kV14 dc14 pm14 cd14 ct14 oc15 kV15 dc15 pm15 cd15 ct15 oc16 kV16 dc16 pm16 cd16 ct16 oc17 kV17 dc17 pm17 cd17 ct17 oc18 kV18 dc18 pm18 cd18 ct18 oc19 kV19 dc19 pm19 cd19 ct19 oc20 kV20 dc20 pm20 cd20 ct20 oc21 kV21 dc21 pm21 cd21 ct21 oc22 kV22 dc22 pm22 cd22 ct22 oc23 kV23 dc23 pm23 cd23 ct23 oc24 kV24 dc24 pm24 cd24 ct24 oc25 kV25 dc25 pm25 cd25 ct25 oc26 kV26 dc26 pm26 cd26 ct26 oc27 kV27 dc27 pm27 cd27 ct27 oc28 kV28 dc28 pm28 cd28 ct28 oc29 kV29 dc29 pm29 cd29 ct29 oc30 kV30 dc30 pm30 cd30 ct30 oc31 kV31 dc31 pm31 cd31 ct31 oc32 kV32 dc32 pm32 cd32 ct32 oc33 kV33 dc33 pm33 cd33 ct33 : Value} {t0 t1 t2 t3 : Tok}
    (a0 : PySem.W.nsIn K mainGlobals "leading_blanks" = some (some (.ref f0))) (l0 : K.lookup f0 = some ⟨oc0, od0, .func (PySem.W.fnOf "leading_blanks" "leading_blanks" (defArgs s_leading_blanks) (defBody s_leading_blanks) (defScope s_leading_blanks) .none kV0 dc0 pm0 an0 cd0 ct0), sl0⟩) (c0 : PySem.W.codeIn K cd0 "leading_blanks" = true) (k0 : PySem.W.keepIn K (.ref f0) = true)
    (a1 : PySem.W.nsIn K mainGlobals "is_value" = some (some (.ref f1))) (l1 : K.lookup f1 = some ⟨oc1, od1, .func (PySem.W.fnOf "is_value" "is_value" (defArgs s_is_value) (defBody s_is_value) (defScope s_is_value) .none kV1 dc1 pm1 an1 cd1 ct1), sl1⟩) (c1 : PySem.W.codeIn K cd1 "is_value" = true) (k1 : PySem.W.keepIn K (.ref f1) = true)
    (a2 : PySem.W.nsIn K mainGlobals "is_printed_row" = some (some (.ref f2))) (l2 : K.lookup f2 = some ⟨oc2, od2, .func (PySem.W.fnOf "is_printed_row" "is_printed_row" (defArgs s_is_printed_row) (defBody s_is_printed_row) (defScope s_is_printed_row) .none kV2 dc2 pm2 an2 cd2 ct2), sl2⟩) (c2 : PySem.W.codeIn K cd2 "is_printed_row" = true) (k2 : PySem.W.keepIn K (.ref f2) = true)
    (a3 : PySem.W.nsIn K mainGlobals "are_printed_rows" = some (some (.ref f3))) (l3 : K.lookup f3 = some ⟨oc3, od3, .func (PySem.W.fnOf "are_printed_rows" "are_printed_rows" (defArgs s_are_printed_rows) (defBody s_are_printed_rows) (defScope s_are_printed_rows) .none kV3 dc3 pm3 an3 cd3 ct3), sl3⟩) (c3 : PySem.W.codeIn K cd3 "are_printed_rows" = true) (k3 : PySem.W.keepIn K (.ref f3) = true)
    (a4 : PySem.W.nsIn K mainGlobals "is_page" = some (some (.ref f4))) (l4 : K.lookup f4 = some ⟨oc4, od4, .func (PySem.W.fnOf "is_page" "is_page" (defArgs s_is_page) (defBody s_is_page) (defScope s_is_page) .none kV4 dc4 pm4 an4 cd4 ct4), sl4⟩) (c4 : PySem.W.codeIn K cd4 "is_page" = true) (k4 : PySem.W.keepIn K (.ref f4) = true)
    (a5 : PySem.W.nsIn K mainGlobals "check_page" = some (some (.ref f5))) (l5 : K.lookup f5 = some ⟨oc5, od5, .func (PySem.W.fnOf "check_page" "check_page" (defArgs s_check_page) (defBody s_check_page) (defScope s_check_page) .none kV5 dc5 pm5 an5 cd5 ct5), sl5⟩) (c5 : PySem.W.codeIn K cd5 "check_page" = true) (k5 : PySem.W.keepIn K (.ref f5) = true)
    (a6 : PySem.W.nsIn K mainGlobals "read_rows" = some (some (.ref f6))) (l6 : K.lookup f6 = some ⟨oc6, od6, .func (PySem.W.fnOf "read_rows" "read_rows" (defArgs s_read_rows) (defBody s_read_rows) (defScope s_read_rows) .none kV6 dc6 pm6 an6 cd6 ct6), sl6⟩) (c6 : PySem.W.codeIn K cd6 "read_rows" = true) (k6 : PySem.W.keepIn K (.ref f6) = true)
    (a7 : PySem.W.nsIn K mainGlobals "is_number" = some (some (.ref f7))) (l7 : K.lookup f7 = some ⟨oc7, od7, .func (PySem.W.fnOf "is_number" "is_number" (defArgs s_is_number) (defBody s_is_number) (defScope s_is_number) .none kV7 dc7 pm7 an7 cd7 ct7), sl7⟩) (c7 : PySem.W.codeIn K cd7 "is_number" = true) (k7 : PySem.W.keepIn K (.ref f7) = true)
    (a8 : PySem.W.nsIn K mainGlobals "filled" = some (some (.ref f8))) (l8 : K.lookup f8 = some ⟨oc8, od8, .func (PySem.W.fnOf "filled" "filled" (defArgs s_filled) (defBody s_filled) (defScope s_filled) .none kV8 dc8 pm8 an8 cd8 ct8), sl8⟩) (c8 : PySem.W.codeIn K cd8 "filled" = true) (k8 : PySem.W.keepIn K (.ref f8) = true)
    (a9 : PySem.W.nsIn K mainGlobals "_law_draw" = some (some (.ref f9))) (l9 : K.lookup f9 = some ⟨oc9, od9, .func (PySem.W.fnOf "_law_draw" "_law_draw" (defArgs s_law_draw) (defBody s_law_draw) (defScope s_law_draw) .none kV9 dc9 pm9 an9 cd9 ct9), sl9⟩) (c9 : PySem.W.codeIn K cd9 "_law_draw" = true) (k9 : PySem.W.keepIn K (.ref f9) = true)
    (a10 : PySem.W.nsIn K mainGlobals "_law_value" = some (some (.ref f10))) (l10 : K.lookup f10 = some ⟨oc10, od10, .func (PySem.W.fnOf "_law_value" "_law_value" (defArgs s_law_value) (defBody s_law_value) (defScope s_law_value) .none kV10 dc10 pm10 an10 cd10 ct10), sl10⟩) (c10 : PySem.W.codeIn K cd10 "_law_value" = true) (k10 : PySem.W.keepIn K (.ref f10) = true)
    (a11 : PySem.W.nsIn K mainGlobals "_law_table" = some (some (.ref f11))) (l11 : K.lookup f11 = some ⟨oc11, od11, .func (PySem.W.fnOf "_law_table" "_law_table" (defArgs s_law_table) (defBody s_law_table) (defScope s_law_table) .none kV11 dc11 pm11 an11 cd11 ct11), sl11⟩) (c11 : PySem.W.codeIn K cd11 "_law_table" = true) (k11 : PySem.W.keepIn K (.ref f11) = true)
    (a12 : PySem.W.nsIn K mainGlobals "_law_shared" = some (some (.ref f12))) (l12 : K.lookup f12 = some ⟨oc12, od12, .func (PySem.W.fnOf "_law_shared" "_law_shared" (defArgs s_law_shared) (defBody s_law_shared) (defScope s_law_shared) .none kV12 dc12 pm12 an12 cd12 ct12), sl12⟩) (c12 : PySem.W.codeIn K cd12 "_law_shared" = true) (k12 : PySem.W.keepIn K (.ref f12) = true)
    (a13 : PySem.W.nsIn K mainGlobals "_law_most" = some (some (.ref f13))) (l13 : K.lookup f13 = some ⟨oc13, od13, .func (PySem.W.fnOf "_law_most" "_law_most" (defArgs s_law_most) (defBody s_law_most) (defScope s_law_most) .none kV13 dc13 pm13 an13 cd13 ct13), sl13⟩) (c13 : PySem.W.codeIn K cd13 "_law_most" = true) (k13 : PySem.W.keepIn K (.ref f13) = true)
    (a14 : PySem.W.nsIn K mainGlobals "_law_with" = some (some (.ref f14))) (l14 : K.lookup f14 = some ⟨oc14, od14, .func (PySem.W.fnOf "_law_with" "_law_with" (defArgs s_law_with) (defBody s_law_with) (defScope s_law_with) .none kV14 dc14 pm14 an14 cd14 ct14), sl14⟩) (c14 : PySem.W.codeIn K cd14 "_law_with" = true) (k14 : PySem.W.keepIn K (.ref f14) = true)
    (a15 : PySem.W.nsIn K mainGlobals "_law_page" = some (some (.ref f15))) (l15 : K.lookup f15 = some ⟨oc15, od15, .func (PySem.W.fnOf "_law_page" "_law_page" (defArgs s_law_page) (defBody s_law_page) (defScope s_law_page) .none kV15 dc15 pm15 an15 cd15 ct15), sl15⟩) (c15 : PySem.W.codeIn K cd15 "_law_page" = true) (k15 : PySem.W.keepIn K (.ref f15) = true)
    (a16 : PySem.W.nsIn K mainGlobals "is_order" = some (some (.ref f16))) (l16 : K.lookup f16 = some ⟨oc16, od16, .func (PySem.W.fnOf "is_order" "is_order" (defArgs s_is_order) (defBody s_is_order) (defScope s_is_order) .none kV16 dc16 pm16 an16 cd16 ct16), sl16⟩) (c16 : PySem.W.codeIn K cd16 "is_order" = true) (k16 : PySem.W.keepIn K (.ref f16) = true)
    (a17 : PySem.W.nsIn K mainGlobals "check_order" = some (some (.ref f17))) (l17 : K.lookup f17 = some ⟨oc17, od17, .func (PySem.W.fnOf "check_order" "check_order" (defArgs s_check_order) (defBody s_check_order) (defScope s_check_order) .none kV17 dc17 pm17 an17 cd17 ct17), sl17⟩) (c17 : PySem.W.codeIn K cd17 "check_order" = true) (k17 : PySem.W.keepIn K (.ref f17) = true)
    (a18 : PySem.W.nsIn K mainGlobals "_law_read" = some (some (.ref f18))) (l18 : K.lookup f18 = some ⟨oc18, od18, .func (PySem.W.fnOf "_law_read" "_law_read" (defArgs s_law_read) (defBody s_law_read) (defScope s_law_read) .none kV18 dc18 pm18 an18 cd18 ct18), sl18⟩) (c18 : PySem.W.codeIn K cd18 "_law_read" = true) (k18 : PySem.W.keepIn K (.ref f18) = true)
    (a19 : PySem.W.nsIn K mainGlobals "_law_blanks" = some (some (.ref f19))) (l19 : K.lookup f19 = some ⟨oc19, od19, .func (PySem.W.fnOf "_law_blanks" "_law_blanks" (defArgs s_law_blanks) (defBody s_law_blanks) (defScope s_law_blanks) .none kV19 dc19 pm19 an19 cd19 ct19), sl19⟩) (c19 : PySem.W.codeIn K cd19 "_law_blanks" = true) (k19 : PySem.W.keepIn K (.ref f19) = true)
    (a20 : PySem.W.nsIn K mainGlobals "_law_drawn" = some (some (.ref f20))) (l20 : K.lookup f20 = some ⟨oc20, od20, .func (PySem.W.fnOf "_law_drawn" "_law_drawn" (defArgs s_law_drawn) (defBody s_law_drawn) (defScope s_law_drawn) .none kV20 dc20 pm20 an20 cd20 ct20), sl20⟩) (c20 : PySem.W.codeIn K cd20 "_law_drawn" = true) (k20 : PySem.W.keepIn K (.ref f20) = true)
    (a21 : PySem.W.nsIn K mainGlobals "_law_hosts" = some (some (.ref f21))) (l21 : K.lookup f21 = some ⟨oc21, od21, .func (PySem.W.fnOf "_law_hosts" "_law_hosts" (defArgs s_law_hosts) (defBody s_law_hosts) (defScope s_law_hosts) .none kV21 dc21 pm21 an21 cd21 ct21), sl21⟩) (c21 : PySem.W.codeIn K cd21 "_law_hosts" = true) (k21 : PySem.W.keepIn K (.ref f21) = true)
    (a22 : PySem.W.nsIn K mainGlobals "_law_kept_order" = some (some (.ref f22))) (l22 : K.lookup f22 = some ⟨oc22, od22, .func (PySem.W.fnOf "_law_kept_order" "_law_kept_order" (defArgs s_law_kept_order) (defBody s_law_kept_order) (defScope s_law_kept_order) .none kV22 dc22 pm22 an22 cd22 ct22), sl22⟩) (c22 : PySem.W.codeIn K cd22 "_law_kept_order" = true) (k22 : PySem.W.keepIn K (.ref f22) = true)
    (a23 : PySem.W.nsIn K mainGlobals "_law_fits" = some (some (.ref f23))) (l23 : K.lookup f23 = some ⟨oc23, od23, .func (PySem.W.fnOf "_law_fits" "_law_fits" (defArgs s_law_fits) (defBody s_law_fits) (defScope s_law_fits) .none kV23 dc23 pm23 an23 cd23 ct23), sl23⟩) (c23 : PySem.W.codeIn K cd23 "_law_fits" = true) (k23 : PySem.W.keepIn K (.ref f23) = true)
    (a24 : PySem.W.nsIn K mainGlobals "_law_orders" = some (some (.ref f24))) (l24 : K.lookup f24 = some ⟨oc24, od24, .func (PySem.W.fnOf "_law_orders" "_law_orders" (defArgs s_law_orders) (defBody s_law_orders) (defScope s_law_orders) .none kV24 dc24 pm24 an24 cd24 ct24), sl24⟩) (c24 : PySem.W.codeIn K cd24 "_law_orders" = true) (k24 : PySem.W.keepIn K (.ref f24) = true)
    (a25 : PySem.W.nsIn K mainGlobals "_law_exchanged" = some (some (.ref f25))) (l25 : K.lookup f25 = some ⟨oc25, od25, .func (PySem.W.fnOf "_law_exchanged" "_law_exchanged" (defArgs s_law_exchanged) (defBody s_law_exchanged) (defScope s_law_exchanged) .none kV25 dc25 pm25 an25 cd25 ct25), sl25⟩) (c25 : PySem.W.codeIn K cd25 "_law_exchanged" = true) (k25 : PySem.W.keepIn K (.ref f25) = true)
    (a26 : PySem.W.nsIn K mainGlobals "read_in" = some (some (.ref f26))) (l26 : K.lookup f26 = some ⟨oc26, od26, .func (PySem.W.fnOf "read_in" "read_in" (defArgs s_read_in) (defBody s_read_in) (defScope s_read_in) .none kV26 dc26 pm26 an26 cd26 ct26), sl26⟩) (c26 : PySem.W.codeIn K cd26 "read_in" = true) (k26 : PySem.W.keepIn K (.ref f26) = true)
    (a27 : PySem.W.nsIn K mainGlobals "wrong_rows" = some (some (.ref f27))) (l27 : K.lookup f27 = some ⟨oc27, od27, .func (PySem.W.fnOf "wrong_rows" "wrong_rows" (defArgs s_wrong_rows) (defBody s_wrong_rows) (defScope s_wrong_rows) .none kV27 dc27 pm27 an27 cd27 ct27), sl27⟩) (c27 : PySem.W.codeIn K cd27 "wrong_rows" = true) (k27 : PySem.W.keepIn K (.ref f27) = true)
    (a28 : PySem.W.nsIn K mainGlobals "keeps" = some (some (.ref f28))) (l28 : K.lookup f28 = some ⟨oc28, od28, .func (PySem.W.fnOf "keeps" "keeps" (defArgs s_keeps) (defBody s_keeps) (defScope s_keeps) .none kV28 dc28 pm28 an28 cd28 ct28), sl28⟩) (c28 : PySem.W.codeIn K cd28 "keeps" = true) (k28 : PySem.W.keepIn K (.ref f28) = true)
    (a29 : PySem.W.nsIn K mainGlobals "_law_same" = some (some (.ref f29))) (l29 : K.lookup f29 = some ⟨oc29, od29, .func (PySem.W.fnOf "_law_same" "_law_same" (defArgs s_law_same) (defBody s_law_same) (defScope s_law_same) .none kV29 dc29 pm29 an29 cd29 ct29), sl29⟩) (c29 : PySem.W.codeIn K cd29 "_law_same" = true) (k29 : PySem.W.keepIn K (.ref f29) = true)
    (a30 : PySem.W.nsIn K mainGlobals "_law_is_kept" = some (some (.ref f30))) (l30 : K.lookup f30 = some ⟨oc30, od30, .func (PySem.W.fnOf "_law_is_kept" "_law_is_kept" (defArgs s_law_is_kept) (defBody s_law_is_kept) (defScope s_law_is_kept) .none kV30 dc30 pm30 an30 cd30 ct30), sl30⟩) (c30 : PySem.W.codeIn K cd30 "_law_is_kept" = true) (k30 : PySem.W.keepIn K (.ref f30) = true)
    (a31 : PySem.W.nsIn K mainGlobals "_law_right" = some (some (.ref f31))) (l31 : K.lookup f31 = some ⟨oc31, od31, .func (PySem.W.fnOf "_law_right" "_law_right" (defArgs s_law_right) (defBody s_law_right) (defScope s_law_right) .none kV31 dc31 pm31 an31 cd31 ct31), sl31⟩) (c31 : PySem.W.codeIn K cd31 "_law_right" = true) (k31 : PySem.W.keepIn K (.ref f31) = true)
    (a32 : PySem.W.nsIn K mainGlobals "_law_deck" = some (some (.ref f32))) (l32 : K.lookup f32 = some ⟨oc32, od32, .func (PySem.W.fnOf "_law_deck" "_law_deck" (defArgs s_law_deck) (defBody s_law_deck) (defScope s_law_deck) .none kV32 dc32 pm32 an32 cd32 ct32), sl32⟩) (c32 : PySem.W.codeIn K cd32 "_law_deck" = true) (k32 : PySem.W.keepIn K (.ref f32) = true)
    (a33 : PySem.W.nsIn K mainGlobals "law" = some (some (.ref f33))) (l33 : K.lookup f33 = some ⟨oc33, od33, .func (PySem.W.fnOf "law" "law" (defArgs s_law) (defBody s_law) (defScope s_law) .none kV33 dc33 pm33 an33 cd33 ct33), sl33⟩) (c33 : PySem.W.codeIn K cd33 "law" = true) (k33 : PySem.W.keepIn K (.ref f33) = true)
    (z0 : PySem.W.nsIn K mainGlobals "len" = some none)
    (z1 : PySem.W.nsIn K mainGlobals "isinstance" = some none)
    (z2 : PySem.W.nsIn K mainGlobals "int" = some none)
    (z3 : PySem.W.nsIn K mainGlobals "bool" = some none)
    (z4 : PySem.W.nsIn K mainGlobals "str" = some none)
    (z5 : PySem.W.nsIn K mainGlobals "tuple" = some none)
    (z6 : PySem.W.nsIn K mainGlobals "list" = some none)
    (z7 : PySem.W.nsIn K mainGlobals "all" = some none)
    (z8 : PySem.W.nsIn K mainGlobals "sum" = some none)
    (z9 : PySem.W.nsIn K mainGlobals "enumerate" = some none)
    (z10 : PySem.W.nsIn K mainGlobals "zip" = some none)
    (z11 : PySem.W.nsIn K mainGlobals "range" = some none)
    (z12 : PySem.W.nsIn K mainGlobals "divmod" = some none)
    (z13 : PySem.W.nsIn K mainGlobals "min" = some none)
    (z14 : PySem.W.nsIn K mainGlobals "max" = some none)
    (z15 : PySem.W.nsIn K mainGlobals "sorted" = some none)
    (z16 : PySem.W.nsIn K mainGlobals "abs" = some none)
    (z17 : PySem.W.nsIn K mainGlobals "repr" = some none)
    (g0 : PySem.W.nsIn K mainGlobals "SIGNS" = some (some (.str signsS t0)))
    (g1 : PySem.W.nsIn K mainGlobals "MOST_SIGNS" = some (some (.int 8 t1)))
    (g2 : PySem.W.nsIn K mainGlobals "MOST_CELLS" = some (some (.int 6 t2)))
    (g3 : PySem.W.nsIn K mainGlobals "MOST_ROWS" = some (some (.int 60 t3))) :
    ∃ fd : FuncData, (∀ (s : Shared) (v : Value), BindsTo s fd ⟨[v], []⟩ [("script", v)]) ∧ ∀ base : Heap, K.In base → base.Ns mainGlobals mg → FnG l.prog w K mg base 10 fa fd ["script"] (spLaw K) := by
  have e := hfa.symm.trans (PySem.W.mg_of X G a33)
  cases e
  have m : Mgs mg := ⟨PySem.W.mg_none_of X G z0, PySem.W.mg_none_of X G z1, PySem.W.mg_none_of X G z2, PySem.W.mg_none_of X G z3, PySem.W.mg_none_of X G z4, PySem.W.mg_none_of X G z5, PySem.W.mg_none_of X G z6, PySem.W.mg_none_of X G z7, PySem.W.mg_none_of X G z8, PySem.W.mg_none_of X G z9, PySem.W.mg_none_of X G z10, PySem.W.mg_none_of X G z11, PySem.W.mg_none_of X G z12, PySem.W.mg_none_of X G z13, PySem.W.mg_none_of X G z14, PySem.W.mg_none_of X G z15, ⟨_, PySem.W.mg_of X G g0⟩, ⟨_, PySem.W.mg_of X G g1⟩, ⟨_, PySem.W.mg_of X G g2⟩, ⟨_, PySem.W.mg_of X G g3⟩⟩
  have F0 := fun_mk (st := s_leading_blanks) l0 c0 k0
  have b0 := F0.binds (ps := ["row"]) fun _ _ _ _ _ _ us hl => match us, hl with | [_], _ => rfl
  have F1 := fun_mk (st := s_is_value) l1 c1 k1
  have b1 := F1.binds (ps := ["cell"]) fun _ _ _ _ _ _ us hl => match us, hl with | [_], _ => rfl
  have F2 := fun_mk (st := s_is_printed_row) l2 c2 k2
  have b2 := F2.binds (ps := ["value"]) fun _ _ _ _ _ _ us hl => match us, hl with | [_], _ => rfl
  have F3 := fun_mk (st := s_are_printed_rows) l3 c3 k3
  have b3 := F3.binds (ps := ["value"]) fun _ _ _ _ _ _ us hl => match us, hl with | [_], _ => rfl
  have F4 := fun_mk (st := s_is_page) l4 c4 k4
  have b4 := F4.binds (ps := ["value"]) fun _ _ _ _ _ _ us hl => match us, hl with | [_], _ => rfl
  have F5 := fun_mk (st := s_check_page) l5 c5 k5
  have b5 := F5.binds (ps := ["page"]) fun _ _ _ _ _ _ us hl => match us, hl with | [_], _ => rfl
  have F6 := fun_mk (st := s_read_rows) l6 c6 k6
  have b6 := F6.binds (ps := ["rows"]) fun _ _ _ _ _ _ us hl => match us, hl with | [_], _ => rfl
  have F7 := fun_mk (st := s_is_number) l7 c7 k7
  have b7 := F7.binds (ps := ["value", "count"]) fun _ _ _ _ _ _ us hl => match us, hl with | [_, _], _ => rfl
  have F8 := fun_mk (st := s_filled) l8 c8 k8
  have b8 := F8.binds (ps := ["page"]) fun _ _ _ _ _ _ us hl => match us, hl with | [_], _ => rfl
  have F9 := fun_mk (st := s_law_draw) l9 c9 k9
  have b9 := F9.binds (ps := ["deck", "many"]) fun _ _ _ _ _ _ us hl => match us, hl with | [_, _], _ => rfl
  have F10 := fun_mk (st := s_law_value) l10 c10 k10
  have b10 := F10.binds (ps := ["deck", "few"]) fun _ _ _ _ _ _ us hl => match us, hl with | [_, _], _ => rfl
  have F11 := fun_mk (st := s_law_table) l11 c11 k11
  have b11 := F11.binds (ps := ["deck", "most", "wide"]) fun _ _ _ _ _ _ us hl => match us, hl with | [_, _, _], _ => rfl
  have F12 := fun_mk (st := s_law_shared) l12 c12 k12
  have b12 := F12.binds (ps := ["row", "other"]) fun _ _ _ _ _ _ us hl => match us, hl with | [_, _], _ => rfl
  have F13 := fun_mk (st := s_law_most) l13 c13 k13
  have b13 := F13.binds (ps := ["table_here"]) fun _ _ _ _ _ _ us hl => match us, hl with | [_], _ => rfl
  have F14 := fun_mk (st := s_law_with) l14 c14 k14
  have b14 := F14.binds (ps := ["table_here", "blanks"]) fun _ _ _ _ _ _ us hl => match us, hl with | [_, _], _ => rfl
  have F15 := fun_mk (st := s_law_page) l15 c15 k15
  have b15 := F15.binds (ps := ["deck", "table_here"]) fun _ _ _ _ _ _ us hl => match us, hl with | [_, _], _ => rfl
  have F16 := fun_mk (st := s_is_order) l16 c16 k16
  have b16 := F16.binds (ps := ["value", "count"]) fun _ _ _ _ _ _ us hl => match us, hl with | [_, _], _ => rfl
  have F17 := fun_mk (st := s_check_order) l17 c17 k17
  have b17 := F17.binds (ps := ["order", "count"]) fun _ _ _ _ _ _ us hl => match us, hl with | [_, _], _ => rfl
  have F18 := fun_mk (st := s_law_read) l18 c18 k18
  have b18 := F18.binds (ps := ["rows_here"]) fun _ _ _ _ _ _ us hl => match us, hl with | [_], _ => rfl
  have F19 := fun_mk (st := s_law_blanks) l19 c19 k19
  have b19 := F19.binds (ps := ["page_here"]) fun _ _ _ _ _ _ us hl => match us, hl with | [_], _ => rfl
  have F20 := fun_mk (st := s_law_drawn) l20 c20 k20
  have b20 := F20.binds (ps := ["deck", "many"]) fun _ _ _ _ _ _ us hl => match us, hl with | [_, _], _ => rfl
  have F21 := fun_mk (st := s_law_hosts) l21 c21 k21
  have b21 := F21.binds (ps := ["page_here"]) fun _ _ _ _ _ _ us hl => match us, hl with | [_], _ => rfl
  have F22 := fun_mk (st := s_law_kept_order) l22 c22 k22
  have b22 := F22.binds (ps := ["deck", "page_here"]) fun _ _ _ _ _ _ us hl => match us, hl with | [_, _], _ => rfl
  have F23 := fun_mk (st := s_law_fits) l23 c23 k23
  have b23 := F23.binds (ps := ["page_here", "row_order"]) fun _ _ _ _ _ _ us hl => match us, hl with | [_, _], _ => rfl
  have F24 := fun_mk (st := s_law_orders) l24 c24 k24
  have b24 := F24.binds (ps := ["many"]) fun _ _ _ _ _ _ us hl => match us, hl with | [_], _ => rfl
  have F25 := fun_mk (st := s_law_exchanged) l25 c25 k25
  have b25 := F25.binds (ps := ["deck", "row_order"]) fun _ _ _ _ _ _ us hl => match us, hl with | [_, _], _ => rfl
  have F26 := fun_mk (st := s_read_in) l26 c26 k26
  have b26 := F26.binds (ps := ["page", "order"]) fun _ _ _ _ _ _ us hl => match us, hl with | [_, _], _ => rfl
  have F27 := fun_mk (st := s_wrong_rows) l27 c27 k27
  have b27 := F27.binds (ps := ["page", "order"]) fun _ _ _ _ _ _ us hl => match us, hl with | [_, _], _ => rfl
  have F28 := fun_mk (st := s_keeps) l28 c28 k28
  have b28 := F28.binds (ps := ["page", "order"]) fun _ _ _ _ _ _ us hl => match us, hl with | [_, _], _ => rfl
  have F29 := fun_mk (st := s_law_same) l29 c29 k29
  have b29 := F29.binds (ps := ["found", "due"]) fun _ _ _ _ _ _ us hl => match us, hl with | [_, _], _ => rfl
  have F30 := fun_mk (st := s_law_is_kept) l30 c30 k30
  have b30 := F30.binds (ps := ["page_here", "row_order"]) fun _ _ _ _ _ _ us hl => match us, hl with | [_, _], _ => rfl
  have F31 := fun_mk (st := s_law_right) l31 c31 k31
  have b31 := F31.binds (ps := ["page_here", "row_order"]) fun _ _ _ _ _ _ us hl => match us, hl with | [_, _], _ => rfl
  have F32 := fun_mk (st := s_law_deck) l32 c32 k32
  have b32 := F32.binds (ps := ["script"]) fun _ _ _ _ _ _ us hl => match us, hl with | [_], _ => rfl
  have F33 := fun_mk (st := s_law) l33 c33 k33
  have b33 := F33.binds (ps := ["script"]) fun _ _ _ _ _ _ us hl => match us, hl with | [_], _ => rfl
  refine ⟨PySem.W.fnOf "law" "law" (defArgs s_law) (defBody s_law) (defScope s_law) .none kV33 dc33 pm33 an33 cd33 ct33, fun s v => .of_eq rfl, fun base _ _ => ?_⟩
  have q0 := cal_of (P := l.prog) (w := w) (base := base) F0 (PySem.W.mg_of X G a0) k0 b0 (ok_lead (k := 0) F0 m)
  have q1 := cal_of (P := l.prog) (w := w) (base := base) F1 (PySem.W.mg_of X G a1) k1 b1 (ok_isv (k := 0) F1 m)
  have q2 := cal_of (P := l.prog) (w := w) (base := base) F2 (PySem.W.mg_of X G a2) k2 b2 (ok_ipr F2 m q0 q1)
  have q3 := cal_of (P := l.prog) (w := w) (base := base) F3 (PySem.W.mg_of X G a3) k3 b3 (ok_apr F3 m q2)
  have q4 := cal_of (P := l.prog) (w := w) (base := base) F4 (PySem.W.mg_of X G a4) k4 b4 (ok_isp F4 q3 q0)
  have q5 := cal_of (P := l.prog) (w := w) (base := base) F5 (PySem.W.mg_of X G a5) k5 b5 (ok_chp F5 q4)
  have q6 := cal_of (P := l.prog) (w := w) (base := base) F6 (PySem.W.mg_of X G a6) k6 b6 (ok_rr F6 m q0)
  have q7 := cal_of (P := l.prog) (w := w) (base := base) F7 (PySem.W.mg_of X G a7) k7 b7 (ok_inn F7 m)
  have q8 := cal_of (P := l.prog) (w := w) (base := base) F8 (PySem.W.mg_of X G a8) k8 b8 (ok_fil F8 m q5 q6)
  have q9 := cal_of (P := l.prog) (w := w) (base := base) F9 (PySem.W.mg_of X G a9) k9 b9 (ok_draw F9 m)
  have q10 := cal_of (P := l.prog) (w := w) (base := base) F10 (PySem.W.mg_of X G a10) k10 b10 (ok_val F10 m q9)
  have q11 := cal_of (P := l.prog) (w := w) (base := base) F11 (PySem.W.mg_of X G a11) k11 b11 (ok_tab F11 m q9 q10)
  have q12 := cal_of (P := l.prog) (w := w) (base := base) F12 (PySem.W.mg_of X G a12) k12 b12 (ok_lsh F12 m)
  have q13 := cal_of (P := l.prog) (w := w) (base := base) F13 (PySem.W.mg_of X G a13) k13 b13 (ok_lmo F13 m q12)
  have q14 := cal_of (P := l.prog) (w := w) (base := base) F14 (PySem.W.mg_of X G a14) k14 b14 (ok_lwi F14 m)
  have q15 := cal_of (P := l.prog) (w := w) (base := base) F15 (PySem.W.mg_of X G a15) k15 b15 (ok_pag F15 m q9 q13 q14)
  have q16 := cal_of (P := l.prog) (w := w) (base := base) F16 (PySem.W.mg_of X G a16) k16 b16 (ok_iso F16 m q7)
  have q17 := cal_of (P := l.prog) (w := w) (base := base) F17 (PySem.W.mg_of X G a17) k17 b17 (ok_cho F17 q16)
  have q18 := cal_of (P := l.prog) (w := w) (base := base) F18 (PySem.W.mg_of X G a18) k18 b18 (ok_lrd F18 m)
  have q19 := cal_of (P := l.prog) (w := w) (base := base) F19 (PySem.W.mg_of X G a19) k19 b19 (ok_lbl F19 m)
  have q20 := cal_of (P := l.prog) (w := w) (base := base) F20 (PySem.W.mg_of X G a20) k20 b20 (ok_dra F20 m q9)
  have q21 := cal_of (P := l.prog) (w := w) (base := base) F21 (PySem.W.mg_of X G a21) k21 b21 (ok_lhs F21 m q19 q18 q12)
  have q22 := cal_of (P := l.prog) (w := w) (base := base) F22 (PySem.W.mg_of X G a22) k22 b22 (ok_koK F22 m q9 q21)
  have q23 := cal_of (P := l.prog) (w := w) (base := base) F23 (PySem.W.mg_of X G a23) k23 b23 (ok_fit F23 m q19 q18 q12)
  have q24 := cal_of (P := l.prog) (w := w) (base := base) F24 (PySem.W.mg_of X G a24) k24 b24 (ok_los F24 m)
  have q25 := cal_of (P := l.prog) (w := w) (base := base) F25 (PySem.W.mg_of X G a25) k25 b25 (ok_exc F25 m q9)
  have same1 := cal_of (P := l.prog) (w := w) (base := base) F29 (PySem.W.mg_of X G a29) k29 b29 (ok_same F29 m (PySem.W.mg_of X G a29) b29 1 (by decide))
  have rrL := cal_of (P := l.prog) (w := w) (base := base) F6 (PySem.W.mg_of X G a6) k6 b6 (ok_rrL F6 m q0)
  have rei := cal_of (P := l.prog) (w := w) (base := base) F26 (PySem.W.mg_of X G a26) k26 b26 (ok_rei F26 m q5 q17 rrL)
  have wro := cal_of (P := l.prog) (w := w) (base := base) F27 (PySem.W.mg_of X G a27) k27 b27 (ok_wro F27 m q8 rei)
  have kee := cal_of (P := l.prog) (w := w) (base := base) F28 (PySem.W.mg_of X G a28) k28 b28 (ok_kee F28 wro)
  have lrL := cal_of (P := l.prog) (w := w) (base := base) F18 (PySem.W.mg_of X G a18) k18 b18 (ok_lrdL F18 m)
  have lik := cal_of (P := l.prog) (w := w) (base := base) F30 (PySem.W.mg_of X G a30) k30 b30 (ok_lik F30 m q18 lrL)
  have kK := calK_of (P := l.prog) (w := w) (base := base) F28 (PySem.W.mg_of X G a28) k28 (byName2r F28 fun _ _ _ _ _ _ _ _ => rfl) (ok_kee F28 wro)
  have right := calG_of (P := l.prog) (w := w) (base := base) F31 (PySem.W.mg_of X G a31) k31 b31 (ok_ri8 F31 m (PySem.W.mg_none_of X G z17) lik q23 kee kK same1)
  exact ok_law F33 m (ok_deck F32 m) (PySem.W.mg_of X G a32) k32 b32 q9 q11 q15 q24 q22 kee q25 q20 right
theorem walk {l : PySem.W.OpenLaw} {q : Program} {loose : List Str} {XP : (Str → Option Value) → Heap → Prop} {YP : World → Heap → Prop} {d : DefRec} {K : Params → PySem.W.Frag} (hn : l.most = some 63) (hdf : d.params.defaults = [])
    (hY : ∀ (w : World) (h : Heap), YP w h → (K w.params).In h)
    (F : ∀ (w : World) (mg : Str → Option Value) (fa : Addr) (h : Heap), (K w.params).In h → h.Ns mainGlobals mg → mg d.name = some (.ref fa) →
      ∃ fd : FuncData, (∀ (s : Shared) (u : Value), BindsTo s fd ⟨[u], []⟩ [("script", u)]) ∧ ∀ base : Heap, (K w.params).In base → base.Ns mainGlobals mg → FnG l.prog w (K w.params) mg base 10 fa fd ["script"] (spLaw (K w.params))) :
    PySem.W.WalkO q loose XP YP l.row.toRowW d [] (fun f vs => PySem.call f vs) :=
  walk_ofG (n := 63) (k := 10) (x := "script") (sp := fun w => spLaw (K w.params)) hn (by decide) hdf ⟨rfl, by decide, by decide⟩ hY F (fun _ _ a ns hl _ hS => ⟨a, ns, rfl, hS, hl, fun _ => rfl⟩)
end G
open PySem PySem.W PyProof.Rows
set_option maxRecDepth 100000 in
set_option maxHeartbeats 0 in
theorem PySem.Challenge.cw_dittorows_k08_orders_that_keep_a_page_holds : PySem.Challenge.rw_dittorows_k08_orders_that_keep_a_page.Holds := by
  w_on; o_law; k_head; (case hw => w_witness2)
  k_fill
  refine G.walk (l := PySem.Challenge.rw_dittorows_k08_orders_that_keep_a_page) rfl rfl (fun w h Y => PySem.W.kIn_of Y) ?F
  case F =>
    intro w mg fa h KX GX hmg
    refine' G.all_mk KX GX hmg ?own_a0 ?own_l0 ?own_c0 ?own_k0 ?own_a1 ?own_l1 ?own_c1 ?own_k1 ?own_a2 ?own_l2 ?own_c2 ?own_k2 ?own_a3 ?own_l3 ?own_c3 ?own_k3 ?own_a4 ?own_l4 ?own_c4 ?own_k4 ?own_a5 ?own_l5 ?own_c5 ?own_k5 ?own_a6 ?own_l6 ?own_c6 ?own_k6 ?own_a7 ?own_l7 ?own_c7 ?own_k7 ?own_a8 ?own_l8 ?own_c8 ?own_k8 ?own_a9 ?own_l9 ?own_c9 ?own_k9 ?own_a10 ?own_l10 ?own_c10 ?own_k10 ?own_a11 ?own_l11 ?own_c11 ?own_k11 ?own_a12 ?own_l12 ?own_c12 ?own_k12 ?own_a13 ?own_l13 ?own_c13 ?own_k13 ?own_a14 ?own_l14 ?own_c14 ?own_k14 ?own_a15 ?own_l15 ?own_c15 ?own_k15 ?own_a16 ?own_l16 ?own_c16 ?own_k16 ?own_a17 ?own_l17 ?own_c17 ?own_k17 ?own_a18 ?own_l18 ?own_c18 ?own_k18 ?own_a19 ?own_l19 ?own_c19 ?own_k19 ?own_a20 ?own_l20 ?own_c20 ?own_k20 ?own_a21 ?own_l21 ?own_c21 ?own_k21 ?own_a22 ?own_l22 ?own_c22 ?own_k22 ?own_a23 ?own_l23 ?own_c23 ?own_k23 ?own_a24 ?own_l24 ?own_c24 ?own_k24 ?own_a25 ?own_l25 ?own_c25 ?own_k25 ?own_a26 ?own_l26 ?own_c26 ?own_k26 ?own_a27 ?own_l27 ?own_c27 ?own_k27 ?own_a28 ?own_l28 ?own_c28 ?own_k28 ?own_a29 ?own_l29 ?own_c29 ?own_k29 ?own_a30 ?own_l30 ?own_c30 ?own_k30 ?own_a31 ?own_l31 ?own_c31 ?own_k31 ?own_a32 ?own_l32 ?own_c32 ?own_k32 ?own_a33 ?own_l33 ?own_c33 ?own_k33 ?own_z0 ?own_z1 ?own_z2 ?own_z3 ?own_z4 ?own_z5 ?own_z6 ?own_z7 ?own_z8 ?own_z9 ?own_z10 ?own_z11 ?own_z12 ?own_z13 ?own_z14 ?own_z15 ?own_z16 ?own_z17 ?own_g0 ?own_g1 ?own_g2 ?own_g3
    (case own_a0 => k_is)
    (case own_l0 => k_is)
    (case own_c0 => k_is)
    (case own_k0 => k_is)
    (case own_a1 => k_is)
    (case own_l1 => k_is)
    (case own_c1 => k_is)
    (case own_k1 => k_is)
    (case own_a2 => k_is)
    (case own_l2 => k_is)
    (case own_c2 => k_is)
    (case own_k2 => k_is)
    (case own_a3 => k_is)
    (case own_l3 => k_is)
    (case own_c3 => k_is)
    (case own_k3 => k_is)
    (case own_a4 => k_is)
    (case own_l4 => k_is)
    (case own_c4 => k_is)
    (case own_k4 => k_is)
    (case own_a5 => k_is)
    (case own_l5 => k_is)
    (case own_c5 => k_is)
    (case own_k5 => k_is)
    (case own_a6 => k_is)
    (case own_l6 => k_is)
    (case own_c6 => k_is)
    (case own_k6 => k_is)
    (case own_a7 => k_is)
    (case own_l7 => k_is)
    (case own_c7 => k_is)
    (case own_k7 => k_is)
    (case own_a8 => k_is)
    (case own_l8 => k_is)
    (case own_c8 => k_is)
    (case own_k8 => k_is)
    (case own_a9 => k_is)
    (case own_l9 => k_is)
    (case own_c9 => k_is)
    (case own_k9 => k_is)
    (case own_a10 => k_is)
    (case own_l10 => k_is)
    (case own_c10 => k_is)
    (case own_k10 => k_is)
    (case own_a11 => k_is)
    (case own_l11 => k_is)
    (case own_c11 => k_is)
    (case own_k11 => k_is)
    (case own_a12 => k_is)
    (case own_l12 => k_is)
    (case own_c12 => k_is)
    (case own_k12 => k_is)
    (case own_a13 => k_is)
    (case own_l13 => k_is)
    (case own_c13 => k_is)
    (case own_k13 => k_is)
    (case own_a14 => k_is)
    (case own_l14 => k_is)
    (case own_c14 => k_is)
    (case own_k14 => k_is)
    (case own_a15 => k_is)
    (case own_l15 => k_is)
    (case own_c15 => k_is)
    (case own_k15 => k_is)
    (case own_a16 => k_is)
    (case own_l16 => k_is)
    (case own_c16 => k_is)
    (case own_k16 => k_is)
    (case own_a17 => k_is)
    (case own_l17 => k_is)
    (case own_c17 => k_is)
    (case own_k17 => k_is)
    (case own_a18 => k_is)
    (case own_l18 => k_is)
    (case own_c18 => k_is)
    (case own_k18 => k_is)
    (case own_a19 => k_is)
    (case own_l19 => k_is)
    (case own_c19 => k_is)
    (case own_k19 => k_is)
    (case own_a20 => k_is)
    (case own_l20 => k_is)
    (case own_c20 => k_is)
    (case own_k20 => k_is)
    (case own_a21 => k_is)
    (case own_l21 => k_is)
    (case own_c21 => k_is)
    (case own_k21 => k_is)
    (case own_a22 => k_is)
    (case own_l22 => k_is)
    (case own_c22 => k_is)
    (case own_k22 => k_is)
    (case own_a23 => k_is)
    (case own_l23 => k_is)
    (case own_c23 => k_is)
    (case own_k23 => k_is)
    (case own_a24 => k_is)
    (case own_l24 => k_is)
    (case own_c24 => k_is)
    (case own_k24 => k_is)
    (case own_a25 => k_is)
    (case own_l25 => k_is)
    (case own_c25 => k_is)
    (case own_k25 => k_is)
    (case own_a26 => k_is)
    (case own_l26 => k_is)
    (case own_c26 => k_is)
    (case own_k26 => k_is)
    (case own_a27 => k_is)
    (case own_l27 => k_is)
    (case own_c27 => k_is)
    (case own_k27 => k_is)
    (case own_a28 => k_is)
    (case own_l28 => k_is)
    (case own_c28 => k_is)
    (case own_k28 => k_is)
    (case own_a29 => k_is)
    (case own_l29 => k_is)
    (case own_c29 => k_is)
    (case own_k29 => k_is)
    (case own_a30 => k_is)
    (case own_l30 => k_is)
    (case own_c30 => k_is)
    (case own_k30 => k_is)
    (case own_a31 => k_is)
    (case own_l31 => k_is)
    (case own_c31 => k_is)
    (case own_k31 => k_is)
    (case own_a32 => k_is)
    (case own_l32 => k_is)
    (case own_c32 => k_is)
    (case own_k32 => k_is)
    (case own_a33 => k_is)
    (case own_l33 => k_is)
    (case own_c33 => k_is)
    (case own_k33 => k_is)
    (case own_z0 => k_is)
    (case own_z1 => k_is)
    (case own_z2 => k_is)
    (case own_z3 => k_is)
    (case own_z4 => k_is)
    (case own_z5 => k_is)
    (case own_z6 => k_is)
    (case own_z7 => k_is)
    (case own_z8 => k_is)
    (case own_z9 => k_is)
    (case own_z10 => k_is)
    (case own_z11 => k_is)
    (case own_z12 => k_is)
    (case own_z13 => k_is)
    (case own_z14 => k_is)
    (case own_z15 => k_is)
    (case own_z16 => k_is)
    (case own_z17 => k_is)
    (case own_g0 => k_is)
    (case own_g1 => k_is)
    (case own_g2 => k_is)
    (case own_g3 => k_is)

