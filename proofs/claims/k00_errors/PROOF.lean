import PyProof.Rows.All
import HandS.ForMost
import HandS.ForExc
import HandS.Flow
import HandS.Wide
import HandS.CallSlots
import HandS.TupAny
import HandS.IsInst
import HandS.ExcOwn
import HandS.Zip
import HandS.TryMany
import HandS.NoneIn
import HandS.FStr
import HandS.Text
import HandS.ExcInit
import HandS.ExcValue
import HandS.ExcField
import HandS.ExcIs
import HandS.Small
import KE.KExcIs
import PySem.Challenge.RW_heirturns_k00_errors
set_option Elab.async false
set_option linter.all false
set_option maxRecDepth 100000
/-! DLa: values as data: what a piece of the program does, said by a function over data (no heap). -/
namespace DL
open PySem PySem.Spec PyProof.Rows L2

/-- data: what a value is, without addresses -/
inductive D where
  | non | bl (b : Bool) | int (i : Int) | str (x : Str)
  | ls (xs : List D) | tu (xs : List D) | ro (xs : List Int) | box
  | ob (c : Nat) (fs : List D) | er (c : Nat) (fs : List D)
  deriving Inhabited

/-- own classes by number: where the class stands, the names of its fields -/
structure Tab where
  C : Nat → Addr
  fld : Nat → List Str

/-- an exception of the class at C, its dict -/
def exV (a C : Addr) (d : Option Addr) : HO := .ext fun h => ∃ (oe : Obj) (vs : Array Value), h.get? a = some oe ∧ oe.cls = .ref C ∧ oe.dict = d ∧ oe.data = .fields vs
mutual
inductive Rep (K : PySem.W.Frag) (T : Tab) (B : Option Addr) (G : Hp) : V → D → Prop
  | non : Rep K T B G .non .non
  | bl (b : Bool) : Rep K T B G (.bl b) (.bl b)
  | int (i : Int) : Rep K T B G (.int i) (.int i)
  | str (x : Str) : Rep K T B G (.str x) (.str x)
  | ls {a : Addr} {xs : List V} {ds : List D} (h : G a = some (.lst xs)) (r : Reps K T B G xs ds) : Rep K T B G (.ref a) (.ls ds)
  | tu {a : Addr} {xs : List V} {ds : List D} (h : SqT K G a xs) (r : Reps K T B G xs ds) : Rep K T B G (.ref a) (.tu ds)
  | ro {a : Addr} {ns : List Int} (h : SqL K G a (ns.map V.int)) : Rep K T B G (.ref a) (.ro ns)
  | box {p : Addr} (h : B = some p) : Rep K T B G (.ref p) .box
  | ob {a dx : Addr} {c : Nat} {vs : List V} {fs : List D} (h : G a = some (.ins (T.C c) dx ((T.fld c).zip vs))) (l : vs.length = (T.fld c).length) (r : Reps K T B G vs fs) : Rep K T B G (.ref a) (.ob c fs)
  | er0 {a : Addr} {c : Nat} (h : G a = some (exV a (T.C c) none)) (hn : T.fld c = []) : Rep K T B G (.ref a) (.er c [])
  | er1 {a d : Addr} {c : Nat} {nm : Str} {v : V} {f : D} (h : G a = some (exV a (T.C c) (some d))) (hn : T.fld c = [nm]) (hd : G d = some (.xd [(nm, v)])) (r : Rep K T B G v f) : Rep K T B G (.ref a) (.er c [f])
inductive Reps (K : PySem.W.Frag) (T : Tab) (B : Option Addr) (G : Hp) : List V → List D → Prop
  | nil : Reps K T B G [] []
  | cons {v : V} {d : D} {vs : List V} {ds : List D} (h : Rep K T B G v d) (r : Reps K T B G vs ds) : Reps K T B G (v :: vs) (d :: ds)
end

section
variable {K : PySem.W.Frag} {T : Tab} {B : Option Addr} {G G' H H' : Hp}
theorem Same.sqt {a : Addr} {xs : List V} (e : Same G G') (h : SqT K G a xs) : SqT K G' a xs := by
  rcases h with (h | ⟨o, h⟩) | h
  · exact .inl (.inl (e _ _ h))
  · exact .inl (.inr ⟨o, e _ _ h⟩)
  · exact .inr h
mutual
theorem Rep.mono (e : Same G G') : ∀ {v : V} {d : D}, Rep K T B G v d → Rep K T B G' v d
  | _, _, .non => .non
  | _, _, .bl b => .bl b
  | _, _, .int i => .int i
  | _, _, .str x => .str x
  | _, _, .ls h r => .ls (e _ _ h) (Reps.mono e r)
  | _, _, .tu h r => .tu (Same.sqt e h) (Reps.mono e r)
  | _, _, .ro h => .ro (e.seq h)
  | _, _, .box h => .box h
  | _, _, .ob h l r => .ob (e _ _ h) l (Reps.mono e r)
  | _, _, .er0 h n => .er0 (e _ _ h) n
  | _, _, .er1 h n d r => .er1 (e _ _ h) n (e _ _ d) (Rep.mono e r)
theorem Reps.mono (e : Same G G') : ∀ {vs : List V} {ds : List D}, Reps K T B G vs ds → Reps K T B G' vs ds
  | _, _, .nil => .nil
  | _, _, .cons h r => .cons (Rep.mono e h) (Reps.mono e r)
end
theorem Reps.length : ∀ {vs : List V} {ds : List D}, Reps K T B G vs ds → vs.length = ds.length
  | _, _, .nil => rfl
  | _, _, .cons _ r => congrArg (· + 1) r.length
theorem Reps.get : ∀ {vs : List V} {ds : List D} {i : Nat} {v : V}, Reps K T B G vs ds → vs[i]? = some v → ∃ d, ds[i]? = some d ∧ Rep K T B G v d
  | _, _, _, _, .nil, e => by simp at e
  | _, _, 0, _, .cons h _, e => by simp at e; subst e; exact ⟨_, rfl, h⟩
  | _, _, i + 1, v, .cons _ r, e => by
    obtain ⟨d, h1, h2⟩ := Reps.get (i := i) (v := v) r (by simpa using e)
    exact ⟨d, by simpa using h1, h2⟩
theorem Reps.get' : ∀ {vs : List V} {ds : List D} {i : Nat} {d : D}, Reps K T B G vs ds → ds[i]? = some d → ∃ v, vs[i]? = some v ∧ Rep K T B G v d
  | _, _, _, _, .nil, e => by simp at e
  | _, _, 0, _, .cons h _, e => by simp at e; subst e; exact ⟨_, rfl, h⟩
  | _, _, i + 1, d, .cons _ r, e => by
    obtain ⟨v, h1, h2⟩ := Reps.get' (i := i) (d := d) r (by simpa using e)
    exact ⟨v, by simpa using h1, h2⟩
theorem Reps.append : ∀ {vs : List V} {ds : List D} {ws : List V} {es : List D}, Reps K T B G vs ds → Reps K T B G ws es → Reps K T B G (vs ++ ws) (ds ++ es)
  | _, _, _, _, .nil, q => q
  | _, _, _, _, .cons h r, q => .cons h (Reps.append r q)
theorem Reps.set {v : V} {d : D} (h : Rep K T B G v d) : ∀ {vs : List V} {ds : List D} (i : Nat), Reps K T B G vs ds → Reps K T B G (vs.set i v) (ds.set i d)
  | _, _, _, .nil => .nil
  | _, _, 0, .cons _ r => .cons h r
  | _, _, i + 1, .cons q r => .cons q (Reps.set h i r)
theorem Reps.take : ∀ {vs : List V} {ds : List D} (n : Nat), Reps K T B G vs ds → Reps K T B G (vs.take n) (ds.take n)
  | _, _, 0, _ => .nil
  | _, _, _ + 1, .nil => .nil
  | _, _, n + 1, .cons h r => .cons h (Reps.take n r)
theorem Reps.drop : ∀ {vs : List V} {ds : List D} (n : Nat), Reps K T B G vs ds → Reps K T B G (vs.drop n) (ds.drop n)
  | _, _, 0, r => r
  | _, _, _ + 1, .nil => .nil
  | _, _, n + 1, .cons _ r => Reps.drop n r
theorem Reps.eraseIdx : ∀ {vs : List V} {ds : List D} (n : Nat), Reps K T B G vs ds → Reps K T B G (vs.eraseIdx n) (ds.eraseIdx n)
  | _, _, _, .nil => .nil
  | _, _, 0, .cons _ r => r
  | _, _, n + 1, .cons h r => .cons h (Reps.eraseIdx n r)
theorem Reps.one {v : V} {d : D} (h : Rep K T B G v d) : Reps K T B G [v] [d] := .cons h .nil
end

/-! ### the state -/
abbrev SV := List (Option V)
abbrev Bx := Int × Int × Int
def boxO (b : Bx) : HO := .lst [.int b.1, .int b.2.1, .int b.2.2]
inductive Sl where
  | un | val (d : D) | own (ds : List D)
structure S where
  env : List Sl
  bx : Bx
/-- what is fixed while a body runs: where the box is; the entry's heaps -/
structure Ctx where
  B : Option Addr
  H0 : Hp
  G0 : Hp

def SlotOk (K : PySem.W.Frag) (T : Tab) (c : Ctx) (G H : Hp) (x : Option (Option V)) : Sl → Prop
  | .un => True
  | .val d => ∃ v, x = some (some v) ∧ Rep K T c.B G v d
  | .own ds => ∃ p vs, x = some (some (.ref p)) ∧ H p = some (.lst vs) ∧ G p = none ∧ c.H0 p = none ∧ Reps K T c.B G vs ds

structure Holds (K : PySem.W.Frag) (T : Tab) (c : Ctx) (G H : Hp) (σ : SV) (st : S) : Prop where
  sub0 : Same c.G0 G
  sub : Same G H
  new : ∀ a, c.G0 a = none → G a ≠ none → c.H0 a = none
  frame : ∀ a o, c.H0 a = some o → c.B ≠ some a → H a = some o
  len : σ.length = st.env.length
  slot : ∀ (i : Nat) (s : Sl), st.env[i]? = some s → SlotOk K T c G H σ[i]? s
  dist : ∀ (i j : Nat) (p : Addr) (ds es : List D), st.env[i]? = some (.own ds) → st.env[j]? = some (.own es) → σ[i]? = some (some (.ref p)) → σ[j]? = some (some (.ref p)) → i = j
  box : ∀ p, c.B = some p → H p = some (boxO st.bx) ∧ G p = none
  box0 : ∀ p, c.B = some p → c.H0 p ≠ none

section
variable {K : PySem.W.Frag} {T : Tab} {c : Ctx} {G G' H H' : Hp} {σ : SV} {st : S}
theorem Holds.h0 (h : Holds K T c G H σ st) {p : Addr} (e : H p = none) : c.H0 p = none := by
  cases q : c.H0 p with
  | none => rfl
  | some o =>
    by_cases hb : c.B = some p
    · have := (h.box p hb).1; rw [e] at this; cases this
    · have := h.frame p o q hb; rw [e] at this; cases this
theorem SlotOk.grow (s1 : Same G G') (s2 : Same H H') (nw : ∀ a, G a = none → G' a ≠ none → H a = none) {x : Option (Option V)} : ∀ {s : Sl}, SlotOk K T c G H x s → SlotOk K T c G' H' x s
  | .un, _ => trivial
  | .val d, ⟨v, e, r⟩ => ⟨v, e, r.mono s1⟩
  | .own ds, ⟨p, vs, e, h, g, z, r⟩ => by
    refine ⟨p, vs, e, s2 _ _ h, ?_, z, r.mono s1⟩
    cases q : G' p with
    | none => rfl
    | some o => have := nw p g (by rw [q]; exact fun z => by cases z); rw [h] at this; cases this
theorem Holds.grow (h : Holds K T c G H σ st) (s1 : Same G G') (s2 : Same H H') (s3 : Same G' H') (nw : ∀ a, G a = none → G' a ≠ none → H a = none) : Holds K T c G' H' σ st where
  sub0 := h.sub0.trans s1
  sub := s3
  new := fun a e n => by
    cases q : G a with
    | none => exact h.h0 (nw a q n)
    | some o => exact h.new a e (by rw [q]; exact fun z => by cases z)
  frame := fun a o e b => s2 _ _ (h.frame a o e b)
  len := h.len
  slot := fun i s e => (h.slot i s e).grow s1 s2 nw
  dist := h.dist
  box := fun p e => ⟨s2 _ _ (h.box p e).1, by
    cases q : G' p with
    | none => rfl
    | some o => have := nw p (h.box p e).2 (by rw [q]; exact fun z => by cases z); rw [(h.box p e).1] at this; cases this⟩
  box0 := h.box0
theorem same_upd {H : Hp} {p : Addr} {o : HO} (h : H p = none) : Same H (upd H p o) := fun b x e => by
  rw [upd_ne (ne_of_none e h)]; exact e
/-- a new object, known from now on -/
theorem Holds.lay (h : Holds K T c G H σ st) {p : Addr} (o : HO) (n : H p = none) : Holds K T c (upd G p o) (upd H p o) σ st := by
  have gn : G p = none := by
    cases q : G p with
    | none => rfl
    | some u => have := h.sub _ _ q; rw [n] at this; cases this
  refine h.grow (same_upd gn) (same_upd n) (fun a u e => ?_) (fun a e q => ?_)
  · by_cases z : a = p
    · subst z; rw [upd_same] at e ⊢; exact e
    · rw [upd_ne z] at e ⊢; exact h.sub _ _ e
  · by_cases z : a = p
    · subst z; exact n
    · rw [upd_ne z] at q; exact absurd e q
theorem Holds.gnone (h : Holds K T c G H σ st) {p : Addr} (n : H p = none) : G p = none := by
  cases q : G p with
  | none => rfl
  | some u => have := h.sub _ _ q; rw [n] at this; cases this
/-- a new object that nobody needs -/
theorem Holds.lose (h : Holds K T c G H σ st) {p : Addr} (o : HO) (n : H p = none) : Holds K T c G (upd H p o) σ st :=
  h.grow (Same.refl _) (same_upd n) (h.sub.trans (same_upd n)) (fun a e q => absurd e q)
end

/-! ### results -/
/-- an error: its class by number, its values -/
structure Er where
  c : Nat
  fs : List D
inductive R (α : Type) where
  | ok (a : α) (s : S) | err (e : Er) (s : S) | stuck
def R.bind {α β : Type} : R α → (α → S → R β) → R β
  | .ok a s, g => g a s
  | .err e s, _ => .err e s
  | .stuck, _ => .stuck
/-- the error in the heap -/
def ErrAt (K : PySem.W.Frag) (T : Tab) (B : Option Addr) (G H : Hp) (e : Er) (cls : Value) (d : Option Addr) : Prop :=
  cls = .ref (T.C e.c) ∧ match e.fs with
    | [] => d = none ∧ T.fld e.c = []
    | f :: r => r = [] ∧ ∃ dd nm v, d = some dd ∧ T.fld e.c = [nm] ∧ H dd = some (.xd [(nm, v)]) ∧ Rep K T B G v f

abbrev Rel (α β : Type) := Ctx → Hp → Hp → SV → S → β → α → Prop
def GOk {α β : Type} (K : PySem.W.Frag) (T : Tab) (W : WX) (rel : Rel α β) (c : Ctx) (G : Hp) (σ : SV) (r : R α) (Q : β → Hp → Prop) : Prop :=
  match r with
  | .ok a st => ∀ G' H' v, Same G G' → Holds K T c G' H' σ st → rel c G' H' σ st v a → Q v H'
  | .err e st => ∀ G' H' cls d, Same G G' → Holds K T c G' H' σ st → ErrAt K T c.B G' H' e cls d → W cls d σ H'
  | .stuck => False
def gD {α β : Type} (K : PySem.W.Frag) (T : Tab) (W : WX) (rel : Rel α β) (f : S → R α) : SV → Hp → (β → Hp → Prop) → Prop :=
  fun σ H Q => ∃ c G st, Holds K T c G H σ st ∧ GOk K T W rel c G σ (f st) Q
section
variable {K : PySem.W.Frag} {T : Tab} {W : WX} {c : Ctx} {G G' H H' : Hp} {σ : SV} {st : S} {α β γ δ : Type} {rel : Rel α β} {rel2 : Rel γ δ}
theorem GOk.mono {r : R α} {Q : β → Hp → Prop} (s : Same G G') (h : GOk K T W rel c G σ r Q) : GOk K T W rel c G' σ r Q := by
  cases r with
  | ok a st => exact fun G2 H2 v s2 => h G2 H2 v (s.trans s2)
  | err e st => exact fun G2 H2 cls d s2 => h G2 H2 cls d (s.trans s2)
  | stuck => exact h
theorem GOk.imp {r : R α} {Q Q' : β → Hp → Prop} (q : ∀ v H, Q v H → Q' v H) (h : GOk K T W rel c G σ r Q) : GOk K T W rel c G σ r Q' := by
  cases r with
  | ok a st => exact fun G2 H2 v s2 h1 h2 => q _ _ (h G2 H2 v s2 h1 h2)
  | err e st => exact h
  | stuck => exact h
/-- THE STEP: what is asked of (f, then g) is asked of f -/
theorem step {f : S → R α} {g : α → S → R γ} {Q : δ → Hp → Prop} (hd : Holds K T c G H σ st) (ok : GOk K T W rel2 c G σ ((f st).bind g) Q) :
    gD K T W rel f σ H (fun x H1 => ∃ G1 st1 a, Same G G1 ∧ Holds K T c G1 H1 σ st1 ∧ rel c G1 H1 σ st1 x a ∧ GOk K T W rel2 c G1 σ (g a st1) Q) := by
  refine ⟨c, G, st, hd, ?_⟩
  generalize f st = r at ok
  cases r with
  | ok a st1 => exact fun G1 H1 x s h r => ⟨G1, st1, a, s, h, r, GOk.mono s ok⟩
  | err e st1 => exact ok
  | stuck => exact ok
/-- handing back -/
theorem GOk.done {a : α} {v : β} {Q : β → Hp → Prop} (ok : GOk K T W rel c G σ (.ok a st) Q) (s : Same G G') (hd : Holds K T c G' H' σ st) (r : rel c G' H' σ st v a) : Q v H' := ok _ _ _ s hd r
end
abbrev relD (K : PySem.W.Frag) (T : Tab) : Rel D V := fun c G _ _ _ v d => Rep K T c.B G v d
abbrev relB : Rel Bool Bool := fun _ _ _ _ _ b c => b = c
abbrev relA (K : PySem.W.Frag) (T : Tab) : Rel (List D) (List V) := fun c G _ _ _ vs ds => Reps K T c.B G vs ds
abbrev relO : Rel (Option Int) (Option Int) := fun _ _ _ _ _ b c => b = c
/-- a list of one's own: known to nobody else -/
def relF (K : PySem.W.Frag) (T : Tab) : Rel (List D) V := fun c G H σ st v ds => ∃ p vs, v = .ref p ∧ H p = some (.lst vs) ∧ G p = none ∧ c.H0 p = none ∧ Reps K T c.B G vs ds ∧
  ∀ (i : Nat) (es : List D), st.env[i]? = some (.own es) → σ[i]? ≠ some (some (.ref p))
section
variable {K : PySem.W.Frag} {T : Tab} {c : Ctx} {G G' H H' : Hp} {σ : SV} {st : S}
/-- a new list, kept for oneself -/
theorem Holds.fresh (h : Holds K T c G H σ st) {p : Addr} {vs : List V} {ds : List D} (n : H p = none) (r : Reps K T c.B G vs ds) : Holds K T c G (upd H p (.lst vs)) σ st ∧ relF K T c G (upd H p (.lst vs)) σ st (.ref p) ds := by
  refine ⟨h.lose _ n, p, vs, rfl, upd_same, h.gnone n, h.h0 n, r, fun i es e q => ?_⟩
  obtain ⟨p2, vs2, e1, e2, _⟩ := h.slot i _ e
  rw [e1] at q
  cases q
  rw [n] at e2; cases e2
/-- it is closed -/
theorem relF.close {v : V} {ds : List D} (h : Holds K T c G H σ st) (r : relF K T c G H σ st v ds) : ∃ G', Same G G' ∧ Holds K T c G' H σ st ∧ Rep K T c.B G' v (.ls ds) := by
  obtain ⟨p, vs, rfl, hp, g, z, rs, nd⟩ := r
  have sg : Same G (upd G p (.lst vs)) := same_upd g
  refine ⟨upd G p (.lst vs), sg, ?_, .ls upd_same (rs.mono sg)⟩
  exact {
    sub0 := h.sub0.trans sg
    sub := fun a o q => by
      by_cases w : a = p
      · subst w; rw [upd_same] at q; cases q; exact hp
      · rw [upd_ne w] at q; exact h.sub _ _ q
    new := fun a q n => by
      by_cases w : a = p
      · subst w; exact z
      · rw [upd_ne w] at n; exact h.new a q n
    frame := h.frame
    len := h.len
    slot := fun j s q => by
      have o := h.slot j s q
      cases s with
      | un => trivial
      | val d => obtain ⟨v, a, b⟩ := o; exact ⟨v, a, b.mono sg⟩
      | own es =>
        obtain ⟨p2, vs2, a1, a2, a3, a4, a5⟩ := o
        refine ⟨p2, vs2, a1, a2, ?_, a4, a5.mono sg⟩
        have ne : p2 ≠ p := fun t => by subst t; exact nd j es q a1
        rw [upd_ne ne]; exact a3
    dist := h.dist
    box := fun b q => by
      obtain ⟨x, y⟩ := h.box b q
      refine ⟨x, ?_⟩
      have ne : b ≠ p := fun t => by subst t; exact h.box0 b q z
      rw [upd_ne ne]; exact y
    box0 := h.box0 }
/-- while it is kept for oneself: the context that guards it -/
def Ctx.guard (c : Ctx) (p : Addr) (vs : List V) : Ctx := { c with H0 := upd c.H0 p (.lst vs) }
theorem Holds.guard {p : Addr} {vs : List V} (h : Holds K T c G H σ st) (hp : H p = some (.lst vs)) (g : G p = none) (z : c.H0 p = none) (nd : ∀ (i : Nat) (es : List D), st.env[i]? = some (.own es) → σ[i]? ≠ some (some (.ref p))) :
    Holds K T (c.guard p vs) G H σ st where
  sub0 := h.sub0
  sub := h.sub
  new := fun a q n => by
    have ne : a ≠ p := fun t => by subst t; exact n g
    show upd c.H0 p _ a = none
    rw [upd_ne ne]; exact h.new a q n
  frame := fun a o e b => by
    have e' : upd c.H0 p (.lst vs) a = some o := e
    by_cases w : a = p
    · subst w; rw [upd_same] at e'; cases e'; exact hp
    · rw [upd_ne w] at e'; exact h.frame a o e' b
  len := h.len
  slot := fun j s q => by
    have o := h.slot j s q
    cases s with
    | un => trivial
    | val d => exact o
    | own es =>
      obtain ⟨p2, vs2, a1, a2, a3, a4, a5⟩ := o
      refine ⟨p2, vs2, a1, a2, a3, ?_, a5⟩
      have ne : p2 ≠ p := fun t => by subst t; exact nd j es q a1
      show upd c.H0 p _ p2 = none
      rw [upd_ne ne]; exact a4
  dist := h.dist
  box := h.box
  box0 := fun b q e => by
    have e' : upd c.H0 p (.lst vs) b = none := e
    by_cases w : b = p
    · subst w; rw [upd_same] at e'; cases e'
    · rw [upd_ne w] at e'; exact h.box0 b q e'
/-- .. and back -/
theorem Holds.unguard {p : Addr} {vs : List V} (z : c.H0 p = none) (g0 : c.B ≠ some p) (h : Holds K T (c.guard p vs) G H σ st) (gp : G p = none) :
    Holds K T c G H σ st ∧ H p = some (.lst vs) ∧ ∀ (i : Nat) (es : List D), st.env[i]? = some (.own es) → σ[i]? ≠ some (some (.ref p)) := by
  have hH : ∀ a, (c.guard p vs).H0 a = upd c.H0 p (.lst vs) a := fun _ => rfl
  refine ⟨{ sub0 := h.sub0, sub := h.sub, new := fun a q n => ?_, frame := fun a o e b => ?_, len := h.len, slot := fun j s q => ?_, dist := h.dist, box := h.box, box0 := fun b q e => ?_ }, h.frame p _ (by rw [hH]; exact upd_same) g0, fun i es e q => ?_⟩
  · have := h.new a q n
    rw [hH] at this
    by_cases w : a = p
    · subst w; exact z
    · rw [upd_ne w] at this; exact this
  · refine h.frame a o ?_ b
    rw [hH, upd_ne (show a ≠ p from fun t => by subst t; rw [z] at e; cases e)]; exact e
  · have o := h.slot j s q
    cases s with
    | un => trivial
    | val d => exact o
    | own es =>
      obtain ⟨p2, vs2, a1, a2, a3, a4, a5⟩ := o
      refine ⟨p2, vs2, a1, a2, a3, ?_, a5⟩
      rw [hH] at a4
      by_cases w : p2 = p
      · subst w; exact z
      · rw [upd_ne w] at a4; exact a4
  · refine h.box0 b q ?_
    rw [hH, upd_ne (show b ≠ p from fun t => by subst t; exact g0 q)]; exact e
  · obtain ⟨p2, vs2, a1, a2, a3, a4, a5⟩ := h.slot i _ e
    rw [a1] at q
    cases q
    rw [hH, upd_same] at a4; cases a4
/-- new known objects never are p: G' p stays free -/
theorem Holds.gfree {p : Addr} {vs : List V} (h : Holds K T (c.guard p vs) G H σ st) (g0 : c.G0 p = none) : G p = none := by
  cases q : G p with
  | none => rfl
  | some o =>
    have := h.new p g0 (by rw [q]; exact fun z => by cases z)
    have hH : (c.guard p vs).H0 p = upd c.H0 p (.lst vs) p := rfl
    rw [hH, upd_same] at this; cases this
end

/-! ### the judgements -/
def DE (X : Cx) (T : Tab) (W : WX) (e : Expr) (f : S → R D) : Prop := PE X e (gD X.K T W (relD X.K T) f)
def DT (X : Cx) (T : Tab) (W : WX) (e : Expr) (f : S → R Bool) : Prop := PT X e (gD X.K T W relB f)
def DW (X : Cx) (T : Tab) (W : WX) (e : Expr) (f : S → R Bool) : Prop := PW X e (gD X.K T W relB f)
def DA (X : Cx) (T : Tab) (W : WX) (es : List Expr) (f : S → R (List D)) : Prop := PA X es (gD X.K T W (relA X.K T) f)
def DF (X : Cx) (T : Tab) (W : WX) (e : Expr) (f : S → R (List D)) : Prop := PE X e (gD X.K T W (relF X.K T) f)
def DO (X : Cx) (T : Tab) (W : WX) (e : Option Expr) (f : S → R (Option Int)) : Prop := PO X e (gD X.K T W relO f)
section
variable {X : Cx}
theorem impE {e : Expr} {t t' : TE} (h : PE X e t) (q : ∀ σ H Q, t' σ H Q → t σ H Q) : PE X e t' := ⟨fun pins s σ H Q I k => h.run pins s σ H Q I (q σ H Q k)⟩
theorem impT {e : Expr} {t t' : TT} (h : PT X e t) (q : ∀ σ H Q, t' σ H Q → t σ H Q) : PT X e t' := ⟨fun pins s σ H Q I k => h.run pins s σ H Q I (q σ H Q k)⟩
theorem impW {e : Expr} {t t' : TT} (h : PW X e t) (q : ∀ σ H Q, t' σ H Q → t σ H Q) : PW X e t' := ⟨fun wh pins s σ H Q I k => h.run wh pins s σ H Q I (q σ H Q k)⟩
theorem impA {es : List Expr} {t t' : TA} (h : PA X es t) (q : ∀ σ H Q, t' σ H Q → t σ H Q) : PA X es t' := ⟨fun pos pins s σ H Q I k => h.run pos pins s σ H Q I (q σ H Q k)⟩
theorem impS {e : Stmt} {t t' : TS} (h : PS X e t) (q : ∀ D σ H, t' D σ H → t D σ H) : PS X e t' := ⟨fun pins s σ H D I k => h.run pins s σ H D I (q D σ H k)⟩
theorem impSs {e : List Stmt} {t t' : TS} (h : PSs X e t) (q : ∀ D σ H, t' D σ H → t D σ H) : PSs X e t' := ⟨fun pins s σ H D I k => h.run pins s σ H D I (q D σ H k)⟩
end
end DL

/-! DLb: expressions. -/
namespace DL
open PySem PySem.Spec PyProof.Rows L2

section
variable {K : PySem.W.Frag} {T : Tab} {W : WX} {c : Ctx} {G G' H H' : Hp} {σ : SV} {st : S} {α β γ δ : Type}
/-! ### names -/
def S.put (st : S) (i : Nat) (s : Sl) : S := { st with env := st.env.set i s }
theorem Holds.freeze (h : Holds K T c G H σ st) {i : Nat} {ds : List D} (e : st.env[i]? = some (.own ds)) :
    ∃ p vs, σ[i]? = some (some (.ref p)) ∧ H p = some (.lst vs) ∧ Reps K T c.B G vs ds ∧ G p = none ∧ Holds K T c (upd G p (.lst vs)) H σ (st.put i (.val (.ls ds))) := by
  obtain ⟨p, vs, e1, e2, g, z, r⟩ := h.slot i _ e
  have sg : Same G (upd G p (.lst vs)) := same_upd g
  refine ⟨p, vs, e1, e2, r, g, ?_⟩
  have hp : (upd G p (.lst vs)) p = some (.lst vs) := upd_same
  exact {
    sub0 := h.sub0.trans sg
    sub := fun a o q => by
      by_cases w : a = p
      · subst w; rw [upd_same] at q; cases q; exact e2
      · rw [upd_ne w] at q; exact h.sub _ _ q
    new := fun a q n => by
      by_cases w : a = p
      · subst w; exact z
      · rw [upd_ne w] at n; exact h.new a q n
    frame := h.frame
    len := by show _ = (st.env.set i _).length; rw [List.length_set]; exact h.len
    slot := fun j s q => by
      have q' : (st.env.set i (.val (.ls ds)))[j]? = some s := q
      by_cases w : i = j
      · subst w
        rw [List.getElem?_set_self (List.getElem?_eq_some_iff.mp e).1] at q'
        cases q'
        exact ⟨_, e1, .ls hp (r.mono sg)⟩
      · rw [List.getElem?_set_ne w] at q'
        have o := h.slot j s q'
        cases s with
        | un => trivial
        | val d => obtain ⟨v, a, b⟩ := o; exact ⟨v, a, b.mono sg⟩
        | own es =>
          obtain ⟨p2, vs2, a1, a2, a3, a4, a5⟩ := o
          refine ⟨p2, vs2, a1, a2, ?_, a4, a5.mono sg⟩
          have ne : p2 ≠ p := fun t => by subst t; exact w (h.dist i j p2 ds es e q' e1 a1)
          rw [upd_ne ne]; exact a3
    dist := fun j k p2 ds2 es2 q1 q2 => by
      have q1' : (st.env.set i (.val (.ls ds)))[j]? = _ := q1
      have q2' : (st.env.set i (.val (.ls ds)))[k]? = _ := q2
      have nj : i ≠ j := fun w => by
        subst w; rw [List.getElem?_set_self (List.getElem?_eq_some_iff.mp e).1] at q1'; cases q1'
      have nk : i ≠ k := fun w => by
        subst w; rw [List.getElem?_set_self (List.getElem?_eq_some_iff.mp e).1] at q2'; cases q2'
      rw [List.getElem?_set_ne nj] at q1'
      rw [List.getElem?_set_ne nk] at q2'
      exact h.dist j k p2 ds2 es2 q1' q2'
    box := fun b q => by
      obtain ⟨x, y⟩ := h.box b q
      refine ⟨x, ?_⟩
      have ne : b ≠ p := fun t => by subst t; exact h.box0 b q z
      rw [upd_ne ne]; exact y
    box0 := h.box0 }
/-- a name's slot; a list that is still being built is closed by it -/
def dV (i : Nat) (st : S) : R D := match st.env[i]? with
  | some (.val d) => .ok d st
  | some (.own ds) => .ok (.ls ds) (st.put i (.val (.ls ds)))
  | _ => .stuck
def dC (d : D) (st : S) : R D := .ok d st
end
section
variable {X : Cx} {T : Tab} {W : WX}
theorem de_var {i : Nat} {e : Expr} (h : PE X e (tVar i)) : DE X T W e (dV i) := impE h fun σ H Q ⟨c, G, st, hd, ok⟩ => by
  unfold dV at ok
  cases q : st.env[i]? with
  | none => rw [q] at ok; exact ok.elim
  | some s =>
    rw [q] at ok
    cases s with
    | un => exact ok.elim
    | val d => obtain ⟨v, e1, r⟩ := hd.slot i _ q; exact ⟨v, e1, ok _ _ _ (Same.refl _) hd r⟩
    | own ds =>
      obtain ⟨p, vs, e1, e2, r, g, h2⟩ := hd.freeze q
      exact ⟨_, e1, ok _ _ _ (same_upd g) h2 (.ls upd_same (r.mono (same_upd g)))⟩
/-- a constant, a name of the module whose value is flat -/
theorem de_const {v : V} {d : D} {e : Expr} (h : PE X e (tC v)) (r : ∀ B G, Rep X.K T B G v d) : DE X T W e (dC d) := impE h fun σ H Q ⟨c, G, st, hd, ok⟩ => ok _ _ _ (Same.refl _) hd (r _ _)
theorem de_int {i : Int} {j pos} : DE X T W (.Constant (.int i) j pos) (dC (.int i)) := de_const pe_int fun _ _ => .int i
theorem de_bl {b : Bool} {j pos} : DE X T W (.Constant (.bool b) j pos) (dC (.bl b)) := de_const pe_bl fun _ _ => .bl b
theorem de_non {j pos} : DE X T W (.Constant .none j pos) (dC .non) := de_const pe_non fun _ _ => .non
theorem de_str {x : Str} {j pos} : DE X T W (.Constant (.str x) j pos) (dC (.str x)) := de_const pe_str fun _ _ => .str x

/-! ### two operands -/
def dBin (h : D → D → S → R D) (fa fb : S → R D) : S → R D := fun st => (fa st).bind fun x st => (fb st).bind fun y st => h x y st
def dBinB (h : D → D → S → R Bool) (fa fb : S → R D) : S → R Bool := fun st => (fa st).bind fun x st => (fb st).bind fun y st => h x y st
def toD (r : R Bool) : R D := r.bind fun k st => .ok (.bl k) st
def dOfB (f : S → R Bool) : S → R D := fun st => toD (f st)
def Snd2 (X : Cx) (T : Tab) (W : WX) (r : R2) (h : D → D → S → R D) : Prop :=
  ∀ (c : Ctx) (G H : Hp) (σ : SV) (st : S) (x y : V) (a b : D) (Q : VK), Holds X.K T c G H σ st → Rep X.K T c.B G x a → Rep X.K T c.B G y b → GOk X.K T W (relD X.K T) c G σ (h a b st) Q → r x y H Q
theorem bin_read {r : R2} {h : D → D → S → R D} {a b : Expr} {fa fb : S → R D} (sd : Snd2 X T W r h) : ∀ σ H Q, gD X.K T W (relD X.K T) (dBin h fa fb) σ H Q → tOp r (gD X.K T W (relD X.K T) fa) (gD X.K T W (relD X.K T) fb) σ H Q := by
  intro σ H Q ⟨c, G, st, hd, ok⟩
  obtain ⟨c0, G0, st0, hd0, ok0⟩ := step (rel := relD X.K T) hd ok
  refine ⟨c0, G0, st0, hd0, ok0.imp fun x H1 ⟨G1, st1, a, s1, hd1, r1, ok1⟩ => ?_⟩
  obtain ⟨c2, G2, st2, hd2, ok2⟩ := step (rel := relD X.K T) hd1 ok1
  exact ⟨c2, G2, st2, hd2, ok2.imp fun y H2 ⟨G3, st3, b, s3, hd3, r3, ok3⟩ => sd c G3 H2 σ st3 x y a b Q hd3 (r1.mono s3) r3 ok3⟩
theorem de_bin {op : Operator} {r : R2} {h : D → D → S → R D} {a b : Expr} {fa fb : S → R D} {pos : Pos} (ho : OpR X (binaryOp op) r) (sd : Snd2 X T W r h) (ha : DE X T W a fa) (hb : DE X T W b fb) :
    DE X T W (.BinOp a op b pos) (dBin h fa fb) := impE (pe_op ho ha hb) (bin_read (a := a) (b := b) sd)
theorem dOfB_bin {h : D → D → S → R Bool} {fa fb : S → R D} : dOfB (dBinB h fa fb) = dBin (fun a b st => toD (h a b st)) fa fb := by
  funext st
  unfold dOfB dBinB dBin toD R.bind
  cases fa st with
  | ok a s => dsimp only; cases fb s <;> rfl
  | err e s => rfl
  | stuck => rfl
theorem de_cmp {op : CmpOp} {r : R2} {h : D → D → S → R Bool} {a b : Expr} {fa fb : S → R D} {pos : Pos} (ho : OpR X (compareOp op) r) (sd : Snd2 X T W r fun a b st => toD (h a b st)) (ha : DE X T W a fa) (hb : DE X T W b fb)
    (hm : behindInMarks op b = false) : DE X T W (.Compare a [op] [b] pos) (dOfB (dBinB h fa fb)) := by
  rw [dOfB_bin]
  exact impE (pe_cmpR ho ha hb hm) (bin_read (a := a) (b := b) sd)
/-- what is wanted of a truth value, of the value True or False -/
theorem GOk.ofB {K : PySem.W.Frag} {c : Ctx} {G : Hp} {σ : SV} {r : R Bool} {Q : Bool → Hp → Prop} (ok : GOk K T W relB c G σ r Q) : GOk K T W (relD K T) c G σ (toD r) fun x H' => ∃ k, x = .bl k ∧ Q k H' := by
  cases r with
  | ok a s =>
    intro G' H' v s1 h1 r1
    cases r1
    exact ⟨a, rfl, ok G' H' a s1 h1 rfl⟩
  | err e s => exact ok
  | stuck => exact ok
theorem dt_cmp {op : CmpOp} {r : R2} {h : D → D → S → R Bool} {a b : Expr} {fa fb : S → R D} {pos : Pos} (ho : OpR X (compareOp op) r) (sd : Snd2 X T W r fun a b st => toD (h a b st)) (ha : DE X T W a fa) (hb : DE X T W b fb)
    (hm : behindInMarks op b = false) : DT X T W (.Compare a [op] [b] pos) (dBinB h fa fb) := by
  refine impT (pt_cmpR ho ha hb hm) fun σ H Q ⟨c, G, st, hd, ok⟩ => ?_
  refine bin_read (a := a) (b := b) sd σ H _ ⟨c, G, st, hd, ?_⟩
  have := GOk.ofB ok
  rw [show toD (dBinB h fa fb st) = dOfB (dBinB h fa fb) st from rfl, dOfB_bin] at this
  exact this

/-! ### one operand -/
def dUn (h : D → S → R D) (fa : S → R D) : S → R D := fun st => (fa st).bind h
theorem de_un {op : UnaryOp} {r : V → Hp → VK → Prop} {h : D → S → R D} {a : Expr} {fa : S → R D} {pos : Pos} (ho : UnR X (unaryOp op) r)
    (sd : ∀ (c : Ctx) (G H : Hp) (σ : SV) (st : S) (x : V) (a : D) (Q : VK), Holds X.K T c G H σ st → Rep X.K T c.B G x a → GOk X.K T W (relD X.K T) c G σ (h a st) Q → r x H Q) (ha : DE X T W a fa) : DE X T W (.UnaryOp op a pos) (dUn h fa) := by
  refine impE (pe_un ho ha) fun σ H Q ⟨c, G, st, hd, ok⟩ => ?_
  obtain ⟨c0, G0, st0, hd0, ok0⟩ := step (rel := relD X.K T) hd ok
  exact ⟨c0, G0, st0, hd0, ok0.imp fun x H1 ⟨G1, st1, a, s1, hd1, r1, ok1⟩ => sd c G1 H1 σ st1 x a Q hd1 r1 ok1⟩
def hNeg : D → S → R D
  | .int i, st => .ok (.int (-i)) st
  | _, _ => .stuck
theorem de_neg {a : Expr} {fa : S → R D} {pos : Pos} (ha : DE X T W a fa) : DE X T W (.UnaryOp .USub a pos) (dUn hNeg fa) :=
  de_un un_neg (fun c G H σ st x a Q hd r ok => by
    cases r <;> first | exact ok.elim | skip
    exact ⟨_, rfl, ok _ _ _ (Same.refl _) hd (.int _)⟩) ha

/-! ### ints -/
def hSub : D → D → S → R D
  | .int i, .int j, st => .ok (.int (i - j)) st
  | _, _, _ => .stuck
theorem de_sub {a b : Expr} {fa fb : S → R D} {pos : Pos} (ha : DE X T W a fa) (hb : DE X T W b fb) : DE X T W (.BinOp a .Sub b pos) (dBin hSub fa fb) :=
  de_bin op_sub (fun c G H σ st x y a b Q hd r1 r2 ok => by
    cases r1 <;> cases r2 <;> first | exact ok.elim | skip
    exact ⟨_, _, rfl, rfl, ok _ _ _ (Same.refl _) hd (.int _)⟩) ha hb
/-- a number that is short enough to be multiplied -/
def mulFits (i j : Int) : Bool := decide (i.natAbs.log2 + j.natAbs.log2 < 1000000)
def hMulI (i j : Int) (st : S) : R D := if -18446744073709551616 < i ∧ i < 18446744073709551616 ∨ -18446744073709551616 < j ∧ j < 18446744073709551616 then .ok (.int (i * j)) st else .stuck
def repD (xs : List D) (k : Nat) : List D := (List.replicate k xs).flatten
def hMul : D → D → S → R D
  | .int i, .int j, st => hMulI i j st
  | .ls xs, .int k, st => if -9223372036854775808 ≤ k ∧ k < 9223372036854775808 ∧ xs.length * k.toNat ≤ 16777216 then .ok (.ls (repD xs k.toNat)) st else .stuck
  | _, _, _ => .stuck
theorem Reps.rep {K : PySem.W.Frag} {B : Option Addr} {G : Hp} {vs : List V} {ds : List D} (h : Reps K T B G vs ds) : ∀ k : Nat, Reps K T B G (List.replicate k vs).flatten (List.replicate k ds).flatten
  | 0 => .nil
  | k + 1 => by
    rw [List.replicate_succ, List.replicate_succ, List.flatten_cons, List.flatten_cons]
    exact h.append (Reps.rep h k)
theorem de_mul {a b : Expr} {fa fb : S → R D} {pos : Pos} (ha : DE X T W a fa) (hb : DE X T W b fb) : DE X T W (.BinOp a .Mult b pos) (dBin hMul fa fb) :=
  de_bin (op_mul.or op_rep) (fun c G H σ st x y a b Q hd r1 r2 ok => by
    cases r1 <;> cases r2 <;> first | exact ok.elim | skip
    · rename_i i j
      have ok' : GOk X.K T W (relD X.K T) c G σ (hMulI i j st) Q := ok
      unfold hMulI at ok'
      by_cases q : -18446744073709551616 < i ∧ i < 18446744073709551616 ∨ -18446744073709551616 < j ∧ j < 18446744073709551616
      · rw [if_pos q] at ok'
        exact .inl ⟨_, _, rfl, rfl, q, ok' _ _ _ (Same.refl _) hd (.int _)⟩
      · rw [if_neg q] at ok'; exact ok'.elim
    · rename_i p vs ds h r k
      have ok' : GOk X.K T W (relD X.K T) c G σ (if -9223372036854775808 ≤ k ∧ k < 9223372036854775808 ∧ ds.length * k.toNat ≤ 16777216 then .ok (.ls (repD ds k.toNat)) st else .stuck) Q := ok
      by_cases q : -9223372036854775808 ≤ k ∧ k < 9223372036854775808 ∧ ds.length * k.toNat ≤ 16777216
      · rw [if_pos q] at ok'
        refine .inr ⟨p, k, vs, rfl, rfl, hd.sub _ _ h, q.1, q.2.1, by rw [r.length, sizeLine_eq]; exact q.2.2, fun l hl => ok' _ _ _ (same_upd (hd.gnone hl)) (hd.lay _ hl) (.ls upd_same ((r.mono (same_upd (hd.gnone hl))).rep _))⟩
      · rw [if_neg q] at ok'; exact ok'.elim) ha hb
def hMod : D → D → S → R D
  | .int i, .int j, st => if 0 < j then .ok (.int (i % j)) st else .stuck
  | _, _, _ => .stuck
theorem de_mod {a b : Expr} {fa fb : S → R D} {pos : Pos} (ha : DE X T W a fa) (hb : DE X T W b fb) : DE X T W (.BinOp a .Mod b pos) (dBin hMod fa fb) :=
  de_bin op_mod (fun c G H σ st x y a b Q hd r1 r2 ok => by
    cases r1 <;> cases r2 <;> first | exact ok.elim | skip
    rename_i i j
    have ok' : GOk X.K T W (relD X.K T) c G σ (if 0 < j then .ok (.int (i % j)) st else .stuck) Q := ok
    by_cases q : 0 < j
    · rw [if_pos q] at ok'
      exact ⟨_, _, rfl, rfl, q, ok' _ _ _ (Same.refl _) hd (.int _)⟩
    · rw [if_neg q] at ok'; exact ok'.elim) ha hb
def hDiv : D → D → S → R D
  | .int i, .int j, st => if 0 < j ∧ j.natAbs.log2 < 9000 then .ok (.int (i / j)) st else .stuck
  | _, _, _ => .stuck
theorem de_div {a b : Expr} {fa fb : S → R D} {pos : Pos} (ha : DE X T W a fa) (hb : DE X T W b fb) : DE X T W (.BinOp a .FloorDiv b pos) (dBin hDiv fa fb) :=
  de_bin op_fdivW (fun c G H σ st x y a b Q hd r1 r2 ok => by
    cases r1 <;> cases r2 <;> first | exact ok.elim | skip
    rename_i i j
    have ok' : GOk X.K T W (relD X.K T) c G σ (if 0 < j ∧ j.natAbs.log2 < 9000 then .ok (.int (i / j)) st else .stuck) Q := ok
    by_cases q : 0 < j ∧ j.natAbs.log2 < 9000
    · rw [if_pos q] at ok'
      exact ⟨_, _, rfl, rfl, q, ok' _ _ _ (Same.refl _) hd (.int _)⟩
    · rw [if_neg q] at ok'; exact ok'.elim) ha hb
def hPow : D → D → S → R D
  | .int i, .int j, st => if 0 ≤ j ∧ j ≤ 1000000 ∧ i.natAbs < 18446744073709551616 then .ok (.int (i ^ j.toNat)) st else .stuck
  | _, _, _ => .stuck
theorem de_pow {a b : Expr} {fa fb : S → R D} {pos : Pos} (ha : DE X T W a fa) (hb : DE X T W b fb) : DE X T W (.BinOp a .Pow b pos) (dBin hPow fa fb) :=
  de_bin op_pow (fun c G H σ st x y a b Q hd r1 r2 ok => by
    cases r1 <;> cases r2 <;> first | exact ok.elim | skip
    rename_i i j
    have ok' : GOk X.K T W (relD X.K T) c G σ (if 0 ≤ j ∧ j ≤ 1000000 ∧ i.natAbs < 18446744073709551616 then .ok (.int (i ^ j.toNat)) st else .stuck) Q := ok
    by_cases q : 0 ≤ j ∧ j ≤ 1000000 ∧ i.natAbs < 18446744073709551616
    · rw [if_pos q] at ok'
      exact ⟨_, _, rfl, rfl, q, ok' _ _ _ (Same.refl _) hd (.int _)⟩
    · rw [if_neg q] at ok'; exact ok'.elim) ha hb
/-- + of ints, texts, lists, tuples -/
def hAdd : D → D → S → R D
  | .int i, .int j, st => .ok (.int (i + j)) st
  | .str x, .str y, st => if x.length + y.length ≤ 16777216 then .ok (.str (x ++ y)) st else .stuck
  | .ls xs, .ls ys, st => if xs.length + ys.length ≤ 16777216 then .ok (.ls (xs ++ ys)) st else .stuck
  | .tu xs, .tu ys, st => if xs.length + ys.length ≤ 16777216 then .ok (.tu (xs ++ ys)) st else .stuck
  | _, _, _ => .stuck

theorem Reps.ne {K : PySem.W.Frag} {B : Option Addr} {G : Hp} {vs : List V} {ds : List D} (h : Reps K T B G vs ds) : vs = [] ↔ ds = [] := by
  cases h with
  | nil => simp
  | cons _ _ => simp
theorem de_add {a b : Expr} {fa fb : S → R D} {pos : Pos} (ha : DE X T W a fa) (hb : DE X T W b fb) : DE X T W (.BinOp a .Add b pos) (dBin hAdd fa fb) :=
  de_bin (op_add.or (op_add_str.or (op_cat.or op_catA))) (fun c G H σ st x y a b Q hd r1 r2 ok => by
    cases r1 <;> cases r2 <;> first | exact ok.elim | skip
    · exact .inl ⟨_, _, rfl, rfl, ok _ _ _ (Same.refl _) hd (.int _)⟩
    · rename_i x y
      have ok' : GOk X.K T W (relD X.K T) c G σ (if x.length + y.length ≤ 16777216 then .ok (.str (x ++ y)) st else .stuck) Q := ok
      by_cases q : x.length + y.length ≤ 16777216
      · rw [if_pos q] at ok'
        exact .inr (.inl ⟨_, _, rfl, rfl, by rw [sizeLine_eq]; exact q, ok' _ _ _ (Same.refl _) hd (.str _)⟩)
      · rw [if_neg q] at ok'; exact ok'.elim
    · rename_i p vs ds h r p2 vs2 ds2 h2 r2
      have ok' : GOk X.K T W (relD X.K T) c G σ (if ds.length + ds2.length ≤ 16777216 then .ok (.ls (ds ++ ds2)) st else .stuck) Q := ok
      by_cases q : ds.length + ds2.length ≤ 16777216
      · rw [if_pos q] at ok'
        exact .inr (.inr (.inl ⟨_, _, _, _, rfl, rfl, hd.sub _ _ h, hd.sub _ _ h2, by rw [sizeLine_eq, r.length, r2.length]; exact q, fun l hl => ok' _ _ _ (same_upd (hd.gnone hl)) (hd.lay _ hl) (.ls upd_same ((r.append r2).mono (same_upd (hd.gnone hl))))⟩))
      · rw [if_neg q] at ok'; exact ok'.elim
    · rename_i p vs ds h r p2 vs2 ds2 h2 r2
      have ok' : GOk X.K T W (relD X.K T) c G σ (if ds.length + ds2.length ≤ 16777216 then .ok (.tu (ds ++ ds2)) st else .stuck) Q := ok
      by_cases q : ds.length + ds2.length ≤ 16777216
      · rw [if_pos q] at ok'
        refine .inr (.inr (.inr ⟨_, _, _, _, rfl, rfl, Same.sqt hd.sub h, Same.sqt hd.sub h2, by rw [sizeLine_eq, r.length, r2.length]; exact q, fun e => ?_, fun e1 e2 => ?_, fun e1 e2 l hl => ?_⟩))
        · have e' := r.ne.mp e
          subst e'
          exact ok' _ _ _ (Same.refl _) hd (.tu h2 r2)
        · have e' := r2.ne.mp e2
          subst e'
          exact ok' _ _ _ (Same.refl _) hd (.tu h (by rw [List.append_nil]; exact r))
        · exact ok' _ _ _ (same_upd (hd.gnone hl)) (hd.lay _ hl) (.tu (.inl (.inl upd_same)) ((r.append r2).mono (same_upd (hd.gnone hl))))
      · rw [if_neg q] at ok'; exact ok'.elim) ha hb

/-! ### comparisons -/
mutual
def toP : D → Option PyData
  | .non => some .none
  | .bl b => some (.bool b)
  | .int i => some (.int i)
  | .str x => some (.str x)
  | .ls xs => (toPs xs).map .list
  | .tu xs => (toPs xs).map .tuple
  | _ => none
def toPs : List D → Option (List PyData)
  | [] => some []
  | d :: ds => (toP d).bind fun p => (toPs ds).map fun ps => p :: ps
end
mutual
theorem toP_dp {K : PySem.W.Frag} {B : Option Addr} {G : Hp} : ∀ {v : V} {d : D} {p : PyData}, Rep K T B G v d → toP d = some p → Dp K G v p
  | _, _, _, .non, e => by cases e; exact .non
  | _, _, _, .bl b, e => by cases e; exact .bl b
  | _, _, _, .int i, e => by cases e; exact .int i
  | _, _, _, .str x, e => by cases e; exact .str x
  | _, _, p, .ls (ds := ds) h r, e => by
    have e' : (toPs ds).map .list = some p := by simpa only [toP] using e
    cases q : toPs ds with
    | none => rw [q] at e'; cases e'
    | some ps => rw [q] at e'; cases e'; exact .lst (SqL.of h) (toPs_dp r q)
  | _, _, p, .tu (ds := ds) h r, e => by
    have e' : (toPs ds).map .tuple = some p := by simpa only [toP] using e
    cases q : toPs ds with
    | none => rw [q] at e'; cases e'
    | some ps => rw [q] at e'; cases e'; exact .tup h (toPs_dp r q)
  | _, _, _, .ro h, e => by simp [toP] at e
  | _, _, _, .box h, e => by simp [toP] at e
  | _, _, _, .ob h l r, e => by simp [toP] at e
  | _, _, _, .er0 _ _, e => by simp [toP] at e
  | _, _, _, .er1 _ _ _ _, e => by simp [toP] at e
theorem toPs_dp {K : PySem.W.Frag} {B : Option Addr} {G : Hp} : ∀ {vs : List V} {ds : List D} {ps : List PyData}, Reps K T B G vs ds → toPs ds = some ps → DpAll K G vs ps
  | _, _, _, .nil, e => by simp [toPs] at e; subst e; exact .nil
  | _, _, ps, .cons (d := d) (ds := ds) h r, e => by
    have e' : (toP d).bind (fun p => (toPs ds).map fun ps => p :: ps) = some ps := by simpa only [toPs] using e
    cases q : toP d with
    | none => rw [q] at e'; cases e'
    | some p =>
      cases q2 : toPs ds with
      | none => rw [q, q2] at e'; cases e'
      | some ps2 => rw [q, q2] at e'; cases e'; exact .cons (toP_dp h q) (toPs_dp r q2)
end
mutual
theorem Dp.mono {K : PySem.W.Frag} {G H : Hp} (s : Same G H) : ∀ {v : V} {p : PyData}, Dp K G v p → Dp K H v p
  | _, _, .non => .non
  | _, _, .bl b => .bl b
  | _, _, .int i => .int i
  | _, _, .str x => .str x
  | _, _, .lst h r => .lst (s.seq h) (DpAll.mono s r)
  | _, _, .tup h r => .tup (Same.sqt s h) (DpAll.mono s r)
theorem DpAll.mono {K : PySem.W.Frag} {G H : Hp} (s : Same G H) : ∀ {vs : List V} {ps : List PyData}, DpAll K G vs ps → DpAll K H vs ps
  | _, _, .nil => .nil
  | _, _, .cons h r => .cons (Dp.mono s h) (DpAll.mono s r)
end
/-- ==, where it is plain data -/
def deq (a b : D) : Option Bool := match toP a, toP b with
  | some p, some q => if SeqAt.shaped p && SeqAt.shaped q then some (PyData.eqv p q) else none
  | _, _ => none
theorem deq_some {a b : D} {k : Bool} (h : deq a b = some k) : ∃ p q, toP a = some p ∧ toP b = some q ∧ SeqAt.shaped p = true ∧ SeqAt.shaped q = true ∧ k = PyData.eqv p q := by
  unfold deq at h
  cases hp : toP a with
  | none => rw [hp] at h; cases h
  | some p =>
    cases hq : toP b with
    | none => rw [hp, hq] at h; cases h
    | some q =>
      rw [hp, hq] at h
      dsimp only at h
      cases hc : (SeqAt.shaped p && SeqAt.shaped q) with
      | false => rw [hc] at h; cases h
      | true =>
        rw [hc, if_pos rfl] at h
        rw [Bool.and_eq_true] at hc
        exact ⟨p, q, rfl, rfl, hc.1, hc.2, (Option.some.inj h).symm⟩
def hEq (a b : D) (st : S) : R Bool := match deq a b with
  | some k => .ok k st
  | none => .stuck
def hNe (a b : D) (st : S) : R Bool := match deq a b with
  | some k => .ok (!k) st
  | none => .stuck
theorem snd_eq (hu : X.A.units + 64 < cLine) : Snd2 X T W (rEqD X.K) fun a b st => toD (hEq a b st) := fun c G H σ st x y a b Q hd r1 r2 ok => by
  replace ok : GOk X.K T W (relD X.K T) c G σ (toD (hEq a b st)) Q := ok
  unfold hEq at ok
  cases e : deq a b with
  | none => rw [e] at ok; exact ok.elim
  | some k =>
    rw [e] at ok
    obtain ⟨p, q, e1, e2, s1, s2, rfl⟩ := deq_some e
    exact ⟨p, q, Dp.mono hd.sub (toP_dp r1 e1), Dp.mono hd.sub (toP_dp r2 e2), s1, s2, ok _ _ _ (Same.refl _) hd (.bl _)⟩
theorem snd_ne (hu : X.A.units + 64 < cLine) : Snd2 X T W (rNeD X.K) fun a b st => toD (hNe a b st) := fun c G H σ st x y a b Q hd r1 r2 ok => by
  replace ok : GOk X.K T W (relD X.K T) c G σ (toD (hNe a b st)) Q := ok
  unfold hNe at ok
  cases e : deq a b with
  | none => rw [e] at ok; exact ok.elim
  | some k =>
    rw [e] at ok
    obtain ⟨p, q, e1, e2, s1, s2, rfl⟩ := deq_some e
    exact ⟨p, q, Dp.mono hd.sub (toP_dp r1 e1), Dp.mono hd.sub (toP_dp r2 e2), s1, s2, ok _ _ _ (Same.refl _) hd (.bl _)⟩
/-- an order: of ints, of texts -/
def hOrd (f : Int → Int → Bool) (g : Str → Str → Bool) : D → D → S → R Bool
  | .int i, .int j, st => .ok (f i j) st
  | .str x, .str y, st => .ok (g x y) st
  | _, _, _ => .stuck
abbrev hLt := hOrd (fun i j => decide (i < j)) (fun x y => decide (x.cps.toList < y.cps.toList))
abbrev hGt := hOrd (fun i j => decide (j < i)) (fun x y => decide (y.cps.toList < x.cps.toList))
abbrev hLe := hOrd (fun i j => decide (i ≤ j)) (fun x y => !decide (y.cps.toList < x.cps.toList))
abbrev hGe := hOrd (fun i j => decide (j ≤ i)) (fun x y => !decide (x.cps.toList < y.cps.toList))
theorem snd_ord {f : Int → Int → Bool} {g : Str → Str → Bool} : Snd2 X T W (fun x y H Q => rI0 (fun i j => .bl (f i j)) x y H Q ∨ ∃ i j, x = .str i ∧ y = .str j ∧ Q (.bl (g i j)) H) fun a b st => toD (hOrd f g a b st) := fun c G H σ st x y a b Q hd r1 r2 ok => by
  cases r1 <;> cases r2 <;> first | exact ok.elim | skip
  · exact .inl ⟨_, _, rfl, rfl, ok _ _ _ (Same.refl _) hd (.bl _)⟩
  · exact .inr ⟨_, _, rfl, rfl, ok _ _ _ (Same.refl _) hd (.bl _)⟩
/-- is None -/
def isNon : D → Bool
  | .non => true
  | _ => false
def hIsN (a b : D) (st : S) : R Bool := if isNon b then .ok (isNon a) st else .stuck
def hNotN (a b : D) (st : S) : R Bool := if isNon b then .ok (!isNon a) st else .stuck
theorem rep_non {K : PySem.W.Frag} {B : Option Addr} {G : Hp} {v : V} {d : D} (r : Rep K T B G v d) : decide (v = .non) = isNon d := by
  cases r <;> first | exact decide_eq_true rfl | exact decide_eq_false (fun z => by cases z)
theorem snd_isN : Snd2 X T W (fun x y H Q => y = .non ∧ Q (.bl (decide (x = .non))) H) fun a b st => toD (hIsN a b st) := fun c G H σ st x y a b Q hd r1 r2 ok => by
  replace ok : GOk X.K T W (relD X.K T) c G σ (toD (hIsN a b st)) Q := ok
  unfold hIsN at ok
  cases e : isNon b with
  | false => rw [e] at ok; exact ok.elim
  | true =>
    rw [e] at ok
    refine ⟨of_decide_eq_true ((rep_non r2).trans e), ?_⟩
    rw [rep_non r1]
    exact ok _ _ _ (Same.refl _) hd (.bl _)
theorem snd_notN : Snd2 X T W (fun x y H Q => y = .non ∧ Q (.bl (!decide (x = .non))) H) fun a b st => toD (hNotN a b st) := fun c G H σ st x y a b Q hd r1 r2 ok => by
  replace ok : GOk X.K T W (relD X.K T) c G σ (toD (hNotN a b st)) Q := ok
  unfold hNotN at ok
  cases e : isNon b with
  | false => rw [e] at ok; exact ok.elim
  | true =>
    rw [e] at ok
    refine ⟨of_decide_eq_true ((rep_non r2).trans e), ?_⟩
    rw [rep_non r1]
    exact ok _ _ _ (Same.refl _) hd (.bl _)
/-- in, of flat items -/
def flatD : D → Option V
  | .non => some .non
  | .bl b => some (.bl b)
  | .int i => some (.int i)
  | .str x => some (.str x)
  | _ => none
def flatDs : List D → Option (List V)
  | [] => some []
  | d :: ds => (flatD d).bind fun v => (flatDs ds).map fun vs => v :: vs
theorem flatD_rep {K : PySem.W.Frag} {B : Option Addr} {G : Hp} {v w : V} {d : D} (r : Rep K T B G v d) (h : flatD d = some w) : v = w ∧ flatV v = true := by
  cases r <;> simp [flatD] at h <;> subst h <;> exact ⟨rfl, rfl⟩
theorem flatDs_rep {K : PySem.W.Frag} {B : Option Addr} {G : Hp} : ∀ {vs ws : List V} {ds : List D}, Reps K T B G vs ds → flatDs ds = some ws → vs = ws ∧ vs.all flatV = true
  | _, _, _, .nil, h => by simp [flatDs] at h; subst h; exact ⟨rfl, rfl⟩
  | _, ws, _, .cons (d := d) (ds := ds) h r, e => by
    have e' : (flatD d).bind (fun v => (flatDs ds).map fun vs => v :: vs) = some ws := e
    cases q : flatD d with
    | none => rw [q] at e'; cases e'
    | some p =>
      cases q2 : flatDs ds with
      | none => rw [q, q2] at e'; cases e'
      | some ps2 =>
        rw [q, q2] at e'; cases e'
        obtain ⟨a1, a2⟩ := flatD_rep h q
        obtain ⟨b1, b2⟩ := flatDs_rep r q2
        subst a1 b1
        refine ⟨rfl, ?_⟩
        rw [List.all_cons, a2, b2]; rfl
def dIn (a b : D) : Option Bool := match b with
  | .ls ds => match flatD a, flatDs ds with
    | some v, some vs => some (inV v vs)
    | _, _ => none
  | .tu ds => match flatD a, flatDs ds with
    | some v, some vs => some (inV v vs)
    | _, _ => none
  | .str y => match a with
    | .str x => some (!(Builtin.Str.occurrences y x 0 y.length 1).isEmpty)
    | _ => none
  | _ => none
def hIn (a b : D) (st : S) : R Bool := match dIn a b with
  | some k => .ok k st
  | none => .stuck
def hNotIn (a b : D) (st : S) : R Bool := match dIn a b with
  | some k => .ok (!k) st
  | none => .stuck
theorem dIn_cases {K : PySem.W.Frag} {B : Option Addr} {G H : Hp} (s : Same G H) {x y : V} {a b : D} {k : Bool} (r1 : Rep K T B G x a) (r2 : Rep K T B G y b) (h : dIn a b = some k) :
    (∃ p xs, y = .ref p ∧ (SqL K H p xs ∨ SqT K H p xs) ∧ flatV x = true ∧ xs.all flatV = true ∧ k = inV x xs) ∨ ∃ i j, x = .str i ∧ y = .str j ∧ k = !(Builtin.Str.occurrences j i 0 j.length 1).isEmpty := by
  cases r2 with
  | ls hh r =>
    rename_i p vs ds
    have h' : (match flatD a, flatDs ds with | some v, some vs => some (inV v vs) | _, _ => none) = some k := h
    cases q : flatD a with
    | none => rw [q] at h'; cases h'
    | some v =>
      cases q2 : flatDs ds with
      | none => rw [q, q2] at h'; cases h'
      | some ws =>
        rw [q, q2] at h'; cases h'
        obtain ⟨a1, a2⟩ := flatD_rep r1 q
        obtain ⟨b1, b2⟩ := flatDs_rep r q2
        subst a1 b1
        exact .inl ⟨p, vs, rfl, .inl (SqL.of (s _ _ hh)), a2, b2, rfl⟩
  | tu hh r =>
    rename_i p vs ds
    have h' : (match flatD a, flatDs ds with | some v, some vs => some (inV v vs) | _, _ => none) = some k := h
    cases q : flatD a with
    | none => rw [q] at h'; cases h'
    | some v =>
      cases q2 : flatDs ds with
      | none => rw [q, q2] at h'; cases h'
      | some ws =>
        rw [q, q2] at h'; cases h'
        obtain ⟨a1, a2⟩ := flatD_rep r1 q
        obtain ⟨b1, b2⟩ := flatDs_rep r q2
        subst a1 b1
        exact .inl ⟨p, vs, rfl, .inr (Same.sqt s hh), a2, b2, rfl⟩
  | str z =>
    cases r1 <;> first | (cases h; done) | skip
    exact .inr ⟨_, _, rfl, rfl, (Option.some.inj h).symm⟩
  | non => cases h
  | bl _ => cases h
  | int _ => cases h
  | ro _ => cases h
  | box _ => cases h
  | ob _ _ _ => cases h
  | er0 _ _ => cases h
  | er1 _ _ _ _ => cases h
theorem snd_in : Snd2 X T W (fun x y H Q => rIn X.K false x y H Q ∨ ∃ i j, x = .str i ∧ y = .str j ∧ Q (.bl (!(Builtin.Str.occurrences j i 0 j.length 1).isEmpty)) H) fun a b st => toD (hIn a b st) := fun c G H σ st x y a b Q hd r1 r2 ok => by
  replace ok : GOk X.K T W (relD X.K T) c G σ (toD (hIn a b st)) Q := ok
  unfold hIn at ok
  cases e : dIn a b with
  | none => rw [e] at ok; exact ok.elim
  | some k =>
    rw [e] at ok
    have q := ok _ _ (.bl k) (Same.refl _) hd (.bl k)
    rcases dIn_cases hd.sub r1 r2 e with ⟨p, xs, rfl, h1, h2, h3, rfl⟩ | ⟨i, j, rfl, rfl, rfl⟩
    · exact .inl ⟨p, xs, rfl, h1, h2, h3, q⟩
    · exact .inr ⟨i, j, rfl, rfl, q⟩
theorem snd_notIn : Snd2 X T W (fun x y H Q => rIn X.K true x y H Q ∨ ∃ i j, x = .str i ∧ y = .str j ∧ Q (.bl (!(!(Builtin.Str.occurrences j i 0 j.length 1).isEmpty))) H) fun a b st => toD (hNotIn a b st) := fun c G H σ st x y a b Q hd r1 r2 ok => by
  replace ok : GOk X.K T W (relD X.K T) c G σ (toD (hNotIn a b st)) Q := ok
  unfold hNotIn at ok
  cases e : dIn a b with
  | none => rw [e] at ok; exact ok.elim
  | some k =>
    rw [e] at ok
    have q := ok _ _ (.bl (!k)) (Same.refl _) hd (.bl (!k))
    rcases dIn_cases hd.sub r1 r2 e with ⟨p, xs, rfl, h1, h2, h3, rfl⟩ | ⟨i, j, rfl, rfl, rfl⟩
    · exact .inl ⟨p, xs, rfl, h1, h2, h3, q⟩
    · exact .inr ⟨i, j, rfl, rfl, q⟩

theorem de_eq {a b : Expr} {fa fb : S → R D} {pos : Pos} (hu : X.A.units + 64 < cLine) (ha : DE X T W a fa) (hb : DE X T W b fb) : DE X T W (.Compare a [.Eq] [b] pos) (dOfB (dBinB hEq fa fb)) := de_cmp (op_eqD hu) (snd_eq hu) ha hb (nomark _)
theorem dt_eq {a b : Expr} {fa fb : S → R D} {pos : Pos} (hu : X.A.units + 64 < cLine) (ha : DE X T W a fa) (hb : DE X T W b fb) : DT X T W (.Compare a [.Eq] [b] pos) (dBinB hEq fa fb) := dt_cmp (op_eqD hu) (snd_eq hu) ha hb (nomark _)
theorem de_ne {a b : Expr} {fa fb : S → R D} {pos : Pos} (hu : X.A.units + 64 < cLine) (ha : DE X T W a fa) (hb : DE X T W b fb) : DE X T W (.Compare a [.NotEq] [b] pos) (dOfB (dBinB hNe fa fb)) := de_cmp (op_neD hu) (snd_ne hu) ha hb (nomark _)
theorem dt_ne {a b : Expr} {fa fb : S → R D} {pos : Pos} (hu : X.A.units + 64 < cLine) (ha : DE X T W a fa) (hb : DE X T W b fb) : DT X T W (.Compare a [.NotEq] [b] pos) (dBinB hNe fa fb) := dt_cmp (op_neD hu) (snd_ne hu) ha hb (nomark _)
theorem de_lt {a b : Expr} {fa fb : S → R D} {pos : Pos} (ha : DE X T W a fa) (hb : DE X T W b fb) : DE X T W (.Compare a [.Lt] [b] pos) (dOfB (dBinB hLt fa fb)) := de_cmp (op_lt.or op_lt_str) snd_ord ha hb (nomark _)
theorem dt_lt {a b : Expr} {fa fb : S → R D} {pos : Pos} (ha : DE X T W a fa) (hb : DE X T W b fb) : DT X T W (.Compare a [.Lt] [b] pos) (dBinB hLt fa fb) := dt_cmp (op_lt.or op_lt_str) snd_ord ha hb (nomark _)
theorem de_gt {a b : Expr} {fa fb : S → R D} {pos : Pos} (ha : DE X T W a fa) (hb : DE X T W b fb) : DE X T W (.Compare a [.Gt] [b] pos) (dOfB (dBinB hGt fa fb)) := de_cmp (op_gt.or op_gt_str) snd_ord ha hb (nomark _)
theorem dt_gt {a b : Expr} {fa fb : S → R D} {pos : Pos} (ha : DE X T W a fa) (hb : DE X T W b fb) : DT X T W (.Compare a [.Gt] [b] pos) (dBinB hGt fa fb) := dt_cmp (op_gt.or op_gt_str) snd_ord ha hb (nomark _)
theorem de_le {a b : Expr} {fa fb : S → R D} {pos : Pos} (ha : DE X T W a fa) (hb : DE X T W b fb) : DE X T W (.Compare a [.LtE] [b] pos) (dOfB (dBinB hLe fa fb)) := de_cmp (op_le.or op_le_str) snd_ord ha hb (nomark _)
theorem dt_le {a b : Expr} {fa fb : S → R D} {pos : Pos} (ha : DE X T W a fa) (hb : DE X T W b fb) : DT X T W (.Compare a [.LtE] [b] pos) (dBinB hLe fa fb) := dt_cmp (op_le.or op_le_str) snd_ord ha hb (nomark _)
theorem de_ge {a b : Expr} {fa fb : S → R D} {pos : Pos} (ha : DE X T W a fa) (hb : DE X T W b fb) : DE X T W (.Compare a [.GtE] [b] pos) (dOfB (dBinB hGe fa fb)) := de_cmp (op_ge.or op_ge_str) snd_ord ha hb (nomark _)
theorem dt_ge {a b : Expr} {fa fb : S → R D} {pos : Pos} (ha : DE X T W a fa) (hb : DE X T W b fb) : DT X T W (.Compare a [.GtE] [b] pos) (dBinB hGe fa fb) := dt_cmp (op_ge.or op_ge_str) snd_ord ha hb (nomark _)
theorem de_isN {a b : Expr} {fa fb : S → R D} {pos : Pos} (ha : DE X T W a fa) (hb : DE X T W b fb) : DE X T W (.Compare a [.Is] [b] pos) (dOfB (dBinB hIsN fa fb)) := de_cmp op_isN snd_isN ha hb (nomark _)
theorem dt_isN {a b : Expr} {fa fb : S → R D} {pos : Pos} (ha : DE X T W a fa) (hb : DE X T W b fb) : DT X T W (.Compare a [.Is] [b] pos) (dBinB hIsN fa fb) := dt_cmp op_isN snd_isN ha hb (nomark _)
theorem de_notN {a b : Expr} {fa fb : S → R D} {pos : Pos} (ha : DE X T W a fa) (hb : DE X T W b fb) : DE X T W (.Compare a [.IsNot] [b] pos) (dOfB (dBinB hNotN fa fb)) := de_cmp op_notN snd_notN ha hb (nomark _)
theorem dt_notN {a b : Expr} {fa fb : S → R D} {pos : Pos} (ha : DE X T W a fa) (hb : DE X T W b fb) : DT X T W (.Compare a [.IsNot] [b] pos) (dBinB hNotN fa fb) := dt_cmp op_notN snd_notN ha hb (nomark _)
theorem de_in {a b : Expr} {fa fb : S → R D} {pos : Pos} (ha : DE X T W a fa) (hb : DE X T W b fb) (hm : behindInMarks .In b = false := by rfl) : DE X T W (.Compare a [.In] [b] pos) (dOfB (dBinB hIn fa fb)) := de_cmp (op_in_seq.or op_in_str) snd_in ha hb hm
theorem dt_in {a b : Expr} {fa fb : S → R D} {pos : Pos} (ha : DE X T W a fa) (hb : DE X T W b fb) (hm : behindInMarks .In b = false := by rfl) : DT X T W (.Compare a [.In] [b] pos) (dBinB hIn fa fb) := dt_cmp (op_in_seq.or op_in_str) snd_in ha hb hm
theorem de_notIn {a b : Expr} {fa fb : S → R D} {pos : Pos} (ha : DE X T W a fa) (hb : DE X T W b fb) (hm : behindInMarks .NotIn b = false := by rfl) : DE X T W (.Compare a [.NotIn] [b] pos) (dOfB (dBinB hNotIn fa fb)) := de_cmp (op_notIn_seq.or op_notIn_str) snd_notIn ha hb hm
theorem dt_notIn {a b : Expr} {fa fb : S → R D} {pos : Pos} (ha : DE X T W a fa) (hb : DE X T W b fb) (hm : behindInMarks .NotIn b = false := by rfl) : DT X T W (.Compare a [.NotIn] [b] pos) (dBinB hNotIn fa fb) := dt_cmp (op_notIn_seq.or op_notIn_str) snd_notIn ha hb hm
end
end DL

/-! DLc: tests, displays, subscripts, slices, calls. -/
namespace DL
open PySem PySem.Spec PyProof.Rows L2
section
variable {X : Cx} {T : Tab} {W : WX}
/-! ### tests -/
def truD : D → Option Bool
  | .non => some false
  | .bl b => some b
  | .int i => some (i != 0)
  | .str y => if y.length ≤ 16777216 then some ((y.length : Int) != 0) else none
  | .ls xs => some (!xs.isEmpty)
  | .tu xs => some (!xs.isEmpty)
  | .ro xs => some (!xs.isEmpty)
  | _ => none
def hTru (d : D) (st : S) : R Bool := match truD d with
  | some k => .ok k st
  | none => .stuck
def dTru (f : S → R D) : S → R Bool := fun st => (f st).bind hTru
theorem Reps.isEmpty {K : PySem.W.Frag} {B : Option Addr} {G : Hp} {vs : List V} {ds : List D} (h : Reps K T B G vs ds) : vs.isEmpty = ds.isEmpty := by
  cases h <;> rfl
theorem truV_of {K : PySem.W.Frag} {B : Option Addr} {G H : Hp} (s : Same G H) {v : V} {d : D} {k : Bool} (r : Rep K T B G v d) (e : truD d = some k) : TruV K v H k := by
  cases r with
  | non => cases e; rfl
  | bl b => cases e; rfl
  | int i => cases e; rfl
  | str x =>
    have e' : (if x.length ≤ 16777216 then some ((x.length : Int) != 0) else none) = some k := e
    by_cases q : x.length ≤ 16777216
    · rw [if_pos q] at e'; cases e'; exact ⟨by rw [sizeLine_eq]; exact q, rfl⟩
    · rw [if_neg q] at e'; cases e'
  | ls h r => cases e; exact .inl ⟨_, SqL.of (s _ _ h), by rw [r.isEmpty]⟩
  | tu h r => cases e; exact .inr (.inl ⟨_, Same.sqt s h, by rw [r.isEmpty]⟩)
  | ro h => cases e; exact .inl ⟨_, s.seq h, by rw [List.isEmpty_map]⟩
  | box h => cases e
  | ob _ _ _ => cases e
  | er0 _ _ => cases e
  | er1 _ _ _ _ => cases e
theorem dt_tru {a : Expr} {fa : S → R D} (ha : DE X T W a fa) (he : ∀ whole, isTrue a X.env whole = (do let v ← whole; standAt a.pos; holding [v] (truthy v)) := by intro _; rfl) : DT X T W a (dTru fa) := by
  refine impT (pt_truth ha he) fun σ H Q ⟨c, G, st, hd, ok⟩ => ?_
  obtain ⟨c0, G0, st0, hd0, ok0⟩ := step (rel := relD X.K T) hd ok
  refine ⟨c0, G0, st0, hd0, ok0.imp fun x H1 ⟨G1, st1, a, s1, hd1, r1, ok1⟩ => ?_⟩
  unfold hTru at ok1
  cases e : truD a with
  | none => rw [e] at ok1; exact ok1.elim
  | some k => rw [e] at ok1; exact ⟨k, truV_of hd1.sub r1 e, ok1 _ _ _ (Same.refl _) hd1 rfl⟩
def dNot (f : S → R Bool) : S → R Bool := fun st => (f st).bind fun k st => .ok (!k) st
theorem dt_not {a : Expr} {f : S → R Bool} {pos : Pos} (ha : DT X T W a f) : DT X T W (.UnaryOp .Not a pos) (dNot f) := by
  refine impT (pt_not ha) fun σ H Q ⟨c, G, st, hd, ok⟩ => ?_
  obtain ⟨c0, G0, st0, hd0, ok0⟩ := step (rel := relB) hd ok
  exact ⟨c0, G0, st0, hd0, ok0.imp fun k H1 ⟨G1, st1, a, s1, hd1, r1, ok1⟩ => by cases r1; exact ok1 _ _ _ (Same.refl _) hd1 rfl⟩
def dAnd (f g : S → R Bool) : S → R Bool := fun st => (f st).bind fun k st => if k = true then g st else .ok false st
def dOr (f g : S → R Bool) : S → R Bool := fun st => (f st).bind fun k st => if k = true then .ok true st else g st
theorem dw_and1 {a : Expr} {f : S → R Bool} {pos : Pos} (ha : DT X T W a f) : DW X T W (.BoolOp .And [a] pos) f := pw_and1 ha
theorem dw_or1 {a : Expr} {f : S → R Bool} {pos : Pos} (ha : DT X T W a f) : DW X T W (.BoolOp .Or [a] pos) f := pw_or1 ha
theorem dw_and {a b : Expr} {rest : List Expr} {f g : S → R Bool} {pos : Pos} (ha : DT X T W a f) (hb : DW X T W (.BoolOp .And (b :: rest) pos) g) : DW X T W (.BoolOp .And (a :: b :: rest) pos) (dAnd f g) := by
  refine impW (pw_and ha hb) fun σ H Q ⟨c, G, st, hd, ok⟩ => ?_
  obtain ⟨c0, G0, st0, hd0, ok0⟩ := step (rel := relB) hd ok
  refine ⟨c0, G0, st0, hd0, ok0.imp fun k H1 ⟨G1, st1, a, s1, hd1, r1, ok1⟩ => ?_⟩
  cases r1
  cases k with
  | true => rw [if_pos rfl] at ok1 ⊢; exact ⟨_, G1, st1, hd1, ok1⟩
  | false => rw [if_neg Bool.false_ne_true] at ok1 ⊢; exact ok1 _ _ _ (Same.refl _) hd1 rfl
theorem dw_or {a b : Expr} {rest : List Expr} {f g : S → R Bool} {pos : Pos} (ha : DT X T W a f) (hb : DW X T W (.BoolOp .Or (b :: rest) pos) g) : DW X T W (.BoolOp .Or (a :: b :: rest) pos) (dOr f g) := by
  refine impW (pw_or ha hb) fun σ H Q ⟨c, G, st, hd, ok⟩ => ?_
  obtain ⟨c0, G0, st0, hd0, ok0⟩ := step (rel := relB) hd ok
  refine ⟨c0, G0, st0, hd0, ok0.imp fun k H1 ⟨G1, st1, a, s1, hd1, r1, ok1⟩ => ?_⟩
  cases r1
  cases k with
  | true => rw [if_pos rfl] at ok1 ⊢; exact ok1 _ _ _ (Same.refl _) hd1 rfl
  | false => rw [if_neg Bool.false_ne_true] at ok1 ⊢; exact ⟨_, G1, st1, hd1, ok1⟩
theorem dt_bool {e : Expr} {f : S → R Bool} (h : DW X T W e f) : DT X T W e f := PW.pt h
/-- as values -/
def dAndV (f g : S → R D) : S → R D := fun st => (f st).bind fun x st => (hTru x st).bind fun k st => if k = true then g st else .ok x st
def dOrV (f g : S → R D) : S → R D := fun st => (f st).bind fun x st => (hTru x st).bind fun k st => if k = true then .ok x st else g st
def dNotV (f : S → R D) : S → R D := fun st => (f st).bind fun x st => (hTru x st).bind fun k st => .ok (.bl (!k)) st
theorem de_one {op : BoolOp} {a : Expr} {f : S → R D} {pos : Pos} (ha : DE X T W a f) : DE X T W (.BoolOp op [a] pos) f := pe_one ha
theorem de_and {a b : Expr} {rest : List Expr} {f g : S → R D} {pos : Pos} (ha : DE X T W a f) (hb : DE X T W (.BoolOp .And (b :: rest) pos) g) : DE X T W (.BoolOp .And (a :: b :: rest) pos) (dAndV f g) := by
  refine impE (pe_andT ha hb) fun σ H Q ⟨c, G, st, hd, ok⟩ => ?_
  obtain ⟨c0, G0, st0, hd0, ok0⟩ := step (rel := relD X.K T) hd ok
  refine ⟨c0, G0, st0, hd0, ok0.imp fun x H1 ⟨G1, st1, a, s1, hd1, r1, ok1⟩ => ?_⟩
  unfold hTru at ok1
  cases e : truD a with
  | none => rw [e] at ok1; exact ok1.elim
  | some k =>
    rw [e] at ok1
    refine ⟨k, truV_of hd1.sub r1 e, ?_⟩
    replace ok1 : GOk X.K T W (relD X.K T) c G1 σ (if k = true then g st1 else .ok a st1) Q := ok1
    cases k with
    | true => rw [if_pos rfl] at ok1 ⊢; exact ⟨_, G1, st1, hd1, ok1⟩
    | false => rw [if_neg Bool.false_ne_true] at ok1 ⊢; exact ok1 _ _ _ (Same.refl _) hd1 r1
theorem de_or {a b : Expr} {rest : List Expr} {f g : S → R D} {pos : Pos} (ha : DE X T W a f) (hb : DE X T W (.BoolOp .Or (b :: rest) pos) g) : DE X T W (.BoolOp .Or (a :: b :: rest) pos) (dOrV f g) := by
  refine impE (pe_orT ha hb) fun σ H Q ⟨c, G, st, hd, ok⟩ => ?_
  obtain ⟨c0, G0, st0, hd0, ok0⟩ := step (rel := relD X.K T) hd ok
  refine ⟨c0, G0, st0, hd0, ok0.imp fun x H1 ⟨G1, st1, a, s1, hd1, r1, ok1⟩ => ?_⟩
  unfold hTru at ok1
  cases e : truD a with
  | none => rw [e] at ok1; exact ok1.elim
  | some k =>
    rw [e] at ok1
    refine ⟨k, truV_of hd1.sub r1 e, ?_⟩
    replace ok1 : GOk X.K T W (relD X.K T) c G1 σ (if k = true then .ok a st1 else g st1) Q := ok1
    cases k with
    | true => rw [if_pos rfl] at ok1 ⊢; exact ok1 _ _ _ (Same.refl _) hd1 r1
    | false => rw [if_neg Bool.false_ne_true] at ok1 ⊢; exact ⟨_, G1, st1, hd1, ok1⟩
theorem de_not {a : Expr} {f : S → R D} {pos : Pos} (ha : DE X T W a f) : DE X T W (.UnaryOp .Not a pos) (dNotV f) := by
  refine impE (pe_notT ha) fun σ H Q ⟨c, G, st, hd, ok⟩ => ?_
  obtain ⟨c0, G0, st0, hd0, ok0⟩ := step (rel := relD X.K T) hd ok
  refine ⟨c0, G0, st0, hd0, ok0.imp fun x H1 ⟨G1, st1, a, s1, hd1, r1, ok1⟩ => ?_⟩
  unfold hTru at ok1
  cases e : truD a with
  | none => rw [e] at ok1; exact ok1.elim
  | some k => rw [e] at ok1; exact ⟨k, truV_of hd1.sub r1 e, ok1 _ _ _ (Same.refl _) hd1 (.bl _)⟩
def dIfE (t : S → R Bool) (f g : S → R D) : S → R D := fun st => (t st).bind fun k st => if k = true then f st else g st
theorem de_ifE {t a b : Expr} {ft : S → R Bool} {f g : S → R D} {pos : Pos} (ht : DT X T W t ft) (ha : DE X T W a f) (hb : DE X T W b g) : DE X T W (.IfExp t a b pos) (dIfE ft f g) := by
  refine impE (pe_ifExp ht ha hb) fun σ H Q ⟨c, G, st, hd, ok⟩ => ?_
  obtain ⟨c0, G0, st0, hd0, ok0⟩ := step (rel := relB) hd ok
  refine ⟨c0, G0, st0, hd0, ok0.imp fun k H1 ⟨G1, st1, a, s1, hd1, r1, ok1⟩ => ?_⟩
  cases r1
  cases k with
  | true => rw [if_pos rfl] at ok1 ⊢; exact ⟨_, G1, st1, hd1, ok1⟩
  | false => rw [if_neg Bool.false_ne_true] at ok1 ⊢; exact ⟨_, G1, st1, hd1, ok1⟩
/-- a < b < c -/
def dChain (h h' : D → D → S → R Bool) (fa fb fc : S → R D) : S → R D := fun st => (fa st).bind fun x st => (fb st).bind fun y st => (h x y st).bind fun k st => if k = true then (fc st).bind fun z st => toD (h' y z st) else .ok (.bl false) st
theorem de_chain {op op' : CmpOp} {r r' : R2} {h h' : D → D → S → R Bool} {a b e : Expr} {fa fb fc : S → R D} {pos : Pos} (ho : OpR X (compareOp op) r) (ho' : OpR X (compareOp op') r')
    (sd : Snd2 X T W r fun a b st => toD (h a b st)) (sd' : Snd2 X T W r' fun a b st => toD (h' a b st))
    (ha : DE X T W a fa) (hb : DE X T W b fb) (hc : DE X T W e fc) (hm : lastMarks [op, op'] [b, e] = false := by with_unfolding_all rfl) : DE X T W (.Compare a [op, op'] [b, e] pos) (dChain h h' fa fb fc) := by
  refine impE (pe_chain ho ho' ha hb hc hm) fun σ H Q ⟨c, G, st, hd, ok⟩ => ?_
  obtain ⟨c0, G0, st0, hd0, ok0⟩ := step (rel := relD X.K T) hd ok
  refine ⟨c0, G0, st0, hd0, ok0.imp fun x H1 ⟨G1, st1, a, s1, hd1, r1, ok1⟩ => ?_⟩
  obtain ⟨c2, G2, st2, hd2, ok2⟩ := step (rel := relD X.K T) hd1 ok1
  refine ⟨c2, G2, st2, hd2, ok2.imp fun y H2 ⟨G3, st3, b, s3, hd3, r3, ok3⟩ => ?_⟩
  refine sd c G3 H2 σ st3 x y a b _ hd3 (r1.mono s3) r3 ?_
  have q : GOk X.K T W (relB) c G3 σ (h a b st3) (fun k H' => ∃ G4 st4, Same G3 G4 ∧ Holds X.K T c G4 H' σ st4 ∧ GOk X.K T W (relD X.K T) c G4 σ (if k = true then (fc st4).bind fun z st => toD (h' b z st) else .ok (.bl false) st4) Q) := by
    revert ok3
    cases h a b st3 with
    | ok k s4 => exact fun ok3 G' H' v s h e => by cases e; exact ⟨G', s4, s, h, GOk.mono s ok3⟩
    | err e s => exact fun ok3 => ok3
    | stuck => exact fun ok3 => ok3
  refine (GOk.ofB q).imp fun z H3 ⟨k, e, G4, st4, s4, hd4, ok4⟩ => ⟨k, e, ?_⟩
  cases k with
  | true =>
    rw [if_pos rfl] at ok4 ⊢
    obtain ⟨c5, G5, st5, hd5, ok5⟩ := step (rel := relD X.K T) hd4 ok4
    exact ⟨c5, G5, st5, hd5, ok5.imp fun z H4 ⟨G6, st6, d, s6, hd6, r6, ok6⟩ => sd' c G6 H4 σ st6 y z b d Q hd6 ((r3.mono s4).mono s6) r6 ok6⟩
  | false => rw [if_neg Bool.false_ne_true] at ok4 ⊢; exact ok4 _ _ _ (Same.refl _) hd4 (.bl _)

/-! ### displays -/
def dNil : S → R (List D) := fun st => .ok [] st
def dCons (f : S → R D) (g : S → R (List D)) : S → R (List D) := fun st => (f st).bind fun x st => (g st).bind fun xs st => .ok (x :: xs) st
theorem da_nil : DA X T W [] dNil := impA pa_nil fun σ H Q ⟨c, G, st, hd, ok⟩ => ok _ _ _ (Same.refl _) hd .nil
theorem da_cons {e : Expr} {es : List Expr} {f : S → R D} {g : S → R (List D)} (he : DE X T W e f) (hr : DA X T W es g) (hs : starEach (e :: es) X.env = (false, eval e X.env) :: starEach es X.env := by rfl) : DA X T W (e :: es) (dCons f g) := by
  refine impA (pa_cons he hr hs) fun σ H Q ⟨c, G, st, hd, ok⟩ => ?_
  obtain ⟨c0, G0, st0, hd0, ok0⟩ := step (rel := relD X.K T) hd ok
  refine ⟨c0, G0, st0, hd0, ok0.imp fun x H1 ⟨G1, st1, a, s1, hd1, r1, ok1⟩ => ?_⟩
  obtain ⟨c2, G2, st2, hd2, ok2⟩ := step (rel := relA X.K T) hd1 ok1
  exact ⟨c2, G2, st2, hd2, ok2.imp fun y H2 ⟨G3, st3, b, s3, hd3, r3, ok3⟩ => ok3 _ _ _ (Same.refl _) hd3 (.cons (r1.mono s3) r3)⟩
def hTu (xs : List D) (st : S) : R D := if xs.length ≤ 16777216 then .ok (.tu xs) st else .stuck
def hLs (xs : List D) (st : S) : R (List D) := if xs.length ≤ 16777216 then .ok xs st else .stuck
def dTup (g : S → R (List D)) : S → R D := fun st => (g st).bind hTu
def dLst (g : S → R (List D)) : S → R (List D) := fun st => (g st).bind hLs
theorem de_tup {es : List Expr} {g : S → R (List D)} {x1} {pos : Pos} (h : DA X T W es g) : DE X T W (.Tuple es x1 pos) (dTup g) := by
  refine impE (pe_tup h) fun σ H Q ⟨c, G, st, hd, ok⟩ => ?_
  obtain ⟨c0, G0, st0, hd0, ok0⟩ := step (rel := relA X.K T) hd ok
  refine ⟨c0, G0, st0, hd0, ok0.imp fun vs H1 ⟨G1, st1, a, s1, hd1, r1, ok1⟩ => ?_⟩
  unfold hTu at ok1
  by_cases q : a.length ≤ 16777216
  · rw [if_pos q] at ok1
    exact ⟨by rw [sizeLine_eq, r1.length]; exact q, fun p hp => ok1 _ _ _ (same_upd (hd1.gnone hp)) (hd1.lay _ hp) (.tu (.inl (.inl upd_same)) (r1.mono (same_upd (hd1.gnone hp))))⟩
  · rw [if_neg q] at ok1; exact ok1.elim
theorem df_lst {es : List Expr} {g : S → R (List D)} {pos : Pos} (h : DA X T W es g) : DF X T W (.List es pos) (dLst g) := by
  refine impE (pe_lst h) fun σ H Q ⟨c, G, st, hd, ok⟩ => ?_
  obtain ⟨c0, G0, st0, hd0, ok0⟩ := step (rel := relA X.K T) hd ok
  refine ⟨c0, G0, st0, hd0, ok0.imp fun vs H1 ⟨G1, st1, a, s1, hd1, r1, ok1⟩ => ?_⟩
  unfold hLs at ok1
  by_cases q : a.length ≤ 16777216
  · rw [if_pos q] at ok1
    refine ⟨by rw [sizeLine_eq, r1.length]; exact q, fun p hp => ?_⟩
    obtain ⟨h2, r2⟩ := hd1.fresh hp r1
    exact ok1 _ _ _ (Same.refl _) h2 r2
  · rw [if_neg q] at ok1; exact ok1.elim
/-- a new list, handed on -/
def dClose (f : S → R (List D)) : S → R D := fun st => (f st).bind fun ds st => .ok (.ls ds) st
theorem de_new {e : Expr} {f : S → R (List D)} (h : DF X T W e f) : DE X T W e (dClose f) := by
  refine impE h fun σ H Q ⟨c, G, st, hd, ok⟩ => ?_
  obtain ⟨c0, G0, st0, hd0, ok0⟩ := step (rel := relF X.K T) hd ok
  refine ⟨c0, G0, st0, hd0, ok0.imp fun v H1 ⟨G1, st1, a, s1, hd1, r1, ok1⟩ => ?_⟩
  obtain ⟨G2, s2, hd2, r2⟩ := r1.close hd1
  exact ok1 _ _ _ s2 hd2 r2
/-- xs + ys, kept -/
def hCat : D → D → S → R (List D)
  | .ls xs, .ls ys, st => if xs.length + ys.length ≤ 16777216 then .ok (xs ++ ys) st else .stuck
  | _, _, _ => .stuck
def dCat (fa fb : S → R D) : S → R (List D) := fun st => (fa st).bind fun x st => (fb st).bind fun y st => hCat x y st
theorem df_cat {a b : Expr} {fa fb : S → R D} {pos : Pos} (ha : DE X T W a fa) (hb : DE X T W b fb) : DF X T W (.BinOp a .Add b pos) (dCat fa fb) := by
  refine impE (pe_op op_cat ha hb) fun σ H Q ⟨c, G, st, hd, ok⟩ => ?_
  obtain ⟨c0, G0, st0, hd0, ok0⟩ := step (rel := relD X.K T) hd ok
  refine ⟨c0, G0, st0, hd0, ok0.imp fun x H1 ⟨G1, st1, a, s1, hd1, r1, ok1⟩ => ?_⟩
  obtain ⟨c2, G2, st2, hd2, ok2⟩ := step (rel := relD X.K T) hd1 ok1
  refine ⟨c2, G2, st2, hd2, ok2.imp fun y H2 ⟨G3, st3, b, s3, hd3, r3, ok3⟩ => ?_⟩
  replace r1 := r1.mono s3
  cases r1 with
  | @ls p vs ds h r =>
    cases r3 with
    | @ls p2 vs2 ds2 h2 r2 =>
      have ok' : GOk X.K T W (relF X.K T) c G3 σ (if ds.length + ds2.length ≤ 16777216 then .ok (ds ++ ds2) st3 else .stuck) Q := ok3
      by_cases q : ds.length + ds2.length ≤ 16777216
      · rw [if_pos q] at ok'
        refine ⟨_, _, _, _, rfl, rfl, hd3.sub _ _ h, hd3.sub _ _ h2, by rw [sizeLine_eq, r.length, r2.length]; exact q, fun l hl => ?_⟩
        obtain ⟨h4, r4⟩ := hd3.fresh hl (r.append r2)
        exact ok' _ _ _ (Same.refl _) h4 r4
      · rw [if_neg q] at ok'; exact ok'.elim
    | _ => exact ok3.elim
  | _ => cases r3 <;> exact ok3.elim

/-! ### subscripts -/
def ixD : D → D → Option D
  | .ls xs, .int i => atI xs i
  | .tu xs, .int i => atI xs i
  | .ro ns, .int i => (atI ns i).map .int
  | .str z, .int i => if z.length ≤ 16777216 then (atI z.cps.toList i).map fun c => .str ⟨#[c]⟩ else none
  | _, _ => none
def hIx (a b : D) (st : S) : R D := match a, b with
  | .box, .int i => match atI [st.bx.1, st.bx.2.1, st.bx.2.2] i with
    | some n => .ok (.int n) st
    | none => .stuck
  | a, b => match ixD a b with
    | some d => .ok d st
    | none => .stuck
theorem Reps.atI {K : PySem.W.Frag} {B : Option Addr} {G : Hp} {vs : List V} {ds : List D} {i : Int} {d : D} (r : Reps K T B G vs ds) (h : L2.atI ds i = some d) : ∃ v, L2.atI vs i = some v ∧ Rep K T B G v d := by
  unfold L2.atI at h ⊢
  rw [← r.length] at h
  cases e : ixN vs.length i with
  | none => rw [e] at h; cases h
  | some j =>
    rw [e] at h
    obtain ⟨v, e1, e2⟩ := r.get' (i := j) (d := d) h
    exact ⟨v, e1, e2⟩
theorem atI_map {α β : Type} (f : α → β) (xs : List α) (i : Int) : L2.atI (xs.map f) i = (L2.atI xs i).map f := by
  unfold L2.atI
  rw [List.length_map]
  cases ixN xs.length i with
  | none => rfl
  | some j => exact List.getElem?_map
theorem snd_ix : Snd2 X T W (rIx X.K) hIx := fun c G H σ st x y a b Q hd r1 r2 ok => by
  cases r2 with
  | int i =>
    cases r1 with
    | non => exact ok.elim
    | bl _ => exact ok.elim
    | int _ => exact ok.elim
    | ob _ _ _ => exact ok.elim
    | er0 _ _ => exact ok.elim
    | er1 _ _ _ _ => exact ok.elim
    | str z =>
      have ok' : GOk X.K T W (relD X.K T) c G σ (match (if z.length ≤ 16777216 then (atI z.cps.toList i).map fun c => D.str ⟨#[c]⟩ else none) with | some d => .ok d st | none => .stuck) Q := ok
      by_cases q : z.length ≤ 16777216
      · rw [if_pos q] at ok'
        cases e : L2.atI z.cps.toList i with
        | none => rw [e] at ok'; exact ok'.elim
        | some ch => rw [e] at ok'; exact .inr (.inr ⟨z, i, ch, rfl, rfl, by rw [sizeLine_eq]; exact q, e, ok' _ _ _ (Same.refl _) hd (.str _)⟩)
      · rw [if_neg q] at ok'; exact ok'.elim
    | ls h r =>
      rename_i p vs ds
      have ok' : GOk X.K T W (relD X.K T) c G σ (match L2.atI ds i with | some d => .ok d st | none => .stuck) Q := ok
      cases e : L2.atI ds i with
      | none => rw [e] at ok'; exact ok'.elim
      | some d =>
        rw [e] at ok'
        obtain ⟨v, e1, e2⟩ := r.atI e
        exact .inl ⟨p, vs, i, v, rfl, rfl, SqL.of (hd.sub _ _ h), e1, ok' _ _ _ (Same.refl _) hd e2⟩
    | tu h r =>
      rename_i p vs ds
      have ok' : GOk X.K T W (relD X.K T) c G σ (match L2.atI ds i with | some d => .ok d st | none => .stuck) Q := ok
      cases e : L2.atI ds i with
      | none => rw [e] at ok'; exact ok'.elim
      | some d =>
        rw [e] at ok'
        obtain ⟨v, e1, e2⟩ := r.atI e
        exact .inr (.inl ⟨p, vs, i, v, rfl, rfl, Same.sqt hd.sub h, e1, ok' _ _ _ (Same.refl _) hd e2⟩)
    | ro h =>
      rename_i p ns
      have ok' : GOk X.K T W (relD X.K T) c G σ (match (L2.atI ns i).map D.int with | some d => .ok d st | none => .stuck) Q := ok
      cases e : L2.atI ns i with
      | none => rw [e] at ok'; exact ok'.elim
      | some n =>
        rw [e] at ok'
        exact .inl ⟨p, _, i, .int n, rfl, rfl, hd.sub.seq h, by rw [atI_map, e]; rfl, ok' _ _ _ (Same.refl _) hd (.int _)⟩
    | box h =>
      rename_i p
      have ok' : GOk X.K T W (relD X.K T) c G σ (match L2.atI [st.bx.1, st.bx.2.1, st.bx.2.2] i with | some n => .ok (.int n) st | none => .stuck) Q := ok
      cases e : L2.atI [st.bx.1, st.bx.2.1, st.bx.2.2] i with
      | none => rw [e] at ok'; exact ok'.elim
      | some n =>
        rw [e] at ok'
        exact .inl ⟨p, [st.bx.1, st.bx.2.1, st.bx.2.2].map V.int, i, .int n, rfl, rfl, SqL.of (hd.box p h).1, by rw [atI_map, e]; rfl, ok' _ _ _ (Same.refl _) hd (.int _)⟩
  | non => cases r1 <;> exact ok.elim
  | bl _ => cases r1 <;> exact ok.elim
  | str _ => cases r1 <;> exact ok.elim
  | ls _ _ => cases r1 <;> exact ok.elim
  | tu _ _ => cases r1 <;> exact ok.elim
  | ro _ => cases r1 <;> exact ok.elim
  | box _ => cases r1 <;> exact ok.elim
  | ob _ _ _ => cases r1 <;> exact ok.elim
  | er0 _ _ => cases r1 <;> exact ok.elim
  | er1 _ _ _ _ => cases r1 <;> exact ok.elim
theorem de_ix {a b : Expr} {fa fb : S → R D} {pos : Pos} (ha : DE X T W a fa) (hb : DE X T W b fb) (hs : PlainIx b := by exact fun _ _ => rfl) : DE X T W (.Subscript a b pos) (dBin hIx fa fb) :=
  impE (pe_ix ix_seq ha hb hs) (bin_read (a := a) (b := b) snd_ix)
/-! ### slices -/
def dNoP : S → R (Option Int) := fun st => .ok none st
def dPart (f : S → R D) : S → R (Option Int) := fun st => (f st).bind fun d st => match d with
  | .int i => .ok (some i) st
  | _ => .stuck
theorem do_none : DO X T W none dNoP := ⟨fun pins s σ H Q I ⟨c, G, st, hd, ok⟩ => po_none.run pins s σ H Q I (ok _ _ _ (Same.refl _) hd rfl)⟩
theorem do_some {e : Expr} {f : S → R D} (h : DE X T W e f) : DO X T W (some e) (dPart f) := ⟨fun pins s σ H Q I ⟨c, G, st, hd, ok⟩ => (po_some h).run pins s σ H Q I (by
  obtain ⟨c0, G0, st0, hd0, ok0⟩ := step (rel := relD X.K T) hd ok
  refine ⟨c0, G0, st0, hd0, ok0.imp fun x H1 ⟨G1, st1, a, s1, hd1, r1, ok1⟩ => ?_⟩
  cases r1 <;> first | exact ok1.elim | skip
  exact ⟨_, rfl, ok1 _ _ _ (Same.refl _) hd1 rfl⟩)⟩
def cutD {α : Type} (xs : List α) (lo hi : Option Int) : List α := (xs.drop (HT.sIx xs.length 0 lo)).take (HT.sIx xs.length xs.length hi - HT.sIx xs.length 0 lo)
theorem Reps.cut {K : PySem.W.Frag} {B : Option Addr} {G : Hp} {vs : List V} {ds : List D} (r : Reps K T B G vs ds) (lo hi : Option Int) : Reps K T B G (cutV vs lo hi) (cutD ds lo hi) := by
  unfold cutV cutD
  rw [r.length]
  exact (r.drop _).take _
theorem cut_whole {α : Type} (xs : List α) (lo hi : Option Int) (h : HT.sIx xs.length 0 lo = 0 ∧ HT.sIx xs.length xs.length hi = xs.length) : cutD xs lo hi = xs := by
  unfold cutD
  rw [h.1, h.2]
  simp
theorem cut_map {α β : Type} (f : α → β) (xs : List α) (lo hi : Option Int) : cutD (xs.map f) lo hi = (cutD xs lo hi).map f := by
  unfold cutD
  rw [List.length_map, List.map_take, List.map_drop]
def sliceD (d : D) (lo hi : Option Int) : Option D := match d with
  | .ls xs => some (.ls (cutD xs lo hi))
  | .ro xs => some (.ls ((cutD xs lo hi).map .int))
  | .tu xs => some (.tu (cutD xs lo hi))
  | .str z => if z.length ≤ 16777216 then some (.str (cutS z lo hi)) else none
  | _ => none
def dSlice (f : S → R D) (l h : S → R (Option Int)) : S → R D := fun st => (f st).bind fun x st => (l st).bind fun lo st => (h st).bind fun hi st => match sliceD x lo hi with
  | some d => .ok d st
  | none => .stuck
theorem Reps.ints {K : PySem.W.Frag} {B : Option Addr} {G : Hp} : ∀ (ns : List Int), Reps K T B G (ns.map V.int) (ns.map D.int)
  | [] => .nil
  | n :: ns => .cons (.int n) (Reps.ints ns)
theorem de_slice {e : Expr} {lo hi : Option Expr} {f : S → R D} {l h : S → R (Option Int)} {pos p2 : Pos} (he : DE X T W e f) (hl : DO X T W lo l) (hh : DO X T W hi h) : DE X T W (.Subscript e (.Slice lo hi none p2) pos) (dSlice f l h) := by
  refine impE (pe_slice (sl_list.or (sl_tupA.or sl_str)) he hl hh) fun σ H Q ⟨c, G, st, hd, ok⟩ => ?_
  obtain ⟨c0, G0, st0, hd0, ok0⟩ := step (rel := relD X.K T) hd ok
  refine ⟨c0, G0, st0, hd0, ok0.imp fun x H1 ⟨G1, st1, a, s1, hd1, r1, ok1⟩ => ?_⟩
  obtain ⟨c2, G2, st2, hd2, ok2⟩ := step (rel := relO) hd1 ok1
  refine ⟨c2, G2, st2, hd2, ok2.imp fun y H2 ⟨G3, st3, b, s3, hd3, r3, ok3⟩ => ?_⟩
  cases r3
  obtain ⟨c4, G4, st4, hd4, ok4⟩ := step (rel := relO) hd3 ok3
  refine ⟨c4, G4, st4, hd4, ok4.imp fun z H3 ⟨G5, st5, b, s5, hd5, r5, ok5⟩ => ?_⟩
  cases r5
  replace r1 := (r1.mono s3).mono s5
  cases r1 with
  | str w =>
    have ok' : GOk X.K T W (relD X.K T) c G5 σ (match (if w.length ≤ 16777216 then some (D.str (cutS w y z)) else none) with | some d => .ok d st5 | none => .stuck) Q := ok5
    by_cases q : w.length ≤ 16777216
    · rw [if_pos q] at ok'
      exact .inr (.inr ⟨w, rfl, by rw [sizeLine_eq]; exact q, ok' _ _ _ (Same.refl _) hd5 (.str _)⟩)
    · rw [if_neg q] at ok'; exact ok'.elim
  | ls h r => exact .inl ⟨_, _, rfl, SqL.of (hd5.sub _ _ h), fun l hl => ok5 _ _ _ (same_upd (hd5.gnone hl)) (hd5.lay _ hl) (.ls upd_same ((r.cut y z).mono (same_upd (hd5.gnone hl))))⟩
  | tu h r =>
    refine .inr (.inl ⟨_, _, rfl, Same.sqt hd5.sub h, fun w => ok5 _ _ _ (Same.refl _) hd5 (.tu h ?_), fun w l hl => ok5 _ _ _ (same_upd (hd5.gnone hl)) (hd5.lay _ hl) (.tu (.inl (.inl upd_same)) ((r.cut y z).mono (same_upd (hd5.gnone hl))))⟩)
    rw [r.length] at w
    rw [cut_whole _ y z w]
    exact r
  | @ro p ns h =>
    refine .inl ⟨p, _, rfl, hd5.sub.seq h, fun l hl => ok5 _ _ _ (same_upd (hd5.gnone hl)) (hd5.lay _ hl) (.ls upd_same ?_)⟩
    rw [show cutV (ns.map V.int) y z = (cutD ns y z).map V.int from cut_map V.int ns y z]
    exact Reps.ints _
  | _ => exact ok5.elim
end
end DL

/-! DLd: calls, built-ins, what is walked. -/
namespace DL
open PySem PySem.Spec PyProof.Rows L2

/-! ### a def's promise -/
inductive FR where
  | ok (d : D) (b : Bx) | okF (ds : List D) (b : Bx) | err (e : Er) (b : Bx) | stuck
abbrev Fn := List D → Bx → FR
structure After (K : PySem.W.Frag) (T : Tab) (B : Option Addr) (G H G' H' : Hp) (b : Bx) : Prop where
  sG : Same G G'
  sub : Same G' H'
  new : ∀ a, G a = none → G' a ≠ none → H a = none
  frame : ∀ a o, H a = some o → B ≠ some a → H' a = some o
  box : ∀ p, B = some p → H' p = some (boxO b) ∧ G' p = none
def FOk (K : PySem.W.Frag) (T : Tab) (B : Option Addr) (G H : Hp) (r : FR) (Q : VK) (E : XK) : Prop := match r with
  | .ok d b => ∀ G' H' v, After K T B G H G' H' b → Rep K T B G' v d → Q v H'
  | .okF ds b => ∀ G' H' p vs, After K T B G H G' H' b → H' p = some (.lst vs) → G' p = none → H p = none → Reps K T B G' vs ds → Q (.ref p) H'
  | .err e b => ∀ G' H' cls dd, After K T B G H G' H' b → ErrAt K T B G' H' e cls dd → E cls dd H'
  | .stuck => False
def spD (K : PySem.W.Frag) (T : Tab) (n : Nat) (F : Fn) : Sp := fun vs H Q E => vs.length = n ∧ ∃ (B : Option Addr) (G : Hp) (ds : List D) (b : Bx), Same G H ∧ (∀ p, B = some p → H p = some (boxO b) ∧ G p = none) ∧ Reps K T B G vs ds ∧ FOk K T B G H (F ds b) Q E
def fromF (r : FR) (st : S) : R D := match r with
  | .ok d b => .ok d { st with bx := b }
  | .okF ds b => .ok (.ls ds) { st with bx := b }
  | .err e b => .err e { st with bx := b }
  | .stuck => .stuck
section
variable {K : PySem.W.Frag} {T : Tab} {W : WX} {c : Ctx} {G G' H H' : Hp} {σ : SV} {st : S}
theorem Holds.after (h : Holds K T c G H σ st) {b : Bx} (a : After K T c.B G H G' H' b) : Holds K T c G' H' σ { st with bx := b } where
  sub0 := h.sub0.trans a.sG
  sub := a.sub
  new := fun x e n => by
    cases q : G x with
    | none => exact h.h0 (a.new x q n)
    | some o => exact h.new x e (by rw [q]; exact fun z => by cases z)
  frame := fun x o e n => a.frame x o (h.frame x o e n) n
  len := h.len
  slot := fun i s e => by
    have o := h.slot i s e
    cases s with
    | un => trivial
    | val d => obtain ⟨v, e1, r⟩ := o; exact ⟨v, e1, r.mono a.sG⟩
    | own ds =>
      obtain ⟨p, vs, e1, e2, g, z, r⟩ := o
      refine ⟨p, vs, e1, a.frame p _ e2 (fun q => h.box0 p q z), ?_, z, r.mono a.sG⟩
      cases q : G' p with
      | none => rfl
      | some o => have := a.new p g (by rw [q]; exact fun z => by cases z); rw [e2] at this; cases this
  dist := h.dist
  box := a.box
  box0 := h.box0
/-- what a call hands back as new is nobody's -/
theorem Holds.handed (h : Holds K T c G H σ st) {b : Bx} (a : After K T c.B G H G' H' b) {p : Addr} {vs : List V} {ds : List D} (hp : H' p = some (.lst vs)) (g : G' p = none) (n : H p = none) (r : Reps K T c.B G' vs ds) : relF K T c G' H' σ { st with bx := b } (.ref p) ds := by
  refine ⟨p, vs, rfl, hp, g, h.h0 n, r, fun i es e q => ?_⟩
  obtain ⟨p2, vs2, e1, e2, _⟩ := h.slot i _ e
  rw [e1] at q
  cases q
  rw [n] at e2; cases e2
/-- the call of a def by its promise -/
theorem spD_use {n : Nat} {F : Fn} {vs : List V} {ds : List D} {Q : VK} (h : Holds K T c G H σ st) (r : Reps K T c.B G vs ds) (l : vs.length = n) (ok : GOk K T W (relD K T) c G σ (fromF (F ds st.bx) st) Q) :
    spD K T n F vs H Q (WE W σ) := by
  refine ⟨l, c.B, G, ds, st.bx, h.sub, h.box, r, ?_⟩
  revert ok
  cases F ds st.bx with
  | ok d b => exact fun ok G' H' v a r => ok G' H' v a.sG (h.after a) r
  | okF ds b =>
    intro ok G' H' p vs a hp g n r
    obtain ⟨G2, s2, h2, r2⟩ := (h.handed a hp g n r).close (h.after a)
    exact ok G2 H' (.ref p) (a.sG.trans s2) h2 r2
  | err e b => exact fun ok G' H' cls dd a r => ok G' H' cls dd a.sG (h.after a) r
  | stuck => exact fun ok => ok
end
section
variable {X : Cx} {T : Tab} {W : WX}
/-- a call: the written arguments, then the defaults -/
def dCall (n : Nat) (F : Fn) (dds : List D) (fa : S → R (List D)) : S → R D := fun st => (fa st).bind fun ds st => if (ds ++ dds).length = n then fromF (F (ds ++ dds) st.bx) st else .stuck
theorem de_call {k n : Nat} {F : Fn} {f : Addr} {fd : FuncData} {ps : List Str} {dvs : List V} {ds : List Value} {dds : List D} {x : Str} {p pos : Pos} {e : Expr} {es : List Expr} {fa : S → R (List D)}
    (G : FnOk X.prog X.w X.K X.mg X.base (L2.CX X.prog X.w) k f fd ps (spD X.K T n F)) (hr : Room k X.A) (hg : Gl X x) (hm : X.mg x = some (.ref f)) (hk : PySem.W.keepIn X.K (.ref f) = true) (hb : Binds X.K fd ps ds) (hd : Vals dvs ds)
    (hrd : ∀ B G, Reps X.K T B G dvs dds) (tk : Takes X W) (ha : DA X T W (e :: es) fa) (hdb : (x == ("__debug__" : Str)) = false := by decide) (he : starEach (e :: es) X.env = (false, eval e X.env) :: starEach es X.env := by rfl) (hpl : (backTo pos (starEach es X.env)).any (·.1) = false := by rfl) :
    DE X T W (.Call (.Name x p) (e :: es) [] pos) (dCall n F dds fa) := by
  refine impE (pe_callSD (E := WE W) G hr hg hm hk hb hd (passAt tk) ha hdb he hpl) fun σ H Q ⟨c, G, st, hd, ok⟩ => ?_
  obtain ⟨c0, G0, st0, hd0, ok0⟩ := step (rel := relA X.K T) hd ok
  refine ⟨c0, G0, st0, hd0, ok0.imp fun vs H1 ⟨G1, st1, as, s1, hd1, r1, ok1⟩ => ?_⟩
  have r2 := r1.append (hrd c.B G1)
  by_cases q : (as ++ dds).length = n
  · rw [if_pos q] at ok1
    exact spD_use hd1 r2 (r2.length.trans q) ok1
  · rw [if_neg q] at ok1; exact ok1.elim
theorem de_call0 {k n : Nat} {F : Fn} {f : Addr} {fd : FuncData} {ps : List Str} {dvs : List V} {ds : List Value} {dds : List D} {x : Str} {p pos : Pos}
    (G : FnOk X.prog X.w X.K X.mg X.base (L2.CX X.prog X.w) k f fd ps (spD X.K T n F)) (hr : Room k X.A) (hg : Gl X x) (hm : X.mg x = some (.ref f)) (hk : PySem.W.keepIn X.K (.ref f) = true) (hb : Binds X.K fd ps ds) (hd : Vals dvs ds)
    (hrd : ∀ B G, Reps X.K T B G dvs dds) (tk : Takes X W) (hdb : (x == ("__debug__" : Str)) = false := by decide) :
    DE X T W (.Call (.Name x p) [] [] pos) (dCall n F dds dNil) := by
  refine ⟨fun pins s σ H Q I ⟨c, G', st, hd', ok⟩ => ?_⟩
  refine wpAny_Call_Name_kw (ld_glob I hg hm ?_ hdb)
  refine PySem.W.callWith_K0 I.kIn hk ?_
  replace ok : GOk X.K T W (relD X.K T) c G' σ (if ([] ++ dds).length = n then fromF (F ([] ++ dds) st.bx) st else .stuck) Q := ok
  by_cases q : ([] ++ dds).length = n
  · rw [if_pos q] at ok
    exact run_fnSD (us := []) (E := WE W) G hr hb hd (passAt tk σ) I .nil (spD_use hd' (hrd c.B G') ((hrd c.B G').length.trans q) ok)
  · rw [if_neg q] at ok; exact ok.elim

/-! ### built-ins -/
def dCB (h : List D → S → R D) (fa : S → R (List D)) : S → R D := fun st => (fa st).bind h
def SndC (X : Cx) (T : Tab) (W : WX) (r : List V → Hp → VK → Prop) (h : List D → S → R D) : Prop :=
  ∀ (c : Ctx) (G H : Hp) (σ : SV) (st : S) (vs : List V) (ds : List D) (Q : VK), Holds X.K T c G H σ st → Reps X.K T c.B G vs ds → GOk X.K T W (relD X.K T) c G σ (h ds st) Q → r vs H Q
theorem cb_read {r : List V → Hp → VK → Prop} {h : List D → S → R D} {fa : S → R (List D)} (sd : SndC X T W r h) : ∀ σ H Q, gD X.K T W (relD X.K T) (dCB h fa) σ H Q → tCB r (gD X.K T W (relA X.K T) fa) σ H Q := fun σ H Q ⟨c, G, st, hd, ok⟩ => by
  obtain ⟨c0, G0, st0, hd0, ok0⟩ := step (rel := relA X.K T) hd ok
  exact ⟨c0, G0, st0, hd0, ok0.imp fun vs H1 ⟨G1, st1, a, s1, hd1, r1, ok1⟩ => sd c G1 H1 σ st1 vs a Q hd1 r1 ok1⟩
theorem de_callB {id : String} {r : List V → Hp → VK → Prop} {h : List D → S → R D} {x : Str} {p pos : Pos} {e : Expr} {es : List Expr} {fa : S → R (List D)} (hc : CallR X (.builtin id) r) (sd : SndC X T W r h) (hg : Gl X x) (hm : X.mg x = none) (hv : bootBuiltins x = some (.builtin id)) (ha : DA X T W (e :: es) fa)
    (hn : x ≠ "__name__" := by decide) (hdb : (x == ("__debug__" : Str)) = false := by decide) (he : starEach (e :: es) X.env = (false, eval e X.env) :: starEach es X.env := by rfl) (hpl : (backTo pos (starEach es X.env)).any (·.1) = false := by rfl) :
    DE X T W (.Call (.Name x p) (e :: es) [] pos) (dCB h fa) := impE (pe_callB hc hg hm hv ha hn hdb he hpl) (cb_read sd)
theorem de_callTy {Ty : String} {r : List V → Hp → VK → Prop} {h : List D → S → R D} {x : Str} {p pos : Pos} {e : Expr} {es : List Expr} {fa : S → R (List D)} (hc : CallR X (.type Ty) r) (sd : SndC X T W r h) (hg : Gl X x) (hm : X.mg x = none) (hv : bootBuiltins x = some (.type Ty)) (ha : DA X T W (e :: es) fa)
    (hn : x ≠ "__name__" := by decide) (hdb : (x == ("__debug__" : Str)) = false := by decide) (he : starEach (e :: es) X.env = (false, eval e X.env) :: starEach es X.env := by rfl) (hpl : (backTo pos (starEach es X.env)).any (·.1) = false := by rfl) :
    DE X T W (.Call (.Name x p) (e :: es) [] pos) (dCB h fa) := impE (pe_callTy hc hg hm hv ha hn hdb he hpl) (cb_read sd)
/-- len -/
def hLen : List D → S → R D
  | [.ls xs], st => .ok (.int xs.length) st
  | [.tu xs], st => .ok (.int xs.length) st
  | [.ro xs], st => .ok (.int xs.length) st
  | [.str z], st => if z.length ≤ 16777216 then .ok (.int z.length) st else .stuck
  | _, _ => .stuck
theorem snd_len : SndC X T W (fun xs H Q => (∃ p ys, xs = [.ref p] ∧ (SqL X.K H p ys ∨ SqT X.K H p ys) ∧ Q (.int ys.length) H) ∨ ∃ z, xs = [.str z] ∧ z.length ≤ sizeLine ∧ Q (.int z.length) H) hLen := fun c G H σ st vs ds Q hd r ok => by
  cases r with
  | nil => exact ok.elim
  | cons r1 r =>
    cases r with
    | cons _ _ => cases r1 <;> exact ok.elim
    | nil =>
      cases r1 with
      | @ls p vs ds h r => exact .inl ⟨p, vs, rfl, .inl (SqL.of (hd.sub _ _ h)), by rw [r.length]; exact ok _ _ _ (Same.refl _) hd (.int _)⟩
      | @tu p vs ds h r => exact .inl ⟨p, vs, rfl, .inr (Same.sqt hd.sub h), by rw [r.length]; exact ok _ _ _ (Same.refl _) hd (.int _)⟩
      | @ro p ns h => exact .inl ⟨p, _, rfl, .inl (hd.sub.seq h), by rw [List.length_map]; exact ok _ _ _ (Same.refl _) hd (.int _)⟩
      | str z =>
        have ok' : GOk X.K T W (relD X.K T) c G σ (if z.length ≤ 16777216 then .ok (.int z.length) st else .stuck) Q := ok
        by_cases q : z.length ≤ 16777216
        · rw [if_pos q] at ok'
          exact .inr ⟨z, rfl, by rw [sizeLine_eq]; exact q, ok' _ _ _ (Same.refl _) hd (.int _)⟩
        · rw [if_neg q] at ok'; exact ok'.elim
      | _ => exact ok.elim
theorem de_len {p pos : Pos} {e : Expr} {fa : S → R (List D)} (hg : Gl X "len") (hm : X.mg "len" = none) (ha : DA X T W [e] fa) (he : starEach [e] X.env = (false, eval e X.env) :: starEach [] X.env := by rfl) :
    DE X T W (.Call (.Name "len" p) [e] [] pos) (dCB hLen fa) := de_callB (call_len_seq.or call_len_str) snd_len hg hm PySem.boot_len ha (he := he)
/-- int(n), int(flag) -/
def hInt : List D → S → R D
  | [.int i], st => .ok (.int i) st
  | [.bl k], st => .ok (.int (if k then 1 else 0)) st
  | [.str a], st => match PySem.intText? a with
    | some n => if a.length ≤ 640 then .ok (.int n) st else .stuck
    | none => .stuck
  | _, _ => .stuck
theorem snd_int : SndC X T W (fun xs H Q => ((∃ i, xs = [.int i] ∧ Q (.int i) H) ∨ ∃ k, xs = [.bl k] ∧ Q (.int (if k then 1 else 0)) H) ∨ ∃ a n, xs = [.str a] ∧ PySem.intText? a = some n ∧ a.length ≤ 640 ∧ Q (.int n) H) hInt := fun c G H σ st vs ds Q hd r ok => by
  cases r with
  | nil => exact ok.elim
  | cons r1 r =>
    cases r with
    | cons _ _ => cases r1 <;> exact ok.elim
    | nil =>
      cases r1 with
      | int i => exact .inl (.inl ⟨i, rfl, ok _ _ _ (Same.refl _) hd (.int _)⟩)
      | bl k => exact .inl (.inr ⟨k, rfl, ok _ _ _ (Same.refl _) hd (.int _)⟩)
      | str a =>
        have ok' : GOk X.K T W (relD X.K T) c G σ (match PySem.intText? a with | some n => if a.length ≤ 640 then .ok (.int n) st else .stuck | none => .stuck) Q := ok
        cases e : PySem.intText? a with
        | none => rw [e] at ok'; exact ok'.elim
        | some n =>
          rw [e] at ok'
          dsimp only at ok'
          by_cases q : a.length ≤ 640
          · rw [if_pos q] at ok'
            exact .inr ⟨a, n, rfl, e, q, ok' _ _ _ (Same.refl _) hd (.int _)⟩
          · rw [if_neg q] at ok'; exact ok'.elim
      | _ => exact ok.elim
theorem boot_int' : bootBuiltins "int" = some (.type "int") := by decide +kernel
theorem de_intc {p pos : Pos} {e : Expr} {fa : S → R (List D)} (hg : Gl X "int") (hm : X.mg "int" = none) (ha : DA X T W [e] fa) (he : starEach [e] X.env = (false, eval e X.env) :: starEach [] X.env := by rfl) :
    DE X T W (.Call (.Name "int" p) [e] [] pos) (dCB hInt fa) := de_callTy (call_int1.or call_int_str) snd_int hg hm boot_int' ha (he := he)
/-- abs -/
def hAbs : List D → S → R D
  | [.int i], st => .ok (.int (if i < 0 then -i else i)) st
  | _, _ => .stuck
theorem snd_abs : SndC X T W (fun xs H Q => ∃ i, xs = [.int i] ∧ Q (.int (if i < 0 then -i else i)) H) hAbs := fun c G H σ st vs ds Q hd r ok => by
  cases r with
  | nil => exact ok.elim
  | cons r1 r =>
    cases r with
    | cons _ _ => cases r1 <;> exact ok.elim
    | nil =>
      cases r1 with
      | int i => exact ⟨i, rfl, ok _ _ _ (Same.refl _) hd (.int _)⟩
      | _ => exact ok.elim
theorem boot_abs' : bootBuiltins "abs" = some (.builtin "abs") := by decide +kernel
theorem de_abs {p pos : Pos} {e : Expr} {fa : S → R (List D)} (hg : Gl X "abs") (hm : X.mg "abs" = none) (ha : DA X T W [e] fa) (he : starEach [e] X.env = (false, eval e X.env) :: starEach [] X.env := by rfl) :
    DE X T W (.Call (.Name "abs" p) [e] [] pos) (dCB hAbs fa) := de_callB call_abs snd_abs hg hm boot_abs' ha (he := he)
/-- max, min of two -/
def h2 (g : Int → Int → Int) : List D → S → R D
  | [.int i, .int j], st => .ok (.int (g i j)) st
  | _, _ => .stuck
theorem snd_2 {g : Int → Int → Int} : SndC X T W (fun xs H Q => ∃ i j, xs = [.int i, .int j] ∧ Q (.int (g i j)) H) (h2 g) := fun c G H σ st vs ds Q hd r ok => by
  cases r with
  | nil => exact ok.elim
  | cons r1 r =>
    cases r with
    | nil => cases r1 <;> exact ok.elim
    | cons r2 r =>
      cases r with
      | cons _ _ => cases r1 <;> cases r2 <;> exact ok.elim
      | nil =>
        cases r1 with
        | int i =>
          cases r2 with
          | int j => exact ⟨i, j, rfl, ok _ _ _ (Same.refl _) hd (.int _)⟩
          | _ => exact ok.elim
        | _ => cases r2 <;> exact ok.elim
abbrev gMax (i j : Int) : Int := if j > i then j else i
abbrev gMin (i j : Int) : Int := if j < i then j else i
theorem boot_max' : bootBuiltins "max" = some (.builtin "max") := by decide +kernel
theorem boot_min' : bootBuiltins "min" = some (.builtin "min") := by decide +kernel
theorem de_max2 {p pos : Pos} {e e2 : Expr} {fa : S → R (List D)} (hc : X.calm = true) (hg : Gl X "max") (hm : X.mg "max" = none) (ha : DA X T W [e, e2] fa) (he : starEach [e, e2] X.env = (false, eval e X.env) :: starEach [e2] X.env := by rfl) (hpl : (backTo pos (starEach [e2] X.env)).any (·.1) = false := by rfl) :
    DE X T W (.Call (.Name "max" p) [e, e2] [] pos) (dCB (h2 gMax) fa) := de_callB (call_max2 hc) snd_2 hg hm boot_max' ha (he := he) (hpl := hpl)
theorem de_min2 {p pos : Pos} {e e2 : Expr} {fa : S → R (List D)} (hc : X.calm = true) (hg : Gl X "min") (hm : X.mg "min" = none) (ha : DA X T W [e, e2] fa) (he : starEach [e, e2] X.env = (false, eval e X.env) :: starEach [e2] X.env := by rfl) (hpl : (backTo pos (starEach [e2] X.env)).any (·.1) = false := by rfl) :
    DE X T W (.Call (.Name "min" p) [e, e2] [] pos) (dCB (h2 gMin) fa) := de_callB (call_min2 hc) snd_2 hg hm boot_min' ha (he := he) (hpl := hpl)
/-- list(xs): a new list -/
def hListOf : List D → S → R (List D)
  | [.ls xs], st => .ok xs st
  | [.tu xs], st => .ok xs st
  | [.ro xs], st => .ok (xs.map .int) st
  | _, _ => .stuck
def dCBF (h : List D → S → R (List D)) (fa : S → R (List D)) : S → R (List D) := fun st => (fa st).bind h
theorem boot_list' : bootBuiltins "list" = some (.type "list") := by decide +kernel
theorem boot_tuple' : bootBuiltins "tuple" = some (.type "tuple") := by decide +kernel
theorem df_list {p pos : Pos} {e : Expr} {fa : S → R (List D)} (hg : Gl X "list") (hm : X.mg "list" = none) (ha : DA X T W [e] fa) (he : starEach [e] X.env = (false, eval e X.env) :: starEach [] X.env := by rfl) :
    DF X T W (.Call (.Name "list" p) [e] [] pos) (dCBF hListOf fa) := by
  refine impE (pe_callTy call_list_of hg hm boot_list' ha (he := he)) fun σ H Q ⟨c, G, st, hd, ok⟩ => ?_
  obtain ⟨c0, G0, st0, hd0, ok0⟩ := step (rel := relA X.K T) hd ok
  refine ⟨c0, G0, st0, hd0, ok0.imp fun vs H1 ⟨G1, st1, a, s1, hd1, r, ok1⟩ => ?_⟩
  cases r with
  | nil => exact ok1.elim
  | cons r1 r =>
    cases r with
    | cons _ _ => cases r1 <;> exact ok1.elim
    | nil =>
      cases r1 with
      | @ls p vs ds h r =>
        refine ⟨p, vs, rfl, .inl (SqL.of (hd1.sub _ _ h)), fun l hl => ?_⟩
        obtain ⟨h4, r4⟩ := hd1.fresh hl r
        exact ok1 _ _ _ (Same.refl _) h4 r4
      | @tu p vs ds h r =>
        refine ⟨p, vs, rfl, .inr (Same.sqt hd1.sub h), fun l hl => ?_⟩
        obtain ⟨h4, r4⟩ := hd1.fresh hl r
        exact ok1 _ _ _ (Same.refl _) h4 r4
      | @ro p ns h =>
        refine ⟨p, _, rfl, .inl (hd1.sub.seq h), fun l hl => ?_⟩
        obtain ⟨h4, r4⟩ := hd1.fresh hl (Reps.ints ns)
        exact ok1 _ _ _ (Same.refl _) h4 r4
      | _ => exact ok1.elim
/-- tuple(xs) -/
def hTupOf : List D → S → R D
  | [.ls xs], st => .ok (.tu xs) st
  | [.tu xs], st => .ok (.tu xs) st
  | _, _ => .stuck
theorem snd_tupOf : SndC X T W (fun xs H Q => ∃ p ys, xs = [.ref p] ∧ ((SqL X.K H p ys ∧ ∀ l, H l = none → Q (.ref l) (upd H l (.tup ys))) ∨ (SqT X.K H p ys ∧ Q (.ref p) H))) hTupOf := fun c G H σ st vs ds Q hd r ok => by
  cases r with
  | nil => exact ok.elim
  | cons r1 r =>
    cases r with
    | cons _ _ => cases r1 <;> exact ok.elim
    | nil =>
      cases r1 with
      | @ls p vs ds h r => exact ⟨p, vs, rfl, .inl ⟨SqL.of (hd.sub _ _ h), fun l hl => ok _ _ _ (same_upd (hd.gnone hl)) (hd.lay _ hl) (.tu (.inl (.inl upd_same)) (r.mono (same_upd (hd.gnone hl))))⟩⟩
      | @tu p vs ds h r => exact ⟨p, vs, rfl, .inr ⟨Same.sqt hd.sub h, ok _ _ _ (Same.refl _) hd (.tu h r)⟩⟩
      | _ => exact ok.elim
theorem de_tupleOf {p pos : Pos} {e : Expr} {fa : S → R (List D)} (hg : Gl X "tuple") (hm : X.mg "tuple" = none) (ha : DA X T W [e] fa) (he : starEach [e] X.env = (false, eval e X.env) :: starEach [] X.env := by rfl) :
    DE X T W (.Call (.Name "tuple" p) [e] [] pos) (dCB hTupOf fa) := de_callTy call_tuple_of snd_tupOf hg hm boot_tuple' ha (he := he)
/-- all, any of a list of bools -/
def blD : D → Option Bool
  | .bl b => some b
  | _ => none
def blDs : List D → Option (List Bool)
  | [] => some []
  | d :: ds => (blD d).bind fun b => (blDs ds).map fun bs => b :: bs
theorem blDs_rep {K : PySem.W.Frag} {B : Option Addr} {G : Hp} : ∀ {vs : List V} {ds : List D} {bs : List Bool}, Reps K T B G vs ds → blDs ds = some bs → vs = bs.map V.bl
  | _, _, _, .nil, h => by simp [blDs] at h; subst h; rfl
  | _, _, bs, .cons (d := d) (ds := ds) h r, e => by
    have e' : (blD d).bind (fun b => (blDs ds).map fun bs => b :: bs) = some bs := e
    cases q : blD d with
    | none => rw [q] at e'; cases e'
    | some b =>
      cases q2 : blDs ds with
      | none => rw [q, q2] at e'; cases e'
      | some bs2 =>
        rw [q, q2] at e'; cases e'
        cases h <;> simp [blD] at q
        subst q
        rw [blDs_rep r q2]; rfl
def hAA (g : List Bool → Bool) : List D → S → R D
  | [.ls ds], st => match blDs ds with
    | some bs => .ok (.bl (g bs)) st
    | none => .stuck
  | _, _ => .stuck
theorem snd_aa {g : List Bool → Bool} : SndC X T W (fun vs H Q => ∃ (a : Addr) (bs : List Bool), vs = [V.ref a] ∧ SqL X.K H a (bs.map V.bl) ∧ Q (.bl (g bs)) H) (hAA g) := fun c G H σ st vs ds Q hd r ok => by
  cases r with
  | nil => exact ok.elim
  | cons r1 r =>
    cases r with
    | cons _ _ => cases r1 <;> exact ok.elim
    | nil =>
      cases r1 with
      | @ls p vs ds h r =>
        have ok' : GOk X.K T W (relD X.K T) c G σ (match blDs ds with | some bs => .ok (.bl (g bs)) st | none => .stuck) Q := ok
        cases e : blDs ds with
        | none => rw [e] at ok'; exact ok'.elim
        | some bs =>
          rw [e] at ok'
          refine ⟨p, bs, rfl, ?_, ok' _ _ _ (Same.refl _) hd (.bl _)⟩
          rw [← blDs_rep r e]
          exact SqL.of (hd.sub _ _ h)
      | _ => exact ok.elim
abbrev hAll := hAA fun bs => bs.all id
abbrev hAny := hAA fun bs => bs.any id
theorem boot_all' : bootBuiltins "all" = some (.builtin "all") := by decide +kernel
theorem boot_any' : bootBuiltins "any" = some (.builtin "any") := by decide +kernel
theorem de_all {p pos : Pos} {e : Expr} {fa : S → R (List D)} (hc : X.calm = true) (hg : Gl X "all") (hm : X.mg "all" = none) (ha : DA X T W [e] fa) (he : starEach [e] X.env = (false, eval e X.env) :: starEach [] X.env := by rfl) :
    DE X T W (.Call (.Name "all" p) [e] [] pos) (dCB hAll fa) := de_callB (cr_all hc) snd_aa hg hm boot_all' ha (he := he)
theorem de_any {p pos : Pos} {e : Expr} {fa : S → R (List D)} (hc : X.calm = true) (hg : Gl X "any") (hm : X.mg "any" = none) (ha : DA X T W [e] fa) (he : starEach [e] X.env = (false, eval e X.env) :: starEach [] X.env := by rfl) :
    DE X T W (.Call (.Name "any" p) [e] [] pos) (dCB hAny fa) := de_callB (cr_any hc) snd_aa hg hm boot_any' ha (he := he)
/-- sum of a list of ints -/
def intDs : List D → Option (List Int)
  | [] => some []
  | d :: ds => match d with
    | .int i => (intDs ds).map fun is => i :: is
    | _ => none
theorem intDs_rep {K : PySem.W.Frag} {B : Option Addr} {G : Hp} : ∀ {vs : List V} {ds : List D} {bs : List Int}, Reps K T B G vs ds → intDs ds = some bs → vs = bs.map V.int
  | _, _, _, .nil, h => by simp [intDs] at h; subst h; rfl
  | _, _, bs, .cons (d := d) (ds := ds) h r, e => by
    cases h <;> first | (simp [intDs] at e; done) | skip
    rename_i i
    have e' : ((intDs ds).map fun is => i :: is) = some bs := e
    cases q2 : intDs ds with
    | none => rw [q2] at e'; cases e'
    | some bs2 =>
      rw [q2] at e'; cases e'
      rw [intDs_rep r q2]; rfl
def hSum : List D → S → R D
  | [.ls ds], st => match intDs ds with
    | some is => .ok (.int is.sum) st
    | none => .stuck
  | _, _ => .stuck
theorem snd_sum : SndC X T W (rSum X.K) hSum := fun c G H σ st vs ds Q hd r ok => by
  cases r with
  | nil => exact ok.elim
  | cons r1 r =>
    cases r with
    | cons _ _ => cases r1 <;> exact ok.elim
    | nil =>
      cases r1 with
      | @ls p vs ds h r =>
        have ok' : GOk X.K T W (relD X.K T) c G σ (match intDs ds with | some is => .ok (.int is.sum) st | none => .stuck) Q := ok
        cases e : intDs ds with
        | none => rw [e] at ok'; exact ok'.elim
        | some bs =>
          rw [e] at ok'
          refine ⟨p, bs, rfl, ?_, ok' _ _ _ (Same.refl _) hd (.int _)⟩
          rw [← intDs_rep r e]
          exact SqL.of (hd.sub _ _ h)
      | _ => exact ok.elim
theorem boot_sum' : bootBuiltins "sum" = some (.builtin "sum") := by decide +kernel
theorem de_sum {p pos : Pos} {e : Expr} {fa : S → R (List D)} (hc : X.calm = true) (hg : Gl X "sum") (hm : X.mg "sum" = none) (ha : DA X T W [e] fa) (he : starEach [e] X.env = (false, eval e X.env) :: starEach [] X.env := by rfl) :
    DE X T W (.Call (.Name "sum" p) [e] [] pos) (dCB hSum fa) := de_callB (cr_sum hc) snd_sum hg hm boot_sum' ha (he := he)
end
end DL

/-! DLe: what is walked; statements; loops; comprehensions; a def's body. -/
namespace DL
open PySem PySem.Spec PyProof.Rows L2

/-! ### what is walked -/
def relI (K : PySem.W.Frag) (T : Tab) : Rel (List D) It := fun c G _ _ _ J ds => ∀ (c' : Ctx) (G' H' : Hp) (σ' : SV) (st' : S), c'.B = c.B → Same G G' → Holds K T c' G' H' σ' st' →
  J.stop ds.length H' ∧ ∀ (i : Nat) (d : D), ds[i]? = some d → J.go i H' ∧ ∀ x H2, J.yld i H' x H2 → ∃ G2, Same G' G2 ∧ Same H' H2 ∧ Holds K T c' G2 H2 σ' st' ∧ Rep K T c.B G2 x d
def DI (X : Cx) (T : Tab) (W : WX) (tg iter : Expr) (f : S → R (List D)) : Prop := PI X tg iter (gD X.K T W (relI X.K T) f)
theorem impI {X : Cx} {tg iter : Expr} {t t' : TI} (h : PI X tg iter t) (q : ∀ σ H Q, t' σ H Q → t σ H Q) : PI X tg iter t' := ⟨fun pins s σ H Q I k => h.run pins s σ H Q I (q σ H Q k)⟩
def iAny (K : PySem.W.Frag) (te : TE) : TI := fun σ H R => te σ H fun x H1 => (∃ a, x = .ref a ∧ (∃ xs, SqL K H1 a xs) ∧ R (Itl K a) H1) ∨ (∃ a, x = .ref a ∧ (∃ xs, SqT K H1 a xs) ∧ R (Itt K a) H1) ∨ ∃ z, x = .str z ∧ R (Its z) H1
theorem pi_any {X : Cx} {tg e : Expr} {te : TE} (hl : PE X e te) : PI X tg e (iAny X.K te) := by
  refine ⟨fun pins s σ H R I h => ?_⟩
  refine thn (hl.run pins s σ H _ I h) fun v s1 ⟨x, H1, I1, r1, q1⟩ => ?_
  rcases q1 with ⟨a, e, ⟨xs, hq⟩, q⟩ | ⟨a, e, ⟨xs, hq⟩, q⟩ | ⟨z, e, q⟩
  · subst e
    cases r1
    obtain ⟨its, rv, p, hz⟩ := I1.list hq
    refine wpAny_pyIter_list p.isList ?_
    refine ⟨s1.heap.objs.size, [s1.heap.objs.size], _, _, H1, rfl, I1.kept (t' := s1.toks) fun b o e => Heap.get?_push_of_some _ e, turn_list a _, ⟨_, Heap.get?_push_size _ rfl, rfl, rfl⟩, fun b hb => ?_, q⟩
    have e : b = s1.heap.objs.size := by simpa using hb
    subst e
    exact I1.fpOk (Nat.le_refl _) (I1.hok.fresh (Nat.le_refl _))
  · subst e
    cases r1
    obtain ⟨its, rv, p, hz⟩ := I1.tuple hq
    refine wpAny_pyIter_tuple (show s1.heap.IsTuple a its.toArray from p) ?_
    refine ⟨s1.heap.objs.size, [s1.heap.objs.size], _, _, H1, rfl, I1.kept (t' := s1.toks) fun b o e => Heap.get?_push_of_some _ e, turn_tuple a _, ⟨_, Heap.get?_push_size _ rfl, rfl, rfl⟩, fun b hb => ?_, q⟩
    have e : b = s1.heap.objs.size := by simpa using hb
    subst e
    exact I1.fpOk (Nat.le_refl _) (I1.hok.fresh (Nat.le_refl _))
  · subst e
    obtain ⟨t, rfl⟩ := r1
    cases ha : z.cps.all (· < 128)
    · exact wpAny_pyIter_wide ha (pi_one (tk := s1.toks) I1 _ (turn_str _ z t "str_iterator" (.inr rfl)) ⟨_, Heap.get?_push_size _ rfl, rfl, rfl⟩ q)
    · exact wpAny_pyIter_ascii ha (pi_one (tk := s1.toks) I1 _ (turn_str _ z t "str_ascii_iterator" (.inl rfl)) ⟨_, Heap.get?_push_size _ rfl, rfl, rfl⟩ q)
section
variable {X : Cx} {T : Tab} {W : WX}
def signs (z : Str) : List D := z.cps.toList.map fun c => .str ⟨#[c]⟩
def seqD : D → Option (List D)
  | .ls xs => some xs
  | .tu xs => some xs
  | .ro ns => some (ns.map .int)
  | .str z => some (signs z)
  | _ => none
def hSeq (d : D) (st : S) : R (List D) := match seqD d with
  | some ds => .ok ds st
  | none => .stuck
def dSeqI (f : S → R D) : S → R (List D) := fun st => (f st).bind hSeq
theorem relI_list {K : PySem.W.Frag} {c : Ctx} {G H : Hp} {σ : SV} {st : S} {a : Addr} {xs : List V} {ds : List D} (h : SqL K G a xs) (r : Reps K T c.B G xs ds) : relI K T c G H σ st (Itl K a) ds := fun c' G' H' σ' st' eB s hd => by
  have hq : SqL K H' a xs := hd.sub.seq (s.seq h)
  refine ⟨⟨xs, hq, Nat.le_of_eq r.length⟩, fun i d e => ?_⟩
  obtain ⟨v, e1, e2⟩ := r.get' e
  refine ⟨⟨xs, v, hq, e1⟩, fun x H2 ⟨e3, e4⟩ => ?_⟩
  subst e3
  have e5 := e4 xs hq
  rw [e1] at e5
  cases e5
  exact ⟨G', Same.refl _, Same.refl _, hd, e2.mono s⟩
theorem relI_tup {K : PySem.W.Frag} {c : Ctx} {G H : Hp} {σ : SV} {st : S} {a : Addr} {xs : List V} {ds : List D} (h : SqT K G a xs) (r : Reps K T c.B G xs ds) : relI K T c G H σ st (Itt K a) ds := fun c' G' H' σ' st' eB s hd => by
  have hq : SqT K H' a xs := Same.sqt hd.sub (Same.sqt s h)
  refine ⟨⟨xs, hq, Nat.le_of_eq r.length⟩, fun i d e => ?_⟩
  obtain ⟨v, e1, e2⟩ := r.get' e
  refine ⟨⟨xs, v, hq, e1⟩, fun x H2 ⟨e3, e4⟩ => ?_⟩
  subst e3
  have e5 := e4 xs hq
  rw [e1] at e5
  cases e5
  exact ⟨G', Same.refl _, Same.refl _, hd, e2.mono s⟩
theorem relI_str {K : PySem.W.Frag} {c : Ctx} {G H : Hp} {σ : SV} {st : S} {z : Str} : relI K T c G H σ st (Its z) (signs z) := fun c' G' H' σ' st' eB s hd => by
  refine ⟨by show z.cps.size ≤ (signs z).length; unfold signs; simp, fun i d e => ?_⟩
  unfold signs at e
  rw [List.getElem?_map] at e
  cases q : z.cps.toList[i]? with
  | none => rw [q] at e; cases e
  | some ch =>
    rw [q] at e
    cases e
    have q' : z.cps[i]? = some ch := by rw [← Array.getElem?_toList]; exact q
    refine ⟨by show i < z.cps.size; exact (Array.getElem?_eq_some_iff.mp q').1, fun x H2 ⟨e3, ch2, e4, e5⟩ => ?_⟩
    subst e3 e5
    rw [q'] at e4
    cases e4
    exact ⟨G', Same.refl _, Same.refl _, hd, .str _⟩
theorem di_seq {tg e : Expr} {f : S → R D} (h : DE X T W e f) : DI X T W tg e (dSeqI f) := by
  refine impI (pi_any h) fun σ H Q ⟨c, G, st, hd, ok⟩ => ?_
  obtain ⟨c0, G0, st0, hd0, ok0⟩ := step (rel := relD X.K T) hd ok
  refine ⟨c0, G0, st0, hd0, ok0.imp fun x H1 ⟨G1, st1, a, s1, hd1, r1, ok1⟩ => ?_⟩
  cases r1 with
  | @ls p vs ds h r => exact .inl ⟨p, rfl, ⟨vs, SqL.of (hd1.sub _ _ h)⟩, ok1 _ _ _ (Same.refl _) hd1 (relI_list (SqL.of h) r)⟩
  | @tu p vs ds h r => exact .inr (.inl ⟨p, rfl, ⟨vs, Same.sqt hd1.sub h⟩, ok1 _ _ _ (Same.refl _) hd1 (relI_tup h r)⟩)
  | @ro p ns h => exact .inl ⟨p, rfl, ⟨_, hd1.sub.seq h⟩, ok1 _ _ _ (Same.refl _) hd1 (relI_list h (Reps.ints ns))⟩
  | str z => exact .inr (.inr ⟨z, rfl, ok1 _ _ _ (Same.refl _) hd1 relI_str⟩)
  | _ => exact ok1.elim
/-- range -/
def rangeD (lo : Int) (n : Nat) : List D := (List.range n).map fun i => .int (lo + (i : Nat))
def hRange1 : List D → S → R (List D)
  | [.int j], st => if -4611686018427387904 ≤ j ∧ j < 4611686018427387904 then .ok (rangeD 0 j.toNat) st else .stuck
  | _, _ => .stuck
def hRange2 : List D → S → R (List D)
  | [.int i, .int j], st => if -4611686018427387904 ≤ i ∧ i < 4611686018427387904 ∧ -4611686018427387904 ≤ j ∧ j < 4611686018427387904 then .ok (rangeD i (j - i).toNat) st else .stuck
  | _, _ => .stuck
theorem relI_range {K : PySem.W.Frag} {c : Ctx} {G H : Hp} {σ : SV} {st : S} {lo : Int} {n : Nat} : relI K T c G H σ st (Itr lo n) (rangeD lo n) := fun c' G' H' σ' st' eB s hd => by
  refine ⟨by show n ≤ (rangeD lo n).length; unfold rangeD; simp, fun i d e => ?_⟩
  unfold rangeD at e
  rw [List.getElem?_map] at e
  cases q : (List.range n)[i]? with
  | none => rw [q] at e; cases e
  | some k =>
    rw [q] at e
    cases e
    have q1 : i < n := by have := (List.getElem?_eq_some_iff.mp q).1; simpa using this
    have q2 : k = i := by rw [List.getElem?_range q1] at q; exact (Option.some.inj q).symm
    subst q2
    refine ⟨q1, fun x H2 ⟨e3, e4⟩ => ?_⟩
    subst e3 e4
    exact ⟨G', Same.refl _, Same.refl _, hd, .int _⟩
theorem di_range1 {tg a : Expr} {fa : S → R (List D)} {p pos : Pos} (hg : Gl X "range") (hm : X.mg "range" = none) (ha : DA X T W [a] fa) (hs : starEach [a] X.env = [(false, eval a X.env)] := by rfl) : DI X T W tg (.Call (.Name "range" p) [a] [] pos) (dCBF hRange1 fa) := by
  refine impI (pi_range1 hg hm ha hs) fun σ H Q ⟨c, G, st, hd, ok⟩ => ?_
  obtain ⟨c0, G0, st0, hd0, ok0⟩ := step (rel := relA X.K T) hd ok
  refine ⟨c0, G0, st0, hd0, ok0.imp fun x H1 ⟨G1, st1, a, s1, hd1, r1, ok1⟩ => ?_⟩
  cases r1 with
  | nil => exact ok1.elim
  | cons r1 r =>
    cases r with
    | cons _ _ => cases r1 <;> exact ok1.elim
    | nil =>
      cases r1 with
      | int j =>
        have ok' : GOk X.K T W (relI X.K T) c G1 σ (if -4611686018427387904 ≤ j ∧ j < 4611686018427387904 then .ok (rangeD 0 j.toNat) st1 else .stuck) Q := ok1
        by_cases q : -4611686018427387904 ≤ j ∧ j < 4611686018427387904
        · rw [if_pos q] at ok'
          exact ⟨j, rfl, q.1, q.2, ok' _ _ _ (Same.refl _) hd1 relI_range⟩
        · rw [if_neg q] at ok'; exact ok'.elim
      | _ => exact ok1.elim
theorem di_range2 {tg a b : Expr} {fa : S → R (List D)} {p pos : Pos} (hg : Gl X "range") (hm : X.mg "range" = none) (ha : DA X T W [a, b] fa) (hs : starEach [a, b] X.env = [(false, eval a X.env), (false, eval b X.env)] := by rfl) (hs2 : starEach [b] X.env = [(false, eval b X.env)] := by rfl) :
    DI X T W tg (.Call (.Name "range" p) [a, b] [] pos) (dCBF hRange2 fa) := by
  refine impI (pi_range2 hg hm ha hs hs2) fun σ H Q ⟨c, G, st, hd, ok⟩ => ?_
  obtain ⟨c0, G0, st0, hd0, ok0⟩ := step (rel := relA X.K T) hd ok
  refine ⟨c0, G0, st0, hd0, ok0.imp fun x H1 ⟨G1, st1, a, s1, hd1, r1, ok1⟩ => ?_⟩
  cases r1 with
  | nil => exact ok1.elim
  | cons r1 r =>
    cases r with
    | nil => cases r1 <;> exact ok1.elim
    | cons r2 r =>
      cases r with
      | cons _ _ => cases r1 <;> cases r2 <;> exact ok1.elim
      | nil =>
        cases r1 with
        | int i =>
          cases r2 with
          | int j =>
            have ok' : GOk X.K T W (relI X.K T) c G1 σ (if -4611686018427387904 ≤ i ∧ i < 4611686018427387904 ∧ -4611686018427387904 ≤ j ∧ j < 4611686018427387904 then .ok (rangeD i (j - i).toNat) st1 else .stuck) Q := ok1
            by_cases q : -4611686018427387904 ≤ i ∧ i < 4611686018427387904 ∧ -4611686018427387904 ≤ j ∧ j < 4611686018427387904
            · rw [if_pos q] at ok'
              exact ⟨i, j, rfl, q, ok' _ _ _ (Same.refl _) hd1 relI_range⟩
            · rw [if_neg q] at ok'; exact ok'.elim
          | _ => exact ok1.elim
        | _ => cases r2 <;> exact ok1.elim
/-- zip of two lists, of two tuples -/
def zipD (xs ys : List D) : List D := (xs.zip ys).map fun p => .tu [p.1, p.2]
def hZip : List D → S → R (List D)
  | [.ls xs, .ls ys], st => .ok (zipD xs ys) st
  | [.tu xs, .tu ys], st => .ok (zipD xs ys) st
  | _, _ => .stuck
theorem zipD_get {xs ys : List D} {i : Nat} {d : D} (h : (zipD xs ys)[i]? = some d) : ∃ a b, xs[i]? = some a ∧ ys[i]? = some b ∧ d = .tu [a, b] := by
  unfold zipD at h
  rw [List.getElem?_map] at h
  cases q : (xs.zip ys)[i]? with
  | none => rw [q] at h; cases h
  | some p =>
    rw [q] at h
    cases h
    obtain ⟨a, b⟩ := p
    rw [List.getElem?_zip_eq_some] at q
    exact ⟨a, b, q.1, q.2, rfl⟩
theorem relI_zip {K : PySem.W.Frag} {c : Ctx} {G H : Hp} {σ : SV} {st : S} {a b : Addr} {xs ys : List V} {ds es : List D} (h : G a = some (.lst xs)) (h2 : G b = some (.lst ys)) (r : Reps K T c.B G xs ds) (r2 : Reps K T c.B G ys es) : relI K T c G H σ st (Itz K a b) (zipD ds es) := fun c' G' H' σ' st' eB s hd => by
  have hq : SqL K H' a xs := SqL.of (hd.sub _ _ (s _ _ h))
  have hq2 : SqL K H' b ys := SqL.of (hd.sub _ _ (s _ _ h2))
  refine ⟨⟨xs, ys, hq, hq2, ?_⟩, fun i d e => ?_⟩
  · unfold zipD
    rw [List.length_map, List.length_zip, r.length, r2.length]
    omega
  · obtain ⟨d1, d2, e1, e2, rfl⟩ := zipD_get e
    obtain ⟨v1, f1, g1⟩ := r.get' e1
    obtain ⟨v2, f2, g2⟩ := r2.get' e2
    refine ⟨⟨xs, ys, v1, v2, hq, hq2, f1, f2⟩, fun x H2 ⟨t, x1, x2, ex, nt, eH, y1, y2⟩ => ?_⟩
    have z1 := y1 xs hq
    rw [f1] at z1; cases z1
    have z2 := y2 ys hq2
    rw [f2] at z2; cases z2
    subst ex eH
    have sg := same_upd (o := .tup [v1, v2]) (hd.gnone nt)
    exact ⟨_, sg, same_upd nt, hd.lay _ nt, .tu (.inl (.inl upd_same)) (.cons ((g1.mono s).mono sg) (.cons ((g2.mono s).mono sg) .nil))⟩
theorem relI_zipT {K : PySem.W.Frag} {c : Ctx} {G H : Hp} {σ : SV} {st : S} {a b : Addr} {xs ys : List V} {ds es : List D} (h : SqT K G a xs) (h2 : SqT K G b ys) (r : Reps K T c.B G xs ds) (r2 : Reps K T c.B G ys es) : relI K T c G H σ st (RZ.ItzT K a b) (zipD ds es) := fun c' G' H' σ' st' eB s hd => by
  have hq : SqT K H' a xs := Same.sqt hd.sub (Same.sqt s h)
  have hq2 : SqT K H' b ys := Same.sqt hd.sub (Same.sqt s h2)
  refine ⟨⟨xs, ys, hq, hq2, ?_⟩, fun i d e => ?_⟩
  · unfold zipD
    rw [List.length_map, List.length_zip, r.length, r2.length]
    omega
  · obtain ⟨d1, d2, e1, e2, rfl⟩ := zipD_get e
    obtain ⟨v1, f1, g1⟩ := r.get' e1
    obtain ⟨v2, f2, g2⟩ := r2.get' e2
    refine ⟨⟨xs, ys, v1, v2, hq, hq2, f1, f2⟩, fun x H2 ⟨t, x1, x2, ex, nt, eH, y1, y2⟩ => ?_⟩
    have z1 := y1 xs hq
    rw [f1] at z1; cases z1
    have z2 := y2 ys hq2
    rw [f2] at z2; cases z2
    subst ex eH
    have sg := same_upd (o := .tup [v1, v2]) (hd.gnone nt)
    exact ⟨_, sg, same_upd nt, hd.lay _ nt, .tu (.inl (.inl upd_same)) (.cons ((g1.mono s).mono sg) (.cons ((g2.mono s).mono sg) .nil))⟩
theorem di_zip {e e2 : Expr} {fa : S → R (List D)} {p pos tpos : Pos} {elts : List Expr} {kk : Nat} (hg : Gl X "zip") (hm : X.mg "zip" = none) (ha : DA X T W [e, e2] fa)
    (hs : starEach [e, e2] X.env = (false, eval e X.env) :: starEach [e2] X.env := by rfl) (hpl : (backTo pos (starEach [e2] X.env)).any (·.1) = false := by rfl) :
    DI X T W (.Tuple elts kk tpos) (.Call (.Name "zip" p) [e, e2] [] pos) (dCBF hZip fa) := by
  refine impI (RZ.pi_zipA hg hm ha hs hpl) fun σ H Q ⟨c, G, st, hd, ok⟩ => ?_
  obtain ⟨c0, G0, st0, hd0, ok0⟩ := step (rel := relA X.K T) hd ok
  refine ⟨c0, G0, st0, hd0, ok0.imp fun x H1 ⟨G1, st1, a, s1, hd1, r1, ok1⟩ => ?_⟩
  cases r1 with
  | nil => exact ok1.elim
  | cons r1 r =>
    cases r with
    | nil => cases r1 <;> exact ok1.elim
    | cons r2 r =>
      cases r with
      | cons _ _ => cases r1 <;> cases r2 <;> exact ok1.elim
      | nil =>
        cases r1 with
        | @ls p vs ds h r =>
          cases r2 with
          | @ls p2 vs2 ds2 h2 r2 => exact ⟨p, p2, vs, vs2, rfl, .inl ⟨SqL.of (hd1.sub _ _ h), SqL.of (hd1.sub _ _ h2), ok1 _ _ _ (Same.refl _) hd1 (relI_zip h h2 r r2)⟩⟩
          | _ => exact ok1.elim
        | @tu p vs ds h r =>
          cases r2 with
          | @tu p2 vs2 ds2 h2 r2 => exact ⟨p, p2, vs, vs2, rfl, .inr ⟨Same.sqt hd1.sub h, Same.sqt hd1.sub h2, ok1 _ _ _ (Same.refl _) hd1 (relI_zipT h h2 r r2)⟩⟩
          | _ => exact ok1.elim
        | _ => cases r2 <;> exact ok1.elim
/-- enumerate of a list -/
def enumD : Nat → List D → List D
  | _, [] => []
  | k, d :: ds => .tu [.int k, d] :: enumD (k + 1) ds
theorem enumD_get : ∀ {ds : List D} {k i : Nat} {d : D}, (enumD k ds)[i]? = some d → ∃ a, ds[i]? = some a ∧ d = .tu [.int ((k + i : Nat) : Int), a]
  | [], _, _, _, h => by simp [enumD] at h
  | a :: ds, k, 0, d, h => by
    have e : D.tu [.int (k : Nat), a] = d := Option.some.inj h
    subst e
    exact ⟨a, rfl, rfl⟩
  | a :: ds, k, i + 1, d, h => by
    obtain ⟨b, e1, e2⟩ := enumD_get (ds := ds) (k := k + 1) (i := i) (d := d) h
    refine ⟨b, e1, ?_⟩
    rw [e2, show k + 1 + i = k + (i + 1) by omega]
theorem enumD_len : ∀ (ds : List D) (k : Nat), (enumD k ds).length = ds.length
  | [], _ => rfl
  | a :: ds, k => congrArg (· + 1) (enumD_len ds (k + 1))
def hEnum : List D → S → R (List D)
  | [.ls xs], st => .ok (enumD 0 xs) st
  | _, _ => .stuck
theorem relI_enum {K : PySem.W.Frag} {c : Ctx} {G H : Hp} {σ : SV} {st : S} {a : Addr} {xs : List V} {ds : List D} (h : G a = some (.lst xs)) (r : Reps K T c.B G xs ds) : relI K T c G H σ st (Ite K a) (enumD 0 ds) := fun c' G' H' σ' st' eB s hd => by
  have hq : SqL K H' a xs := SqL.of (hd.sub _ _ (s _ _ h))
  refine ⟨⟨xs, hq, by rw [enumD_len, r.length]; exact Nat.le_refl _⟩, fun i d e => ?_⟩
  obtain ⟨d1, e1, rfl⟩ := enumD_get e
  obtain ⟨v1, f1, g1⟩ := r.get' e1
  refine ⟨⟨xs, v1, hq, f1⟩, fun x H2 ⟨t, x1, ex, nt, eH, y1⟩ => ?_⟩
  have z1 := y1 xs hq
  rw [f1] at z1; cases z1
  subst ex eH
  have sg := same_upd (o := .tup [.int (i : Nat), v1]) (hd.gnone nt)
  refine ⟨_, sg, same_upd nt, hd.lay _ nt, .tu (.inl (.inl upd_same)) (.cons ?_ (.cons ((g1.mono s).mono sg) .nil))⟩
  rw [Nat.zero_add]
  exact .int _
theorem di_enumL {e : Expr} {fa : S → R (List D)} {p pos tpos : Pos} {elts : List Expr} {kk : Nat} (hg : Gl X "enumerate") (hm : X.mg "enumerate" = none) (ha : DA X T W [e] fa) (hs : starEach [e] X.env = [(false, eval e X.env)] := by rfl) :
    DI X T W (.Tuple elts kk tpos) (.Call (.Name "enumerate" p) [e] [] pos) (dCBF hEnum fa) := by
  refine impI (pi_enum hg hm ha hs) fun σ H Q ⟨c, G, st, hd, ok⟩ => ?_
  obtain ⟨c0, G0, st0, hd0, ok0⟩ := step (rel := relA X.K T) hd ok
  refine ⟨c0, G0, st0, hd0, ok0.imp fun x H1 ⟨G1, st1, a, s1, hd1, r1, ok1⟩ => ?_⟩
  cases r1 with
  | nil => exact ok1.elim
  | cons r1 r =>
    cases r with
    | cons _ _ => cases r1 <;> exact ok1.elim
    | nil =>
      cases r1 with
      | @ls p vs ds h r => exact ⟨p, vs, rfl, SqL.of (hd1.sub _ _ h), ok1 _ _ _ (Same.refl _) hd1 (relI_enum h r)⟩
      | _ => exact ok1.elim
end
end DL

/-! DLf: statements, loops. -/
namespace DL
open PySem PySem.Spec PyProof.Rows L2
inductive Out where
  | nx | rt (d : D) | rtF (ds : List D) | bk | ct
def SOk (K : PySem.W.Frag) (T : Tab) (W : WX) (c : Ctx) (G : Hp) (r : R Out) (E : Ends) : Prop := match r with
  | .ok .nx st => ∀ G' H' σ', Same G G' → Holds K T c G' H' σ' st → E.nx σ' H'
  | .ok (.rt d) st => ∀ G' H' σ' v, Same G G' → Holds K T c G' H' σ' st → Rep K T c.B G' v d → E.rt v H'
  | .ok (.rtF ds) st => ∀ G' H' σ' v, Same G G' → Holds K T c G' H' σ' st → relF K T c G' H' σ' st v ds → E.rt v H'
  | .ok .bk st => ∀ G' H' σ', Same G G' → Holds K T c G' H' σ' st → E.bk σ' H'
  | .ok .ct st => ∀ G' H' σ', Same G G' → Holds K T c G' H' σ' st → E.ct σ' H'
  | .err e st => ∀ G' H' σ' cls d, Same G G' → Holds K T c G' H' σ' st → ErrAt K T c.B G' H' e cls d → W cls d σ' H'
  | .stuck => False
def tD (K : PySem.W.Frag) (T : Tab) (W : WX) (f : S → R Out) : TS := fun E σ H => ∃ c G st, Holds K T c G H σ st ∧ SOk K T W c G (f st) E
def DS (X : Cx) (T : Tab) (W : WX) (s : Stmt) (f : S → R Out) : Prop := PS X s (tD X.K T W f)
def DSs (X : Cx) (T : Tab) (W : WX) (s : List Stmt) (f : S → R Out) : Prop := PSs X s (tD X.K T W f)
section
variable {K : PySem.W.Frag} {T : Tab} {W : WX} {c : Ctx} {G G' H H' : Hp} {σ : SV} {st : S} {α β : Type} {rel : Rel α β} {E : Ends}
theorem SOk.mono {r : R Out} (s : Same G G') (h : SOk K T W c G r E) : SOk K T W c G' r E := by
  cases r with
  | ok o st =>
    cases o with
    | nx => exact fun G2 H2 σ2 s2 => h G2 H2 σ2 (s.trans s2)
    | bk => exact fun G2 H2 σ2 s2 => h G2 H2 σ2 (s.trans s2)
    | ct => exact fun G2 H2 σ2 s2 => h G2 H2 σ2 (s.trans s2)
    | rt d => exact fun G2 H2 σ2 v s2 => h G2 H2 σ2 v (s.trans s2)
    | rtF d => exact fun G2 H2 σ2 v s2 => h G2 H2 σ2 v (s.trans s2)
  | err e st => exact fun G2 H2 σ2 cls d s2 => h G2 H2 σ2 cls d (s.trans s2)
  | stuck => exact h
theorem stepS {f : S → R α} {g : α → S → R Out} (hd : Holds K T c G H σ st) (ok : SOk K T W c G ((f st).bind g) E) :
    gD K T W rel f σ H (fun x H1 => ∃ G1 st1 a, Same G G1 ∧ Holds K T c G1 H1 σ st1 ∧ rel c G1 H1 σ st1 x a ∧ SOk K T W c G1 (g a st1) E) := by
  refine ⟨c, G, st, hd, ?_⟩
  generalize f st = r at ok
  cases r with
  | ok a st1 => exact fun G1 H1 x s h r => ⟨G1, st1, a, s, h, r, SOk.mono s ok⟩
  | err e st1 => exact fun G1 H1 cls d s h r => ok G1 H1 σ cls d s h r
  | stuck => exact ok
/-- a statement, then more -/
def oBind (r : R Out) (g : S → R Out) : R Out := match r with
  | .ok .nx st => g st
  | r => r
theorem SOk.seq {r : R Out} {g : S → R Out} (ok : SOk K T W c G (oBind r g) E) : SOk K T W c G r { E with nx := tD K T W g E } := by
  cases r with
  | ok o st =>
    cases o with
    | nx => exact fun G2 H2 σ2 s2 h2 => ⟨c, G2, st, h2, SOk.mono s2 ok⟩
    | bk => exact ok
    | ct => exact ok
    | rt d => exact ok
    | rtF d => exact ok
  | err e st => exact ok
  | stuck => exact ok
/-! ### stores -/
theorem Holds.putVal (h : Holds K T c G H σ st) {v : V} {d : D} (r : Rep K T c.B G v d) (i : Nat) : Holds K T c G H (σ.set i (some v)) (st.put i (.val d)) where
  sub0 := h.sub0
  sub := h.sub
  new := h.new
  frame := h.frame
  len := by show (σ.set i _).length = (st.env.set i _).length; rw [List.length_set, List.length_set]; exact h.len
  slot := fun j s q => by
    have q' : (st.env.set i (.val d))[j]? = some s := q
    by_cases w : i = j
    · subst w
      by_cases hi : i < st.env.length
      · rw [List.getElem?_set_self hi] at q'
        cases q'
        exact ⟨v, List.getElem?_set_self (by rw [h.len]; exact hi), r⟩
      · rw [List.getElem?_eq_none (by rw [List.length_set]; omega)] at q'; cases q'
    · rw [List.getElem?_set_ne w] at q'
      rw [List.getElem?_set_ne w]
      exact h.slot j s q'
  dist := fun j k p ds es q1 q2 e1 e2 => by
    have q1' : (st.env.set i (.val d))[j]? = _ := q1
    have q2' : (st.env.set i (.val d))[k]? = _ := q2
    have nj : i ≠ j := fun w => by
      subst w
      by_cases hi : i < st.env.length
      · rw [List.getElem?_set_self hi] at q1'; cases q1'
      · rw [List.getElem?_eq_none (by rw [List.length_set]; omega)] at q1'; cases q1'
    have nk : i ≠ k := fun w => by
      subst w
      by_cases hi : i < st.env.length
      · rw [List.getElem?_set_self hi] at q2'; cases q2'
      · rw [List.getElem?_eq_none (by rw [List.length_set]; omega)] at q2'; cases q2'
    rw [List.getElem?_set_ne nj] at q1' e1
    rw [List.getElem?_set_ne nk] at q2' e2
    exact h.dist j k p ds es q1' q2' e1 e2
  box := h.box
  box0 := h.box0
theorem Holds.putOwn (h : Holds K T c G H σ st) {v : V} {ds : List D} (r : relF K T c G H σ st v ds) (i : Nat) : Holds K T c G H (σ.set i (some v)) (st.put i (.own ds)) := by
  obtain ⟨p, vs, rfl, hp, g, z, rs, nd⟩ := r
  exact {
    sub0 := h.sub0
    sub := h.sub
    new := h.new
    frame := h.frame
    len := by show (σ.set i _).length = (st.env.set i _).length; rw [List.length_set, List.length_set]; exact h.len
    slot := fun j s q => by
      have q' : (st.env.set i (.own ds))[j]? = some s := q
      by_cases w : i = j
      · subst w
        by_cases hi : i < st.env.length
        · rw [List.getElem?_set_self hi] at q'
          cases q'
          exact ⟨p, vs, List.getElem?_set_self (by rw [h.len]; exact hi), hp, g, z, rs⟩
        · rw [List.getElem?_eq_none (by rw [List.length_set]; omega)] at q'; cases q'
      · rw [List.getElem?_set_ne w] at q'
        rw [List.getElem?_set_ne w]
        exact h.slot j s q'
    dist := fun j k p2 ds2 es q1 q2 e1 e2 => by
      have q1' : (st.env.set i (.own ds))[j]? = _ := q1
      have q2' : (st.env.set i (.own ds))[k]? = _ := q2
      have big : ∀ j : Nat, i = j → ∀ x, (st.env.set i (.own ds))[j]? = some x → i < st.env.length := fun j w x q => by
        subst w
        have := (List.getElem?_eq_some_iff.mp q).1
        rw [List.length_set] at this; exact this
      by_cases wj : i = j
      · by_cases wk : i = k
        · exact wj.symm.trans wk
        · have hi := big j wj _ q1'
          subst wj
          rw [List.getElem?_set_self (by rw [h.len]; exact hi)] at e1
          cases e1
          rw [List.getElem?_set_ne wk] at q2' e2
          exact absurd e2 (nd k es q2')
      · by_cases wk : i = k
        · have hi := big k wk _ q2'
          subst wk
          rw [List.getElem?_set_self (by rw [h.len]; exact hi)] at e2
          cases e2
          rw [List.getElem?_set_ne wj] at q1' e1
          exact absurd e1 (nd j ds2 q1')
        · rw [List.getElem?_set_ne wj] at q1' e1
          rw [List.getElem?_set_ne wk] at q2' e2
          exact h.dist j k p2 ds2 es q1' q2' e1 e2
    box := h.box
    box0 := h.box0 }
/-- an own list changes -/
theorem Holds.setOwn (h : Holds K T c G H σ st) {i : Nat} {ds es : List D} {p : Addr} {vs : List V} (e : st.env[i]? = some (.own ds)) (e1 : σ[i]? = some (some (.ref p))) (r : Reps K T c.B G vs es) :
    Holds K T c G (upd H p (.lst vs)) σ (st.put i (.own es)) := by
  obtain ⟨p2, vs2, f1, hp, g, z, rs⟩ := h.slot i _ e
  rw [e1] at f1
  cases f1
  have hi : i < st.env.length := (List.getElem?_eq_some_iff.mp e).1
  exact {
    sub0 := h.sub0
    sub := fun a o q => by
      have ne : a ≠ p := fun w => by subst w; rw [g] at q; cases q
      rw [upd_ne ne]; exact h.sub _ _ q
    new := h.new
    frame := fun a o q b => by
      have ne : a ≠ p := fun w => by subst w; rw [z] at q; cases q
      rw [upd_ne ne]; exact h.frame a o q b
    len := by show _ = (st.env.set i _).length; rw [List.length_set]; exact h.len
    slot := fun j s q => by
      have q' : (st.env.set i (.own es))[j]? = some s := q
      by_cases w : i = j
      · subst w
        rw [List.getElem?_set_self hi] at q'
        cases q'
        exact ⟨p, vs, e1, upd_same, g, z, r⟩
      · rw [List.getElem?_set_ne w] at q'
        have o := h.slot j s q'
        cases s with
        | un => trivial
        | val d => exact o
        | own es2 =>
          obtain ⟨p3, vs3, a1, a2, a3, a4, a5⟩ := o
          have ne : p3 ≠ p := fun t => by subst t; exact w (h.dist i j p3 ds es2 e q' e1 a1)
          exact ⟨p3, vs3, a1, by rw [upd_ne ne]; exact a2, a3, a4, a5⟩
    dist := fun j k p3 ds3 es3 q1 q2 a1 a2 => by
      have own : ∀ (j : Nat) (x : List D), (st.put i (.own es)).env[j]? = some (.own x) → ∃ y, st.env[j]? = some (.own y) := fun j x q => by
        have q' : (st.env.set i (.own es))[j]? = some (.own x) := q
        by_cases w : i = j
        · subst w; exact ⟨_, e⟩
        · rw [List.getElem?_set_ne w] at q'; exact ⟨x, q'⟩
      obtain ⟨y1, b1⟩ := own j ds3 q1
      obtain ⟨y2, b2⟩ := own k es3 q2
      exact h.dist j k p3 y1 y2 b1 b2 a1 a2
    box := fun b q => by
      obtain ⟨x, y⟩ := h.box b q
      have ne : b ≠ p := fun t => by subst t; exact h.box0 b q z
      exact ⟨by rw [upd_ne ne]; exact x, y⟩
    box0 := h.box0 }
/-- the box changes -/
theorem Holds.setBox (h : Holds K T c G H σ st) {p : Addr} (e : c.B = some p) (b : Bx) : Holds K T c G (upd H p (boxO b)) σ { st with bx := b } where
  sub0 := h.sub0
  sub := fun a o q => by
    have ne : a ≠ p := fun w => by subst w; rw [(h.box a e).2] at q; cases q
    rw [upd_ne ne]; exact h.sub _ _ q
  new := h.new
  frame := fun a o q n => by
    have ne : a ≠ p := fun w => by subst w; exact n e
    rw [upd_ne ne]; exact h.frame a o q n
  len := h.len
  slot := fun j s q => by
    have o := h.slot j s q
    cases s with
    | un => trivial
    | val d => exact o
    | own es =>
      obtain ⟨p3, vs3, a1, a2, a3, a4, a5⟩ := o
      have ne : p3 ≠ p := fun t => by subst t; exact h.box0 p3 e a4
      exact ⟨p3, vs3, a1, by rw [upd_ne ne]; exact a2, a3, a4, a5⟩
  dist := h.dist
  box := fun q w => by
    rw [e] at w
    cases w
    exact ⟨upd_same, (h.box p e).2⟩
  box0 := h.box0
end
section
variable {X : Cx} {T : Tab} {W : WX}
/-! ### blocks -/
def dNext : S → R Out := fun st => .ok .nx st
def dSeq (f g : S → R Out) : S → R Out := fun st => oBind (f st) g
theorem dss_nil : DSs X T W [] dNext := impSs pss_nil fun E σ H ⟨c, G, st, hd, ok⟩ => ok _ _ _ (Same.refl _) hd
theorem dss_cons {s : Stmt} {rest : List Stmt} {f g : S → R Out} (h1 : DS X T W s f) (h2 : DSs X T W rest g) : DSs X T W (s :: rest) (dSeq f g) := impSs (pss_cons h1 h2) fun E σ H ⟨c, G, st, hd, ok⟩ => ⟨c, G, st, hd, SOk.seq ok⟩
theorem dss_one {s : Stmt} {f : S → R Out} (h : DS X T W s f) : DSs X T W [s] f := pss_one h
theorem ds_pass {pos : Pos} : DS X T W (.Pass pos) dNext := impS ps_pass fun E σ H ⟨c, G, st, hd, ok⟩ => ok _ _ _ (Same.refl _) hd
def dBreak : S → R Out := fun st => .ok .bk st
def dCont : S → R Out := fun st => .ok .ct st
theorem ds_break {pos : Pos} : DS X T W (.Break pos) dBreak := impS ps_break fun E σ H ⟨c, G, st, hd, ok⟩ => ok _ _ _ (Same.refl _) hd
theorem ds_cont {pos : Pos} : DS X T W (.Continue pos) dCont := impS ps_continue fun E σ H ⟨c, G, st, hd, ok⟩ => ok _ _ _ (Same.refl _) hd
theorem ds_doc {x : Str} {j : Nat} {pos pos' : Pos} : DS X T W (.Expr (.Constant (.str x) j pos) pos') dNext := impS ps_doc fun E σ H ⟨c, G, st, hd, ok⟩ => ok _ _ _ (Same.refl _) hd
def dDrop (f : S → R D) : S → R Out := fun st => (f st).bind fun _ st => .ok .nx st
theorem ds_expr {e : Expr} {f : S → R D} {pos : Pos} (he : DE X T W e f) (hs : swapsWith e none pos.line X.env = pure false := by rfl) : DS X T W (.Expr e pos) (dDrop f) := impS (ps_expr he hs) fun E σ H ⟨c, G, st, hd, ok⟩ => by
  obtain ⟨c0, G0, st0, hd0, ok0⟩ := stepS (rel := relD X.K T) hd ok
  exact ⟨c0, G0, st0, hd0, ok0.imp fun x H1 ⟨G1, st1, a, s1, hd1, r1, ok1⟩ => ok1 _ _ _ (Same.refl _) hd1⟩
def dRet (f : S → R D) : S → R Out := fun st => (f st).bind fun d st => .ok (.rt d) st
theorem ds_ret {e : Expr} {f : S → R D} {pos : Pos} (he : DE X T W e f) : DS X T W (.Return (some e) pos) (dRet f) := impS (ps_ret he) fun E σ H ⟨c, G, st, hd, ok⟩ => by
  obtain ⟨c0, G0, st0, hd0, ok0⟩ := stepS (rel := relD X.K T) hd ok
  exact ⟨c0, G0, st0, hd0, ok0.imp fun x H1 ⟨G1, st1, a, s1, hd1, r1, ok1⟩ => ok1 _ _ _ _ (Same.refl _) hd1 r1⟩
def dRetF (f : S → R (List D)) : S → R Out := fun st => (f st).bind fun ds st => .ok (.rtF ds) st
theorem ds_retF {e : Expr} {f : S → R (List D)} {pos : Pos} (he : DF X T W e f) : DS X T W (.Return (some e) pos) (dRetF f) := impS (ps_ret he) fun E σ H ⟨c, G, st, hd, ok⟩ => by
  obtain ⟨c0, G0, st0, hd0, ok0⟩ := stepS (rel := relF X.K T) hd ok
  exact ⟨c0, G0, st0, hd0, ok0.imp fun x H1 ⟨G1, st1, a, s1, hd1, r1, ok1⟩ => ok1 _ _ _ _ (Same.refl _) hd1 r1⟩
theorem ds_retN {pos : Pos} : DS X T W (.Return none pos) (dRet (dC .non)) := impS ps_retN fun E σ H ⟨c, G, st, hd, ok⟩ => ok _ _ _ _ (Same.refl _) hd .non
def dIf (t : S → R Bool) (f g : S → R Out) : S → R Out := fun st => (t st).bind fun k st => if k = true then f st else g st
theorem ds_if {e : Expr} {a b : List Stmt} {t : S → R Bool} {f g : S → R Out} {pos : Pos} (ht : DT X T W e t) (ha : DSs X T W a f) (hb : DSs X T W b g) : DS X T W (.If e a b pos) (dIf t f g) := impS (ps_if ht ha hb) fun E σ H ⟨c, G, st, hd, ok⟩ => by
  obtain ⟨c0, G0, st0, hd0, ok0⟩ := stepS (rel := relB) hd ok
  refine ⟨c0, G0, st0, hd0, ok0.imp fun k H1 ⟨G1, st1, a, s1, hd1, r1, ok1⟩ => ?_⟩
  cases r1
  cases k with
  | true => rw [if_pos rfl] at ok1 ⊢; exact ⟨_, G1, st1, hd1, ok1⟩
  | false => rw [if_neg Bool.false_ne_true] at ok1 ⊢; exact ⟨_, G1, st1, hd1, ok1⟩
def dSet (i : Nat) (f : S → R D) : S → R Out := fun st => (f st).bind fun d st => .ok .nx (st.put i (.val d))
def dOwn (i : Nat) (f : S → R (List D)) : S → R Out := fun st => (f st).bind fun ds st => .ok .nx (st.put i (.own ds))
theorem ds_set {i : Nat} {x : Str} {e : Expr} {f : S → R D} {pos pos' : Pos} (hN : X.N.Nodup) (hi : X.N[i]? = some x) (hx : Loc X.env.scope x) (he : DE X T W e f) (hs : swapsWith e (some (.Name x pos')) pos.line X.env = pure false := by rfl)
    (hf : X.fn x = true ∨ X.env.scope.names.lookup x = some .local := by first | exact .inl rfl | exact .inr rfl | assumption) : DS X T W (.Assign [.Name x pos'] e pos) (dSet i f) := impS (ps_set hN hi hx he hs hf) fun E σ H ⟨c, G, st, hd, ok⟩ => by
  obtain ⟨c0, G0, st0, hd0, ok0⟩ := stepS (rel := relD X.K T) hd ok
  exact ⟨c0, G0, st0, hd0, ok0.imp fun x H1 ⟨G1, st1, a, s1, hd1, r1, ok1⟩ => ok1 _ _ _ (Same.refl _) (hd1.putVal r1 i)⟩
theorem ds_own {i : Nat} {x : Str} {e : Expr} {f : S → R (List D)} {pos pos' : Pos} (hN : X.N.Nodup) (hi : X.N[i]? = some x) (hx : Loc X.env.scope x) (he : DF X T W e f) (hs : swapsWith e (some (.Name x pos')) pos.line X.env = pure false := by rfl)
    (hf : X.fn x = true ∨ X.env.scope.names.lookup x = some .local := by first | exact .inl rfl | exact .inr rfl | assumption) : DS X T W (.Assign [.Name x pos'] e pos) (dOwn i f) := impS (ps_set hN hi hx he hs hf) fun E σ H ⟨c, G, st, hd, ok⟩ => by
  obtain ⟨c0, G0, st0, hd0, ok0⟩ := stepS (rel := relF X.K T) hd ok
  exact ⟨c0, G0, st0, hd0, ok0.imp fun x H1 ⟨G1, st1, a, s1, hd1, r1, ok1⟩ => ok1 _ _ _ (Same.refl _) (hd1.putOwn r1 i)⟩
/-- x.append(e), x one's own list -/
def dApp (i : Nat) (f : S → R D) : S → R Out := fun st => match st.env[i]? with
  | some (.own _) => (f st).bind fun d st => match st.env[i]? with
    | some (.own ds) => if ds.length < 16777216 then .ok .nx (st.put i (.own (ds ++ [d]))) else .stuck
    | _ => .stuck
  | _ => .stuck
theorem ds_append {i : Nat} {o e : Expr} {f : S → R D} {pos apos cpos : Pos} (ho : PE X o (tVar i)) (he : DE X T W e f) (hn : starEach [e] X.env = (false, eval e X.env) :: starEach [] X.env := by rfl)
    (hp : PS X (.Expr (.Call (.Attribute o "append" apos) [e] [] cpos) pos) (tDrop (tBM X.K "list" rAppend (tVar i) (tCons (gD X.K T W (relD X.K T) f) tNil)))) :
    DS X T W (.Expr (.Call (.Attribute o "append" apos) [e] [] cpos) pos) (dApp i f) := impS hp fun E σ H ⟨c, G, st, hd, ok⟩ => by
  unfold dApp at ok
  cases q : st.env[i]? with
  | none => rw [q] at ok; exact ok.elim
  | some s =>
    rw [q] at ok
    cases s with
    | un => exact ok.elim
    | val d => exact ok.elim
    | own ds =>
      obtain ⟨p, vs, e1, e2, g, z, r⟩ := hd.slot i _ q
      refine ⟨.ref p, e1, .inl ⟨rfl, vs, SqL.of e2⟩, ?_⟩
      obtain ⟨c0, G0, st0, hd0, ok0⟩ := stepS (rel := relD X.K T) hd ok
      refine ⟨c0, G0, st0, hd0, ok0.imp fun x H1 ⟨G1, st1, a, s1, hd1, r1, ok1⟩ => ?_⟩
      cases q1 : st1.env[i]? with
      | none => rw [q1] at ok1; exact ok1.elim
      | some s =>
        rw [q1] at ok1
        cases s with
        | un => exact ok1.elim
        | val d => exact ok1.elim
        | own ds1 =>
          obtain ⟨p2, vs2, f1, f2, g2, z2, r2⟩ := hd1.slot i _ q1
          rw [e1] at f1
          cases f1
          dsimp only at ok1
          by_cases w : ds1.length < 16777216
          · rw [if_pos w] at ok1
            exact ⟨p, vs2, x, rfl, rfl, f2, by rw [sizeLine_eq, r2.length]; exact w, ok1 _ _ _ (Same.refl _) (hd1.setOwn q1 e1 (r2.append (.one r1)))⟩
          · rw [if_neg w] at ok1; exact ok1.elim
/-- x[k] = e, x one's own list, or the box -/
def dSetIx (i : Nat) (f g : S → R D) : S → R Out := fun st => (f st).bind fun d st => match st.env[i]? with
  | some (.own _) => (g st).bind fun k st => match st.env[i]?, k with
    | some (.own ds), .int k => match ixN ds.length k with
      | some j => .ok .nx (st.put i (.own (ds.set j d)))
      | none => .stuck
    | _, _ => .stuck
  | some (.val .box) => (g st).bind fun k st => match k, d with
    | .int k, .int n => if k = 0 then .ok .nx { st with bx := (n, st.bx.2.1, st.bx.2.2) } else if k = 1 then .ok .nx { st with bx := (st.bx.1, n, st.bx.2.2) } else if k = 2 then .ok .nx { st with bx := (st.bx.1, st.bx.2.1, n) } else .stuck
    | _, _ => .stuck
  | _ => .stuck
theorem ds_setIx {i : Nat} {o k e : Expr} {f g : S → R D} {pos p1 : Pos} (ho : PE X o (tVar i)) (hk : DE X T W k g) (he : DE X T W e f)
    (hp : PS X (.Assign [.Subscript o k p1] e pos) (tAsg (gD X.K T W (relD X.K T) f) (gSub (tVar i) (gD X.K T W (relD X.K T) g) rSetL))) : DS X T W (.Assign [.Subscript o k p1] e pos) (dSetIx i f g) := impS hp fun E σ H ⟨c, G, st, hd, ok⟩ => by
  obtain ⟨c0, G0, st0, hd0, ok0⟩ := stepS (rel := relD X.K T) hd ok
  refine ⟨c0, G0, st0, hd0, ok0.imp fun x H1 ⟨G1, st1, a, s1, hd1, r1, ok1⟩ => ?_⟩
  cases q : st1.env[i]? with
  | none => rw [q] at ok1; exact ok1.elim
  | some s =>
    rw [q] at ok1
    cases s with
    | un => exact ok1.elim
    | own ds =>
      obtain ⟨p, vs, e1, e2, gg, z, r⟩ := hd1.slot i _ q
      refine ⟨.ref p, e1, ?_⟩
      obtain ⟨c2, G2, st2, hd2, ok2⟩ := stepS (rel := relD X.K T) hd1 ok1
      refine ⟨c2, G2, st2, hd2, ok2.imp fun y H2 ⟨G3, st3, b, s3, hd3, r3, ok3⟩ => ?_⟩
      cases q1 : st3.env[i]? with
      | none => rw [q1] at ok3; exact ok3.elim
      | some s =>
        rw [q1] at ok3
        cases s with
        | un => exact ok3.elim
        | val d => exact ok3.elim
        | own ds1 =>
          obtain ⟨p2, vs2, f1, f2, g2, z2, r2⟩ := hd3.slot i _ q1
          rw [e1] at f1
          cases f1
          cases r3 with
          | int kk =>
            dsimp only at ok3
            cases w : ixN ds1.length kk with
            | none => rw [w] at ok3; exact ok3.elim
            | some j =>
              rw [w] at ok3
              exact ⟨p, vs2, kk, j, rfl, rfl, f2, by rw [r2.length]; exact w, ok3 _ _ _ (Same.refl _) (hd3.setOwn q1 e1 (r2.set (r1.mono s3) j))⟩
          | _ => exact ok3.elim
    | val d =>
      cases d with
      | box =>
        obtain ⟨v, e1, rb⟩ := hd1.slot i _ q
        cases rb with
        | @box p hb =>
          refine ⟨.ref p, e1, ?_⟩
          obtain ⟨c2, G2, st2, hd2, ok2⟩ := stepS (rel := relD X.K T) hd1 ok1
          refine ⟨c2, G2, st2, hd2, ok2.imp fun y H2 ⟨G3, st3, b, s3, hd3, r3, ok3⟩ => ?_⟩
          have hbx := (hd3.box p hb).1
          cases r3 with
          | int kk =>
            cases r1 with
            | int n =>
              replace ok3 : SOk X.K T W c G3 (if kk = 0 then .ok .nx { st3 with bx := (n, st3.bx.2.1, st3.bx.2.2) } else if kk = 1 then .ok .nx { st3 with bx := (st3.bx.1, n, st3.bx.2.2) } else if kk = 2 then .ok .nx { st3 with bx := (st3.bx.1, st3.bx.2.1, n) } else .stuck) E := ok3
              by_cases k0 : kk = 0
              · subst k0
                rw [if_pos rfl] at ok3
                exact ⟨p, _, 0, 0, rfl, rfl, hbx, rfl, ok3 _ _ _ (Same.refl _) (hd3.setBox hb (n, st3.bx.2.1, st3.bx.2.2))⟩
              · rw [if_neg k0] at ok3
                by_cases k1 : kk = 1
                · subst k1
                  rw [if_pos rfl] at ok3
                  exact ⟨p, _, 1, 1, rfl, rfl, hbx, rfl, ok3 _ _ _ (Same.refl _) (hd3.setBox hb (st3.bx.1, n, st3.bx.2.2))⟩
                · rw [if_neg k1] at ok3
                  by_cases k2 : kk = 2
                  · subst k2
                    rw [if_pos rfl] at ok3
                    exact ⟨p, _, 2, 2, rfl, rfl, hbx, rfl, ok3 _ _ _ (Same.refl _) (hd3.setBox hb (st3.bx.1, st3.bx.2.1, n))⟩
                  · rw [if_neg k2] at ok3; exact ok3.elim
            | _ => exact ok3.elim
          | _ => exact ok3.elim
      | _ => exact ok1.elim
/-! ### targets -/
inductive Tg where
  | nm (i : Nat) | tp (is : List Nat)
def gNames : List Nat → TGs
  | [] => gNil
  | i :: is => gCons (gName i) (gNames is)
def gUn (K : PySem.W.Frag) (n : Nat) (t : TGs) : TG := fun v σ H Q => ∃ a xs, v = .ref a ∧ (SqT K H a xs ∨ SqL K H a xs) ∧ xs.length = n ∧ t xs σ H Q
def tgT (K : PySem.W.Frag) : Tg → TG
  | .nm i => gName i
  | .tp is => gUn K is.length (gNames is)
def DG (X : Cx) (tg : Expr) (k : Tg) : Prop := PG X tg (tgT X.K k)
def putAll : List Nat → List D → S → S
  | i :: is, d :: ds, st => putAll is ds (st.put i (.val d))
  | _, _, st => st
def setAll : List Nat → List V → SV → SV
  | i :: is, v :: vs, σ => setAll is vs (σ.set i (some v))
  | _, _, σ => σ
def tgD : Tg → D → S → R Unit
  | .nm i, d, st => .ok () (st.put i (.val d))
  | .tp is, .tu ds, st => if ds.length = is.length then .ok () (putAll is ds st) else .stuck
  | .tp is, .ls ds, st => if ds.length = is.length then .ok () (putAll is ds st) else .stuck
  | _, _, _ => .stuck
theorem gNames_run {Q : SV → Hp → Prop} : ∀ {is : List Nat} {vs : List V} {σ : SV} {H : Hp}, vs.length = is.length → Q (setAll is vs σ) H → gNames is vs σ H Q
  | [], [], σ, H, _, q => ⟨rfl, q⟩
  | i :: is, v :: vs, σ, H, l, q => ⟨v, vs, rfl, gNames_run (is := is) (vs := vs) (by simpa using l) q⟩
  | [], _ :: _, _, _, l, _ => by simp at l
  | _ :: _, [], _, _, l, _ => by simp at l
theorem Holds.putAll {K : PySem.W.Frag} {c : Ctx} {G H : Hp} : ∀ {is : List Nat} {vs : List V} {ds : List D} {σ : SV} {st : S}, Holds K T c G H σ st → Reps K T c.B G vs ds → Holds K T c G H (setAll is vs σ) (DL.putAll is ds st)
  | [], _, _, _, _, h, _ => h
  | i :: is, _, _, _, _, h, .nil => h
  | i :: is, _, _, _, _, h, .cons r rs => Holds.putAll (is := is) (h.putVal r i) rs
theorem tg_run {K : PySem.W.Frag} {c : Ctx} {G H : Hp} {σ : SV} {st st' : S} {v : V} {d : D} {k : Tg} {Q : SV → Hp → Prop} (hd : Holds K T c G H σ st) (r : Rep K T c.B G v d) (e : tgD k d st = .ok () st') (q : ∀ σ', Holds K T c G H σ' st' → Q σ' H) : tgT K k v σ H Q := by
  cases k with
  | nm i => cases e; exact q _ (hd.putVal r i)
  | tp is =>
    cases r with
    | @tu p vs ds h rs =>
      have e' : (if ds.length = is.length then R.ok () (DL.putAll is ds st) else .stuck) = .ok () st' := e
      by_cases l : ds.length = is.length
      · rw [if_pos l] at e'; cases e'
        exact ⟨p, vs, rfl, .inl (Same.sqt hd.sub h), rs.length.trans l, gNames_run (rs.length.trans l) (q _ (hd.putAll rs))⟩
      · rw [if_neg l] at e'; cases e'
    | @ls p vs ds h rs =>
      have e' : (if ds.length = is.length then R.ok () (DL.putAll is ds st) else .stuck) = .ok () st' := e
      by_cases l : ds.length = is.length
      · rw [if_pos l] at e'; cases e'
        exact ⟨p, vs, rfl, .inr (SqL.of (hd.sub _ _ h)), rs.length.trans l, gNames_run (rs.length.trans l) (q _ (hd.putAll rs))⟩
      · rw [if_neg l] at e'; cases e'
    | _ => cases e
theorem tgD_noerr {k : Tg} {d : D} {st : S} : (∃ st', tgD k d st = .ok () st') ∨ tgD k d st = .stuck := by
  cases k with
  | nm i => exact .inl ⟨_, rfl⟩
  | tp is =>
    cases d <;> first | exact .inr rfl | skip
    all_goals
      rename_i ds
      by_cases l : ds.length = is.length
      · exact .inl ⟨DL.putAll is ds st, if_pos l⟩
      · exact .inr (if_neg l)
theorem dg_name {i : Nat} {x : Str} {pos : Pos} (hN : X.N.Nodup) (hi : X.N[i]? = some x) (hx : Loc X.env.scope x) (hf : X.fn x = true ∨ X.env.scope.names.lookup x = some .local := by first | exact .inl rfl | exact .inr rfl | assumption) : DG X (.Name x pos) (.nm i) := pg_name hN hi hx hf
theorem dg_tup {es : List Expr} {k : Nat} {is : List Nat} {pos : Pos} (h1 : PG X (.Tuple es k pos) (gTup X.K is.length (gNames is))) (h2 : PG X (.Tuple es k pos) (gUnl X.K is.length (gNames is))) : DG X (.Tuple es k pos) (.tp is) :=
  ⟨fun pins s σ H v u Q I r ⟨a, xs, e, hq, l, q⟩ => hq.elim (fun z => h1.run pins s σ H v u Q I r ⟨a, xs, e, z, l, q⟩) fun z => h2.run pins s σ H v u Q I r ⟨a, xs, e, z, l, q⟩⟩
/-- a, b = e -/
def dUnpack (k : Tg) (f : S → R D) : S → R Out := fun st => (f st).bind fun d st => (tgD k d st).bind fun _ st => .ok .nx st
theorem ds_asg {tg e : Expr} {k : Tg} {f : S → R D} {pos : Pos} (he : DE X T W e f) (hg : DG X tg k) (hs : swapsWithSole [tg] e pos.line X.env = pure false := by rfl) (hw : swappedStores [tg] e X.env = pure none := by rfl) (h1 : (assignEach [tg] X.env).map (·.2) = [assign tg X.env] := by rfl) :
    DS X T W (.Assign [tg] e pos) (dUnpack k f) := impS (ps_asg he hg hs hw h1) fun E σ H ⟨c, G, st, hd, ok⟩ => by
  obtain ⟨c0, G0, st0, hd0, ok0⟩ := stepS (rel := relD X.K T) hd ok
  refine ⟨c0, G0, st0, hd0, ok0.imp fun x H1 ⟨G1, st1, a, s1, hd1, r1, ok1⟩ => ?_⟩
  rcases tgD_noerr (k := k) (d := a) (st := st1) with ⟨st2, e2⟩ | e2
  · rw [e2] at ok1
    exact tg_run hd1 r1 e2 fun σ' h => ok1 _ _ _ (Same.refl _) h
  · rw [e2] at ok1; exact ok1.elim
/-! ### for -/
def forD (k : Tg) (b : S → R Out) : List D → S → R Out
  | [], st => .ok .nx st
  | d :: ds, st => (tgD k d st).bind fun _ st => match b st with
    | .ok .nx st => forD k b ds st
    | .ok .ct st => forD k b ds st
    | .ok .bk st => .ok .nx st
    | r => r
def dFor (k : Tg) (i : S → R (List D)) (b : S → R Out) : S → R Out := fun st => (i st).bind fun ds st => forD k b ds st
theorem ds_for {tg iter : Expr} {body : List Stmt} {k : Tg} {i : S → R (List D)} {b : S → R Out} {pos : Pos} (hp : PassesOwn (model X.prog X.w) X.A X.env X.xe) (hc : X.calm = true) (hi : DI X T W tg iter i) (hg : DG X tg k) (hb : DSs X T W body b)
    (hs : ∀ x, foldedSetIterable iter X.env x = pure x := by intro _; rfl) : DS X T W (.For tg iter body [] pos) (dFor k i b) := impS (ps_for hp hc hi hg hb hs) fun E σ H ⟨c, G, st, hd, ok⟩ => by
  obtain ⟨c0, G0, st0, hd0, ok0⟩ := stepS (rel := relI X.K T) hd ok
  refine ⟨c0, G0, st0, hd0, ok0.imp fun J H1 ⟨G1, st1, ds, s1, hd1, r1, ok1⟩ => ?_⟩
  refine ⟨fun i m σ H => m = ds.length - i ∧ i ≤ ds.length ∧ ∃ G' st', Same G1 G' ∧ Holds X.K T c G' H σ st' ∧ SOk X.K T W c G' (forD k b (ds.drop i) st') E, ⟨ds.length, by simp, Nat.zero_le _, G1, st1, Same.refl _, hd1, ok1⟩, ?_⟩
  rintro i m σ H ⟨rfl, hi, G', st', s', hd', ok'⟩
  obtain ⟨rs, rg⟩ := r1 c G' H σ st' rfl s' hd'
  by_cases hlt : i < ds.length
  · have e0 : ds[i]? = some ds[i] := List.getElem?_eq_getElem hlt
    obtain ⟨g1, g2⟩ := rg i _ e0
    have ed : ds.drop i = ds[i] :: ds.drop (i + 1) := List.drop_eq_getElem_cons hlt
    rw [ed] at ok'
    refine .inr ⟨g1, fun σ' H' => ∃ G2 st2, Same G1 G2 ∧ Holds X.K T c G2 H' σ' st2 ∧ SOk X.K T W c G2 (forD k b (ds.drop (i + 1)) st2) E, fun σ' H' ⟨G2, st2, a1, a2, a3⟩ => ⟨ds.length - (i + 1), by omega, rfl, hlt, G2, st2, a1, a2, a3⟩, fun x H' y => ?_⟩
    obtain ⟨G2, s2, s2', hd2, r2⟩ := g2 x H' y
    rcases tgD_noerr (k := k) (d := ds[i]) (st := st') with ⟨st2, e2⟩ | e2
    · have ok2 : SOk X.K T W c G' (match b st2 with | .ok .nx st => forD k b (ds.drop (i + 1)) st | .ok .ct st => forD k b (ds.drop (i + 1)) st | .ok .bk st => .ok .nx st | r => r) E := by
        have := ok'
        unfold forD at this
        rw [e2] at this
        exact this
      refine tg_run hd2 r2 e2 fun σ2 h2 => ⟨c, G2, st2, h2, ?_⟩
      have ok3 := SOk.mono s2 ok2
      revert ok3
      cases b st2 with
      | ok o st3 =>
        cases o with
        | nx => exact fun ok3 G3 H3 σ3 s3 h3 => ⟨G3, st3, (s'.trans s2).trans s3, h3, SOk.mono s3 ok3⟩
        | ct => exact fun ok3 G3 H3 σ3 s3 h3 => ⟨G3, st3, (s'.trans s2).trans s3, h3, SOk.mono s3 ok3⟩
        | bk => exact fun ok3 => ok3
        | rt d => exact fun ok3 => ok3
        | rtF d => exact fun ok3 => ok3
      | err e st => exact fun ok3 => ok3
      | stuck => exact fun ok3 => ok3
    · unfold forD at ok'
      rw [e2] at ok'; exact ok'.elim
  · have e : i = ds.length := by omega
    subst e
    rw [List.drop_length] at ok'
    exact .inl ⟨rs, ok' _ _ _ (Same.refl _) hd'⟩
end
end DL

/-! DLg: comprehensions, pairs of targets, a def's body. -/
namespace DL
open PySem PySem.Spec PyProof.Rows L2
abbrev W0 : WX := fun _ _ _ _ => False
section
variable {K : PySem.W.Frag} {T : Tab} {W : WX} {c : Ctx} {G G' H H' : Hp} {σ σ' : SV} {st : S}
/-! ### a block of its own: as within a call -/
def Sl.hide : Sl → Sl
  | .own _ => .un
  | s => s
def S.hide (st : S) : S := { st with env := st.env.map Sl.hide }
def inner (c : Ctx) (G H : Hp) : Ctx := ⟨c.B, H, G⟩
theorem Holds.enter (h : Holds K T c G H σ st) : Holds K T (inner c G H) G H σ st.hide where
  sub0 := Same.refl _
  sub := h.sub
  new := fun a e n => absurd e n
  frame := fun a o e _ => e
  len := by show _ = (st.env.map Sl.hide).length; rw [List.length_map]; exact h.len
  slot := fun i s e => by
    have e' : (st.env.map Sl.hide)[i]? = some s := e
    rw [List.getElem?_map] at e'
    cases q : st.env[i]? with
    | none => rw [q] at e'; cases e'
    | some s' =>
      rw [q] at e'
      cases e'
      have o := h.slot i s' q
      cases s' with
      | un => trivial
      | val d => exact o
      | own ds => trivial
  dist := fun i j p ds es e1 => by
    have e' : (st.env.map Sl.hide)[i]? = some (.own ds) := e1
    rw [List.getElem?_map] at e'
    cases q : st.env[i]? with
    | none => rw [q] at e'; cases e'
    | some s' => rw [q] at e'; cases s' <;> cases e'
  box := h.box
  box0 := fun p e n => by have := (h.box p e).1; rw [show H p = none from n] at this; cases this
theorem Holds.leave {G' H' : Hp} {σ' : SV} {st' : S} (h : Holds K T c G H σ st) (h' : Holds K T (inner c G H) G' H' σ' st') : Holds K T c G' H' σ { st with bx := st'.bx } :=
  h.after (b := st'.bx) ⟨h'.sub0, h'.sub, h'.new, h'.frame, h'.box⟩
theorem Holds.forget {σ' : SV} {env' : List Sl} (h : Holds K T c G H σ st) (l : σ'.length = σ.length) (l2 : env'.length = st.env.length) (w : ∀ (i : Nat) s, env'[i]? = some s → s = .un ∨ (st.env[i]? = some s ∧ σ'[i]? = σ[i]?)) : Holds K T c G H σ' { st with env := env' } where
  sub0 := h.sub0
  sub := h.sub
  new := h.new
  frame := h.frame
  len := by rw [l, h.len]; exact l2.symm
  slot := fun i s e => by
    rcases w i s e with z | ⟨z1, z2⟩
    · subst z; trivial
    · rw [z2]; exact h.slot i s z1
  dist := fun i j p ds es e1 e2 a1 a2 => by
    rcases w i _ e1 with z | ⟨z1, z2⟩
    · cases z
    · rcases w j _ e2 with y | ⟨y1, y2⟩
      · cases y
      · rw [z2] at a1
        rw [y2] at a2
        exact h.dist i j p ds es z1 y1 a1 a2
  box := h.box
  box0 := h.box0
def wipeS (env : List Sl) : List Nat → List Sl
  | [] => env
  | v :: vs => (wipeS env vs).set v .un
theorem wipeS_length (env : List Sl) : ∀ vs : List Nat, (wipeS env vs).length = env.length
  | [] => rfl
  | v :: vs => by unfold wipeS; rw [List.length_set, wipeS_length env vs]
theorem wipeS_get (env : List Sl) : ∀ (vs : List Nat) (i : Nat) (s : Sl), (wipeS env vs)[i]? = some s → s = .un ∨ (env[i]? = some s ∧ i ∉ vs)
  | [], i, s, e => .inr ⟨e, by simp⟩
  | v :: vs, i, s, e => by
    unfold wipeS at e
    by_cases q : v = i
    · subst q
      by_cases l : v < (wipeS env vs).length
      · rw [List.getElem?_set_self l] at e; exact .inl (Option.some.inj e).symm
      · rw [List.getElem?_eq_none (by rw [List.length_set]; omega)] at e; cases e
    · rw [List.getElem?_set_ne q] at e
      rcases wipeS_get env vs i s e with z | ⟨z1, z2⟩
      · exact .inl z
      · exact .inr ⟨z1, by simp only [List.mem_cons, not_or]; exact ⟨fun y => q y.symm, z2⟩⟩
theorem Holds.wiped (h : Holds K T c G H σ st) (vs : List Nat) : Holds K T c G H (wipe σ vs) { st with env := wipeS st.env vs } :=
  h.forget (wipe_length σ vs) (wipeS_length _ vs) fun i s e => by
    rcases wipeS_get _ vs i s e with z | ⟨z1, z2⟩
    · exact .inl z
    · exact .inr ⟨z1, wipe_out z2⟩
/-- a list that nobody knows changes -/
theorem Holds.poke (h : Holds K T c G H σ st) {p : Addr} {vs : List V} {o : HO} (hp : H p = some (.lst vs)) (g : G p = none) (z : c.H0 p = none) (nd : ∀ (i : Nat) (es : List D), st.env[i]? = some (.own es) → σ[i]? ≠ some (some (.ref p))) : Holds K T c G (upd H p o) σ st where
  sub0 := h.sub0
  sub := fun a u q => by
    have ne : a ≠ p := fun w => by subst w; rw [g] at q; cases q
    rw [upd_ne ne]; exact h.sub _ _ q
  new := h.new
  frame := fun a u q b => by
    have ne : a ≠ p := fun w => by subst w; rw [z] at q; cases q
    rw [upd_ne ne]; exact h.frame a u q b
  len := h.len
  slot := fun j s q => by
    have u := h.slot j s q
    cases s with
    | un => trivial
    | val d => exact u
    | own es =>
      obtain ⟨p3, vs3, a1, a2, a3, a4, a5⟩ := u
      have ne : p3 ≠ p := fun t => by subst t; exact nd j es q a1
      exact ⟨p3, vs3, a1, by rw [upd_ne ne]; exact a2, a3, a4, a5⟩
  dist := h.dist
  box := fun b q => by
    obtain ⟨x, y⟩ := h.box b q
    have ne : b ≠ p := fun t => by subst t; exact h.box0 b q z
    exact ⟨by rw [upd_ne ne]; exact x, y⟩
  box0 := h.box0
end
/-- one turn's value: none where the test says no -/
def turnD (k : Tg) (vs : List Nat) (t : S → R Bool) (e : S → R D) (d : D) (st : S) : R (Option D) :=
  (tgD k d { st.hide with env := wipeS st.hide.env vs }).bind fun _ s2 => (t s2).bind fun b s3 => if b = true then (e s3).bind fun y s4 => .ok (some y) s4 else .ok none s3
def compD (k : Tg) (vs : List Nat) (t : S → R Bool) (e : S → R D) : List D → List D → S → R (List D)
  | [], acc, st => .ok acc st
  | d :: ds, acc, st => match turnD k vs t e d st with
    | .ok (some y) s => if acc.length < 16777216 then compD k vs t e ds (acc ++ [y]) { st with bx := s.bx } else .stuck
    | .ok none s => compD k vs t e ds acc { st with bx := s.bx }
    | _ => .stuck
def dComp (k : Tg) (vs : List Nat) (i : S → R (List D)) (t : S → R Bool) (e : S → R D) : S → R (List D) := fun st => (i st).bind fun ds st => compD k vs t e ds [] st
def tgIn (vs : List Nat) : Tg → Prop
  | .nm i => i ∈ vs
  | .tp is => ∀ i ∈ is, i ∈ vs
instance (vs : List Nat) (k : Tg) : Decidable (tgIn vs k) := match k with
  | .nm i => inferInstanceAs (Decidable (i ∈ vs))
  | .tp is => inferInstanceAs (Decidable (∀ i ∈ is, i ∈ vs))
section
variable {X : Cx} {T : Tab}
def DTs (X : Cx) (T : Tab) (ifs : List Expr) (f : S → R Bool) : Prop := PTs X ifs (gD X.K T W0 relB f)
def dYes : S → R Bool := fun st => .ok true st
theorem dts_nil : DTs X T [] dYes := ⟨fun pins s σ H Q I ⟨c, G, st, hd, ok⟩ => pts_nil.run pins s σ H Q I (ok _ _ _ (Same.refl _) hd rfl)⟩
theorem dts_one {e : Expr} {f : S → R Bool} (h : DT X T W0 e f) : DTs X T [e] f := ⟨fun pins s σ H Q I q => (pts_one h).run pins s σ H Q I q⟩
theorem wipe_set {σ : SV} {i : Nat} {v : Option V} : ∀ {vs : List Nat}, i ∈ vs → wipe (σ.set i v) vs = wipe σ vs
  | [], h => by simp at h
  | w :: vs, h => by
    unfold wipe
    by_cases q : i = w
    · subst q
      by_cases m : i ∈ vs
      · rw [wipe_set m]
      · rw [wipe_set_out m, List.set_set]
    · have m : i ∈ vs := by rcases List.mem_cons.mp h with z | z; exact absurd z q; exact z
      rw [wipe_set m]
where
  wipe_set_out {σ : SV} {i : Nat} {v : Option V} : ∀ {vs : List Nat}, i ∉ vs → wipe (σ.set i v) vs = (wipe σ vs).set i v
  | [], _ => rfl
  | w :: vs, h => by
    unfold wipe
    have h1 : i ≠ w := fun z => h (by simp [z])
    have h2 : i ∉ vs := fun z => h (by simp [z])
    rw [wipe_set_out h2, List.set_comm _ _ h1]
theorem wipe_setAll {vs : List Nat} : ∀ {is : List Nat} {ws : List V} {σ : SV}, (∀ i ∈ is, i ∈ vs) → wipe (setAll is ws σ) vs = wipe σ vs
  | [], _, _, _ => rfl
  | _ :: _, [], _, _ => rfl
  | i :: is, w :: ws, σ, h => by
    show wipe (setAll is ws (σ.set i (some w))) vs = _
    rw [wipe_setAll (is := is) (ws := ws) fun j hj => h j (List.mem_cons_of_mem _ hj), wipe_set (h i List.mem_cons_self)]
theorem wipe_wipe {σ : SV} {i : Nat} : ∀ {vs : List Nat} {ws : List Nat}, (∀ v ∈ ws, v ∈ vs) → wipe (wipe σ ws) vs = wipe σ vs
  | vs, [], _ => rfl
  | vs, w :: ws, h => by
    show wipe ((wipe σ ws).set w none) vs = _
    rw [wipe_set (h w List.mem_cons_self), wipe_wipe (i := i) fun v hv => h v (List.mem_cons_of_mem _ hv)]
theorem tg_run2 {K : PySem.W.Frag} {c : Ctx} {G H : Hp} {σ : SV} {st st' : S} {v : V} {d : D} {k : Tg} {vs : List Nat} {Q : SV → Hp → Prop} (hk : tgIn vs k) (hd : Holds K T c G H σ st) (r : Rep K T c.B G v d) (e : tgD k d st = .ok () st') (q : ∀ σ', wipe σ' vs = wipe σ vs → Holds K T c G H σ' st' → Q σ' H) : tgT K k v σ H Q := by
  cases k with
  | nm i => cases e; exact q _ (wipe_set hk) (hd.putVal r i)
  | tp is =>
    cases r with
    | @tu p ws ds h rs =>
      have e' : (if ds.length = is.length then R.ok () (DL.putAll is ds st) else .stuck) = .ok () st' := e
      by_cases l : ds.length = is.length
      · rw [if_pos l] at e'; cases e'
        exact ⟨p, ws, rfl, .inl (Same.sqt hd.sub h), rs.length.trans l, gNames_run (rs.length.trans l) (q _ (wipe_setAll hk) (hd.putAll rs))⟩
      · rw [if_neg l] at e'; cases e'
    | @ls p ws ds h rs =>
      have e' : (if ds.length = is.length then R.ok () (DL.putAll is ds st) else .stuck) = .ok () st' := e
      by_cases l : ds.length = is.length
      · rw [if_pos l] at e'; cases e'
        exact ⟨p, ws, rfl, .inr (SqL.of (hd.sub _ _ h)), rs.length.trans l, gNames_run (rs.length.trans l) (q _ (wipe_setAll hk) (hd.putAll rs))⟩
      · rw [if_neg l] at e'; cases e'
    | _ => cases e
/-- the reading of a comprehension -/
theorem comp_read {W : WX} {k : Tg} {vs : List Nat} {i : S → R (List D)} {t : S → R Bool} {e : S → R D} (hk : tgIn vs k) : ∀ σ H Q, gD X.K T W (relF X.K T) (dComp k vs i t e) σ H Q → tLc (gD X.K T W (relI X.K T) i) (tgT X.K k) (gD X.K T W0 relB t) (gD X.K T W0 (relD X.K T) e) vs σ H Q := by
  intro σ H Q ⟨c, G, st, hd, ok⟩
  obtain ⟨c0, G0, st0, hd0, ok0⟩ := step (rel := relI X.K T) hd ok
  refine ⟨c0, G0, st0, hd0, ok0.imp fun J H1 ⟨G1, st1, ds, s1, hd1, r1, ok1⟩ => ?_⟩
  intro L hL
  obtain ⟨hf, rf⟩ := hd1.fresh hL (.nil)
  -- the invariant
  refine ⟨fun j m H => m = ds.length - j ∧ j ≤ ds.length ∧ ∃ G' b acc, Same G1 G' ∧ Holds X.K T c G' H σ { st1 with bx := b } ∧ relF X.K T c G' H σ { st1 with bx := b } (.ref L) acc ∧ GOk X.K T W (relF X.K T) c G' σ (compD k vs t e (ds.drop j) acc { st1 with bx := b }) Q,
    ⟨ds.length, by simp, Nat.zero_le _, G1, st1.bx, [], Same.refl _, hf, rf, ok1⟩, ?_⟩
  rintro j m H2 ⟨rfl, hj, G', b, acc, s', hd', rf', ok'⟩
  obtain ⟨rs, rg⟩ := r1 (inner c G' H2) G' H2 σ ({ st1 with bx := b } : S).hide rfl s' hd'.enter
  by_cases hlt : j < ds.length
  · have e0 : ds[j]? = some ds[j] := List.getElem?_eq_getElem hlt
    obtain ⟨g1, g2⟩ := rg j _ e0
    have ed : ds.drop j = ds[j] :: ds.drop (j + 1) := List.drop_eq_getElem_cons hlt
    rw [ed] at ok'
    refine .inr ⟨g1, fun H' => ∃ G' b acc, Same G1 G' ∧ Holds X.K T c G' H' σ { st1 with bx := b } ∧ relF X.K T c G' H' σ { st1 with bx := b } (.ref L) acc ∧ GOk X.K T W (relF X.K T) c G' σ (compD k vs t e (ds.drop (j + 1)) acc { st1 with bx := b }) Q,
      fun H' ⟨Ga, ba, acca, a1, a2, a3, a4⟩ => ⟨ds.length - (j + 1), by omega, rfl, hlt, Ga, ba, acca, a1, a2, a3, a4⟩, fun x H' y => ?_⟩
    obtain ⟨G2, s2, s2', hd2, r2⟩ := g2 x H' y
    have hw := hd2.wiped vs
    -- what the turn gives
    obtain ⟨p0, ws, eL, hL2, gL, zL, rL, ndL⟩ := rf'
    cases eL
    -- behind the turn
    have back : ∀ {G3 H3 : Hp} {σ3 : SV} {s3 : S}, Same G2 G3 → Holds X.K T (inner c G' H2) G3 H3 σ3 s3 → Holds X.K T c G3 H3 σ { st1 with bx := s3.bx } ∧ H3 L = some (.lst ws) ∧ G3 L = none ∧ Reps X.K T c.B G3 ws acc := fun {G3 H3 σ3 s3} s3s h3 => by
      refine ⟨hd'.leave h3, h3.frame L _ hL2 (fun q => hd'.box0 L q zL), ?_, rL.mono (s2.trans s3s)⟩
      cases q : G3 L with
      | none => rfl
      | some o =>
        have z : H2 L = none := h3.new L gL (by rw [q]; exact fun z => by cases z)
        rw [hL2] at z; cases z
    have turnok : (∃ y s, turnD k vs t e ds[j] { st1 with bx := b } = .ok (some y) s ∧ acc.length < 16777216 ∧ GOk X.K T W (relF X.K T) c G' σ (compD k vs t e (ds.drop (j + 1)) (acc ++ [y]) { st1 with bx := s.bx }) Q) ∨
        (∃ s, turnD k vs t e ds[j] { st1 with bx := b } = .ok none s ∧ GOk X.K T W (relF X.K T) c G' σ (compD k vs t e (ds.drop (j + 1)) acc { st1 with bx := s.bx }) Q) := by
      have ok2 := ok'
      unfold compD at ok2
      revert ok2
      cases turnD k vs t e ds[j] { st1 with bx := b } with
      | ok o s =>
        cases o with
        | none => exact fun ok2 => .inr ⟨s, rfl, ok2⟩
        | some y =>
          intro ok2
          dsimp only at ok2
          by_cases q : acc.length < 16777216
          · rw [if_pos q] at ok2; exact .inl ⟨y, s, rfl, q, ok2⟩
          · rw [if_neg q] at ok2; exact ok2.elim
      | err er s => exact fun ok2 => ok2.elim
      | stuck => exact fun ok2 => ok2.elim
    rcases tgD_noerr (k := k) (d := ds[j]) (st := { ({ st1 with bx := b } : S).hide with env := wipeS ({ st1 with bx := b } : S).hide.env vs }) with ⟨st2, e2⟩ | e2
    rotate_left
    · exfalso
      rcases turnok with ⟨y, s, q, _⟩ | ⟨s, q, _⟩
      · unfold turnD at q; rw [e2] at q; cases q
      · unfold turnD at q; rw [e2] at q; cases q
    refine tg_run2 hk hw r2 e2 fun σ2 hσ h2 => ⟨hσ.trans (wipe_wipe (i := 0) fun v hv => hv), ?_⟩
    refine ⟨inner c G' H2, G2, st2, h2, ?_⟩
    unfold turnD at turnok
    rw [e2] at turnok
    replace turnok : (∃ y s, ((t st2).bind fun b s3 => if b = true then (e s3).bind fun y s4 => R.ok (some y) s4 else .ok none s3) = .ok (some y) s ∧ acc.length < 16777216 ∧ GOk X.K T W (relF X.K T) c G' σ (compD k vs t e (ds.drop (j + 1)) (acc ++ [y]) { st1 with bx := s.bx }) Q) ∨
        (∃ s, ((t st2).bind fun b s3 => if b = true then (e s3).bind fun y s4 => R.ok (some y) s4 else .ok none s3) = .ok none s ∧ GOk X.K T W (relF X.K T) c G' σ (compD k vs t e (ds.drop (j + 1)) acc { st1 with bx := s.bx }) Q) := turnok
    cases ht : t st2 with
    | stuck => rw [ht] at turnok; rcases turnok with ⟨_, _, q, _⟩ | ⟨_, q, _⟩ <;> cases q
    | err _ _ => rw [ht] at turnok; rcases turnok with ⟨_, _, q, _⟩ | ⟨_, q, _⟩ <;> cases q
    | ok bb s3 =>
      rw [ht] at turnok
      replace turnok : (∃ y s, (if bb = true then (e s3).bind fun y s4 => R.ok (some y) s4 else .ok none s3) = .ok (some y) s ∧ acc.length < 16777216 ∧ GOk X.K T W (relF X.K T) c G' σ (compD k vs t e (ds.drop (j + 1)) (acc ++ [y]) { st1 with bx := s.bx }) Q) ∨
        (∃ s, (if bb = true then (e s3).bind fun y s4 => R.ok (some y) s4 else .ok none s3) = .ok none s ∧ GOk X.K T W (relF X.K T) c G' σ (compD k vs t e (ds.drop (j + 1)) acc { st1 with bx := s.bx }) Q) := turnok
      intro G3 H3 v s3s h3 ev
      cases ev
      cases bb with
      | false =>
        rw [if_neg Bool.false_ne_true] at turnok ⊢
        rcases turnok with ⟨_, _, q, _⟩ | ⟨s, q, ok3⟩
        · cases q
        · cases q
          obtain ⟨b1, b2, b3, b4⟩ := back s3s h3
          exact ⟨G3, s3.bx, acc, (s'.trans s2).trans s3s, b1, ⟨L, ws, rfl, b2, b3, zL, b4, ndL⟩, GOk.mono (s2.trans s3s) ok3⟩
      | true =>
        rw [if_pos rfl] at turnok ⊢
        refine ⟨inner c G' H2, G3, s3, h3, ?_⟩
        cases he : e s3 with
        | stuck => rw [he] at turnok; rcases turnok with ⟨_, _, q, _⟩ | ⟨_, q, _⟩ <;> cases q
        | err _ _ => rw [he] at turnok; rcases turnok with ⟨_, _, q, _⟩ | ⟨_, q, _⟩ <;> cases q
        | ok y s4 =>
          rw [he] at turnok
          intro G4 H4 v s4s h4 rv
          obtain ⟨b1, b2, b3, b4⟩ := back (s3s.trans s4s) h4
          rcases turnok with ⟨y', s, q, la, ok3⟩ | ⟨_, q, _⟩
          · cases q
            refine ⟨ws, b2, by rw [sizeLine_eq, b4.length]; exact la, G4, s4.bx, acc ++ [y], ((s'.trans s2).trans s3s).trans s4s, b1.poke b2 b3 zL ndL, ⟨L, _, rfl, upd_same, b3, zL, b4.append (.one rv), ndL⟩, GOk.mono ((s2.trans s3s).trans s4s) ok3⟩
          · cases q
  · have ej : j = ds.length := by omega
    subst ej
    rw [List.drop_length] at ok'
    exact .inl ⟨rs, ok' _ _ _ (Same.refl _) hd' rf'⟩
theorem df_comp {W : WX} {elt tg iter : Expr} {ifs : List Expr} {scope : Scope} {own : List (Str × Nat)} {pos : Pos} {k : Tg} {i : S → R (List D)} {t : S → R Bool} {e : S → R D} (hc : X.calm = true) (hN : X.N.Nodup) (hi : DI X T W tg iter i) (ok : BlkOk X.N X.env.scope scope own)
    (hk : tgIn (own.map (·.2)) k)
    (hg : ∀ (s : Shared) (H : Hp) (C : Addr) (cl : List (Str × Addr)) (fp : List Addr), DG (X.blk s H scope (compEnvC scope cl C X.env) fp) tg k) (ht : ∀ (s : Shared) (H : Hp) (C : Addr) (cl : List (Str × Addr)) (fp : List Addr), DTs (X.blk s H scope (compEnvC scope cl C X.env) fp) T ifs t)
    (he : ∀ (s : Shared) (H : Hp) (C : Addr) (cl : List (Str × Addr)) (fp : List Addr), DE (X.blk s H scope (compEnvC scope cl C X.env) fp) T W0 elt e) (hs : ∀ x, foldedSetIterable iter X.env x = pure x := by intro _; rfl) :
    DF X T W (.ListComp elt [⟨tg, iter, ifs, 0⟩] scope pos) (dComp k (own.map (·.2)) i t e) := impE (pe_lc (g := tgT X.K k) (tt := gD X.K T W0 relB t) (te := gD X.K T W0 (relD X.K T) e) hc hN hi ok hg ht he hs) (comp_read hk)
/-- y = [..], kept or closed -/
theorem ds_ownLc {W : WX} {j : Nat} {y : Str} {py : Pos} {elt tg iter : Expr} {ifs : List Expr} {scope : Scope} {own : List (Str × Nat)} {pos spos : Pos} {k : Tg} {i : S → R (List D)} {t : S → R Bool} {e : S → R D} (hc : X.calm = true) (hN : X.N.Nodup) (hy : X.N[j]? = some y) (hyl : X.env.scope.names.lookup y = some .local)
    (hsw : swapsWith (.ListComp elt [⟨tg, iter, ifs, 0⟩] scope pos) (some (.Name y py)) spos.line X.env = pure true) (hi : DI X T W tg iter i) (ok : BlkOk X.N X.env.scope scope own)
    (hk : tgIn (own.map (·.2)) k)
    (hg : ∀ (s : Shared) (H : Hp) (C : Addr) (cl : List (Str × Addr)) (fp : List Addr), DG (X.blk s H scope (compEnvC scope cl C X.env) fp) tg k) (ht : ∀ (s : Shared) (H : Hp) (C : Addr) (cl : List (Str × Addr)) (fp : List Addr), DTs (X.blk s H scope (compEnvC scope cl C X.env) fp) T ifs t)
    (he : ∀ (s : Shared) (H : Hp) (C : Addr) (cl : List (Str × Addr)) (fp : List Addr), DE (X.blk s H scope (compEnvC scope cl C X.env) fp) T W0 elt e) (hs : ∀ x, foldedSetIterable iter X.env x = pure x := by intro _; rfl) :
    DS X T W (.Assign [.Name y py] (.ListComp elt [⟨tg, iter, ifs, 0⟩] scope pos) spos) (dOwn j (dComp k (own.map (·.2)) i t e)) := impS (ps_setLc (g := tgT X.K k) (tt := gD X.K T W0 relB t) (te := gD X.K T W0 (relD X.K T) e) hc hN hy hyl hsw hi ok hg ht he hs) fun E σ H ⟨c, G, st, hd, ok⟩ => by
  obtain ⟨c0, G0, st0, hd0, ok0⟩ := stepS (rel := relF X.K T) hd ok
  exact comp_read hk σ H _ ⟨c0, G0, st0, hd0, ok0.imp fun x H1 ⟨G1, st1, a, s1, hd1, r1, ok1⟩ => ok1 _ _ _ (Same.refl _) (hd1.putOwn r1 j)⟩
theorem ds_setLc {W : WX} {j : Nat} {y : Str} {py : Pos} {elt tg iter : Expr} {ifs : List Expr} {scope : Scope} {own : List (Str × Nat)} {pos spos : Pos} {k : Tg} {i : S → R (List D)} {t : S → R Bool} {e : S → R D} (hc : X.calm = true) (hN : X.N.Nodup) (hy : X.N[j]? = some y) (hyl : X.env.scope.names.lookup y = some .local)
    (hsw : swapsWith (.ListComp elt [⟨tg, iter, ifs, 0⟩] scope pos) (some (.Name y py)) spos.line X.env = pure true) (hi : DI X T W tg iter i) (ok : BlkOk X.N X.env.scope scope own)
    (hk : tgIn (own.map (·.2)) k)
    (hg : ∀ (s : Shared) (H : Hp) (C : Addr) (cl : List (Str × Addr)) (fp : List Addr), DG (X.blk s H scope (compEnvC scope cl C X.env) fp) tg k) (ht : ∀ (s : Shared) (H : Hp) (C : Addr) (cl : List (Str × Addr)) (fp : List Addr), DTs (X.blk s H scope (compEnvC scope cl C X.env) fp) T ifs t)
    (he : ∀ (s : Shared) (H : Hp) (C : Addr) (cl : List (Str × Addr)) (fp : List Addr), DE (X.blk s H scope (compEnvC scope cl C X.env) fp) T W0 elt e) (hs : ∀ x, foldedSetIterable iter X.env x = pure x := by intro _; rfl) :
    DS X T W (.Assign [.Name y py] (.ListComp elt [⟨tg, iter, ifs, 0⟩] scope pos) spos) (dSet j (dClose (dComp k (own.map (·.2)) i t e))) := impS (ps_setLc (g := tgT X.K k) (tt := gD X.K T W0 relB t) (te := gD X.K T W0 (relD X.K T) e) hc hN hy hyl hsw hi ok hg ht he hs) fun E σ H ⟨c, G, st, hd, ok⟩ => by
  have ok' : SOk X.K T W c G ((dComp k (own.map (·.2)) i t e st).bind fun ds st => .ok .nx (st.put j (.val (.ls ds)))) E := by
    have z : dSet j (dClose (dComp k (own.map (·.2)) i t e)) st = ((dComp k (own.map (·.2)) i t e st).bind fun ds st => .ok .nx (st.put j (.val (.ls ds)))) := by
      unfold dSet dClose R.bind
      cases dComp k (own.map (·.2)) i t e st <;> rfl
    rw [z] at ok; exact ok
  obtain ⟨c0, G0, st0, hd0, ok0⟩ := stepS (rel := relF X.K T) hd ok'
  refine comp_read hk σ H _ ⟨c0, G0, st0, hd0, ok0.imp fun x H1 ⟨G1, st1, a, s1, hd1, r1, ok1⟩ => ?_⟩
  obtain ⟨G2, s2, hd2, r2⟩ := r1.close hd1
  exact ok1 _ _ _ s2 (hd2.putVal r2 j)
end

/-! ### a def -/
section
variable {P : Program} {w : World} {K : PySem.W.Frag} {mg : Str → Option Value} {base : Heap} {T : Tab}
def runFn (n N : Nat) (f : S → R Out) : Fn := fun ds b => if ds.length = n then match f ⟨ds.map Sl.val ++ List.replicate (N - n) Sl.un, b⟩ with
  | .ok .nx s => .ok .non s.bx
  | .ok (.rt d) s => .ok d s.bx
  | .ok (.rtF ds) s => .okF ds s.bx
  | .err e s => .err e s.bx
  | _ => .stuck
  else .stuck
abbrev wOf (E : XK) : WX := fun cls d _ H => E cls d H
theorem holds_start {B : Option Addr} {G H : Hp} {vs : List V} {ds : List D} {b : Bx} {N : Nat} (s : Same G H) (hb : ∀ p, B = some p → H p = some (boxO b) ∧ G p = none) (r : Reps K T B G vs ds) :
    Holds K T ⟨B, H, G⟩ G H (vs.map some ++ List.replicate N none) ⟨ds.map Sl.val ++ List.replicate N Sl.un, b⟩ where
  sub0 := Same.refl _
  sub := s
  new := fun a e n => absurd e n
  frame := fun a o e _ => e
  len := by simp [r.length]
  slot := fun i s e => by
    have e' : (ds.map Sl.val ++ List.replicate N Sl.un)[i]? = some s := e
    by_cases hi : i < ds.length
    · rw [List.getElem?_append_left (by simpa using hi), List.getElem?_map, List.getElem?_eq_getElem hi] at e'
      cases e'
      obtain ⟨v, e1, e2⟩ := r.get' (List.getElem?_eq_getElem hi)
      refine ⟨v, ?_, e2⟩
      rw [List.getElem?_append_left (by rw [List.length_map, r.length]; exact hi), List.getElem?_map, e1]; rfl
    · rw [List.getElem?_append_right (by simpa using hi), List.getElem?_replicate] at e'
      split at e'
      · cases e'; trivial
      · cases e'
  dist := fun i j p xs ys e => by
    have e' : (ds.map Sl.val ++ List.replicate N Sl.un)[i]? = some (.own xs) := e
    by_cases hi : i < ds.length
    · rw [List.getElem?_append_left (by simpa using hi), List.getElem?_map, List.getElem?_eq_getElem hi] at e'
      cases e'
    · rw [List.getElem?_append_right (by simpa using hi), List.getElem?_replicate] at e'
      split at e' <;> cases e'
  box := hb
  box0 := fun p e n => by have := (hb p e).1; rw [show H p = none from n] at this; cases this
/-- THE RULE for a def -/
theorem fn_ok {x qual : Str} {stm : Stmt} {f : Addr} {fd : FuncData} {N ps : List Str} {k : Nat} {body : S → R Out} (F : Fun K x qual stm f fd) (Sc : FnScope N ps (defScope stm))
    (hb : ∀ (X : Cx) (W : WX), X.prog = P → X.w = w → X.K = K → X.mg = mg → X.base = base → X.N = N → X.env.scope = defScope stm → X.calm = true → (∀ x, X.fn x = true) → Room k X.A → X.stack = X.env :: X.outer → X.env.frame = some X.env.locals → X.ex = [] → PassesOwn (model X.prog X.w) X.A X.env X.xe → Takes X W →
      (∃ (cdv : Value) (A : Around) (outer : List Env) (s : Shared) (H : Hp) (E : XK), X = cxOf (L2.CX P w) P w K mg base N qual (defScope stm) f cdv A outer s H E) → DSs X T W (defBody stm) body) :
    FnOk P w K mg base (L2.CX P w) (k + 1) f fd ps (spD K T ps.length (runFn ps.length N.length body)) := by
  refine F.okX Sc (fun vs H Q E h => h.1) (fun cdv A outer s H vs Q E hr h => ?_)
  obtain ⟨hl, B, G, ds, b, sm, hbx, r, ok⟩ := h
  refine ⟨_, hb (cxOf (L2.CX P w) P w K mg base N qual (defScope stm) f cdv A outer s H E) (wOf E) rfl rfl rfl rfl rfl rfl rfl rfl (fun _ => rfl) hr rfl rfl rfl ?_ ?_ ⟨cdv, A, outer, s, H, E, rfl⟩, ?_⟩
  · exact passes_of rfl
  · exact takes_of rfl rfl rfl rfl
  · refine ⟨⟨B, H, G⟩, G, ⟨ds.map Sl.val ++ List.replicate (N.length - ps.length) Sl.un, b⟩, ?_, ?_⟩
    · show Holds K T _ G H (L2.start N vs) _
      unfold L2.start
      rw [hl]
      exact holds_start sm hbx r
    · unfold runFn at ok
      rw [if_pos (r.length.symm.trans hl)] at ok
      have fin : ∀ {G' H' : Hp} {σ' : SV} {st' : S}, Same G G' → Holds K T ⟨B, H, G⟩ G' H' σ' st' → After K T B G H G' H' st'.bx := fun s' h' => ⟨h'.sub0, h'.sub, h'.new, h'.frame, h'.box⟩
      revert ok
      cases body ⟨ds.map Sl.val ++ List.replicate (N.length - ps.length) Sl.un, b⟩ with
      | ok o st' =>
        cases o with
        | nx => exact fun ok G' H' σ' s' h' => ok G' H' .non (fin s' h') .non
        | rt d => exact fun ok G' H' σ' v s' h' r' => ok G' H' v (fin s' h') r'
        | rtF ds2 =>
          intro ok G' H' σ' v s' h' r'
          obtain ⟨p, vs', rfl, hp', gp', z, rs, _⟩ := r'
          exact ok G' H' p vs' (fin s' h') hp' gp' z rs
        | bk => exact fun ok => ok.elim
        | ct => exact fun ok => ok.elim
      | err e st' => exact fun ok G' H' σ' cls d s' h' er => ok G' H' cls d (fin s' h') er
      | stuck => exact fun ok => ok.elim
end
end DL

/-! DLh: reading one's own list; two targets; pop; isinstance of built-in types; texts. -/
namespace DL
open PySem PySem.Spec PyProof.Rows L2
section
variable {K : PySem.W.Frag} {T : Tab} {W : WX} {c : Ctx} {G G' H H' : Hp} {σ σ' : SV} {st : S}
theorem flat_low {v w : V} {d : D} (r : Rep K T c.B G' v d) (h : flatD d = some w) : Rep K T c.B G v d := by
  cases r <;> simp [flatD] at h <;> constructor
/-- what a read of one's own list leaves -/
theorem Holds.lent (h : Holds K T c G H σ st) {p : Addr} {vs : List V} {G' H' : Hp} {σ' : SV} {st' : S} (gp : G p = none) (h' : Holds K T (inner c (upd G p (.lst vs)) H) G' H' σ' st') : Holds K T c G H' σ { st with bx := st'.bx } :=
  h.after (b := st'.bx) ⟨Same.refl _, fun a o e => h'.sub _ _ (h'.sub0 _ _ (same_upd gp _ _ e)), fun a e n => absurd e n, h'.frame, fun p e => ⟨(h'.box p e).1, (h.box p e).2⟩⟩
end
section
variable {X : Cx} {T : Tab} {W : WX}
def dLend (i : Nat) (f : S → R D) : S → R D := fun st => match st.env[i]? with
  | some (.own ds) => match f (st.put i (.val (.ls ds))).hide with
    | .ok d s => if (flatD d).isSome then .ok d { st with bx := s.bx } else .stuck
    | _ => .stuck
  | _ => .stuck
theorem de_lend (i : Nat) {e : Expr} {f : S → R D} (h : DE X T W e f) : DE X T W e (dLend i f) := impE h fun σ H Q ⟨c, G, st, hd, ok⟩ => by
  unfold dLend at ok
  cases q : st.env[i]? with
  | none => rw [q] at ok; exact ok.elim
  | some s =>
    rw [q] at ok
    cases s with
    | un => exact ok.elim
    | val d => exact ok.elim
    | own ds =>
      obtain ⟨p, vs, e1, e2, r, g, h2⟩ := hd.freeze q
      refine ⟨_, _, _, h2.enter, ?_⟩
      dsimp only at ok
      revert ok
      cases f (st.put i (.val (.ls ds))).hide with
      | ok d s =>
        intro ok G' H' v s1 h' r'
        dsimp only at ok
        cases w : flatD d with
        | none => rw [w] at ok; exact ok.elim
        | some u => rw [w] at ok; exact ok _ _ _ (Same.refl _) (hd.lent g h') (flat_low r' w)
      | err _ _ => exact fun ok => ok.elim
      | stuck => exact fun ok => ok.elim
def dLendB (i : Nat) (f : S → R Bool) : S → R Bool := fun st => match st.env[i]? with
  | some (.own ds) => match f (st.put i (.val (.ls ds))).hide with
    | .ok k s => .ok k { st with bx := s.bx }
    | _ => .stuck
  | _ => .stuck
theorem dt_lend (i : Nat) {e : Expr} {f : S → R Bool} (h : DT X T W e f) : DT X T W e (dLendB i f) := impT h fun σ H Q ⟨c, G, st, hd, ok⟩ => by
  unfold dLendB at ok
  cases q : st.env[i]? with
  | none => rw [q] at ok; exact ok.elim
  | some s =>
    rw [q] at ok
    cases s with
    | un => exact ok.elim
    | val d => exact ok.elim
    | own ds =>
      obtain ⟨p, vs, e1, e2, r, g, h2⟩ := hd.freeze q
      refine ⟨_, _, _, h2.enter, ?_⟩
      dsimp only at ok
      revert ok
      cases f (st.put i (.val (.ls ds))).hide with
      | ok d s =>
        intro ok G' H' v s1 h' r'
        cases r'
        exact ok _ _ _ (Same.refl _) (hd.lent g h') rfl
      | err _ _ => exact fun ok => ok.elim
      | stuck => exact fun ok => ok.elim
/-- y.pop(k), y one's own list -/
def dPop (i : Nat) (f : S → R D) : S → R D := fun st => match st.env[i]? with
  | some (.own _) => (f st).bind fun k st => match st.env[i]?, k with
    | some (.own ds), .int k => if 0 ≤ k ∧ k < 9223372036854775808 then match ds[k.toNat]? with
      | some d => .ok d (st.put i (.own (ds.eraseIdx k.toNat)))
      | none => .stuck
      else .stuck
    | _, _ => .stuck
  | _ => .stuck
theorem de_pop {i : Nat} {o e : Expr} {f : S → R D} {apos cpos : Pos} (ho : PE X o (tVar i)) (he : DE X T W e f)
    (hp : PE X (.Call (.Attribute o "pop" apos) [e] [] cpos) (tBM X.K "list" rPopAt (tVar i) (tCons (gD X.K T W (relD X.K T) f) tNil))) : DE X T W (.Call (.Attribute o "pop" apos) [e] [] cpos) (dPop i f) := impE hp fun σ H Q ⟨c, G, st, hd, ok⟩ => by
  unfold dPop at ok
  cases q : st.env[i]? with
  | none => rw [q] at ok; exact ok.elim
  | some s =>
    rw [q] at ok
    cases s with
    | un => exact ok.elim
    | val d => exact ok.elim
    | own ds =>
      obtain ⟨p, vs, e1, e2, g, z, r⟩ := hd.slot i _ q
      refine ⟨.ref p, e1, .inl ⟨rfl, vs, SqL.of e2⟩, ?_⟩
      obtain ⟨c0, G0, st0, hd0, ok0⟩ := step (rel := relD X.K T) hd ok
      refine ⟨c0, G0, st0, hd0, ok0.imp fun x H1 ⟨G1, st1, a, s1, hd1, r1, ok1⟩ => ?_⟩
      cases q1 : st1.env[i]? with
      | none => rw [q1] at ok1; exact ok1.elim
      | some s =>
        rw [q1] at ok1
        cases s with
        | un => exact ok1.elim
        | val d => exact ok1.elim
        | own ds1 =>
          obtain ⟨p2, vs2, f1, f2, g2, z2, r2⟩ := hd1.slot i _ q1
          rw [e1] at f1
          cases f1
          cases r1 with
          | int k =>
            dsimp only at ok1
            by_cases w : 0 ≤ k ∧ k < 9223372036854775808
            · rw [if_pos w] at ok1
              cases y : ds1[k.toNat]? with
              | none => rw [y] at ok1; exact ok1.elim
              | some d =>
                rw [y] at ok1
                obtain ⟨v, y1, y2⟩ := r2.get' y
                have hlt : k.toNat < vs2.length := (List.getElem?_eq_some_iff.mp y1).1
                have hq : seqIndex? k vs2.length = some k.toNat := (ixN_seq (show ixN vs2.length k = some k.toNat by unfold ixN; rw [if_pos w.1, if_pos (by omega)])).1
                exact ⟨p, vs2, k, k.toNat, v, rfl, rfl, f2, by omega, w.2, hq, y1, ok1 _ _ _ (Same.refl _) (hd1.setOwn q1 e1 (r2.eraseIdx _)) y2⟩
            · rw [if_neg w] at ok1; exact ok1.elim
          | _ => exact ok1.elim
/-! ### a, b = x, y: both sides written -/
section
variable {α β : Type}
/-- how a value is put down -/
structure Put (K : PySem.W.Frag) (T : Tab) (α : Type) where
  rel : Rel α V
  sl : α → Sl
  put : ∀ {c : Ctx} {G H : Hp} {σ : SV} {st : S} {v : V} {a : α}, Holds K T c G H σ st → rel c G H σ st v a → ∀ i, Holds K T c G H (σ.set i (some v)) (st.put i (sl a))
def putV (K : PySem.W.Frag) (T : Tab) : Put K T D := ⟨relD K T, .val, fun h r i => h.putVal r i⟩
def putO (K : PySem.W.Frag) (T : Tab) : Put K T (List D) := ⟨relF K T, .own, fun h r i => h.putOwn r i⟩
def dPar (i j : Nat) (sa : α → Sl) (sb : β → Sl) (f : S → R α) (g : S → R β) : S → R Out := fun st => (f st).bind fun a st => (g st).bind fun b st => .ok .nx ((st.put i (sa a)).put j (sb b))
theorem dPar_vv (K : PySem.W.Frag) {i j : Nat} {f g : S → R D} (E : Ends) (σ : SV) (H : Hp) (h : tD K T W (dPar i j .val .val f g) E σ H) : tPar i j (tCons (gD K T W (relD K T) f) (tCons (gD K T W (relD K T) g) tNil)) E σ H := by
  obtain ⟨c, G, st, hd, ok⟩ := h
  obtain ⟨c0, G0, st0, hd0, ok0⟩ := stepS (rel := relD K T) hd ok
  refine ⟨c0, G0, st0, hd0, ok0.imp fun x H1 ⟨G1, st1, a, s1, hd1, r1, ok1⟩ => ?_⟩
  obtain ⟨c2, G2, st2, hd2, ok2⟩ := stepS (rel := relD K T) hd1 ok1
  exact ⟨c2, G2, st2, hd2, ok2.imp fun y H2 ⟨G3, st3, b, s3, hd3, r3, ok3⟩ => ⟨x, y, rfl, ok3 _ _ _ (Same.refl _) ((hd3.putVal (r1.mono s3) i).putVal r3 j)⟩⟩
theorem dPar_vo (K : PySem.W.Frag) {i j : Nat} {f : S → R D} {g : S → R (List D)} (hij : i ≠ j) (E : Ends) (σ : SV) (H : Hp) (h : tD K T W (dPar i j .val .own f g) E σ H) : tPar i j (tCons (gD K T W (relD K T) f) (tCons (gD K T W (relF K T) g) tNil)) E σ H := by
  obtain ⟨c, G, st, hd, ok⟩ := h
  obtain ⟨c0, G0, st0, hd0, ok0⟩ := stepS (rel := relD K T) hd ok
  refine ⟨c0, G0, st0, hd0, ok0.imp fun x H1 ⟨G1, st1, a, s1, hd1, r1, ok1⟩ => ?_⟩
  obtain ⟨c2, G2, st2, hd2, ok2⟩ := stepS (rel := relF K T) hd1 ok1
  refine ⟨c2, G2, st2, hd2, ok2.imp fun y H2 ⟨G3, st3, b, s3, hd3, r3, ok3⟩ => ⟨x, y, rfl, ok3 _ _ _ (Same.refl _) ((hd3.putVal (r1.mono s3) i).putOwn ?_ j)⟩⟩
  obtain ⟨p, vs, ev, hp, g1, z, rs, nd⟩ := r3
  refine ⟨p, vs, ev, hp, g1, z, rs, fun k es e q => ?_⟩
  have e' : (st3.env.set i (.val a))[k]? = some (.own es) := e
  have nk : i ≠ k := fun w => by
    subst w
    by_cases hi : i < st3.env.length
    · rw [List.getElem?_set_self hi] at e'; cases e'
    · rw [List.getElem?_eq_none (by rw [List.length_set]; omega)] at e'; cases e'
  rw [List.getElem?_set_ne nk] at e' q
  exact nd k es e' q
theorem dPar_ov (K : PySem.W.Frag) {i j : Nat} {f : S → R (List D)} {g : S → R D} (hij : i ≠ j) (E : Ends) (σ : SV) (H : Hp) (h : tD K T W (dPar i j .own .val f g) E σ H) : tPar i j (tCons (gD K T W (relF K T) f) (tCons (gD K T W (relD K T) g) tNil)) E σ H := by
  obtain ⟨c, G, st, hd, ok⟩ := h
  obtain ⟨c0, G0, st0, hd0, ok0⟩ := stepS (rel := relF K T) hd ok
  refine ⟨c0, G0, st0, hd0, ok0.imp fun x H1 ⟨G1, st1, a, s1, hd1, r1, ok1⟩ => ?_⟩
  obtain ⟨p, vs, ev, hp, gp, z, rs, nd⟩ := r1
  subst ev
  have hg := hd1.guard hp gp z nd
  have g0 : c.G0 p = none := by
    cases q : c.G0 p with
    | none => rfl
    | some o => have := hd1.sub0 _ _ q; rw [gp] at this; cases this
  have nb : c.B ≠ some p := fun q => hd1.box0 p q z
  refine ⟨c.guard p vs, G1, st1, hg, ?_⟩
  replace ok1 : SOk K T W c G1 ((g st1).bind fun b st => .ok .nx ((st.put i (.own a)).put j (.val b))) E := ok1
  revert ok1
  cases g st1 with
  | stuck => exact fun ok1 => ok1.elim
  | err e s =>
    intro ok1 G' H' cls d s' h' er
    have h2 := (h'.unguard z nb (h'.gfree g0)).1
    exact ok1 G' H' σ cls d s' h2 er
  | ok b st2 =>
    intro ok1 G' H' y s' h' r'
    obtain ⟨h2, hp2, nd2⟩ := h'.unguard z nb (h'.gfree g0)
    have rf : relF K T c G' H' σ st2 (.ref p) a := ⟨p, vs, rfl, hp2, h'.gfree g0, z, rs.mono s', nd2⟩
    exact ⟨.ref p, y, rfl, ok1 G' H' _ s' ((h2.putOwn rf i).putVal r' j)⟩
theorem dPar_oo (K : PySem.W.Frag) {i j : Nat} {f : S → R (List D)} {g : S → R (List D)} (hij : i ≠ j) (E : Ends) (σ : SV) (H : Hp) (h : tD K T W (dPar i j .own .own f g) E σ H) : tPar i j (tCons (gD K T W (relF K T) f) (tCons (gD K T W (relF K T) g) tNil)) E σ H := by
  obtain ⟨c, G, st, hd, ok⟩ := h
  obtain ⟨c0, G0, st0, hd0, ok0⟩ := stepS (rel := relF K T) hd ok
  refine ⟨c0, G0, st0, hd0, ok0.imp fun x H1 ⟨G1, st1, a, s1, hd1, r1, ok1⟩ => ?_⟩
  obtain ⟨p, vs, ev, hp, gp, z, rs, nd⟩ := r1
  subst ev
  have hg := hd1.guard hp gp z nd
  have g0 : c.G0 p = none := by
    cases q : c.G0 p with
    | none => rfl
    | some o => have := hd1.sub0 _ _ q; rw [gp] at this; cases this
  have nb : c.B ≠ some p := fun q => hd1.box0 p q z
  refine ⟨c.guard p vs, G1, st1, hg, ?_⟩
  replace ok1 : SOk K T W c G1 ((g st1).bind fun b st => .ok .nx ((st.put i (.own a)).put j (.own b))) E := ok1
  revert ok1
  cases g st1 with
  | stuck => exact fun ok1 => ok1.elim
  | err e s =>
    intro ok1 G' H' cls d s' h' er
    have h2 := (h'.unguard z nb (h'.gfree g0)).1
    exact ok1 G' H' σ cls d s' h2 er
  | ok b st2 =>
    intro ok1 G' H' y s' h' r'
    obtain ⟨h2, hp2, nd2⟩ := h'.unguard z nb (h'.gfree g0)
    have rf : relF K T c G' H' σ st2 (.ref p) a := ⟨p, vs, rfl, hp2, h'.gfree g0, z, rs.mono s', nd2⟩
    obtain ⟨p2, vs2, ev2, hp3, gp3, z3, rs3, nd3⟩ := r'
    subst ev2
    have ne : p2 ≠ p := fun t => by
      subst t
      have hH : (c.guard p2 vs).H0 p2 = upd c.H0 p2 (.lst vs) p2 := rfl
      rw [hH, upd_same] at z3; cases z3
    have z4 : c.H0 p2 = none := by
      have hH : (c.guard p vs).H0 p2 = upd c.H0 p (.lst vs) p2 := rfl
      rw [hH, upd_ne ne] at z3; exact z3
    refine ⟨.ref p, .ref p2, rfl, ok1 G' H' _ s' ((h2.putOwn rf i).putOwn ⟨p2, vs2, rfl, hp3, gp3, z4, rs3, fun k es e q => ?_⟩ j)⟩
    have e' : (st2.env.set i (.own a))[k]? = some (.own es) := e
    by_cases w : i = k
    · subst w
      by_cases hi : i < σ.length
      · rw [List.getElem?_set_self hi] at q; cases q; exact ne rfl
      · rw [List.getElem?_eq_none (by rw [List.length_set]; omega)] at q; cases q
    · rw [List.getElem?_set_ne w] at e' q
      exact nd3 k es e' q
end
theorem ds_par {i j : Nat} {x y : Str} {a b : Expr} {α β : Type} {sa : α → Sl} {sb : β → Sl} {f : S → R α} {g : S → R β} {ta tb : TE} {px py pt : Pos} {kt k2 pt2} {pos : Pos} (hc : X.calm = true) (hN : X.N.Nodup) (hi : X.N[i]? = some x) (hj : X.N[j]? = some y) (hij : i ≠ j)
    (hx : X.env.scope.names.lookup x = some .local) (hy : X.env.scope.names.lookup y = some .local) (ha : PE X a ta) (hb : PE X b tb)
    (hr : ∀ E σ H, tD X.K T W (dPar i j sa sb f g) E σ H → tPar i j (tCons ta (tCons tb tNil)) E σ H)
    (h1 : starEach [a, b] X.env = (false, eval a X.env) :: starEach [b] X.env) (h2 : starEach [b] X.env = (false, eval b X.env) :: starEach [] X.env)
    (hw : swappedStores [.Tuple [.Name x px, .Name y py] kt pt] (.Tuple [a, b] k2 pt2) X.env = pure (some [x, y]))
    (hs : swapsWithSole [.Tuple [.Name x px, .Name y py] kt pt] (.Tuple [a, b] k2 pt2) pos.line X.env = pure false) :
    DS X T W (.Assign [.Tuple [.Name x px, .Name y py] kt pt] (.Tuple [a, b] k2 pt2) pos) (dPar i j sa sb f g) := impS (ps_par hc hN hi hj hij hx hy (pa_cons ha (pa_cons hb pa_nil h2) h1) hw hs) hr
/-! ### isinstance of built-in types -/
def kindD : D → Option Nat
  | .non => some 0
  | .bl _ => some 1
  | .int _ => some 2
  | .str _ => some 3
  | .ls _ => some 4
  | .tu _ => some 5
  | .box => some 4
  | _ => none
/-- a built-in type by number -/
def tyName : Nat → String
  | 0 => "NoneType"
  | 1 => "bool"
  | 2 => "int"
  | 3 => "str"
  | 4 => "list"
  | _ => "tuple"
def isKind (k t : Nat) : Bool := k == t || (k == 1 && t == 2)
theorem kit_kinds : ∀ k, k < 6 → ∀ t, t < 6 → kitB (tyName k) (tyName t) = some (isKind k t) := by decide +kernel
theorem kindD_lt {d : D} {k : Nat} (h : kindD d = some k) : k < 6 := by
  cases d <;> simp [kindD] at h <;> omega
theorem kindD_ty {K : PySem.W.Frag} {c : Ctx} {G H : Hp} {σ : SV} {st : S} (hd : Holds K T c G H σ st) {v : V} {d : D} {k : Nat} (r : Rep K T c.B G v d) (h : kindD d = some k) : TyX K H v (.type (tyName k)) := by
  cases r with
  | non => cases h; exact .base .non
  | bl b => cases h; exact .base (.bl b)
  | int i => cases h; exact .base (.int i)
  | str x => cases h; exact .base (.str x)
  | ls e _ => cases h; exact .base (.lst (hd.sub _ _ e))
  | tu e _ =>
    cases h
    rcases e with (e | ⟨o, e⟩) | ⟨o, its, n, e1, e2, _⟩
    · exact .base (.tup (hd.sub _ _ e))
    · exact .fTuple (hd.sub _ _ e)
    · exact .kTuple e1 e2
  | box e => cases h; exact .base (.lst (hd.box _ e).1)
  | ro _ => cases h
  | ob _ _ _ => cases h
  | er0 _ _ => cases h
  | er1 _ _ _ _ => cases h
def hIsi (t : Nat) (d : D) (st : S) : R D := match kindD d with
  | some k => .ok (.bl (isKind k t)) st
  | none => .stuck
def dIsi (t : Nat) (f : S → R D) : S → R D := fun st => (f st).bind fun d st => hIsi t d st
theorem boot_isi : bootBuiltins "isinstance" = some (.builtin "isinstance") := by decide +kernel
theorem de_isi {t : Nat} {e : Expr} {f : S → R D} {x : Str} {p p2 pos : Pos} (ht : t < 6) (hg : Gl X "isinstance") (hm : X.mg "isinstance" = none) (he : DE X T W e f) (hc : PE X (.Name x p2) (tC (.ty (tyName t))))
    (h1 : starEach [e, .Name x p2] X.env = (false, eval e X.env) :: starEach [.Name x p2] X.env := by rfl) (h2 : starEach [.Name x p2] X.env = (false, eval (.Name x p2) X.env) :: starEach [] X.env := by rfl) (hpl : (backTo pos (starEach [.Name x p2] X.env)).any (·.1) = false := by rfl) :
    DE X T W (.Call (.Name "isinstance" p) [e, .Name x p2] [] pos) (dIsi t f) := impE (pe_callB call_isi hg hm boot_isi (pa_cons he (pa_cons hc pa_nil h2) h1) (hpl := hpl) (he := h1)) fun σ H Q ⟨c, G, st, hd, ok⟩ => by
  obtain ⟨c0, G0, st0, hd0, ok0⟩ := step (rel := relD X.K T) hd ok
  refine ⟨c0, G0, st0, hd0, ok0.imp fun v H1 ⟨G1, st1, a, s1, hd1, r1, ok1⟩ => ?_⟩
  unfold hIsi at ok1
  cases q : kindD a with
  | none => rw [q] at ok1; exact ok1.elim
  | some k =>
    rw [q] at ok1
    exact ⟨v, _, _, _, isKind k t, rfl, .ty _, kindD_ty hd1 r1 q, kit_ty (kit_kinds k (kindD_lt q) t ht), ok1 _ _ _ (Same.refl _) hd1 (.bl _)⟩
def hIsi2 (t u : Nat) (d : D) (st : S) : R D := match kindD d with
  | some k => .ok (.bl (isKind k t || isKind k u)) st
  | none => .stuck
def dIsi2 (t u : Nat) (f : S → R D) : S → R D := fun st => (f st).bind fun d st => hIsi2 t u d st
theorem kit_any2 {K : PySem.W.Frag} {k t u : Nat} (hk : k < 6) (ht : t < 6) (hu : u < 6) : PySem.W.kitAny K (.type (tyName k)) [.type (tyName t), .type (tyName u)] = some (isKind k t || isKind k u) := by
  have e1 : PySem.W.kitOne K (.type (tyName k)) (.type (tyName t)) = some (isKind k t) := kit_ty (kit_kinds k hk t ht)
  have e2 : PySem.W.kitOne K (.type (tyName k)) (.type (tyName u)) = some (isKind k u) := kit_ty (kit_kinds k hk u hu)
  refine kitAny_cons e1 (fun h => ?_) fun h => by rw [h]; rfl
  rw [h, Bool.false_or]
  exact kitAny_cons e2 (fun h2 => by rw [h2]; exact kitAny_nil) fun h2 => h2
theorem de_isi2 {t u : Nat} {e : Expr} {f : S → R D} {x y : Str} {p p2 p3 p4 pos : Pos} {kk} (ht : t < 6) (hu : u < 6) (hg : Gl X "isinstance") (hm : X.mg "isinstance" = none) (he : DE X T W e f) (hc : PE X (.Name x p2) (tC (.ty (tyName t)))) (hc2 : PE X (.Name y p3) (tC (.ty (tyName u))))
    (h1 : starEach [e, .Tuple [.Name x p2, .Name y p3] kk p4] X.env = (false, eval e X.env) :: starEach [.Tuple [.Name x p2, .Name y p3] kk p4] X.env := by rfl) (h2 : starEach [.Tuple [.Name x p2, .Name y p3] kk p4] X.env = (false, eval (.Tuple [.Name x p2, .Name y p3] kk p4) X.env) :: starEach [] X.env := by rfl)
    (h3 : starEach [.Name x p2, .Name y p3] X.env = (false, eval (.Name x p2) X.env) :: starEach [.Name y p3] X.env := by rfl) (h4 : starEach [.Name y p3] X.env = (false, eval (.Name y p3) X.env) :: starEach [] X.env := by rfl) (hpl : (backTo pos (starEach [.Tuple [.Name x p2, .Name y p3] kk p4] X.env)).any (·.1) = false := by rfl) :
    DE X T W (.Call (.Name "isinstance" p) [e, .Tuple [.Name x p2, .Name y p3] kk p4] [] pos) (dIsi2 t u f) := impE (pe_callB call_isiT hg hm boot_isi (pa_cons he (pa_cons (pe_tup (pa_cons hc (pa_cons hc2 pa_nil h4) h3)) pa_nil h2) h1) (hpl := hpl) (he := h1)) fun σ H Q ⟨c, G, st, hd, ok⟩ => by
  obtain ⟨c0, G0, st0, hd0, ok0⟩ := step (rel := relD X.K T) hd ok
  refine ⟨c0, G0, st0, hd0, ok0.imp fun v H1 ⟨G1, st1, a, s1, hd1, r1, ok1⟩ => ?_⟩
  unfold hIsi2 at ok1
  cases q : kindD a with
  | none => rw [q] at ok1; exact ok1.elim
  | some k =>
    rw [q] at ok1
    refine ⟨by show 2 ≤ sizeLine; decide, fun l hl => ?_⟩
    have hl2 := hd1.lay (.tup [.ty (tyName t), .ty (tyName u)]) hl
    exact ⟨v, l, _, _, _, _, rfl, upd_same, .cons (.ty _) (.cons (.ty _) .nil), kindD_ty hl2 (r1.mono (same_upd (hd1.gnone hl))) q, kit_any2 (kindD_lt q) ht hu, ok1 _ _ _ (same_upd (hd1.gnone hl)) hl2 (.bl _)⟩
end
end DL

/-! DLi: short words for a text's defs. -/
namespace DL
open PySem PySem.Spec PyProof.Rows L2
section
variable {X : Cx} {T : Tab} {W : WX}
/-- xs or ys, both new -/
def dOrF (f g : S → R (List D)) : S → R (List D) := fun st => (f st).bind fun ds st => if ds.isEmpty = true then g st else .ok ds st
theorem df_one {op : BoolOp} {a : Expr} {f : S → R (List D)} {pos : Pos} (ha : DF X T W a f) : DF X T W (.BoolOp op [a] pos) f := pe_one ha
theorem df_or {a b : Expr} {rest : List Expr} {f g : S → R (List D)} {pos : Pos} (ha : DF X T W a f) (hb : DF X T W (.BoolOp .Or (b :: rest) pos) g) : DF X T W (.BoolOp .Or (a :: b :: rest) pos) (dOrF f g) := by
  refine impE (pe_orT ha hb) fun σ H Q ⟨c, G, st, hd, ok⟩ => ?_
  obtain ⟨c0, G0, st0, hd0, ok0⟩ := step (rel := relF X.K T) hd ok
  refine ⟨c0, G0, st0, hd0, ok0.imp fun x H1 ⟨G1, st1, ds, s1, hd1, r1, ok1⟩ => ?_⟩
  obtain ⟨p, vs, rfl, hp, gp, z, rs, nd⟩ := r1
  refine ⟨!vs.isEmpty, .inl ⟨vs, SqL.of hp, rfl⟩, ?_⟩
  rw [rs.isEmpty]
  cases e : ds.isEmpty with
  | true =>
    rw [e, if_pos rfl] at ok1
    show if (!true) = true then _ else _
    rw [if_neg (by decide)]
    exact ⟨_, G1, st1, hd1, ok1⟩
  | false =>
    rw [e, if_neg (by decide)] at ok1
    show if (!false) = true then _ else _
    rw [if_pos (by decide)]
    exact ok1 _ _ _ (Same.refl _) hd1 ⟨p, vs, rfl, hp, gp, z, rs, nd⟩
abbrev hEnumA := hEnum
theorem di_enum {e : Expr} {fa : S → R (List D)} {p pos tpos : Pos} {elts : List Expr} {kk : Nat} (hg : Gl X "enumerate") (hm : X.mg "enumerate" = none) (ha : DA X T W [e] fa) (hs : starEach [e] X.env = [(false, eval e X.env)] := by rfl) :
    DI X T W (.Tuple elts kk tpos) (.Call (.Name "enumerate" p) [e] [] pos) (dCBF hEnumA fa) := di_enumL hg hm ha hs
end
/-- the built-in names that the text leaves as they are -/
structure Bi (mg : Str → Option Value) : Prop where
  len : mg "len" = none
  int : mg "int" = none
  abs : mg "abs" = none
  list : mg "list" = none
  tuple : mg "tuple" = none
  range : mg "range" = none
  zip : mg "zip" = none
  enumerate : mg "enumerate" = none
  isinstance : mg "isinstance" = none
  str : mg "str" = none
  bool : mg "bool" = none
  all : mg "all" = none
  any : mg "any" = none
  sum : mg "sum" = none
  min : mg "min" = none
  max : mg "max" = none
  sorted : mg "sorted" = none
  reversed : mg "reversed" = none
  ValueError : mg "ValueError" = none
  LookupError : mg "LookupError" = none
section
variable {P : Program} {w : World} {K : PySem.W.Frag} {mg : Str → Option Value} {base : Heap} {T : Tab}
/-- a def that stands under its name, by its promise -/
structure DefAt (P : Program) (w : World) (K : PySem.W.Frag) (mg : Str → Option Value) (base : Heap) (T : Tab) (x : Str) (ps : List Str) (n k : Nat) (F : Fn) : Prop where
  ex : ∃ (f : Addr) (fd : FuncData), FnOk P w K mg base (L2.CX P w) k f fd ps (spD K T n F) ∧ mg x = some (.ref f) ∧ PySem.W.keepIn K (.ref f) = true ∧ Binds K fd ps []
theorem DefAt.of {x : Str} {ps : List Str} {n k : Nat} {F : Fn} {f : Addr} {fd : FuncData} (h : FnOk P w K mg base (L2.CX P w) k f fd ps (spD K T n F)) (hm : mg x = some (.ref f)) (kp : PySem.W.keepIn K (.ref f) = true) (b : Binds K fd ps []) : DefAt P w K mg base T x ps n k F := ⟨f, fd, h, hm, kp, b⟩
theorem fn_never {k n : Nat} {f : Addr} {fd : FuncData} {ps : List Str} (hn : n = ps.length) : FnOk P w K mg base (L2.CX P w) k f fd ps (spD K T n fun _ _ => .stuck) :=
  ⟨fun vs H Q E h => h.1.trans hn, fun A outer s H args us vs Q E hr he hb hv hs => by obtain ⟨_, _, _, _, _, _, _, _, z⟩ := hs; exact z.elim⟩
theorem fn_okj {x qual : Str} {stm : Stmt} {f : Addr} {fd : FuncData} {N ps : List Str} {k : Nat} {body : S → R Out} (F : Fun K x qual stm f fd) (Sc : FnScope N ps (defScope stm))
    (hb : ∀ (cdv : Value) (A : Around) (outer : List Env) (s : Shared) (H : Hp) (E : XK) (W : WX), Room k (A.deeper (envOfC qual (defScope stm) s.heap.objs.size f cdv)) →
      PassesOwn (model P w) (cxOf (L2.CX P w) P w K mg base N qual (defScope stm) f cdv A outer s H E).A (cxOf (L2.CX P w) P w K mg base N qual (defScope stm) f cdv A outer s H E).env (cxOf (L2.CX P w) P w K mg base N qual (defScope stm) f cdv A outer s H E).xe →
      Takes (cxOf (L2.CX P w) P w K mg base N qual (defScope stm) f cdv A outer s H E) W → DSs (cxOf (L2.CX P w) P w K mg base N qual (defScope stm) f cdv A outer s H E) T W (defBody stm) body) :
    FnOk P w K mg base (L2.CX P w) (k + 1) f fd ps (spD K T ps.length (runFn ps.length N.length body)) :=
  fn_ok F Sc fun X W _ _ _ _ _ _ _ _ _ hr _ _ _ hp tk ⟨cdv, A, outer, s, H, E, e⟩ => by subst e; exact hb cdv A outer s H E W hr hp tk
end
section
variable {X : Cx} {T : Tab} {W : WX}
theorem de_callD {k n j : Nat} {F : Fn} {ps : List Str} {x : Str} {p pos : Pos} {e : Expr} {es : List Expr} {fa : S → R (List D)}
    (h : DefAt X.prog X.w X.K X.mg X.base T x ps n k F) (hr : Room j X.A) (hj : k ≤ j) (tk : Takes X W) (ha : DA X T W (e :: es) fa) (hg : Gl X x := by rfl) (hdb : (x == ("__debug__" : Str)) = false := by decide) (he : starEach (e :: es) X.env = (false, eval e X.env) :: starEach es X.env := by rfl) (hpl : (backTo pos (starEach es X.env)).any (·.1) = false := by rfl) :
    DE X T W (.Call (.Name x p) (e :: es) [] pos) (dCall n F [] fa) := by
  obtain ⟨f, fd, ok, hm, hk, hb⟩ := h.ex
  exact de_call ok (hr.mono hj) hg hm hk hb .nil (fun _ _ => .nil) tk ha hdb he hpl
theorem de_callD0 {k n j : Nat} {F : Fn} {ps : List Str} {x : Str} {p pos : Pos}
    (h : DefAt X.prog X.w X.K X.mg X.base T x ps n k F) (hr : Room j X.A) (hj : k ≤ j) (tk : Takes X W) (hg : Gl X x := by rfl) (hdb : (x == ("__debug__" : Str)) = false := by decide) :
    DE X T W (.Call (.Name x p) [] [] pos) (dCall n F [] dNil) := by
  obtain ⟨f, fd, ok, hm, hk, hb⟩ := h.ex
  exact de_call0 ok (hr.mono hj) hg hm hk hb .nil (fun _ _ => .nil) tk hdb

/-- f(g(..)), g's new list the box of f -/
def dCallBox (n : Nat) (F : Fn) (m : Nat) (Gf : Fn) (fa : S → R (List D)) : S → R D := fun st => (fa st).bind fun ds st => if ds.length = m ∧ n = 1 then match Gf ds st.bx with
  | .okF [.int a, .int b, .int c] b' => match F [.box] (a, b, c) with
    | .ok (.bl k) _ => .ok (.bl k) { st with bx := b' }
    | _ => .stuck
  | _ => .stuck
  else .stuck
theorem de_callBox {k k2 n m j : Nat} {F Gf : Fn} {ps ps2 : List Str} {x y : Str} {p p2 pos pos2 : Pos} {e : Expr} {es : List Expr} {fa : S → R (List D)}
    (h : DefAt X.prog X.w X.K X.mg X.base T x ps n k F) (h2 : DefAt X.prog X.w X.K X.mg X.base T y ps2 m k2 Gf) (hr : Room j X.A) (hj : k ≤ j) (hj2 : k2 ≤ j) (tk : Takes X W) (ha : DA X T W (e :: es) fa) (hg : Gl X x := by rfl) (hg2 : Gl X y := by rfl) (hdb : (x == ("__debug__" : Str)) = false := by decide) (hdb2 : (y == ("__debug__" : Str)) = false := by decide)
    (he : starEach (e :: es) X.env = (false, eval e X.env) :: starEach es X.env := by rfl) (hpl : (backTo pos2 (starEach es X.env)).any (·.1) = false := by rfl)
    (he2 : starEach [.Call (.Name y p2) (e :: es) [] pos2] X.env = (false, eval (.Call (.Name y p2) (e :: es) [] pos2) X.env) :: starEach [] X.env := by rfl) (hpl2 : (backTo pos (starEach [] X.env)).any (·.1) = false := by rfl) :
    DE X T W (.Call (.Name x p) [.Call (.Name y p2) (e :: es) [] pos2] [] pos) (dCallBox n F m Gf fa) := by
  obtain ⟨f, fd, ok, hm, hk, hb⟩ := h.ex
  obtain ⟨f2, fd2, ok2, hm2, hk2, hb2⟩ := h2.ex
  refine impE (pe_callSD (E := WE W) ok (hr.mono hj) hg hm hk hb .nil (passAt tk) (pa_cons (pe_callSD (E := WE W) ok2 (hr.mono hj2) hg2 hm2 hk2 hb2 .nil (passAt tk) ha hdb2 he hpl) pa_nil he2) hdb (by rfl) hpl2) fun σ H Q ⟨c, G, st, hd, okQ⟩ => ?_
  obtain ⟨c0, G0, st0, hd0, ok0⟩ := step (rel := relA X.K T) hd okQ
  refine ⟨c0, G0, st0, hd0, ok0.imp fun vs H1 ⟨G1, st1, as, s1, hd1, r1, ok1⟩ => ?_⟩
  show spD X.K T m Gf (vs ++ []) H1 _ _
  rw [List.append_nil]
  by_cases q : as.length = m ∧ n = 1
  · rw [if_pos q] at ok1
    refine ⟨r1.length.trans q.1, c.B, G1, as, st1.bx, hd1.sub, hd1.box, r1, ?_⟩
    revert ok1
    cases Gf as st1.bx with
    | stuck => exact fun ok1 => ok1.elim
    | err _ _ => exact fun ok1 => ok1.elim
    | ok _ _ => exact fun ok1 => ok1.elim
    | okF l b' =>
      intro ok1 G' H' pb vsb a hp g nn r
      match l, r, ok1 with
      | [.int i1, .int i2, .int i3], .cons (.int _) (.cons (.int _) (.cons (.int _) .nil)), ok1 =>
        show spD X.K T n F [.ref pb] H' _ _
        refine ⟨q.2.symm, some pb, fun _ => none, [.box], (i1, i2, i3), (fun a o z => nomatch z), (fun p e => by cases e; exact ⟨hp, rfl⟩), .cons (.box rfl) .nil, ?_⟩
        replace ok1 : GOk X.K T W (relD X.K T) c G1 σ (match F [.box] (i1, i2, i3) with | .ok (.bl k) _ => .ok (.bl k) { st1 with bx := b' } | _ => .stuck) Q := ok1
        revert ok1
        cases F [.box] (i1, i2, i3) with
        | stuck => exact fun ok1 => ok1.elim
        | err _ _ => exact fun ok1 => ok1.elim
        | okF _ _ => exact fun ok1 => ok1.elim
        | ok d bb =>
          cases d with
          | bl k =>
            intro ok1 G2 H2 v a2 r2
            cases r2
            refine ok1 G1 H2 (.bl k) (Same.refl _) (hd1.after (b := b') ⟨Same.refl _, fun x o z => ?_, fun x z w => absurd z w, fun x o z w => ?_, fun x z => ?_⟩) (.bl k)
            · have z1 := hd1.sub _ _ z
              have nx : some pb ≠ some x := fun y => by cases y; rw [nn] at z1; cases z1
              refine a2.frame x o ?_ nx
              exact a.sub _ _ (a.sG _ _ z)
            · have nx : some pb ≠ some x := fun y => by cases y; rw [nn] at z; cases z
              exact a2.frame x o (a.frame x o z w) nx
            · obtain ⟨z1, z2⟩ := a.box x z
              have nx : some pb ≠ some x := fun y => by
                cases y
                have := (hd1.box _ z).1
                rw [nn] at this; cases this
              exact ⟨a2.frame x _ z1 nx, (hd1.box x z).2⟩
          | _ => exact fun ok1 => ok1.elim
  · rw [if_neg q] at ok1; exact ok1.elim
end
end DL

/-! DLj: errors of own classes: made, raised, caught, read, asked for their class. -/
namespace DL
open PySem PySem.Spec PyProof.Rows L2
section
variable {X : Cx} {pins : List (Addr × Obj)} {σ : SV} {H : Hp} {s : Shared} {a : Addr} {o : HO}
theorem trk_ne {b : Addr} {u : HO} (hx : H a = none ∨ ∃ φ, H a = some (.ext φ)) (e : H b = some u) (d : ∀ φ, u ≠ .ext φ) : b ≠ a := fun z => by
  subst z
  rcases hx with q | ⟨φ, q⟩
  · rw [e] at q; cases q
  · rw [e] at q; exact d φ (Option.some.inj q)
/-- an object that stands is known from now on (anew) -/
theorem inv_track (I : Inv X pins σ H s) (h0 : H a = none → X.s_0.heap.get? a = none) (hx : H a = none ∨ ∃ φ, H a = some (.ext φ)) (nL : a ≠ X.env.locals) (nC : ∀ x c, X.env.cells.lookup x = some c → c ≠ a) (nP : ∀ p ∈ X.pn ++ pins, p.1 ≠ a)
    (new : ObjOk X.prog X.w (upd H a o) s.heap a o) : Inv X pins σ (upd H a o) s where
  ok := I.ok
  os := I.os
  bare := I.bare
  base := {
    keep := I.base.keep
    slot := I.base.slot
    free := fun b u e n hb => by
      have q := I.base.free b u e n hb
      rw [upd_ne (show b ≠ a from fun z => by subst z; rw [h0 q] at e; cases e)]
      exact q
    there := I.base.there
    tups := fun b xs e => by
      have q := I.base.tups b xs e
      rw [upd_ne (trk_ne hx q fun φ z => nomatch z)]; exact q
    frzs := fun b u v e => by
      have q := I.base.frzs b u v e
      rw [upd_ne (trk_ne hx q fun φ z => nomatch z)]; exact q
    tbls := fun b ps e => by
      obtain ⟨m, q⟩ := I.base.tbls b ps e
      exact ⟨m, by rw [upd_ne (trk_ne hx q fun φ z => nomatch z)]; exact q⟩ }
  loc := I.loc
  cell := I.cell
  free := by rw [upd_ne (Ne.symm nL)]; exact I.free
  freeC := fun x c e => by rw [upd_ne (nC x c e)]; exact I.freeC x c e
  pin := fun p hp => by
    obtain ⟨e, n, r⟩ := I.pin p hp
    exact ⟨e, by rw [upd_ne (nP p hp)]; exact n, r⟩
  hok := fun b u q => by
    by_cases hb : b = a
    · subst hb; rw [upd_same] at q; cases q; exact new
    · rw [upd_ne hb] at q
      refine (I.hok b u q).stay (fun c v _ z => z) (fun c z => ?_) fun c xs z => ?_
      · rw [upd_ne (trk_ne hx z fun φ y => nomatch y)]; exact z
      · rw [upd_ne (trk_ne hx z fun φ y => nomatch y)]; exact z
  len := I.len
theorem exV_ok {P : Program} {w : World} {h : Heap} {C : Addr} {d : Option Addr} {oe : Obj} {vs : Array Value} (e : h.get? a = some oe) (c : oe.cls = .ref C) (dd : oe.dict = d) (f : oe.data = .fields vs) : ObjOk P w H h a (exV a C d) :=
  ⟨⟨oe, vs, e, c, dd, f⟩, ⟨oe, e⟩, fun _ _ ⟨o, v, q, r⟩ k => ⟨o, v, k o q, r⟩⟩
theorem exV_at {P : Program} {w : World} {h : Heap} {C : Addr} {d : Option Addr} (hok : HOk P w H h) (e : H a = some (exV a C d)) : ∃ (oe : Obj) (vs : Array Value), h.get? a = some oe ∧ oe.cls = .ref C ∧ oe.dict = d ∧ oe.data = .fields vs := (hok a _ e).1
end
/-- what the written part says of an own error class -/
structure ErC (K : PySem.W.Frag) (C : Addr) : Prop where
  x : ExcC K C
  tyC : PySem.W.typeIn K (.ref C) = some (.type "type")
  kC : PySem.W.keepIn K (.ref C) = true
/-- .. of one without an __init__, by its name -/
structure Er0At (K : PySem.W.Frag) (mg : Str → Option Value) (T : Tab) (x : Str) (c : Nat) : Prop where
  e : ErC K (T.C c)
  g : mg x = some (.ref (T.C c))
  n : T.fld c = []
  q : PySem.W.excIn K (T.C c) [.type "ValueError", .type "Exception", .type "BaseException", .type "object"] "ValueError.__new__" = true
/-- .. of one with the one field nm -/
structure Er1At (P : Program) (w : World) (K : PySem.W.Frag) (mg : Str → Option Value) (base : Heap) (T : Tab) (x nm : Str) (c : Nat) : Prop where
  e : ErC K (T.C c)
  g : mg x = some (.ref (T.C c))
  n : T.fld c = [nm]
  o : OexC K (T.C c)
  no : PySem.W.findIn K (.ref (T.C c)) nm = some none
  init : ∃ (fI : Addr) (fd : FuncData), PySem.W.findIn K (.ref (T.C c)) "__init__" = some (some (.ref fI)) ∧ PySem.W.typeIn K (.ref fI) = some (.type "function") ∧
    FnOk P w K mg base CX0 1 fI fd ["self", nm] (fun vs H Q _ => ∃ (a : Addr) (y : V), vs = [.ref a, y] ∧ H a = some (exo a (T.C c) none) ∧ ∀ dx, H dx = none → dx ≠ a → Q .non (upd (upd H dx (exd dx [(nm, y)])) a (exo a (T.C c) (some dx)))) ∧ Binds K fd ["self", nm] [] ∧ ∀ (s : Shared) (u v : Value), BindsTo s fd ⟨[u], [(nm, v)]⟩ [("self", u), (nm, v)]
/-- the promise of such an __init__ -/
abbrev spEr (C : Addr) (nm : Str) : Sp := fun vs H Q _ => ∃ (a : Addr) (y : V), vs = [.ref a, y] ∧ H a = some (exo a C none) ∧ ∀ dx, H dx = none → dx ≠ a → Q .non (upd (upd H dx (exd dx [(nm, y)])) a (exo a C (some dx)))
theorem er_read {K : PySem.W.Frag} {C : Addr} {nm : Str} (o : OexC K C) (no : PySem.W.findIn K (.ref C) nm = some none) {vs : List V} {H : Hp} {Q : VK} {E : XK} (h : spEr C nm vs H Q E) :
    tOst K nm (tVar 0) (tVar 1) { nx := fun _ H' => Q .non H', rt := Q } (L2.start ["self", nm] vs) H := by
  obtain ⟨a, y, rfl, ea, q⟩ := h
  exact ⟨y, rfl, .ref a, rfl, a, C, rfl, o, no, .inl ⟨ea, fun dx n ne => q dx n ne⟩⟩
theorem er_len {C : Addr} {nm : Str} : ∀ vs H Q E, spEr C nm vs H Q E → vs.length = (["self", nm] : List Str).length := fun vs H Q E ⟨a, y, e, _⟩ => by rw [e]; rfl
section
variable {X : Cx} {T : Tab} {W : WX}
/-! ### an error as a value -/
def dMk (c : Nat) (f : S → R D) : S → R D := fun st => (f st).bind fun d st => .ok (.er c [d]) st
theorem de_mk1 {x nm : Str} {c j : Nat} {p pos : Pos} {e : Expr} {f : S → R D} (h : Er1At X.prog X.w X.K X.mg X.base T x nm c) (hr : Room (j + 2) X.A) (he : DE X T W e f) (hg : Gl X x := by rfl) (hdb : (x == ("__debug__" : Str)) = false := by decide)
    (hs : starEach [e] X.env = (false, eval e X.env) :: starEach [] X.env := by rfl) (hpl : (backTo pos (starEach [] X.env)).any (·.1) = false := by rfl) : DE X T W (.Call (.Name x p) [e] [] pos) (dMk c f) := by
  refine ⟨fun pins s σ H Q I ⟨c0, G, st, hd, ok⟩ => ?_⟩
  obtain ⟨fI, fd, iC, tI, F1, hb, hkb⟩ := h.init
  obtain ⟨nm', q, N, bs, bm, sn, sub, ab, col, dd, k0, k1, k2, k3, k5, hC, hbm⟩ := h.o.cls
  have ha : PA X [e] (tCons (gD X.K T W (relD X.K T) f) tNil) := pa_cons he pa_nil hs
  refine wpAny_Call_Name_kw (ld_glob I hg h.g ?_ hdb)
  obtain ⟨c1, G1, st1, hd1, ok1⟩ := step (rel := relD X.K T) hd ok
  refine PySem.W.callWith_K (h₀ := X.base) I.ok.mod.kin h.e.kC (thn (ha.run pos pins s σ H (fun vs H1 => ∃ v, vs = [v] ∧ ∃ G1 st1 a, Same G G1 ∧ Holds X.K T c0 G1 H1 σ st1 ∧ relD X.K T c0 G1 H1 σ st1 v a ∧ GOk X.K T W (relD X.K T) c0 G1 σ (.ok (.er c [a]) st1) Q) I ⟨c1, G1, st1, hd1, ok1.imp fun v H1 z => ⟨v, rfl, z⟩⟩) fun us s1 ⟨vs, H1, I1, r1, v, ev, G2, st2, d, s2, hd2, r2, ok2⟩ => ⟨I1.kIn, ?_⟩) hs hpl
  subst ev
  show wpAny _ _ (call (.ref (T.C c)) us) _ _ _
  obtain ⟨hp, g, dr, tk, os⟩ := s1
  have hsz : hp.objs.size ≤ hp.objs.size + 1 := Nat.le_succ _
  have hn : H1 (hp.objs.size + 1) = none := I1.hok.fresh hsz
  have kk : ∀ b o, hp.get? b = some o → ((hp.push (PySem.W.kdv_tup us)).push (PySem.HandSPX.excO (T.C c) hp.objs.size)).get? b = some o := fun b o e => Heap.get?_push_of_some _ (Heap.get?_push_of_some _ e)
  have hget : ((hp.push (PySem.W.kdv_tup us)).push (PySem.HandSPX.excO (T.C c) hp.objs.size)).get? (hp.objs.size + 1) = some (PySem.HandSPX.excO (T.C c) hp.objs.size) := by heap_get
  have I2 : Inv X pins σ (upd H1 (hp.objs.size + 1) (exo (hp.objs.size + 1) (T.C c) none)) ⟨(hp.push (PySem.W.kdv_tup us)).push (PySem.HandSPX.excO (T.C c) hp.objs.size), g, dr, tk, os⟩ :=
    I1.laid (t' := tk) (a := hp.objs.size + 1) (o := exo (hp.objs.size + 1) (T.C c) none) (h' := (hp.push (PySem.W.kdv_tup us)).push (PySem.HandSPX.excO (T.C c) hp.objs.size)) kk hsz (exo_ok hget)
  have rr : Vals [V.ref (hp.objs.size + 1), v] (Value.ref (hp.objs.size + 1) :: us) := .cons rfl r1
  have hus : us.length ≤ sizeLine := by
    rw [← Paired.length r1, sizeLine_eq]
    exact (by decide : 1 ≤ 16777216)
  have hul : (Value.ref (hp.objs.size + 1) :: us).length = 2 := by rw [← rr.length]; rfl
  have nL : hp.objs.size + 1 ≠ X.env.locals := fun z => by
    have := I1.lt
    rw [← z] at this
    exact absurd (Nat.lt_of_lt_of_le this hsz) (Nat.lt_irrefl _)
  refine wpAny_call (PySem.HandSPX.call_own F.excBase_ValueError (fun Y => PySem.HandSPX.refsVE_contains Y bm hbm) (I1.kIn _ _ hC) (PySem.W.looks_findIn I1.kIn iC) (fun self => PySem.W.bind_fn I1.kIn self tI) hus
    (codeAny_mono (F1.run _ X.stack _ _ ⟨Value.ref (hp.objs.size + 1) :: us, []⟩ (Value.ref (hp.objs.size + 1) :: us) _ (fun u H2 => u = .non ∧ ∃ dx, H1 dx = none ∧ dx ≠ hp.objs.size + 1 ∧ H2 = upd (upd (upd H1 (hp.objs.size + 1) (exo (hp.objs.size + 1) (T.C c) none)) dx (exd dx [(nm, v)])) (hp.objs.size + 1) (exo (hp.objs.size + 1) (T.C c) (some dx))) (fun _ _ _ => False) ((hr.mono (by omega)).make (T.C c) us []) (I2.env0.make (T.C c) us [])
      (by simpa using hb _ (Value.ref (hp.objs.size + 1) :: us) I2.kIn (by simpa using hul)) rr ⟨_, v, rfl, upd_same, fun dx n ne => ⟨rfl, dx, by rw [upd_ne ne] at n; exact n, ne, rfl⟩⟩) fun r s' hq' => ?_))
  cases r with
  | error er => exact hq'.elim
  | ok fl =>
    cases fl with
    | ret u =>
      obtain ⟨u2, H2, os2, bare2, un2, hok2, rv, eu, dx, n1, ne, eH⟩ := hq'
      subst eu
      refine ⟨rv, ?_⟩
      obtain ⟨h2, g2, d2, t2, os'⟩ := s'
      have I3 : Inv X pins σ H2 ⟨h2, g2, d2, t2, os'⟩ := I2.call' (ch := []) os2 un2 hok2 bare2 (fun b z => absurd z (by simp))
      have ea : H2 (hp.objs.size + 1) = some (exo (hp.objs.size + 1) (T.C c) (some dx)) := by rw [eH, upd_same]
      have ed : H2 dx = some (exd dx [(nm, v)]) := by rw [eH, upd_ne ne, upd_same]
      obtain ⟨t0, hoe⟩ := exo_at hok2 ea
      obtain ⟨mA, hns, rel⟩ := exd_at hok2 ed
      have free : ∀ {b : Addr} {φ : Heap → Prop}, H2 b = some (.ext φ) → (∀ x c', X.env.cells.lookup x = some c' → c' ≠ b) ∧ (∀ p ∈ X.pn ++ pins, p.1 ≠ b) ∧ b ≠ X.env.locals := fun {b φ} eb => by
        refine ⟨fun x c' z y => ?_, fun p hp' y => ?_, fun y => ?_⟩
        · have := I3.freeC x c' z
          rw [y, eb] at this; cases this
        · have := (I3.pin p hp').2.1
          rw [y, eb] at this; cases this
        · have := I3.free
          rw [← y, eb] at this; cases this
      obtain ⟨nC, nP, nL2⟩ := free ea
      have I4 := inv_track (o := exV (hp.objs.size + 1) (T.C c) (some dx)) I3 (fun z => by rw [ea] at z; cases z) (.inr ⟨_, ea⟩) nL2 nC nP (exV_ok hoe rfl rfl rfl)
      have ed4 : (upd H2 (hp.objs.size + 1) (exV (hp.objs.size + 1) (T.C c) (some dx))) dx = some (exd dx [(nm, v)]) := by rw [upd_ne ne]; exact ed
      obtain ⟨nC', nP', nL'⟩ := free ed
      have I5 := inv_track (o := .xd [(nm, v)]) I4 (fun z => by rw [ed4] at z; cases z) (.inr ⟨_, ed4⟩) nL' nC' nP' ⟨mA, hns, rel⟩
      -- what is known now
      have eH5 : upd (upd H2 (hp.objs.size + 1) (exV (hp.objs.size + 1) (T.C c) (some dx))) dx (.xd [(nm, v)]) = upd (upd H1 dx (.xd [(nm, v)])) (hp.objs.size + 1) (exV (hp.objs.size + 1) (T.C c) (some dx)) := by
        rw [eH]
        funext b
        by_cases b1 : b = dx
        · subst b1; rw [upd_same, upd_ne ne, upd_same]
        · by_cases b2 : b = hp.objs.size + 1
          · subst b2; rw [upd_ne b1, upd_same, upd_same]
          · rw [upd_ne b1, upd_ne b2, upd_ne b2, upd_ne b1, upd_ne b2, upd_ne b2, upd_ne b1]
      rw [eH5] at I5
      have hd5 := hd2.lay (.xd [(nm, v)]) n1
      have n2 : (upd H1 dx (.xd [(nm, v)])) (hp.objs.size + 1) = none := by rw [upd_ne (Ne.symm ne)]; exact hn
      have hd6 := hd5.lay (exV (hp.objs.size + 1) (T.C c) (some dx)) n2
      have sA := same_upd (o := .xd [(nm, v)]) (hd2.gnone n1)
      have sB := same_upd (o := exV (hp.objs.size + 1) (T.C c) (some dx)) (hd5.gnone n2)
      exact ⟨.ref (hp.objs.size + 1), _, I5, rfl, ok2 _ _ _ (sA.trans sB) hd6 (.er1 upd_same h.n (by rw [upd_ne ne, upd_same]) ((r2.mono sA).mono sB))⟩
    | next => exact False.elim hq'
    | brk => exact False.elim hq'
    | cont => exact False.elim hq'

/-! ### raised -/
def dRaise (c : Nat) (f : S → R D) : S → R Out := fun st => (f st).bind fun d st => .err ⟨c, [d]⟩ st
theorem ds_raise1 {x nm : Str} {c j : Nat} {p pos pos2 : Pos} {e : Expr} {f : S → R D} (h : Er1At X.prog X.w X.K X.mg X.base T x nm c) (hc : X.calm = true) (hr : Room (j + 2) X.A) (tk : Takes X W) (he : DE X T W e f) (hg : Gl X x := by rfl) (hdb : (x == ("__debug__" : Str)) = false := by decide)
    (hs : starEach [e] X.env = (false, eval e X.env) :: starEach [] X.env := by rfl) (hpl : (backTo pos (starEach [] X.env)).any (·.1) = false := by rfl) : DS X T W (.Raise (some (.Call (.Name x p) [e] [] pos)) none pos2) (dRaise c f) := by
  obtain ⟨fI, fd, iC, tI, F1, hb, hkb⟩ := h.init
  refine impS (ps_raise hc tk (pmk_oex h.o iC tI F1 (hr.mono (by omega)) hb .nil pass0 hg h.g (pa_cons he pa_nil hs) hdb hs hpl)) fun E σ H ⟨c0, G, st, hd, ok⟩ => ?_
  obtain ⟨c1, G1, st1, hd1, ok1⟩ := stepS (rel := relD X.K T) hd ok
  refine ⟨c1, G1, st1, hd1, ok1.imp fun v H1 ⟨G2, st2, d, s2, hd2, r2, ok2⟩ => ⟨by show 1 ≤ 1000; decide, fun a hn => ⟨a, v, rfl, upd_same, fun dx n ne => ?_⟩⟩⟩
  have n1 : H1 dx = none := by rw [upd_ne ne] at n; exact n
  refine ⟨rfl, dx, [(nm, v)], upd_same, by rw [upd_ne ne, upd_same], n1, ?_⟩
  have eH : upd (del (upd (upd (upd H1 a (exo a (T.C c) none)) dx (exd dx [(nm, v)])) a (exo a (T.C c) (some dx))) a) dx (.xd [(nm, v)]) = upd H1 dx (.xd [(nm, v)]) := by
    funext b
    by_cases b1 : b = dx
    · subst b1; rw [upd_same, upd_same]
    · by_cases b2 : b = a
      · subst b2; rw [upd_ne b1, upd_ne b1, del_same, hn]
      · rw [upd_ne b1, upd_ne b1, del_ne b2, upd_ne b2, upd_ne b1, upd_ne b2]
  rw [eH]
  have sA := same_upd (o := .xd [(nm, v)]) (hd2.gnone n1)
  exact ok2 _ _ _ _ _ sA (hd2.lay (.xd [(nm, v)]) n1) ⟨rfl, rfl, dx, nm, v, rfl, h.n, upd_same, r2.mono sA⟩
/-- a class without an __init__, called without arguments -/
theorem own0_run {x : Str} {c : Nat} {p pos : Pos} {pins : List (Addr × Obj)} {s : Shared} {σ : SV} {H : Hp} {Q : Value → Shared → Prop} (h : Er0At X.K X.mg T x c) (I : Inv X pins σ H s) (hg : Gl X x) (hdb : (x == ("__debug__" : Str)) = false)
    (q : ∀ h' e, Heap.MadeExcOf s.heap h' e (.ref (T.C c)) [] → Q (.ref e) { s with heap := h' }) : wpAny (model X.prog X.w) X.A (eval (.Call (.Name x p) [] [] pos) X.env) Q X.xe s := by
  refine wpAny_Call_Name_kw (ld_glob I hg h.g ?_ hdb)
  refine PySem.W.callWith_K0 I.kIn h.e.kC ?_
  show wpAny _ _ (call (.ref (T.C c)) []) _ _ _
  obtain ⟨bm, N, nm, qn, bs, hdct, sn, sub, ab, col, dd, k0, k1, k2, k3, k5, mN, hC, hN, hni, tl⟩ := exc_obj I.kIn h.q
  obtain ⟨hp, g, dr, tk, os⟩ := s
  exact wpAny_call_exc_subT PySem.F.excBase_ValueError tl hC hN hni (fun h' e hm => q h' e hm) (by show 0 ≤ sizeLine; exact Nat.zero_le _)
def dMk0 (c : Nat) : S → R D := fun st => .ok (.er c []) st
theorem de_mk0 {x : Str} {c : Nat} {p pos : Pos} (h : Er0At X.K X.mg T x c) (hg : Gl X x := by rfl) (hdb : (x == ("__debug__" : Str)) = false := by decide) : DE X T W (.Call (.Name x p) [] [] pos) (dMk0 c) := by
  refine ⟨fun pins s σ H Q I ⟨c0, G, st, hd, ok⟩ => own0_run h I hg hdb fun h' e hm => ?_⟩
  obtain ⟨t, he, _, _⟩ := hm.there
  have hn : H e = none := I.hok.gone hm.new
  have I1 := I.laidN (t' := s.toks) (o := exV e (T.C c) none) hm.keeps hm.new hn (exV_ok he rfl rfl rfl)
  have sA := same_upd (o := exV e (T.C c) none) (hd.gnone hn)
  exact ⟨.ref e, _, I1, rfl, ok _ _ _ sA (hd.lay _ hn) (.er0 upd_same h.n)⟩
def dRaise0 (c : Nat) : S → R Out := fun st => .err ⟨c, []⟩ st
theorem ds_raise0 {x : Str} {c : Nat} {p pos pos2 : Pos} (h : Er0At X.K X.mg T x c) (hc : X.calm = true) (tk : Takes X W) (hg : Gl X x := by rfl) (hdb : (x == ("__debug__" : Str)) = false := by decide) : DS X T W (.Raise (some (.Call (.Name x p) [] [] pos)) none pos2) (dRaise0 c) := by
  have hm : PMk X (.Call (.Name x p) [] [] pos) (fun _ H Q => Q (.ref (T.C c)) none H) := fun pins s σ H Q I q => own0_run h I hg hdb fun h' e hm => mk_of I hm (raises_own h.e.x.hs h.e.tyC) q (I.hok.gone hm.new)
  exact impS (ps_raise hc tk hm) fun E σ H ⟨c0, G, st, hd, ok⟩ => ok _ _ _ _ _ (Same.refl _) hd ⟨rfl, rfl, h.n⟩
/-! ### a field read -/
def dAttrE (c : Nat) (f : S → R D) : S → R D := fun st => (f st).bind fun d st => match d with
  | .er c' [v] => if c' = c then .ok v st else .stuck
  | _ => .stuck
theorem de_attrE {x nm : Str} {c : Nat} {e : Expr} {pos : Pos} {f : S → R D} (h : Er1At X.prog X.w X.K X.mg X.base T x nm c) (he : DE X T W e f) (hb : attributeBase e nm X.env (eval e X.env) = eval e X.env := by rfl) : DE X T W (.Attribute e nm pos) (dAttrE c f) := by
  refine ⟨fun pins s σ H Q I ⟨c0, G, st, hd, ok⟩ => attr_of hb ?_⟩
  obtain ⟨c1, G1, st1, hd1, ok1⟩ := step (rel := relD X.K T) hd ok
  refine thn (he.run pins s σ H _ I ⟨c1, G1, st1, hd1, ok1⟩) fun u s1 ⟨v, H1, I1, rv, G2, st2, d, s2, hd2, r2, ok2⟩ => ?_
  cases r2 with
  | @er1 a dd c' nm' v2 f2 h1 hn hdd r =>
    replace ok2 : GOk X.K T W (relD X.K T) c0 G2 σ (if c' = c then .ok f2 st2 else .stuck) Q := ok2
    by_cases ec : c' = c
    · rw [if_pos ec] at ok2
      subst ec
      rw [h.n] at hn
      cases hn
      obtain rfl : u = Value.ref a := rv
      obtain ⟨oe, vs, g1, g2, g3, g4⟩ := exV_at I1.hok (hd2.sub _ _ h1)
      obtain ⟨mA, hns, hr⟩ := (show ObjOk X.prog X.w H1 s1.heap dd (.xd [(nm, v2)]) from I1.hok dd _ (hd2.sub _ _ hdd))
      obtain ⟨od, ho, hl⟩ := lookIn_ns hns
      have l : List.lookup nm [(nm, v2)] = some v2 := by simp [List.lookup]
      obtain ⟨u2, hu, ru⟩ := RelO.some_of (v := v2) (o := mA nm) (by rw [← l]; exact hr nm)
      have J : PySem.W.InstAt s1.heap a oe (T.C c') (some od) := ⟨g1, g2, by unfold PySem.W.notCls; rw [g4] <;> rfl, by rw [g3]; exact ho⟩
      exact HandSPX.exc_get I1.kIn J h.e.x.hg h.e.x.hk h.e.x.hs (PySem.W.findObj_own h.e.x.hd h.no rfl (by rw [hl, hu])) (handed_of ru) ⟨v2, H1, I1.tok _, ru, ok2 _ _ _ (Same.refl _) hd2 r⟩
    · rw [if_neg ec] at ok2; exact ok2.elim
  | _ => exact ok2.elim
/-! ### isinstance of an error -/
/-- what isinstance tells of the error classes, asked for u -/
structure IsTab (K : PySem.W.Frag) (T : Tab) (n : Nat) (u : Value) (tbl : Nat → Bool) : Prop where
  t : ∀ c, c < n → PySem.W.kitOne K (.ref (T.C c)) u = some (tbl c)
  e : ∀ c, c < n → ErC K (T.C c)
def dIsE (n : Nat) (tbl : Nat → Bool) (f : S → R D) : S → R D := fun st => (f st).bind fun d st => match d with
  | .er c _ => if c < n then .ok (.bl (tbl c)) st else .stuck
  | _ => .stuck
theorem kit_exc {K : PySem.W.Frag} {C a : Addr} (E : ExcC K C) {ox : Obj} {od : Option Obj} : PySem.W.KitX K (.ref a) (.ref C) (fun h => PySem.W.InstAt h a ox C od) where
  ty := fun _ _ _ I => I.type
  it := fun _ _ X _ => by
    obtain ⟨cdD, hcD, _⟩ := PySem.W.any_some E.hd
    unfold PySem.W.clsIn at hcD
    split at hcD
    · rename_i c' d' cd' sl' ho
      intro A' Q' E' s' k q
      unfold isType loadHead
      exact wpAny_bind (wpAny_loadPart (k _ _ (X _ _ ho)) (wpAny_pure q))
    · cases hcD
  ne := fun h tp dd its n sl X htp => by
    obtain ⟨cdD, hcD, _⟩ := PySem.W.any_some E.hd
    refine Bool.eq_false_iff.mpr fun q => ?_
    have e : C = tp := Value.ref.inj (beq_iff_eq.mp q)
    subst e
    unfold PySem.W.clsIn at hcD
    split at hcD
    · rename_i c' d' cd' sl' ho
      have z := (X _ _ ho).symm.trans htp
      cases z
    · cases hcD
  ca := fun X I k => PySem.W.kx_classE X I E.hg E.hk E.hs (PySem.W.findObj_dataE (by obtain ⟨cd, hc, _⟩ := PySem.W.any_some E.hd; rw [hc]; rfl) E.ha E.hn E.ht) E.hm k
theorem call_isV {cv : Value} {c : V} (hcv : ∀ u, RelV c u → u = cv) : CallR X (.builtin "isinstance") (fun xs H Q => ∃ (a C : Addr) (d : Option Addr) (b : Bool), xs = [.ref a, c] ∧ H a = some (exV a C d) ∧ (∀ dd, d = some dd → ∃ fs, H dd = some (.xd fs)) ∧ ExcC X.K C ∧ PySem.W.kitOne X.K (.ref C) cv = some b ∧ Q (.bl b) H) := by
  intro pins s σ H xs us Q I r h
  obtain ⟨a, C, d, b, rfl, ha, hdd, E, k, q⟩ := h
  cases r with
  | cons rx rr =>
    cases rr with
    | cons rt rr =>
      cases rr
      cases rx
      have ec := hcv _ rt
      subst ec
      obtain ⟨oe, vs, g1, g2, g3, g4⟩ := exV_at I.hok ha
      have J : ∃ od, PySem.W.InstAt s.heap a oe C od := by
        cases d with
        | none => exact ⟨none, g1, g2, by unfold PySem.W.notCls; rw [g4] <;> rfl, by rw [g3]; trivial⟩
        | some dd =>
          obtain ⟨fs, hf⟩ := hdd dd rfl
          obtain ⟨mA, hns, _⟩ := (show ObjOk X.prog X.w H s.heap dd (.xd fs) from I.hok dd _ hf)
          obtain ⟨od, ho, _⟩ := lookIn_ns hns
          exact ⟨some od, g1, g2, by unfold PySem.W.notCls; rw [g4] <;> rfl, by rw [g3]; exact ho⟩
      obtain ⟨od, J⟩ := J
      exact PySem.W.kia_one (kit_exc E) I.kIn J k (fun z => nomatch z) fun tk => ⟨.bl b, H, I.kept (t' := tk) fun _ _ z => z, rfl, q⟩
theorem de_isE {n : Nat} {u : Value} {cv : V} {tbl : Nat → Bool} {e e2 : Expr} {f : S → R D} {p pos : Pos} (h : IsTab X.K T n u tbl) (hu : ∀ v, RelV cv v → v = u) (hg : Gl X "isinstance") (hm : X.mg "isinstance" = none) (he : DE X T W e f) (hc : PE X e2 (tC cv))
    (h1 : starEach [e, e2] X.env = (false, eval e X.env) :: starEach [e2] X.env := by rfl) (h2 : starEach [e2] X.env = (false, eval e2 X.env) :: starEach [] X.env := by rfl) (hpl : (backTo pos (starEach [e2] X.env)).any (·.1) = false := by rfl) :
    DE X T W (.Call (.Name "isinstance" p) [e, e2] [] pos) (dIsE n tbl f) := impE (pe_callB (call_isV hu) hg hm boot_isi (pa_cons he (pa_cons hc pa_nil h2) h1) (hpl := hpl) (he := h1)) fun σ H Q ⟨c, G, st, hd, ok⟩ => by
  obtain ⟨c0, G0, st0, hd0, ok0⟩ := step (rel := relD X.K T) hd ok
  refine ⟨c0, G0, st0, hd0, ok0.imp fun v H1 ⟨G1, st1, a, s1, hd1, r1, ok1⟩ => ?_⟩
  cases r1 with
  | @er0 ad cc h0 hn =>
    replace ok1 : GOk X.K T W (relD X.K T) c G1 σ (if cc < n then .ok (.bl (tbl cc)) st1 else .stuck) Q := ok1
    by_cases q : cc < n
    · rw [if_pos q] at ok1
      exact ⟨ad, _, none, tbl cc, rfl, hd1.sub _ _ h0, (fun dd z => nomatch z), (h.e cc q).x, h.t cc q, ok1 _ _ _ (Same.refl _) hd1 (.bl _)⟩
    · rw [if_neg q] at ok1; exact ok1.elim
  | @er1 ad dd cc nm v2 f2 h0 hn hdd r =>
    replace ok1 : GOk X.K T W (relD X.K T) c G1 σ (if cc < n then .ok (.bl (tbl cc)) st1 else .stuck) Q := ok1
    by_cases q : cc < n
    · rw [if_pos q] at ok1
      exact ⟨ad, _, some dd, tbl cc, rfl, hd1.sub _ _ h0, (fun dd' z => by cases z; exact ⟨_, hd1.sub _ _ hdd⟩), (h.e cc q).x, h.t cc q, ok1 _ _ _ (Same.refl _) hd1 (.bl _)⟩
    · rw [if_neg q] at ok1; exact ok1.elim
  | _ => exact ok1.elim
end
end DL

/-! DLk: own errors made with their field by name. -/
namespace PySem
namespace DLX
open HandSPX
open Builtin Builtin.ObjectAttr
section
variable {M : Model} {A : Around} {E : Value → Shared → Prop} {h : Heap} {g : Array GenState} {d : Drawn} {t : Nat} {os : OsState}
variable {nm q : Str} {C N : Addr} {bs bm bmB : List Value} {hdct : Bool} {sn : List Str} {sub : List Value} {ab : Bool} {col : Option Bool} {dd : Option Addr} {k0 k1 k2 k3 k5 : Option Value} {B newId initId : String}
theorem check_new_kw (F : ExcBaseFacts B newId initId bmB) (hT : ∀ X : String, bm.contains (.type X) = bmB.contains (.type X)) {kw : List (Str × Value)} {Q : Unit → Shared → Prop}
    (hC : h.get? C = some (excClassObj nm q C N bs bm hdct sn sub ab col dd k0 k1 k2 k3 k5 newId)) (hq : Q () ⟨h, g, d, t, os⟩) : wpAny M A (checkBuiltinCall newId ⟨[.ref C], kw⟩) Q E ⟨h, g, d, t, os⟩ := by
  have hcont : (Value.ref C :: bm).contains (.type B) = true := by rw [List.contains_cons, hT, F.hasB, Bool.or_true]
  have hstar := F.noStar
  simp only [checkBuiltinCall, F.newKind, F.newSplit, F.newRow]
  repeat (first | refine wpAny_loadPart_at hC ?_ | (refine wpAny_isSubtype_exc hC ?_; rw [hcont]) | refine wpAny_staticBase_exc hC ?_ | refine wpAny_madeBy_exc hC ?_ | simp only [bne_self_eq_false, Bool.false_eq_true, if_false] | wp_step)
  exact hq
end
section
variable {prog : Program} {w : World} {A : Around} {E : Value → Shared → Prop} {R : Result → Shared → Prop} {h : Heap} {g : Array GenState} {d : Drawn} {t : Nat} {os : OsState}
variable {nm q : Str} {C N : Addr} {bs bm bmB : List Value} {hdct : Bool} {sn : List Str} {sub : List Value} {ab : Bool} {col : Option Bool} {dd : Option Addr} {k0 k1 k2 k3 k5 : Option Value} {B newId initId : String}
theorem new_kw (F : ExcBaseFacts B newId initId bmB) (hT : ∀ X : String, bm.contains (.type X) = bmB.contains (.type X)) {kw : List (Str × Value)}
    (hC : h.get? C = some (excClassObj nm q C N bs bm hdct sn sub ab col dd k0 k1 k2 k3 k5 newId))
    (hq : R (.ok (.ret (.ref (h.objs.size + 1)))) ⟨(h.push { cls := .type "tuple", data := .seq ([] : List Value).toArray }).push
      { cls := .ref C, data := .fields #[.ref h.objs.size, .none, .none, .none, .bool false, .none] }, g, d, t, os⟩) :
    codeAny (model prog w) A (.builtin newId ⟨[.ref C], kw⟩) R ⟨h, g, d, t, os⟩ := by
  have hends := F.ends
  have hcB : (Value.ref C :: bm).contains (.type B) = true := by rw [List.contains_cons, hT, F.hasB, Bool.or_true]
  have hcA : (Value.ref C :: bm).contains (.type "AttributeError") = false := by rw [List.contains_cons, hT, F.noAttr]; rfl
  have hcN : (Value.ref C :: bm).contains (.type "NameError") = false := by rw [List.contains_cons, hT, F.noName]; rfl
  refine codeAny_builtinAt F.entry ?_
  unfold Builtin.«BaseException.__new__»
  refine wpAt_bind ?_
  show wpAt _ _ _ (stack >>= _) _ _ _
  refine wpAt_bind (wpAt_stack fun p below => wpAt_of_wpAny ?_)
  wp_walk
  refine wpAt_of_wpAny ?_
  rw [F.owner]
  repeat (first | with_reducible refine wpAny_madeHere_exc F.canon hC ?_ | with_reducible refine wpAny_loadPart_at hC ?_ | (with_reducible refine wpAny_isSubtype_exc hC ?_; first | rw [hcB] | rw [hcA] | rw [hcN]) | wp_step)
  show R _ _
  rw [Heap.size_push]
  exact hq
theorem type_call_kw (F : ExcBaseFacts B newId initId bmB) (hT : ∀ X : String, bm.contains (.type X) = bmB.contains (.type X)) {kw : List (Str × Value)} {fI : Addr} {Q : Fin → Shared → Prop}
    (hC : h.get? C = some (excClassObj nm q C N bs bm hdct sn sub ab col dd k0 k1 k2 k3 k5 newId))
    (hi : W.Looks (model prog w) h (typeLookup (.ref C) "__init__") (some (.ref fI))) (hb : ∀ self, W.Looks (model prog w) h (bindSpecial (.ref fI) self) (.ref fI, [self])) (hk : kw ≠ [])
    (hq : codeAny (model prog w) A (.call (.ref fI) ⟨[.ref (h.objs.size + 1)], kw⟩)
      (fun r s' => match r with | .ok (.ret v) => v = .none ∧ Q (.done (.ret (.ref (h.objs.size + 1)))) s' | .ok _ => False | .error e => E e s')
      ⟨(h.push (W.kdv_tup [])).push (excO C h.objs.size), g, d, t, os⟩) :
    wpAny (model prog w) A (Builtin.«type.__call__» ⟨[.ref C], kw⟩) Q E ⟨h, g, d, t, os⟩ := by
  repeat (first | with_reducible refine wpAny_loadPart_at hC ?_ | with_reducible refine wpAny_madeBy_exc hC ?_ | wp_step)
  refine codeAny_call_builtin_code (Code.quiet_builtin _ F.quiet) (check_new_kw F hT hC ?_)
  refine new_kw F hT hC ?_
  show wpAny _ _ _ _ _ _
  have k : ∀ b o, h.get? b = some o → ((h.push (W.kdv_tup [])).push (excO C h.objs.size)).get? b = some o := fun b o e => Heap.get?_push_of_some _ (Heap.get?_push_of_some _ e)
  have hC₁ := k _ _ hC
  have hget : ((h.push (W.kdv_tup [])).push (excO C h.objs.size)).get? (h.objs.size + 1) = some (excO C h.objs.size) := by heap_get
  have hcC : (Value.ref C :: bm).contains (.ref C) = true := by simp
  have i1 := hi.keeps k
  have b1 := (hb (.ref (h.objs.size + 1))).keeps k
  unfold isInstance
  repeat (first | with_reducible refine wpAny_loadPart_at hget ?_ | (with_reducible refine wpAny_isSubtype_exc hC₁ ?_; rw [hcC]) | wp_step)
  show wpAny _ _ (typeLookup (.ref C) _) _ _ _
  refine i1.at ?_
  refine wpAny_holding (wpAny_bind (b1.at ?_))
  refine wpAny_bind (wpAny_call (codeAny_mono hq fun r s' z => ?_))
  rcases r with e | (v | _ | _ | _) <;> first | exact z | exact z.elim | skip
  obtain ⟨rfl, z⟩ := z
  first
    | exact wpAny_pure (wpAny_pure z)
    | (wp_walk; exact z)
theorem check_type_call_kw {kw : List (Str × Value)} {Q : Unit → Shared → Prop} (hC : h.get? C = some (excClassObj nm q C N bs bm hdct sn sub ab col dd k0 k1 k2 k3 k5 newId))
    (hq : Q () ⟨h, g, d, t, os⟩) : wpAny (model prog w) A (checkBuiltinCall "type.__call__" ⟨[.ref C], kw⟩) Q E ⟨h, g, d, t, os⟩ := by
  have f3 := tc_sub
  have hT : (⟨h, g, d, t, os⟩ : Shared).TypeIs (.ref C) "type" := ⟨_, hC, rfl⟩
  simp only [checkBuiltinCall, tc_kind, tc_split]
  repeat (any_goals (first | assumption | with_reducible refine wpAny_loadPart_at hC ?_ | with_reducible refine wpAny_onRaise ?_ | with_reducible refine wpAny_map ?_ | wp_step))
theorem call_kw (F : ExcBaseFacts B newId initId bmB) (hT : ∀ X : String, bm.contains (.type X) = bmB.contains (.type X)) {kw : List (Str × Value)} {fI : Addr}
    (hC : h.get? C = some (excClassObj nm q C N bs bm hdct sn sub ab col dd k0 k1 k2 k3 k5 newId))
    (hi : W.Looks (model prog w) h (typeLookup (.ref C) "__init__") (some (.ref fI))) (hb : ∀ self, W.Looks (model prog w) h (bindSpecial (.ref fI) self) (.ref fI, [self])) (hk : kw ≠ [])
    (hq : codeAny (model prog w) (A.under (.builtin "type.__call__" ⟨[.ref C], kw⟩)) (.call (.ref fI) ⟨[.ref (h.objs.size + 1)], kw⟩) (W.InitBack (h.objs.size + 1) R)
      ⟨(h.push (W.kdv_tup [])).push (excO C h.objs.size), g, d, t, os⟩) :
    codeAny (model prog w) A (.call (.ref C) ⟨[], kw⟩) R ⟨h, g, d, t, os⟩ := by
  have f1 := tc_lookup
  have f2 := tc_bind (.ref C)
  have hTy : (⟨h, g, d, t, os⟩ : Shared).TypeIs (.ref C) "type" := ⟨_, hC, rfl⟩
  refine codeAny_of_tree ?_
  show wpAny _ _ (callAny (.ref C) _) _ _ _
  repeat (any_goals (first | assumption | with_reducible refine wpAny_loadPart_at hC ?_ | wp_step))
  refine ⟨rfl, ?_⟩
  refine codeAny_call_builtin_at (Code.quiet_builtin _ (by decide +kernel)) entry_typeCall (check_type_call_kw hC (type_call_kw F hT hC hi hb hk ?_))
  refine codeAny_mono hq fun r s' z => ?_
  rcases r with e | (v | _ | _ | _) <;> exact z
end
end DLX
end PySem

namespace DL
open PySem PySem.Spec PyProof.Rows L2
section
variable {X : Cx} {T : Tab} {W : WX}
theorem de_mk1k {x nm : Str} {c j : Nat} {p pos : Pos} {e : Expr} {kp : Pos} {f : S → R D} (h : Er1At X.prog X.w X.K X.mg X.base T x nm c) (hr : Room (j + 2) X.A) (he : DE X T W e f) (hg : Gl X x := by rfl) (hdb : (x == ("__debug__" : Str)) = false := by decide)
    (hall : (backToKw pos (keywordEach [⟨some nm, e, kp⟩] X.env)).all (·.1.isSome) = true := by rfl) (hks : (backToKw pos (keywordEach [⟨some nm, e, kp⟩] X.env)).filterMap (·.1) = [nm] := by rfl)
    (hpl : ((backTo pos (starEach [] X.env)).any (·.1) || (backToKw pos (keywordEach [⟨some nm, e, kp⟩] X.env)).any (·.1.isNone)) = false := by rfl) : DE X T W (.Call (.Name x p) [] [⟨some nm, e, kp⟩] pos) (dMk c f) := by
  refine ⟨fun pins s σ H Q I ⟨c0, G, st, hd, ok⟩ => ?_⟩
  obtain ⟨fI, fd, iC, tI, F1, hb, hkb⟩ := h.init
  obtain ⟨nm', q, N, bs, bm, sn, sub, ab, col, dd, k0, k1, k2, k3, k5, hC, hbm⟩ := h.o.cls
  have ha : PK X [⟨some nm, e, kp⟩] (tCons (gD X.K T W (relD X.K T) f) tNil) := pk_cons he pk_nil
  refine wpAny_Call_Name_kw (ld_glob I hg h.g ?_ hdb)
  obtain ⟨c1, G1, st1, hd1, ok1⟩ := step (rel := relD X.K T) hd ok
  refine PySem.W.callWith_KW0 (h₀ := X.base) I.ok.mod.kin h.e.kC hall (thn (ha.run pos pins s σ H (fun vs H1 => ∃ v, vs = [v] ∧ ∃ G1 st1 a, Same G G1 ∧ Holds X.K T c0 G1 H1 σ st1 ∧ relD X.K T c0 G1 H1 σ st1 v a ∧ GOk X.K T W (relD X.K T) c0 G1 σ (.ok (.er c [a]) st1) Q) I ⟨c1, G1, st1, hd1, ok1.imp fun v H1 z => ⟨v, rfl, z⟩⟩) fun us s1 ⟨vs, H1, I1, r1, v, ev, G2, st2, d, s2, hd2, r2, ok2⟩ => ⟨I1.kIn, ?_⟩) hpl
  subst ev
  rw [hks]
  obtain ⟨u1, rfl⟩ : ∃ u1, us = [u1] := by
    cases r1 with
    | cons _ rn => cases rn; exact ⟨_, rfl⟩
  show wpAny _ _ (call (.ref (T.C c)) [] [(nm, u1)]) _ _ _
  obtain ⟨hp, g, dr, tk, os⟩ := s1
  have hsz : hp.objs.size ≤ hp.objs.size + 1 := Nat.le_succ _
  have hn : H1 (hp.objs.size + 1) = none := I1.hok.fresh hsz
  have kk : ∀ b o, hp.get? b = some o → ((hp.push (PySem.W.kdv_tup [])).push (PySem.HandSPX.excO (T.C c) hp.objs.size)).get? b = some o := fun b o e => Heap.get?_push_of_some _ (Heap.get?_push_of_some _ e)
  have hget : ((hp.push (PySem.W.kdv_tup [])).push (PySem.HandSPX.excO (T.C c) hp.objs.size)).get? (hp.objs.size + 1) = some (PySem.HandSPX.excO (T.C c) hp.objs.size) := by heap_get
  have I2 : Inv X pins σ (upd H1 (hp.objs.size + 1) (exo (hp.objs.size + 1) (T.C c) none)) ⟨(hp.push (PySem.W.kdv_tup [])).push (PySem.HandSPX.excO (T.C c) hp.objs.size), g, dr, tk, os⟩ :=
    I1.laid (t' := tk) (a := hp.objs.size + 1) (o := exo (hp.objs.size + 1) (T.C c) none) (h' := (hp.push (PySem.W.kdv_tup [])).push (PySem.HandSPX.excO (T.C c) hp.objs.size)) kk hsz (exo_ok hget)
  have rr : Vals [V.ref (hp.objs.size + 1), v] [Value.ref (hp.objs.size + 1), u1] := .cons rfl r1
  have nL : hp.objs.size + 1 ≠ X.env.locals := fun z => by
    have := I1.lt
    rw [← z] at this
    exact absurd (Nat.lt_of_lt_of_le this hsz) (Nat.lt_irrefl _)
  refine wpAny_call (PySem.DLX.call_kw F.excBase_ValueError (fun Y => PySem.HandSPX.refsVE_contains Y bm hbm) (I1.kIn _ _ hC) (PySem.W.looks_findIn I1.kIn iC) (fun self => PySem.W.bind_fn I1.kIn self tI) (by simp)
    (codeAny_mono (F1.run _ X.stack _ _ ⟨[Value.ref (hp.objs.size + 1)], [(nm, u1)]⟩ [Value.ref (hp.objs.size + 1), u1] _ (fun u H2 => u = .non ∧ ∃ dx, H1 dx = none ∧ dx ≠ hp.objs.size + 1 ∧ H2 = upd (upd (upd H1 (hp.objs.size + 1) (exo (hp.objs.size + 1) (T.C c) none)) dx (exd dx [(nm, v)])) (hp.objs.size + 1) (exo (hp.objs.size + 1) (T.C c) (some dx))) (fun _ _ _ => False) ((hr.mono (by omega)).make (T.C c) [] [(nm, u1)]) (I2.env0.make (T.C c) [] [(nm, u1)])
      (hkb _ _ _) rr ⟨_, v, rfl, upd_same, fun dx n ne => ⟨rfl, dx, by rw [upd_ne ne] at n; exact n, ne, rfl⟩⟩) fun r s' hq' => ?_))
  cases r with
  | error er => exact hq'.elim
  | ok fl =>
    cases fl with
    | ret u =>
      obtain ⟨u2, H2, os2, bare2, un2, hok2, rv, eu, dx, n1, ne, eH⟩ := hq'
      subst eu
      refine ⟨rv, ?_⟩
      obtain ⟨h2, g2, d2, t2, os'⟩ := s'
      have I3 : Inv X pins σ H2 ⟨h2, g2, d2, t2, os'⟩ := I2.call' (ch := []) os2 un2 hok2 bare2 (fun b z => absurd z (by simp))
      have ea : H2 (hp.objs.size + 1) = some (exo (hp.objs.size + 1) (T.C c) (some dx)) := by rw [eH, upd_same]
      have ed : H2 dx = some (exd dx [(nm, v)]) := by rw [eH, upd_ne ne, upd_same]
      obtain ⟨t0, hoe⟩ := exo_at hok2 ea
      obtain ⟨mA, hns, rel⟩ := exd_at hok2 ed
      have free : ∀ {b : Addr} {φ : Heap → Prop}, H2 b = some (.ext φ) → (∀ x c', X.env.cells.lookup x = some c' → c' ≠ b) ∧ (∀ p ∈ X.pn ++ pins, p.1 ≠ b) ∧ b ≠ X.env.locals := fun {b φ} eb => by
        refine ⟨fun x c' z y => ?_, fun p hp' y => ?_, fun y => ?_⟩
        · have := I3.freeC x c' z
          rw [y, eb] at this; cases this
        · have := (I3.pin p hp').2.1
          rw [y, eb] at this; cases this
        · have := I3.free
          rw [← y, eb] at this; cases this
      obtain ⟨nC, nP, nL2⟩ := free ea
      have I4 := inv_track (o := exV (hp.objs.size + 1) (T.C c) (some dx)) I3 (fun z => by rw [ea] at z; cases z) (.inr ⟨_, ea⟩) nL2 nC nP (exV_ok hoe rfl rfl rfl)
      have ed4 : (upd H2 (hp.objs.size + 1) (exV (hp.objs.size + 1) (T.C c) (some dx))) dx = some (exd dx [(nm, v)]) := by rw [upd_ne ne]; exact ed
      obtain ⟨nC', nP', nL'⟩ := free ed
      have I5 := inv_track (o := .xd [(nm, v)]) I4 (fun z => by rw [ed4] at z; cases z) (.inr ⟨_, ed4⟩) nL' nC' nP' ⟨mA, hns, rel⟩
      -- what is known now
      have eH5 : upd (upd H2 (hp.objs.size + 1) (exV (hp.objs.size + 1) (T.C c) (some dx))) dx (.xd [(nm, v)]) = upd (upd H1 dx (.xd [(nm, v)])) (hp.objs.size + 1) (exV (hp.objs.size + 1) (T.C c) (some dx)) := by
        rw [eH]
        funext b
        by_cases b1 : b = dx
        · subst b1; rw [upd_same, upd_ne ne, upd_same]
        · by_cases b2 : b = hp.objs.size + 1
          · subst b2; rw [upd_ne b1, upd_same, upd_same]
          · rw [upd_ne b1, upd_ne b2, upd_ne b2, upd_ne b1, upd_ne b2, upd_ne b2, upd_ne b1]
      rw [eH5] at I5
      have hd5 := hd2.lay (.xd [(nm, v)]) n1
      have n2 : (upd H1 dx (.xd [(nm, v)])) (hp.objs.size + 1) = none := by rw [upd_ne (Ne.symm ne)]; exact hn
      have hd6 := hd5.lay (exV (hp.objs.size + 1) (T.C c) (some dx)) n2
      have sA := same_upd (o := .xd [(nm, v)]) (hd2.gnone n1)
      have sB := same_upd (o := exV (hp.objs.size + 1) (T.C c) (some dx)) (hd5.gnone n2)
      exact ⟨.ref (hp.objs.size + 1), _, I5, rfl, ok2 _ _ _ (sA.trans sB) hd6 (.er1 upd_same h.n (by rw [upd_ne ne, upd_same]) ((r2.mono sA).mono sB))⟩
    | next => exact False.elim hq'
    | brk => exact False.elim hq'
    | cont => exact False.elim hq'
end
end DL

/-! DLl: fields of errors of several classes; facts of the written part as truth values; the end. -/
namespace DL
open PySem PySem.Spec PyProof.Rows L2
section
variable {X : Cx} {T : Tab} {W : WX}
def dAttrEs (cs : List Nat) (f : S → R D) : S → R D := fun st => (f st).bind fun d st => match d with
  | .er c' [v] => if c' ∈ cs then .ok v st else .stuck
  | _ => .stuck
theorem de_attrEs {nm : Str} {cs : List Nat} {e : Expr} {pos : Pos} {f : S → R D} (h : ∀ c ∈ cs, ∃ x, Er1At X.prog X.w X.K X.mg X.base T x nm c) (he : DE X T W e f) (hb : attributeBase e nm X.env (eval e X.env) = eval e X.env := by rfl) : DE X T W (.Attribute e nm pos) (dAttrEs cs f) := by
  refine ⟨fun pins s σ H Q I ⟨c0, G, st, hd, ok⟩ => attr_of hb ?_⟩
  obtain ⟨c1, G1, st1, hd1, ok1⟩ := step (rel := relD X.K T) hd ok
  refine thn (he.run pins s σ H _ I ⟨c1, G1, st1, hd1, ok1⟩) fun u s1 ⟨v, H1, I1, rv, G2, st2, d, s2, hd2, r2, ok2⟩ => ?_
  cases r2 with
  | @er1 a dd c' nm' v2 f2 h1 hn hdd r =>
    replace ok2 : GOk X.K T W (relD X.K T) c0 G2 σ (if c' ∈ cs then .ok f2 st2 else .stuck) Q := ok2
    by_cases ec : c' ∈ cs
    · rw [if_pos ec] at ok2
      obtain ⟨x, h⟩ := h c' ec
      rw [h.n] at hn
      cases hn
      obtain rfl : u = Value.ref a := rv
      obtain ⟨oe, vs, g1, g2, g3, g4⟩ := exV_at I1.hok (hd2.sub _ _ h1)
      obtain ⟨mA, hns, hr⟩ := (show ObjOk X.prog X.w H1 s1.heap dd (.xd [(nm, v2)]) from I1.hok dd _ (hd2.sub _ _ hdd))
      obtain ⟨od, ho, hl⟩ := lookIn_ns hns
      have l : List.lookup nm [(nm, v2)] = some v2 := by simp [List.lookup]
      obtain ⟨u2, hu, ru⟩ := RelO.some_of (v := v2) (o := mA nm) (by rw [← l]; exact hr nm)
      have J : PySem.W.InstAt s1.heap a oe (T.C c') (some od) := ⟨g1, g2, by unfold PySem.W.notCls; rw [g4] <;> rfl, by rw [g3]; exact ho⟩
      exact HandSPX.exc_get I1.kIn J h.e.x.hg h.e.x.hk h.e.x.hs (PySem.W.findObj_own h.e.x.hd h.no rfl (by rw [hl, hu])) (handed_of ru) ⟨v2, H1, I1.tok _, ru, ok2 _ _ _ (Same.refl _) hd2 r⟩
    · rw [if_neg ec] at ok2; exact ok2.elim
  | _ => exact ok2.elim
/-- the class x as the second argument of isinstance -/
structure IsAt (K : PySem.W.Frag) (mg : Str → Option Value) (T : Tab) (n : Nat) (x : Str) (tbl : Nat → Bool) : Prop where
  ex : ∃ a, mg x = some (.ref a) ∧ IsTab K T n (.ref a) tbl
theorem de_isOwn {n : Nat} {tbl : Nat → Bool} {e : Expr} {x : Str} {f : S → R D} {p p2 pos : Pos} (h : IsAt X.K X.mg T n x tbl) (hg : Gl X "isinstance") (hm : X.mg "isinstance" = none) (he : DE X T W e f) (hgx : Gl X x := by rfl) (hdb : (x == ("__debug__" : Str)) = false := by decide)
    (h1 : starEach [e, .Name x p2] X.env = (false, eval e X.env) :: starEach [.Name x p2] X.env := by rfl) (h2 : starEach [.Name x p2] X.env = (false, eval (.Name x p2) X.env) :: starEach [] X.env := by rfl) (hpl : (backTo pos (starEach [.Name x p2] X.env)).any (·.1) = false := by rfl) :
    DE X T W (.Call (.Name "isinstance" p) [e, .Name x p2] [] pos) (dIsE n tbl f) := by
  obtain ⟨a, g, t⟩ := h.ex
  exact de_isE (cv := .ref a) t (fun v r => r) hg hm he (pe_glob hgx g rfl hdb) h1 h2 hpl
theorem de_isBi {n : Nat} {tbl : Nat → Bool} {e : Expr} {x : Str} {ty : String} {f : S → R D} {p p2 pos : Pos} (h : IsTab X.K T n (.type ty) tbl) (hv : bootBuiltins x = some (.type ty)) (hmx : X.mg x = none) (hg : Gl X "isinstance") (hm : X.mg "isinstance" = none) (he : DE X T W e f) (hgx : Gl X x := by rfl) (hn : x ≠ "__name__" := by decide) (hdb : (x == ("__debug__" : Str)) = false := by decide)
    (h1 : starEach [e, .Name x p2] X.env = (false, eval e X.env) :: starEach [.Name x p2] X.env := by rfl) (h2 : starEach [.Name x p2] X.env = (false, eval (.Name x p2) X.env) :: starEach [] X.env := by rfl) (hpl : (backTo pos (starEach [.Name x p2] X.env)).any (·.1) = false := by rfl) :
    DE X T W (.Call (.Name "isinstance" p) [e, .Name x p2] [] pos) (dIsE n tbl f) :=
  de_isE (cv := .ty ty) h (fun v r => r) hg hm he (pe_bltn hgx hmx hv rfl hn hdb) h1 h2 hpl
end
/-! ### facts as truth values -/
def erCB (K : PySem.W.Frag) (D : Addr) : Bool :=
  decide (PySem.W.findIn K (.ref D) "__getattribute__" = some (some (.builtin "BaseException.__getattribute__"))) && (decide (PySem.W.findIn K (.ref D) "__getattr__" = some none) && (decide (PySem.W.subIn K (.ref D) (.type "BaseException") = some true) && (PySem.W.hasDictIn K D &&
  (decide (PySem.W.findIn K (.ref D) "__class__" = some (some (.builtin "object.__class__"))) && (decide (PySem.W.specialIn K (.builtin "object.__class__") "__get__" = some (some (.builtin "getset_descriptor.__get__"))) && (decide (PySem.W.takesIn K (.builtin "object.__class__") = some true) &&
  (decide (PySem.W.mroIn K D (.type "object") = some true) && (decide (PySem.W.typeIn K (.ref D) = some (.type "type")) && PySem.W.keepIn K (.ref D)))))))))
theorem erCB_ok {K : PySem.W.Frag} {D : Addr} (h : erCB K D = true) : ErC K D := by
  unfold erCB at h
  simp only [Bool.and_eq_true, decide_eq_true_eq] at h
  obtain ⟨h1, h2, h3, h4, h5, h6, h7, h8, h9, h10⟩ := h
  exact ⟨⟨h1, h2, h3, h4, h5, h6, h7, h8⟩, h9, h10⟩
def allErB (K : PySem.W.Frag) (cs : List Addr) : Bool := cs.all (erCB K)
def tabOf (cs : List Addr) (fl : List (List Str)) : Tab := ⟨fun c => cs.getD c 0, fun c => fl.getD c []⟩
theorem allErB_ok {K : PySem.W.Frag} {cs : List Addr} {fl : List (List Str)} (h : allErB K cs = true) : ∀ c, c < cs.length → ErC K ((tabOf cs fl).C c) := fun c hc => by
  have := List.all_eq_true.mp h (cs.getD c 0) (by rw [List.getD_eq_getElem?_getD, List.getElem?_eq_getElem hc]; exact List.getElem_mem hc)
  exact erCB_ok this
def isTabB (K : PySem.W.Frag) (cs : List Addr) (u : Value) (tbl : List Bool) : Bool := (List.range cs.length).all fun c => decide (PySem.W.kitOne K (.ref (cs.getD c 0)) u = some (tbl.getD c false))
theorem isTabB_ok {K : PySem.W.Frag} {cs : List Addr} {fl : List (List Str)} {u : Value} {tbl : List Bool} (he : allErB K cs = true) (h : isTabB K cs u tbl = true) : IsTab K (tabOf cs fl) cs.length u (fun c => tbl.getD c false) where
  t := fun c hc => of_decide_eq_true (List.all_eq_true.mp h c (List.mem_range.mpr hc))
  e := allErB_ok he
/-! ### the end: the law over the script -/
def spLaw (K : PySem.W.Frag) : Sp := fun vs H Q _ => ∃ (a : Addr) (ns : List Int), vs = [.ref a] ∧ SqL K H a (ns.map V.int) ∧ ns.length ≤ 63 ∧ ∀ H', Q (.bl true) H'
theorem law_ok {P : Program} {w : World} {K : PySem.W.Frag} {mg : Str → Option Value} {base : Heap} {T : Tab} {k : Nat} {f : Addr} {fd : FuncData} {x : Str} {F : Fn} (h : FnOk P w K mg base (L2.CX P w) k f fd [x] (spD K T 1 F))
    (hF : ∀ ns : List Int, ns.length ≤ 63 → ∃ b', F [.ro ns] (0, 0, 0) = .ok (.bl true) b') : FnOk P w K mg base (L2.CX P w) k f fd [x] (spLaw K) := h.imp fun vs H Q E ⟨a, ns, e, hs, hl, q⟩ => by
  subst e
  obtain ⟨b', e⟩ := hF ns hl
  refine ⟨rfl, none, fun b => if b = a then H a else none, [.ro ns], (0, 0, 0), fun b o z => ?_, (fun p z => nomatch z), .cons (.ro ?_) .nil, ?_⟩
  · by_cases hb : b = a
    · subst hb; replace z : (if b = b then H b else none) = some o := z; rw [if_pos rfl] at z; exact z
    · replace z : (if b = a then H a else none) = some o := z; rw [if_neg hb] at z; cases z
  · rcases hs with (z | ⟨o, z⟩) | z
    · exact .inl (.inl (by show (if a = a then H a else none) = _; rw [if_pos rfl]; exact z))
    · exact .inl (.inr ⟨o, by show (if a = a then H a else none) = _; rw [if_pos rfl]; exact z⟩)
    · exact .inr z
  · rw [e]
    intro G' H' v _ r
    cases r
    exact q H'
end DL

/-! DLm: rules for reckoning with what the layer says. -/
namespace DL
open PySem PySem.Spec PyProof.Rows L2
section
variable {α β : Type}
theorem bind_ok {a : α} {s : S} {g : α → S → R β} : (R.ok a s).bind g = g a s := rfl
theorem bind_err {e : Er} {s : S} {g : α → S → R β} : (R.err e s : R α).bind g = .err e s := rfl
theorem bind_stuck {g : α → S → R β} : (R.stuck : R α).bind g = .stuck := rfl
theorem oBind_nx {s : S} {g : S → R Out} : oBind (.ok .nx s) g = g s := rfl
theorem oBind_rt {d : D} {s : S} {g : S → R Out} : oBind (.ok (.rt d) s) g = .ok (.rt d) s := rfl
theorem oBind_rtF {d : List D} {s : S} {g : S → R Out} : oBind (.ok (.rtF d) s) g = .ok (.rtF d) s := rfl
theorem oBind_bk {s : S} {g : S → R Out} : oBind (.ok .bk s) g = .ok .bk s := rfl
theorem oBind_ct {s : S} {g : S → R Out} : oBind (.ok .ct s) g = .ok .ct s := rfl
theorem oBind_err {e : Er} {s : S} {g : S → R Out} : oBind (.err e s) g = .err e s := rfl
theorem fromF_ok {d : D} {b : Bx} {st : S} : fromF (.ok d b) st = .ok d { st with bx := b } := rfl
theorem fromF_okF {d : List D} {b : Bx} {st : S} : fromF (.okF d b) st = .ok (.ls d) { st with bx := b } := rfl
theorem fromF_err {e : Er} {b : Bx} {st : S} : fromF (.err e b) st = .err e { st with bx := b } := rfl
theorem hMulI_l {i j : Int} {st : S} (h : -18446744073709551616 < i ∧ i < 18446744073709551616) : hMulI i j st = .ok (.int (i * j)) st := if_pos (.inl h)
theorem hMulI_r {i j : Int} {st : S} (h : -18446744073709551616 < j ∧ j < 18446744073709551616) : hMulI i j st = .ok (.int (i * j)) st := if_pos (.inr h)
end
theorem run_rt {n N : Nat} {f : S → R Out} {ds : List D} {b : Bx} {d : D} {s : S} (hl : ds.length = n) (h : f ⟨ds.map Sl.val ++ List.replicate (N - n) Sl.un, b⟩ = .ok (.rt d) s) : runFn n N f ds b = .ok d s.bx := by
  unfold runFn; rw [if_pos hl, h]
theorem run_rtF {n N : Nat} {f : S → R Out} {ds es : List D} {b : Bx} {s : S} (hl : ds.length = n) (h : f ⟨ds.map Sl.val ++ List.replicate (N - n) Sl.un, b⟩ = .ok (.rtF es) s) : runFn n N f ds b = .okF es s.bx := by
  unfold runFn; rw [if_pos hl, h]
theorem run_nx {n N : Nat} {f : S → R Out} {ds : List D} {b : Bx} {s : S} (hl : ds.length = n) (h : f ⟨ds.map Sl.val ++ List.replicate (N - n) Sl.un, b⟩ = .ok .nx s) : runFn n N f ds b = .ok .non s.bx := by
  unfold runFn; rw [if_pos hl, h]
theorem run_err {n N : Nat} {f : S → R Out} {ds : List D} {b : Bx} {e : Er} {s : S} (hl : ds.length = n) (h : f ⟨ds.map Sl.val ++ List.replicate (N - n) Sl.un, b⟩ = .err e s) : runFn n N f ds b = .err e s.bx := by
  unfold runFn; rw [if_pos hl, h]
theorem seq_nx {f g : S → R Out} {st st1 : S} (h : f st = .ok .nx st1) : dSeq f g st = g st1 := by unfold dSeq; rw [h, oBind_nx]
theorem seq_rt {f g : S → R Out} {st st1 : S} {d : D} (h : f st = .ok (.rt d) st1) : dSeq f g st = .ok (.rt d) st1 := by unfold dSeq; rw [h, oBind_rt]
theorem seq_err {f g : S → R Out} {st st1 : S} {e : Er} (h : f st = .err e st1) : dSeq f g st = .err e st1 := by unfold dSeq; rw [h, oBind_err]
/-! ### loops -/
theorem forD_nil {k : Tg} {b : S → R Out} {st : S} : forD k b [] st = .ok .nx st := rfl
theorem forD_nx {k : Tg} {b : S → R Out} {d : D} {ds : List D} {st st1 st2 : S} (h1 : tgD k d st = .ok () st1) (h2 : b st1 = .ok .nx st2) : forD k b (d :: ds) st = forD k b ds st2 := by
  show (tgD k d st).bind _ = _
  rw [h1, bind_ok, h2]
theorem forD_ct {k : Tg} {b : S → R Out} {d : D} {ds : List D} {st st1 st2 : S} (h1 : tgD k d st = .ok () st1) (h2 : b st1 = .ok .ct st2) : forD k b (d :: ds) st = forD k b ds st2 := by
  show (tgD k d st).bind _ = _
  rw [h1, bind_ok, h2]
theorem forD_bk {k : Tg} {b : S → R Out} {d : D} {ds : List D} {st st1 st2 : S} (h1 : tgD k d st = .ok () st1) (h2 : b st1 = .ok .bk st2) : forD k b (d :: ds) st = .ok .nx st2 := by
  show (tgD k d st).bind _ = _
  rw [h1, bind_ok, h2]
theorem forD_rt {k : Tg} {b : S → R Out} {d v : D} {ds : List D} {st st1 st2 : S} (h1 : tgD k d st = .ok () st1) (h2 : b st1 = .ok (.rt v) st2) : forD k b (d :: ds) st = .ok (.rt v) st2 := by
  show (tgD k d st).bind _ = _
  rw [h1, bind_ok, h2]
theorem forD_err {k : Tg} {b : S → R Out} {d : D} {e : Er} {ds : List D} {st st1 st2 : S} (h1 : tgD k d st = .ok () st1) (h2 : b st1 = .err e st2) : forD k b (d :: ds) st = .err e st2 := by
  show (tgD k d st).bind _ = _
  rw [h1, bind_ok, h2]
/-! ### comprehensions -/
theorem compD_map {k : Tg} {vs : List Nat} {t : S → R Bool} {e : S → R D} {f : D → D} {st : S} : ∀ {ds acc : List D}, (∀ d ∈ ds, ∃ env', turnD k vs t e d st = .ok (some (f d)) ⟨env', st.bx⟩) → acc.length + ds.length ≤ 16777216 → compD k vs t e ds acc st = .ok (acc ++ ds.map f) st
  | [], acc, _, _ => by simp [compD]
  | d :: ds, acc, h, l => by
    obtain ⟨env', e1⟩ := h d List.mem_cons_self
    have l1 : acc.length < 16777216 := by simp at l; omega
    unfold compD
    rw [e1]
    show (if acc.length < 16777216 then compD k vs t e ds (acc ++ [f d]) st else .stuck) = _
    rw [if_pos l1, compD_map (fun d' h' => h d' (List.mem_cons_of_mem _ h')) (by simp at l ⊢; omega)]
    simp
/-- by places -/
theorem compD_mapI {k : Tg} {vs : List Nat} {t : S → R Bool} {e : S → R D} {st : S} {gs : List D} : ∀ {ds acc : List D}, ds.length = gs.length → (∀ (i : Nat) (d g : D), ds[i]? = some d → gs[i]? = some g → ∃ env', turnD k vs t e d st = .ok (some g) ⟨env', st.bx⟩) → acc.length + ds.length ≤ 16777216 → compD k vs t e ds acc st = .ok (acc ++ gs) st := by
  induction gs with
  | nil =>
    intro ds acc hl h l
    have : ds = [] := List.length_eq_zero_iff.mp hl
    subst this
    simp [compD]
  | cons g gs ih =>
    intro ds acc hl h l
    cases ds with
    | nil => simp at hl
    | cons d ds =>
      obtain ⟨env', e1⟩ := h 0 d g rfl rfl
      have l1 : acc.length < 16777216 := by simp at l; omega
      unfold compD
      rw [e1]
      show (if acc.length < 16777216 then compD k vs t e ds (acc ++ [g]) st else .stuck) = _
      rw [if_pos l1, ih (by simpa using hl) (fun i d' g' h1 h2 => h (i + 1) d' g' h1 h2) (by simp at l ⊢; omega)]
      simp
theorem blDs_true : ∀ {ds : List D}, (∀ d ∈ ds, d = .bl true) → blDs ds = some (List.replicate ds.length true)
  | [], _ => rfl
  | d :: ds, h => by
    have e := h d List.mem_cons_self
    subst e
    show (blD (.bl true)).bind (fun b => (blDs ds).map fun bs => b :: bs) = _
    rw [blDs_true fun d' h' => h d' (List.mem_cons_of_mem _ h')]
    rfl
theorem all_rep (n : Nat) : (List.replicate n true).all id = true := by induction n with
  | zero => rfl
  | succ n ih => rw [List.replicate_succ, List.all_cons, ih]; rfl
/-- all of a list of nothing but True -/
theorem hAll_true {ds : List D} {st : S} (h : ∀ d ∈ ds, d = .bl true) : hAll [.ls ds] st = .ok (.bl true) st := by
  show (match blDs ds with | some bs => R.ok (D.bl (bs.all id)) st | none => .stuck) = _
  rw [blDs_true h]
  show R.ok (D.bl ((List.replicate ds.length true).all id)) st = _
  rw [all_rep]
/-! ### the box -/
/-- so many draws are left -/
def Gd (m : Nat) (b : Bx) : Prop := 0 ≤ b.1 ∧ 0 ≤ b.2.1 ∧ b.2.1 < 4611686018427387904 ∧ 0 ≤ b.2.2 ∧ b.2.2 + m ≤ 1000000
theorem Gd.less {m n : Nat} {b : Bx} (h : Gd m b) (l : n ≤ m) : Gd n b := ⟨h.1, h.2.1, h.2.2.1, h.2.2.2.1, by have := h.2.2.2.2; omega⟩
/-- a draw below n -/
def Takes1 (F : Fn) : Prop := ∀ (n : Int) (m : Nat) (b : Bx), 0 < n → n < 18446744073709551616 → Gd (m + 1) b → ∃ k b', F [.box, .int n] b = .ok (.int k) b' ∧ 0 ≤ k ∧ k < n ∧ Gd m b'
theorem log_small {n : Int} (h0 : 0 < n) (h : n < 18446744073709551616) : n.natAbs.log2 < 9000 := by
  have : n.natAbs.log2 < 64 := by
    rw [Nat.log2_lt (by omega)]
    omega
  omega
theorem hDiv_ok {i j : Int} {st : S} (h0 : 0 < j) (h : j < 18446744073709551616) : hDiv (.int i) (.int j) st = .ok (.int (i / j)) st := if_pos ⟨h0, log_small h0 h⟩
theorem hMod_ok {i j : Int} {st : S} (h0 : 0 < j) : hMod (.int i) (.int j) st = .ok (.int (i % j)) st := if_pos h0
end DL

/-! DLn: one rule for each piece, to reckon without unfolding what it is made of. -/
namespace DL
open PySem PySem.Spec PyProof.Rows L2
section
variable {st st1 st2 st3 : S} {x y z d : D} {xs ys ds : List D} {f g fa fb fc : S → R D} {fs gs : S → R (List D)} {t u : S → R Bool}
theorem dV_ok {i : Nat} (h : st.env[i]? = some (.val d)) : dV i st = .ok d st := by unfold dV; rw [h]
theorem dC_ok : dC d st = .ok d st := rfl
theorem dBin_ok {h : D → D → S → R D} {r : R D} (h1 : fa st = .ok x st1) (h2 : fb st1 = .ok y st2) (h3 : h x y st2 = r) : dBin h fa fb st = r := by unfold dBin; rw [h1, bind_ok, h2, bind_ok, h3]
theorem dBinB_ok {h : D → D → S → R Bool} {r : R Bool} (h1 : fa st = .ok x st1) (h2 : fb st1 = .ok y st2) (h3 : h x y st2 = r) : dBinB h fa fb st = r := by unfold dBinB; rw [h1, bind_ok, h2, bind_ok, h3]
theorem dOfB_ok {k : Bool} (h1 : t st = .ok k st1) : dOfB t st = .ok (.bl k) st1 := by unfold dOfB; rw [h1]; rfl
theorem dUn_ok {h : D → S → R D} {r : R D} (h1 : fa st = .ok x st1) (h3 : h x st1 = r) : dUn h fa st = r := by unfold dUn; rw [h1, bind_ok, h3]
theorem dTru_ok {r : R Bool} (h1 : f st = .ok x st1) (h2 : hTru x st1 = r) : dTru f st = r := by unfold dTru; rw [h1, bind_ok, h2]
theorem dTru_bl {k : Bool} (h1 : f st = .ok (.bl k) st1) : dTru f st = .ok k st1 := dTru_ok h1 rfl
theorem dNot_ok {k : Bool} (h1 : t st = .ok k st1) : dNot t st = .ok (!k) st1 := by unfold dNot; rw [h1, bind_ok]
theorem dAnd_t {r : R Bool} (h1 : t st = .ok true st1) (h2 : u st1 = r) : dAnd t u st = r := by unfold dAnd; rw [h1, bind_ok, if_pos rfl, h2]
theorem dAnd_f (h1 : t st = .ok false st1) : dAnd t u st = .ok false st1 := by unfold dAnd; rw [h1, bind_ok, if_neg Bool.false_ne_true]
theorem dOr_t (h1 : t st = .ok true st1) : dOr t u st = .ok true st1 := by unfold dOr; rw [h1, bind_ok, if_pos rfl]
theorem dOr_f {r : R Bool} (h1 : t st = .ok false st1) (h2 : u st1 = r) : dOr t u st = r := by unfold dOr; rw [h1, bind_ok, if_neg Bool.false_ne_true, h2]
theorem dAndV_t {r : R D} (h1 : f st = .ok x st1) (h0 : hTru x st1 = .ok true st1) (h2 : g st1 = r) : dAndV f g st = r := by unfold dAndV; rw [h1, bind_ok, h0, bind_ok, if_pos rfl, h2]
theorem dAndV_f (h1 : f st = .ok x st1) (h0 : hTru x st1 = .ok false st1) : dAndV f g st = .ok x st1 := by unfold dAndV; rw [h1, bind_ok, h0, bind_ok, if_neg Bool.false_ne_true]
theorem dOrV_t (h1 : f st = .ok x st1) (h0 : hTru x st1 = .ok true st1) : dOrV f g st = .ok x st1 := by unfold dOrV; rw [h1, bind_ok, h0, bind_ok, if_pos rfl]
theorem dOrV_f {r : R D} (h1 : f st = .ok x st1) (h0 : hTru x st1 = .ok false st1) (h2 : g st1 = r) : dOrV f g st = r := by unfold dOrV; rw [h1, bind_ok, h0, bind_ok, if_neg Bool.false_ne_true, h2]
theorem dNotV_ok {k : Bool} (h1 : f st = .ok x st1) (h0 : hTru x st1 = .ok k st1) : dNotV f st = .ok (.bl (!k)) st1 := by unfold dNotV; rw [h1, bind_ok, h0, bind_ok]
theorem dIfE_t {r : R D} (h1 : t st = .ok true st1) (h2 : f st1 = r) : dIfE t f g st = r := by unfold dIfE; rw [h1, bind_ok, if_pos rfl, h2]
theorem dIfE_f {r : R D} (h1 : t st = .ok false st1) (h2 : g st1 = r) : dIfE t f g st = r := by unfold dIfE; rw [h1, bind_ok, if_neg Bool.false_ne_true, h2]
theorem dNil_ok : dNil st = .ok [] st := rfl
theorem dCons_ok (h1 : f st = .ok x st1) (h2 : fs st1 = .ok xs st2) : dCons f fs st = .ok (x :: xs) st2 := by unfold dCons; rw [h1, bind_ok, h2, bind_ok]
theorem dTup_ok (h1 : fs st = .ok xs st1) (h2 : xs.length ≤ 16777216) : dTup fs st = .ok (.tu xs) st1 := by
  unfold dTup; rw [h1, bind_ok]; exact if_pos h2
theorem dLst_ok (h1 : fs st = .ok xs st1) (h2 : xs.length ≤ 16777216) : dLst fs st = .ok xs st1 := by
  unfold dLst; rw [h1, bind_ok]; exact if_pos h2
theorem dClose_ok (h1 : fs st = .ok xs st1) : dClose fs st = .ok (.ls xs) st1 := by unfold dClose; rw [h1, bind_ok]
theorem dCat_ok {r : R (List D)} (h1 : fa st = .ok x st1) (h2 : fb st1 = .ok y st2) (h3 : hCat x y st2 = r) : dCat fa fb st = r := by unfold dCat; rw [h1, bind_ok, h2, bind_ok, h3]
theorem dNoP_ok : dNoP st = .ok none st := rfl
theorem dPart_ok {i : Int} (h1 : f st = .ok (.int i) st1) : dPart f st = .ok (some i) st1 := by unfold dPart; rw [h1, bind_ok]
theorem dSlice_ok {lo hi : S → R (Option Int)} {l h : Option Int} (h1 : f st = .ok x st1) (h2 : lo st1 = .ok l st2) (h3 : hi st2 = .ok h st3) (h4 : sliceD x l h = some y) : dSlice f lo hi st = .ok y st3 := by
  unfold dSlice; rw [h1, bind_ok, h2, bind_ok, h3, bind_ok, h4]
theorem dCall_ok {n : Nat} {F : Fn} {b : Bx} (h1 : fs st = .ok xs st1) (hn : xs.length = n) (h2 : F xs st1.bx = .ok d b) : dCall n F [] fs st = .ok d { st1 with bx := b } := by
  unfold dCall; rw [h1, bind_ok, List.append_nil, if_pos hn, h2]; rfl
theorem dCall_okF {n : Nat} {F : Fn} {b : Bx} (h1 : fs st = .ok xs st1) (hn : xs.length = n) (h2 : F xs st1.bx = .okF ds b) : dCall n F [] fs st = .ok (.ls ds) { st1 with bx := b } := by
  unfold dCall; rw [h1, bind_ok, List.append_nil, if_pos hn, h2]; rfl
theorem dCall_err {n : Nat} {F : Fn} {b : Bx} {e : Er} (h1 : fs st = .ok xs st1) (hn : xs.length = n) (h2 : F xs st1.bx = .err e b) : dCall n F [] fs st = .err e { st1 with bx := b } := by
  unfold dCall; rw [h1, bind_ok, List.append_nil, if_pos hn, h2]; rfl
theorem dCB_ok {h : List D → S → R D} {r : R D} (h1 : fs st = .ok xs st1) (h2 : h xs st1 = r) : dCB h fs st = r := by unfold dCB; rw [h1, bind_ok, h2]
theorem dCBF_ok {h : List D → S → R (List D)} {r : R (List D)} (h1 : fs st = .ok xs st1) (h2 : h xs st1 = r) : dCBF h fs st = r := by unfold dCBF; rw [h1, bind_ok, h2]
theorem dSeqI_ok {r : R (List D)} (h1 : f st = .ok x st1) (h2 : hSeq x st1 = r) : dSeqI f st = r := by unfold dSeqI; rw [h1, bind_ok, h2]
theorem dRet_ok (h1 : f st = .ok d st1) : dRet f st = .ok (.rt d) st1 := by unfold dRet; rw [h1, bind_ok]
theorem dRetF_ok (h1 : fs st = .ok ds st1) : dRetF fs st = .ok (.rtF ds) st1 := by unfold dRetF; rw [h1, bind_ok]
theorem dIf_t {a c : S → R Out} {r : R Out} (h1 : t st = .ok true st1) (h2 : a st1 = r) : dIf t a c st = r := by unfold dIf; rw [h1, bind_ok, if_pos rfl, h2]
theorem dIf_f {a c : S → R Out} {r : R Out} (h1 : t st = .ok false st1) (h2 : c st1 = r) : dIf t a c st = r := by unfold dIf; rw [h1, bind_ok, if_neg Bool.false_ne_true, h2]
theorem dSet_ok {i : Nat} (h1 : f st = .ok d st1) : dSet i f st = .ok .nx (st1.put i (.val d)) := by unfold dSet; rw [h1, bind_ok]
theorem dOwn_ok {i : Nat} (h1 : fs st = .ok ds st1) : dOwn i fs st = .ok .nx (st1.put i (.own ds)) := by unfold dOwn; rw [h1, bind_ok]
theorem dUnpack_ok {k : Tg} (h1 : f st = .ok d st1) (h2 : tgD k d st1 = .ok () st2) : dUnpack k f st = .ok .nx st2 := by unfold dUnpack; rw [h1, bind_ok, h2, bind_ok]
theorem dFor_ok {k : Tg} {b : S → R Out} {r : R Out} (h1 : fs st = .ok ds st1) (h2 : forD k b ds st1 = r) : dFor k fs b st = r := by unfold dFor; rw [h1, bind_ok, h2]
theorem dComp_ok {k : Tg} {vs : List Nat} {e : S → R D} {r : R (List D)} (h1 : fs st = .ok ds st1) (h2 : compD k vs t e ds [] st1 = r) : dComp k vs fs t e st = r := by unfold dComp; rw [h1, bind_ok, h2]
theorem dPar_ok {α β : Type} {i j : Nat} {sa : α → Sl} {sb : β → Sl} {p : S → R α} {q : S → R β} {a : α} {b : β} (h1 : p st = .ok a st1) (h2 : q st1 = .ok b st2) : dPar i j sa sb p q st = .ok .nx ((st2.put i (sa a)).put j (sb b)) := by unfold dPar; rw [h1, bind_ok, h2, bind_ok]
theorem dMk_ok {c : Nat} (h1 : f st = .ok d st1) : dMk c f st = .ok (.er c [d]) st1 := by unfold dMk; rw [h1, bind_ok]
theorem dRaise_ok {c : Nat} (h1 : f st = .ok d st1) : dRaise c f st = .err ⟨c, [d]⟩ st1 := by unfold dRaise; rw [h1, bind_ok]
theorem dIsE_ok {n c : Nat} {tbl : Nat → Bool} (h1 : f st = .ok (.er c ds) st1) (h2 : c < n) : dIsE n tbl f st = .ok (.bl (tbl c)) st1 := by
  unfold dIsE; rw [h1, bind_ok]; exact if_pos h2
theorem dAttrEs_ok {c : Nat} {cs : List Nat} (h1 : f st = .ok (.er c [d]) st1) (h2 : c ∈ cs) : dAttrEs cs f st = .ok d st1 := by
  unfold dAttrEs; rw [h1, bind_ok]; exact if_pos h2
theorem hAdd_ls (h : xs.length + ys.length ≤ 16777216) : hAdd (.ls xs) (.ls ys) st = .ok (.ls (xs ++ ys)) st := if_pos h
theorem hAdd_int {i j : Int} : hAdd (.int i) (.int j) st = .ok (.int (i + j)) st := rfl
theorem hPow_ok {i j : Int} (h : 0 ≤ j) (h2 : j ≤ 1000000) (h3 : i.natAbs < 18446744073709551616) : hPow (.int i) (.int j) st = .ok (.int (i ^ j.toNat)) st := if_pos ⟨h, h2, h3⟩
theorem hRange1_eq (j : Int) (st : S) : hRange1 [.int j] st = if -4611686018427387904 ≤ j ∧ j < 4611686018427387904 then .ok (rangeD 0 j.toNat) st else .stuck := rfl
theorem hRange1_ok {j : Int} (h : 0 ≤ j) (h2 : j ≤ 16777216) : hRange1 [.int j] st = .ok (rangeD 0 j.toNat) st := by
  rw [hRange1_eq, if_pos ⟨by omega, by omega⟩]
theorem hRange1_nat {n : Nat} (h : n ≤ 16777216) : hRange1 [.int (n : Nat)] st = .ok (rangeD 0 n) st := by
  rw [hRange1_ok (by omega) (by omega), Int.toNat_natCast]
end
end DL

set_option maxHeartbeats 4000000
namespace LW
open PySem PySem.Spec PyProof.Rows L2 DL
def topS (i : Nat) : Stmt := PySem.Challenge.pw_heirturns_k00_errors.main.body.getD i (.Pass ⟨0, 0, 0, 0⟩)
section
variable {P : Program} {w : World} {K : PySem.W.Frag} {mg : Str → Option Value} {base : Heap} {T : Tab}
def tblL_HeirError : List Bool := [true, true, true, true, true, true, true, true, true, true, true, true, true]
abbrev tbl_HeirError : Nat → Bool := fun c => tblL_HeirError.getD c false
def tblL_BadLine : List Bool := [false, true, false, false, false, false, false, false, false, false, false, false, false]
abbrev tbl_BadLine : Nat → Bool := fun c => tblL_BadLine.getD c false
def tblL_BadRun : List Bool := [false, false, true, false, false, false, false, false, false, false, false, false, false]
abbrev tbl_BadRun : Nat → Bool := fun c => tblL_BadRun.getD c false
def tblL_BadText : List Bool := [false, false, false, true, false, false, false, false, false, false, false, false, false]
abbrev tbl_BadText : Nat → Bool := fun c => tblL_BadText.getD c false
def tblL_Known : List Bool := [false, false, false, false, true, false, false, false, false, false, false, false, false]
abbrev tbl_Known : Nat → Bool := fun c => tblL_Known.getD c false
def tblL_NoHeir : List Bool := [false, false, false, false, false, true, false, false, false, false, false, false, false]
abbrev tbl_NoHeir : Nat → Bool := fun c => tblL_NoHeir.getD c false
def tblL_NoList : List Bool := [false, false, false, false, false, false, true, false, false, false, false, false, false]
abbrev tbl_NoList : Nat → Bool := fun c => tblL_NoList.getD c false
def tblL_NoNumber : List Bool := [false, false, false, false, false, false, false, true, false, false, false, false, false]
abbrev tbl_NoNumber : Nat → Bool := fun c => tblL_NoNumber.getD c false
def tblL_NoPlace : List Bool := [false, false, false, false, false, false, false, false, true, false, false, false, false]
abbrev tbl_NoPlace : Nat → Bool := fun c => tblL_NoPlace.getD c false
def tblL_NoThing : List Bool := [false, false, false, false, false, false, false, false, false, true, false, false, false]
abbrev tbl_NoThing : Nat → Bool := fun c => tblL_NoThing.getD c false
def tblL_NoTurns : List Bool := [false, false, false, false, false, false, false, false, false, false, true, false, false]
abbrev tbl_NoTurns : Nat → Bool := fun c => tblL_NoTurns.getD c false
def tblL_NothingDone : List Bool := [false, false, false, false, false, false, false, false, false, false, false, true, false]
abbrev tbl_NothingDone : Nat → Bool := fun c => tblL_NothingDone.getD c false
def tblL_OtherThings : List Bool := [false, false, false, false, false, false, false, false, false, false, false, false, true]
abbrev tbl_OtherThings : Nat → Bool := fun c => tblL_OtherThings.getD c false
def tblL_ValueError : List Bool := [true, true, true, true, true, true, true, true, true, true, true, true, true]
abbrev tbl_ValueError : Nat → Bool := fun c => tblL_ValueError.getD c false
def tblL_LookupError : List Bool := [false, false, false, false, false, false, false, false, false, false, false, false, false]
abbrev tbl_LookupError : Nat → Bool := fun c => tblL_LookupError.getD c false
/-! _law_box -/
abbrev s_law_box : Stmt := topS 15
abbrev N_law_box : List Str := ["_law_script", "_law_k", "_law_cell"]
theorem sc_law_box : FnScope N_law_box ["_law_script", "_law_k"] (defScope s_law_box) := ⟨rfl, rfl, rfl, by decide +kernel, rfl, by decide +kernel, by decide +kernel⟩
def B_law_box : S → R Out := (dSeq (dSet 2 (dIfE (dBinB hLt (dV 1) (dCB hLen (dCons (dV 0) dNil))) (dBin hIx (dV 0) (dV 1)) (dC (.int 0)))) (dRetF (dLst (dCons (dBin hMul (dCB hAbs (dCons (dV 2) dNil)) (dCB hInt (dCons (dOfB (dBinB hGe (dCB hAbs (dCons (dV 2) dNil)) (dBin hPow (dC (.int 10)) (dC (.int 18))))) dNil))) (dCons (dBin hAdd (dBin hAdd (dBin hMod (dCB hInt (dCons (dV 2) dNil)) (dC (.int 2305843009213693951))) (dBin hMul (dC (.int 39373)) (dV 1))) (dC (.int 83000))) (dCons (dC (.int 0)) dNil))))))
def F_law_box : Fn := runFn 2 3 B_law_box
theorem ok_law_box (Z : Bi mg) {f : Addr} {fd : FuncData} (F : Fun K "_law_box" "_law_box" s_law_box f fd) : FnOk P w K mg base (L2.CX P w) 1 f fd ["_law_script", "_law_k"] (spD K T 2 F_law_box) := by
  refine fn_okj F sc_law_box fun cdv A outer s H E W hr hp tk => ?_
  have nd := sc_law_box.nd
  exact (dss_cons (ds_set (i := 2) nd rfl (by first | exact .inl rfl | exact .inr rfl) (de_ifE (dt_lt (de_var (pv 1)) (de_len (by rfl) Z.len (da_cons (de_var (pv 0)) da_nil))) (de_ix (de_var (pv 0)) (de_var (pv 1))) de_int)) (dss_one (ds_retF (df_lst (da_cons (de_mul (de_abs (by rfl) Z.abs (da_cons (de_var (pv 2)) da_nil)) (de_intc (by rfl) Z.int (da_cons (de_ge (de_abs (by rfl) Z.abs (da_cons (de_var (pv 2)) da_nil)) (de_pow de_int de_int)) da_nil))) (da_cons (de_add (de_add (de_mod (de_intc (by rfl) Z.int (da_cons (de_var (pv 2)) da_nil)) de_int) (de_mul de_int (de_var (pv 1)))) de_int) (da_cons de_int da_nil)))))))
/-! _law_take -/
abbrev s_law_take : Stmt := topS 16
abbrev N_law_take : List Str := ["_law_box_here", "_law_size_so", "_law_once", "_law_far", "_law_again", "_law_some"]
theorem sc_law_take : FnScope N_law_take ["_law_box_here", "_law_size_so"] (defScope s_law_take) := ⟨rfl, rfl, rfl, by decide +kernel, rfl, by decide +kernel, by decide +kernel⟩
def B_law_take : S → R Out := (dSeq (dIf (dBinB hGt (dBin hIx (dV 0) (dC (.int 0))) (dC (.int 0))) (dSeq (dSet 5 (dBin hMod (dCB hInt (dCons (dBin hIx (dV 0) (dC (.int 0))) dNil)) (dV 1))) (dSeq (dSetIx 0 (dBin hDiv (dBin hIx (dV 0) (dC (.int 0))) (dV 1)) (dC (.int 0))) (dRet (dV 5)))) dNext) (dSeq (dSetIx 0 (dBin hAdd (dBin hIx (dV 0) (dC (.int 2))) (dC (.int 1))) (dC (.int 2))) (dSeq (dSet 2 (dBin hMod (dCB hInt (dCons (dBin hMul (dBin hAdd (dBin hIx (dV 0) (dC (.int 1))) (dBin hMul (dC (.int 48271)) (dBin hIx (dV 0) (dC (.int 2))))) (dBin hAdd (dC (.int 39373)) (dBin hIx (dV 0) (dC (.int 2))))) dNil)) (dC (.int 2147483647)))) (dSeq (dSet 3 (dBin hAdd (dBin hMod (dCB hInt (dCons (dV 2) dNil)) (dC (.int 40009))) (dC (.int 7)))) (dSeq (dSet 4 (dBin hMod (dCB hInt (dCons (dBin hMul (dBin hAdd (dBin hAdd (dV 2) (dBin hIx (dV 0) (dC (.int 2)))) (dBin hDiv (dBin hIx (dV 0) (dC (.int 1))) (dC (.int 1000003)))) (dV 3)) dNil)) (dC (.int 2147483629)))) (dRet (dBin hMod (dCB hInt (dCons (dBin hDiv (dBin hMod (dCB hInt (dCons (dBin hAdd (dBin hMul (dV 4) (dC (.int 48271))) (dV 2)) dNil)) (dC (.int 2147483587))) (dC (.int 64))) dNil)) (dV 1))))))))
def F_law_take : Fn := runFn 2 6 B_law_take
theorem ok_law_take (Z : Bi mg) {f : Addr} {fd : FuncData} (F : Fun K "_law_take" "_law_take" s_law_take f fd) : FnOk P w K mg base (L2.CX P w) 1 f fd ["_law_box_here", "_law_size_so"] (spD K T 2 F_law_take) := by
  refine fn_okj F sc_law_take fun cdv A outer s H E W hr hp tk => ?_
  have nd := sc_law_take.nd
  exact (dss_cons (ds_if (dt_gt (de_ix (de_var (pv 0)) de_int) de_int) (dss_cons (ds_set (i := 5) nd rfl (by first | exact .inl rfl | exact .inr rfl) (de_mod (de_intc (by rfl) Z.int (da_cons (de_ix (de_var (pv 0)) de_int) da_nil)) (de_var (pv 1)))) (dss_cons (ds_setIx (i := 0) (pv 0) de_int (de_div (de_ix (de_var (pv 0)) de_int) (de_var (pv 1))) (ps_asg (de_div (de_ix (de_var (pv 0)) de_int) (de_var (pv 1))) (pg_sub (pv 0) de_int set_list))) (dss_one (ds_ret (de_var (pv 5)))))) dss_nil) (dss_cons (ds_setIx (i := 0) (pv 0) de_int (de_add (de_ix (de_var (pv 0)) de_int) de_int) (ps_asg (de_add (de_ix (de_var (pv 0)) de_int) de_int) (pg_sub (pv 0) de_int set_list))) (dss_cons (ds_set (i := 2) nd rfl (by first | exact .inl rfl | exact .inr rfl) (de_mod (de_intc (by rfl) Z.int (da_cons (de_mul (de_add (de_ix (de_var (pv 0)) de_int) (de_mul de_int (de_ix (de_var (pv 0)) de_int))) (de_add de_int (de_ix (de_var (pv 0)) de_int))) da_nil)) de_int)) (dss_cons (ds_set (i := 3) nd rfl (by first | exact .inl rfl | exact .inr rfl) (de_add (de_mod (de_intc (by rfl) Z.int (da_cons (de_var (pv 2)) da_nil)) de_int) de_int)) (dss_cons (ds_set (i := 4) nd rfl (by first | exact .inl rfl | exact .inr rfl) (de_mod (de_intc (by rfl) Z.int (da_cons (de_mul (de_add (de_add (de_var (pv 2)) (de_ix (de_var (pv 0)) de_int)) (de_div (de_ix (de_var (pv 0)) de_int) de_int)) (de_var (pv 3))) da_nil)) de_int)) (dss_one (ds_ret (de_mod (de_intc (by rfl) Z.int (da_cons (de_div (de_mod (de_intc (by rfl) Z.int (da_cons (de_add (de_mul (de_var (pv 4)) de_int) (de_var (pv 2))) da_nil)) de_int) de_int) da_nil)) (de_var (pv 1))))))))))
/-! _law_cells -/
abbrev s_law_cells : Stmt := topS 17
abbrev N_law_cells : List Str := ["_law_script", "_law_top_so", "_law_cells_so", "_law_k", "_law_cell", "_law_at_so"]
theorem sc_law_cells : FnScope N_law_cells ["_law_script", "_law_top_so"] (defScope s_law_cells) := ⟨rfl, rfl, rfl, by decide +kernel, rfl, by decide +kernel, by decide +kernel⟩
def B_law_cells : S → R Out := (dSeq (dOwn 2 (dOrF (dCBF hListOf (dCons (dSlice (dV 0) dNoP (dPart (dV 1))) dNil)) (dLst (dCons (dC (.int 0)) dNil)))) (dSeq (dFor (.tp [3, 4]) (dCBF hEnumA (dCons (dSlice (dV 0) (dPart (dV 1)) (dPart (dC (.int 63)))) dNil)) (dSeq (dSet 5 (dBin hMod (dCB hInt (dCons (dV 3) dNil)) (dV 1))) (dSetIx 2 (dLend 2 (dBin hAdd (dBin hIx (dV 2) (dV 5)) (dBin hMul (dV 4) (dBin hAdd (dV 3) (dC (.int 2)))))) (dV 5)))) (dRet (dV 2))))
def F_law_cells : Fn := runFn 2 6 B_law_cells
theorem ok_law_cells (Z : Bi mg) {f : Addr} {fd : FuncData} (F : Fun K "_law_cells" "_law_cells" s_law_cells f fd) : FnOk P w K mg base (L2.CX P w) 1 f fd ["_law_script", "_law_top_so"] (spD K T 2 F_law_cells) := by
  refine fn_okj F sc_law_cells fun cdv A outer s H E W hr hp tk => ?_
  have nd := sc_law_cells.nd
  exact (dss_cons (ds_own (i := 2) nd rfl (by first | exact .inl rfl | exact .inr rfl) (df_or (df_list (by rfl) Z.list (da_cons (de_slice (de_var (pv 0)) do_none (do_some (de_var (pv 1)))) da_nil)) (df_one (df_lst (da_cons de_int da_nil))))) (dss_cons (ds_for hp rfl (di_enum (by rfl) Z.enumerate (da_cons (de_slice (de_var (pv 0)) (do_some (de_var (pv 1))) (do_some de_int)) da_nil)) (dg_tup (pg_tup rfl (pgs_cons (pg_name nd rfl (by first | exact .inl rfl | exact .inr rfl)) (pgs_cons (pg_name nd rfl (by first | exact .inl rfl | exact .inr rfl)) pgs_nil))) (pg_unl rfl (pgs_cons (pg_name nd rfl (by first | exact .inl rfl | exact .inr rfl)) (pgs_cons (pg_name nd rfl (by first | exact .inl rfl | exact .inr rfl)) pgs_nil)))) (dss_cons (ds_set (i := 5) nd rfl (by first | exact .inl rfl | exact .inr rfl) (de_mod (de_intc (by rfl) Z.int (da_cons (de_var (pv 3)) da_nil)) (de_var (pv 1)))) (dss_one (ds_setIx (i := 2) (pv 2) (de_var (pv 5)) (de_lend 2 (de_add (de_ix (de_var (pv 2)) (de_var (pv 5))) (de_mul (de_var (pv 4)) (de_add (de_var (pv 3)) de_int)))) (ps_asg (de_lend 2 (de_add (de_ix (de_var (pv 2)) (de_var (pv 5))) (de_mul (de_var (pv 4)) (de_add (de_var (pv 3)) de_int)))) (pg_sub (pv 2) (de_var (pv 5)) set_list)))))) (dss_one (ds_ret (de_var (pv 2))))))
/-! _law_of -/
abbrev s_law_of : Stmt := topS 18
abbrev N_law_of : List Str := ["_law_box_here", "_law_goods_so"]
theorem sc_law_of : FnScope N_law_of ["_law_box_here", "_law_goods_so"] (defScope s_law_of) := ⟨rfl, rfl, rfl, by decide +kernel, rfl, by decide +kernel, by decide +kernel⟩
def B_law_of : S → R Out := (dRet (dBin hIx (dV 1) (dCall 2 F_law_take [] (dCons (dV 0) (dCons (dCB hLen (dCons (dV 1) dNil)) dNil)))))
def F_law_of : Fn := runFn 2 2 B_law_of
theorem ok_law_of (Z : Bi mg) (c_law_take : DefAt P w K mg base T "_law_take" ["_law_box_here", "_law_size_so"] 2 1 F_law_take) {f : Addr} {fd : FuncData} (F : Fun K "_law_of" "_law_of" s_law_of f fd) : FnOk P w K mg base (L2.CX P w) 2 f fd ["_law_box_here", "_law_goods_so"] (spD K T 2 F_law_of) := by
  refine fn_okj F sc_law_of fun cdv A outer s H E W hr hp tk => ?_
  have nd := sc_law_of.nd
  exact (dss_one (ds_ret (de_ix (de_var (pv 1)) (de_callD c_law_take hr (by decide) tk (da_cons (de_var (pv 0)) (da_cons (de_len (by rfl) Z.len (da_cons (de_var (pv 1)) da_nil)) da_nil))))))
/-! _law_same -/
abbrev s_law_same : Stmt := topS 19
abbrev N_law_same : List Str := ["_law_got", "_law_due", "_law_mine", "_law_its"]
theorem sc_law_same : FnScope N_law_same ["_law_got", "_law_due"] (defScope s_law_same) := ⟨rfl, rfl, rfl, by decide +kernel, rfl, by decide +kernel, by decide +kernel⟩
def B_law_same (F : Fn) : S → R Out := (dSeq (dIf (dTru (dIsi2 4 5 (dV 1))) (dSeq (dIf (dBinB hNe (dIsi 4 (dV 0)) (dIsi 4 (dV 1))) (dRet (dC (.bl false))) dNext) (dSeq (dIf (dBinB hNe (dIsi 5 (dV 0)) (dIsi 5 (dV 1))) (dRet (dC (.bl false))) dNext) (dRet (dAndV (dOfB (dBinB hEq (dCB hLen (dCons (dV 0) dNil)) (dCB hLen (dCons (dV 1) dNil)))) (dCB hAll (dCons (dClose (dComp (.tp [2, 3]) [2, 3] (dCBF hZip (dCons (dV 0) (dCons (dV 1) dNil))) dYes (dCall 2 F [] (dCons (dV 2) (dCons (dV 3) dNil))))) dNil)))))) dNext) (dSeq (dIf (dOr (dBinB hIsN (dV 1) (dC .non)) (dTru (dIsi2 1 3 (dV 1)))) (dRet (dAndV (dOfB (dBinB hEq (dV 0) (dV 1))) (dAndV (dOfB (dBinB hEq (dIsi 1 (dV 0)) (dIsi 1 (dV 1)))) (dOfB (dBinB hEq (dOfB (dBinB hIsN (dV 0) (dC .non))) (dOfB (dBinB hIsN (dV 1) (dC .non)))))))) dNext) (dRet (dAndV (dIsi 2 (dV 0)) (dAndV (dNotV (dIsi 1 (dV 0))) (dOfB (dBinB hEq (dV 0) (dV 1))))))))
def F_law_same : Nat → Fn
  | 0 => fun _ _ => .stuck
  | k + 1 => runFn 2 4 (B_law_same (F_law_same k))
theorem ok_law_same (Z : Bi mg) {f : Addr} {fd : FuncData} (F : Fun K "_law_same" "_law_same" s_law_same f fd) (bn : Binds K fd ["_law_got", "_law_due"] []) (hm : mg "_law_same" = some (.ref f)) : ∀ j, FnOk P w K mg base (L2.CX P w) (1 + j) f fd ["_law_got", "_law_due"] (spD K T 2 (F_law_same j))
  | 0 => fn_never rfl
  | j + 1 => by
    have ih : DefAt P w K mg base T "_law_same" ["_law_got", "_law_due"] 2 (1 + j) (F_law_same j) := .of (ok_law_same Z F bn hm j) hm F.kp bn
    refine fn_okj F sc_law_same fun cdv A outer s H E W hr hp tk => ?_
    have nd := sc_law_same.nd
    exact (dss_cons (ds_if (dt_tru (de_isi2 (t := 4) (u := 5) (by decide) (by decide) (by rfl) Z.isinstance (de_var (pv 1)) (pe_bltn (by rfl) Z.list (by decide +kernel) rfl) (pe_bltn (by rfl) Z.tuple (by decide +kernel) rfl))) (dss_cons (ds_if (dt_ne hr.units (de_isi (t := 4) (by decide) (by rfl) Z.isinstance (de_var (pv 0)) (pe_bltn (by rfl) Z.list (by decide +kernel) rfl)) (de_isi (t := 4) (by decide) (by rfl) Z.isinstance (de_var (pv 1)) (pe_bltn (by rfl) Z.list (by decide +kernel) rfl))) (dss_one (ds_ret de_bl)) dss_nil) (dss_cons (ds_if (dt_ne hr.units (de_isi (t := 5) (by decide) (by rfl) Z.isinstance (de_var (pv 0)) (pe_bltn (by rfl) Z.tuple (by decide +kernel) rfl)) (de_isi (t := 5) (by decide) (by rfl) Z.isinstance (de_var (pv 1)) (pe_bltn (by rfl) Z.tuple (by decide +kernel) rfl))) (dss_one (ds_ret de_bl)) dss_nil) (dss_one (ds_ret (de_and (de_eq hr.units (de_len (by rfl) Z.len (da_cons (de_var (pv 0)) da_nil)) (de_len (by rfl) Z.len (da_cons (de_var (pv 1)) da_nil))) (de_one (de_all rfl (by rfl) Z.all (da_cons (de_new (df_comp (own := [("_law_mine", 2), ("_law_its", 3)]) (k := (.tp [2, 3])) rfl nd (di_zip (by rfl) Z.zip (da_cons (de_var (pv 0)) (da_cons (de_var (pv 1)) da_nil))) (blkOk_by (N := N_law_same) (sc := defScope s_law_same) (by decide +kernel)) (by decide) (fun _ _ _ _ _ => (dg_tup (pg_tup rfl (pgs_cons (pg_name nd rfl (by first | exact .inl rfl | exact .inr rfl)) (pgs_cons (pg_name nd rfl (by first | exact .inl rfl | exact .inr rfl)) pgs_nil))) (pg_unl rfl (pgs_cons (pg_name nd rfl (by first | exact .inl rfl | exact .inr rfl)) (pgs_cons (pg_name nd rfl (by first | exact .inl rfl | exact .inr rfl)) pgs_nil))))) (fun _ _ _ _ _ => dts_nil) (fun _ _ _ _ _ => (de_callD ih hr (Nat.le_refl _) takes0 (da_cons (de_var (pv 2)) (da_cons (de_var (pv 3)) da_nil)))))) da_nil)))))))) dss_nil) (dss_cons (ds_if (dt_bool (dw_or (dt_isN (de_var (pv 1)) de_non) (dw_or1 (dt_tru (de_isi2 (t := 1) (u := 3) (by decide) (by decide) (by rfl) Z.isinstance (de_var (pv 1)) (pe_bltn (by rfl) Z.bool (by decide +kernel) rfl) (pe_bltn (by rfl) Z.str (by decide +kernel) rfl)))))) (dss_one (ds_ret (de_and (de_eq hr.units (de_var (pv 0)) (de_var (pv 1))) (de_and (de_eq hr.units (de_isi (t := 1) (by decide) (by rfl) Z.isinstance (de_var (pv 0)) (pe_bltn (by rfl) Z.bool (by decide +kernel) rfl)) (de_isi (t := 1) (by decide) (by rfl) Z.isinstance (de_var (pv 1)) (pe_bltn (by rfl) Z.bool (by decide +kernel) rfl))) (de_one (de_eq hr.units (de_isN (de_var (pv 0)) de_non) (de_isN (de_var (pv 1)) de_non))))))) dss_nil) (dss_one (ds_ret (de_and (de_isi (t := 2) (by decide) (by rfl) Z.isinstance (de_var (pv 0)) (pe_bltn (by rfl) Z.int (by decide +kernel) rfl)) (de_and (de_not (de_isi (t := 1) (by decide) (by rfl) Z.isinstance (de_var (pv 0)) (pe_bltn (by rfl) Z.bool (by decide +kernel) rfl))) (de_one (de_eq hr.units (de_var (pv 0)) (de_var (pv 1))))))))))
/-! _law_sorts -/
abbrev s_law_sorts : Stmt := topS 20
abbrev N_law_sorts : List Str := ["_law_caught", "_law_kinds_so"]
theorem sc_law_sorts : FnScope N_law_sorts ["_law_caught"] (defScope s_law_sorts) := ⟨rfl, rfl, rfl, by decide +kernel, rfl, by decide +kernel, by decide +kernel⟩
def B_law_sorts : S → R Out := (dSeq (dSet 1 (dClose (dLst (dCons (dIsE 13 (tbl_BadRun) (dV 0)) (dCons (dIsE 13 (tbl_BadText) (dV 0)) (dCons (dIsE 13 (tbl_BadLine) (dV 0)) dNil)))))) (dSeq (dSet 1 (dBin hAdd (dV 1) (dClose (dLst (dCons (dIsE 13 (tbl_NoThing) (dV 0)) (dCons (dIsE 13 (tbl_NoPlace) (dV 0)) dNil)))))) (dSeq (dSet 1 (dBin hAdd (dV 1) (dClose (dLst (dCons (dIsE 13 (tbl_OtherThings) (dV 0)) dNil))))) (dSeq (dSet 1 (dBin hAdd (dV 1) (dClose (dLst (dCons (dIsE 13 (tbl_NoList) (dV 0)) (dCons (dIsE 13 (tbl_NoHeir) (dV 0)) dNil)))))) (dSeq (dSet 1 (dBin hAdd (dV 1) (dClose (dLst (dCons (dIsE 13 (tbl_NothingDone) (dV 0)) dNil))))) (dSeq (dSet 1 (dBin hAdd (dV 1) (dClose (dLst (dCons (dIsE 13 (tbl_Known) (dV 0)) (dCons (dIsE 13 (tbl_NoTurns) (dV 0)) dNil)))))) (dSeq (dSet 1 (dBin hAdd (dV 1) (dClose (dLst (dCons (dIsE 13 (tbl_NoNumber) (dV 0)) dNil))))) (dRet (dV 1)))))))))
def F_law_sorts : Fn := runFn 1 2 B_law_sorts
theorem ok_law_sorts (Z : Bi mg) (i_BadLine : IsAt K mg T 13 "BadLine" tbl_BadLine) (i_BadRun : IsAt K mg T 13 "BadRun" tbl_BadRun) (i_BadText : IsAt K mg T 13 "BadText" tbl_BadText) (i_Known : IsAt K mg T 13 "Known" tbl_Known) (i_NoHeir : IsAt K mg T 13 "NoHeir" tbl_NoHeir) (i_NoList : IsAt K mg T 13 "NoList" tbl_NoList) (i_NoNumber : IsAt K mg T 13 "NoNumber" tbl_NoNumber) (i_NoPlace : IsAt K mg T 13 "NoPlace" tbl_NoPlace) (i_NoThing : IsAt K mg T 13 "NoThing" tbl_NoThing) (i_NoTurns : IsAt K mg T 13 "NoTurns" tbl_NoTurns) (i_NothingDone : IsAt K mg T 13 "NothingDone" tbl_NothingDone) (i_OtherThings : IsAt K mg T 13 "OtherThings" tbl_OtherThings) {f : Addr} {fd : FuncData} (F : Fun K "_law_sorts" "_law_sorts" s_law_sorts f fd) : FnOk P w K mg base (L2.CX P w) 1 f fd ["_law_caught"] (spD K T 1 F_law_sorts) := by
  refine fn_okj F sc_law_sorts fun cdv A outer s H E W hr hp tk => ?_
  have nd := sc_law_sorts.nd
  exact (dss_cons (ds_set (i := 1) nd rfl (by first | exact .inl rfl | exact .inr rfl) (de_new (df_lst (da_cons (de_isOwn i_BadRun (by rfl) Z.isinstance (de_var (pv 0))) (da_cons (de_isOwn i_BadText (by rfl) Z.isinstance (de_var (pv 0))) (da_cons (de_isOwn i_BadLine (by rfl) Z.isinstance (de_var (pv 0))) da_nil)))))) (dss_cons (ds_set (i := 1) nd rfl (by first | exact .inl rfl | exact .inr rfl) (de_add (de_var (pv 1)) (de_new (df_lst (da_cons (de_isOwn i_NoThing (by rfl) Z.isinstance (de_var (pv 0))) (da_cons (de_isOwn i_NoPlace (by rfl) Z.isinstance (de_var (pv 0))) da_nil)))))) (dss_cons (ds_set (i := 1) nd rfl (by first | exact .inl rfl | exact .inr rfl) (de_add (de_var (pv 1)) (de_new (df_lst (da_cons (de_isOwn i_OtherThings (by rfl) Z.isinstance (de_var (pv 0))) da_nil))))) (dss_cons (ds_set (i := 1) nd rfl (by first | exact .inl rfl | exact .inr rfl) (de_add (de_var (pv 1)) (de_new (df_lst (da_cons (de_isOwn i_NoList (by rfl) Z.isinstance (de_var (pv 0))) (da_cons (de_isOwn i_NoHeir (by rfl) Z.isinstance (de_var (pv 0))) da_nil)))))) (dss_cons (ds_set (i := 1) nd rfl (by first | exact .inl rfl | exact .inr rfl) (de_add (de_var (pv 1)) (de_new (df_lst (da_cons (de_isOwn i_NothingDone (by rfl) Z.isinstance (de_var (pv 0))) da_nil))))) (dss_cons (ds_set (i := 1) nd rfl (by first | exact .inl rfl | exact .inr rfl) (de_add (de_var (pv 1)) (de_new (df_lst (da_cons (de_isOwn i_Known (by rfl) Z.isinstance (de_var (pv 0))) (da_cons (de_isOwn i_NoTurns (by rfl) Z.isinstance (de_var (pv 0))) da_nil)))))) (dss_cons (ds_set (i := 1) nd rfl (by first | exact .inl rfl | exact .inr rfl) (de_add (de_var (pv 1)) (de_new (df_lst (da_cons (de_isOwn i_NoNumber (by rfl) Z.isinstance (de_var (pv 0))) da_nil))))) (dss_one (ds_ret (de_var (pv 1)))))))))))
/-! _law_right -/
abbrev s_law_right : Stmt := topS 21
abbrev N_law_right : List Str := ["_law_box_here", "_law_every_so", "_law_got", "_law_due", "_law_far", "_law_tag", "_law_k", "_law_own", "_law_j"]
theorem sc_law_right : FnScope N_law_right ["_law_box_here"] (defScope s_law_right) := ⟨rfl, rfl, rfl, by decide +kernel, rfl, by decide +kernel, by decide +kernel⟩
def B_law_right : S → R Out := (dSeq (dPar 4 5 Sl.val Sl.val (dBin hSub (dCall 2 F_law_take [] (dCons (dV 0) (dCons (dBin hPow (dC (.int 10)) (dC (.int 9))) dNil))) (dBin hMul (dC (.int 5)) (dBin hPow (dC (.int 10)) (dC (.int 8))))) (dCall 2 F_law_of [] (dCons (dV 0) (dCons (dClose (dLst (dCons (dC (.str "a")) (dCons (dC (.str "ants")) (dCons (dC (.str "abcdefgh")) (dCons (dC (.str "zz")) dNil)))))) dNil)))) (dSeq (dSet 1 (dClose (dLst (dCons (dMk 2 (dV 4)) (dCons (dMk 3 (dV 4)) (dCons (dMk 1 (dV 4)) (dCons (dMk 9 (dV 5)) dNil))))))) (dSeq (dSet 1 (dBin hAdd (dV 1) (dClose (dLst (dCons (dMk 8 (dV 4)) (dCons (dMk0 12) (dCons (dMk0 6) (dCons (dMk 5 (dV 5)) dNil)))))))) (dSeq (dSet 1 (dBin hAdd (dV 1) (dClose (dLst (dCons (dMk0 11) (dCons (dMk 4 (dV 5)) (dCons (dMk 10 (dV 5)) (dCons (dMk 7 (dV 4)) dNil)))))))) (dSeq (dFor (.tp [6, 7]) (dCBF hEnumA (dCons (dV 1) dNil)) (dSeq (dIf (dNot (dTru (dCall 2 (F_law_same 8) [] (dCons (dCall 1 F_law_sorts [] (dCons (dV 7) dNil)) (dCons (dClose (dComp (.nm 8) [8] (dCBF hRange1 (dCons (dC (.int 12)) dNil)) dYes (dOfB (dBinB hEq (dV 8) (dV 6))))) dNil))))) (dRet (dC (.bl false))) dNext) (dIf (dOr (dNot (dTru (dIsE 13 (tbl_HeirError) (dV 7)))) (dOr (dNot (dTru (dIsE 13 (tbl_ValueError) (dV 7)))) (dTru (dIsE 13 (tbl_LookupError) (dV 7))))) (dRet (dC (.bl false))) dNext))) (dSeq (dSet 2 (dClose (dLst (dCons (dAttrEs [2] (dBin hIx (dV 1) (dC (.int 0)))) (dCons (dAttrEs [3] (dBin hIx (dV 1) (dC (.int 1)))) (dCons (dAttrEs [1, 7, 8] (dBin hIx (dV 1) (dC (.int 2)))) (dCons (dAttrEs [4, 5, 9, 10] (dBin hIx (dV 1) (dC (.int 3)))) (dCons (dAttrEs [1, 7, 8] (dBin hIx (dV 1) (dC (.int 4)))) dNil)))))))) (dSeq (dSet 2 (dBin hAdd (dV 2) (dClose (dLst (dCons (dAttrEs [4, 5, 9, 10] (dBin hIx (dV 1) (dC (.int 7)))) (dCons (dAttrEs [4, 5, 9, 10] (dBin hIx (dV 1) (dC (.int 9)))) (dCons (dAttrEs [4, 5, 9, 10] (dBin hIx (dV 1) (dC (.int 10)))) (dCons (dAttrEs [1, 7, 8] (dBin hIx (dV 1) (dC (.int 11)))) dNil)))))))) (dSeq (dSet 3 (dClose (dLst (dCons (dV 4) (dCons (dV 4) (dCons (dV 4) (dCons (dV 5) (dCons (dV 4) (dCons (dV 5) (dCons (dV 5) (dCons (dV 5) (dCons (dV 4) dNil)))))))))))) (dSeq (dSet 2 (dBin hAdd (dV 2) (dClose (dLst (dCons (dAttrEs [2] (dMk 2 (dV 4))) (dCons (dAttrEs [3] (dMk 3 (dC (.int 7)))) dNil)))))) (dSeq (dSet 2 (dBin hAdd (dV 2) (dClose (dLst (dCons (dAttrEs [1, 7, 8] (dMk 1 (dUn hNeg (dC (.int 1))))) (dCons (dAttrEs [4, 5, 9, 10] (dMk 9 (dC (.str "b")))) dNil)))))) (dSeq (dSet 3 (dBin hAdd (dV 3) (dClose (dLst (dCons (dV 4) (dCons (dC (.int 7)) (dCons (dUn hNeg (dC (.int 1))) (dCons (dC (.str "b")) dNil)))))))) (dSeq (dSet 2 (dBin hAdd (dV 2) (dClose (dLst (dCons (dAttrEs [1, 7, 8] (dMk 8 (dV 4))) (dCons (dAttrEs [4, 5, 9, 10] (dMk 5 (dC (.str "c")))) dNil)))))) (dSeq (dSet 2 (dBin hAdd (dV 2) (dClose (dLst (dCons (dAttrEs [4, 5, 9, 10] (dMk 4 (dV 5))) (dCons (dAttrEs [4, 5, 9, 10] (dMk 10 (dV 5))) dNil)))))) (dRet (dCall 2 (F_law_same 8) [] (dCons (dBin hAdd (dV 2) (dClose (dLst (dCons (dAttrEs [1, 7, 8] (dMk 7 (dBin hPow (dC (.int 10)) (dC (.int 30))))) dNil)))) (dCons (dBin hAdd (dV 3) (dClose (dLst (dCons (dV 4) (dCons (dC (.str "c")) (dCons (dV 5) (dCons (dV 5) (dCons (dBin hPow (dC (.int 10)) (dC (.int 30))) dNil)))))))) dNil)))))))))))))))))
def F_law_right : Fn := runFn 1 9 B_law_right
theorem ok_law_right (Z : Bi mg) (c_law_take : DefAt P w K mg base T "_law_take" ["_law_box_here", "_law_size_so"] 2 1 F_law_take) (c_law_of : DefAt P w K mg base T "_law_of" ["_law_box_here", "_law_goods_so"] 2 2 F_law_of) (c_law_sorts : DefAt P w K mg base T "_law_sorts" ["_law_caught"] 1 1 F_law_sorts) (c_law_same : DefAt P w K mg base T "_law_same" ["_law_got", "_law_due"] 2 9 (F_law_same 8)) (e_BadLine : Er1At P w K mg base T "BadLine" "number" 1) (e_BadRun : Er1At P w K mg base T "BadRun" "place" 2) (e_BadText : Er1At P w K mg base T "BadText" "piece" 3) (e_Known : Er1At P w K mg base T "Known" "name" 4) (e_NoHeir : Er1At P w K mg base T "NoHeir" "name" 5) (e_NoList : Er0At K mg T "NoList" 6) (e_NoNumber : Er1At P w K mg base T "NoNumber" "number" 7) (e_NoPlace : Er1At P w K mg base T "NoPlace" "number" 8) (e_NoThing : Er1At P w K mg base T "NoThing" "name" 9) (e_NoTurns : Er1At P w K mg base T "NoTurns" "name" 10) (e_NothingDone : Er0At K mg T "NothingDone" 11) (e_OtherThings : Er0At K mg T "OtherThings" 12) (i_HeirError : IsAt K mg T 13 "HeirError" tbl_HeirError) (i_LookupError : IsTab K T 13 (.type "LookupError") tbl_LookupError) (i_ValueError : IsTab K T 13 (.type "ValueError") tbl_ValueError) {f : Addr} {fd : FuncData} (F : Fun K "_law_right" "_law_right" s_law_right f fd) : FnOk P w K mg base (L2.CX P w) 10 f fd ["_law_box_here"] (spD K T 1 F_law_right) := by
  refine fn_okj F sc_law_right fun cdv A outer s H E W hr hp tk => ?_
  have nd := sc_law_right.nd
  exact (dss_cons (ds_par (i := 4) (j := 5) rfl nd rfl rfl (by decide) rfl rfl (de_sub (de_callD c_law_take hr (by decide) tk (da_cons (de_var (pv 0)) (da_cons (de_pow de_int de_int) da_nil))) (de_mul de_int (de_pow de_int de_int))) (de_callD c_law_of hr (by decide) tk (da_cons (de_var (pv 0)) (da_cons (de_new (df_lst (da_cons de_str (da_cons de_str (da_cons de_str (da_cons de_str da_nil)))))) da_nil))) (dPar_vv _) rfl rfl rfl rfl) (dss_cons (ds_set (i := 1) nd rfl (by first | exact .inl rfl | exact .inr rfl) (de_new (df_lst (da_cons (de_mk1 e_BadRun hr (de_var (pv 4))) (da_cons (de_mk1 e_BadText hr (de_var (pv 4))) (da_cons (de_mk1 e_BadLine hr (de_var (pv 4))) (da_cons (de_mk1 e_NoThing hr (de_var (pv 5))) da_nil))))))) (dss_cons (ds_set (i := 1) nd rfl (by first | exact .inl rfl | exact .inr rfl) (de_add (de_var (pv 1)) (de_new (df_lst (da_cons (de_mk1 e_NoPlace hr (de_var (pv 4))) (da_cons (de_mk0 e_OtherThings) (da_cons (de_mk0 e_NoList) (da_cons (de_mk1 e_NoHeir hr (de_var (pv 5))) da_nil)))))))) (dss_cons (ds_set (i := 1) nd rfl (by first | exact .inl rfl | exact .inr rfl) (de_add (de_var (pv 1)) (de_new (df_lst (da_cons (de_mk0 e_NothingDone) (da_cons (de_mk1 e_Known hr (de_var (pv 5))) (da_cons (de_mk1 e_NoTurns hr (de_var (pv 5))) (da_cons (de_mk1 e_NoNumber hr (de_var (pv 4))) da_nil)))))))) (dss_cons (ds_for hp rfl (di_enum (by rfl) Z.enumerate (da_cons (de_var (pv 1)) da_nil)) (dg_tup (pg_tup rfl (pgs_cons (pg_name nd rfl (by first | exact .inl rfl | exact .inr rfl)) (pgs_cons (pg_name nd rfl (by first | exact .inl rfl | exact .inr rfl)) pgs_nil))) (pg_unl rfl (pgs_cons (pg_name nd rfl (by first | exact .inl rfl | exact .inr rfl)) (pgs_cons (pg_name nd rfl (by first | exact .inl rfl | exact .inr rfl)) pgs_nil)))) (dss_cons (ds_if (dt_not (dt_tru (de_callD c_law_same hr (by decide) tk (da_cons (de_callD c_law_sorts hr (by decide) tk (da_cons (de_var (pv 7)) da_nil)) (da_cons (de_new (df_comp (own := [("_law_j", 8)]) (k := (.nm 8)) rfl nd (di_range1 (by rfl) Z.range (da_cons de_int da_nil)) (blkOk_by (N := N_law_right) (sc := defScope s_law_right) (by decide +kernel)) (by decide) (fun _ _ _ _ _ => (dg_name nd rfl (by first | exact .inl rfl | exact .inr rfl))) (fun _ _ _ _ _ => dts_nil) (fun _ _ _ _ _ => (de_eq hr.units (de_var (pv 8)) (de_var (pv 6)))))) da_nil))))) (dss_one (ds_ret de_bl)) dss_nil) (dss_one (ds_if (dt_bool (dw_or (dt_not (dt_tru (de_isOwn i_HeirError (by rfl) Z.isinstance (de_var (pv 7))))) (dw_or (dt_not (dt_tru (de_isBi i_ValueError (by decide +kernel) Z.ValueError (by rfl) Z.isinstance (de_var (pv 7))))) (dw_or1 (dt_tru (de_isBi i_LookupError (by decide +kernel) Z.LookupError (by rfl) Z.isinstance (de_var (pv 7)))))))) (dss_one (ds_ret de_bl)) dss_nil)))) (dss_cons (ds_set (i := 2) nd rfl (by first | exact .inl rfl | exact .inr rfl) (de_new (df_lst (da_cons (de_attrEs (cs := [2]) (fun c hc => by simp only [List.mem_cons, List.not_mem_nil, or_false] at hc; rcases hc with rfl <;> first | exact ⟨_, e_BadRun⟩) (de_ix (de_var (pv 1)) de_int)) (da_cons (de_attrEs (cs := [3]) (fun c hc => by simp only [List.mem_cons, List.not_mem_nil, or_false] at hc; rcases hc with rfl <;> first | exact ⟨_, e_BadText⟩) (de_ix (de_var (pv 1)) de_int)) (da_cons (de_attrEs (cs := [1, 7, 8]) (fun c hc => by simp only [List.mem_cons, List.not_mem_nil, or_false] at hc; rcases hc with rfl | rfl | rfl <;> first | exact ⟨_, e_BadLine⟩ | exact ⟨_, e_NoNumber⟩ | exact ⟨_, e_NoPlace⟩) (de_ix (de_var (pv 1)) de_int)) (da_cons (de_attrEs (cs := [4, 5, 9, 10]) (fun c hc => by simp only [List.mem_cons, List.not_mem_nil, or_false] at hc; rcases hc with rfl | rfl | rfl | rfl <;> first | exact ⟨_, e_Known⟩ | exact ⟨_, e_NoHeir⟩ | exact ⟨_, e_NoThing⟩ | exact ⟨_, e_NoTurns⟩) (de_ix (de_var (pv 1)) de_int)) (da_cons (de_attrEs (cs := [1, 7, 8]) (fun c hc => by simp only [List.mem_cons, List.not_mem_nil, or_false] at hc; rcases hc with rfl | rfl | rfl <;> first | exact ⟨_, e_BadLine⟩ | exact ⟨_, e_NoNumber⟩ | exact ⟨_, e_NoPlace⟩) (de_ix (de_var (pv 1)) de_int)) da_nil)))))))) (dss_cons (ds_set (i := 2) nd rfl (by first | exact .inl rfl | exact .inr rfl) (de_add (de_var (pv 2)) (de_new (df_lst (da_cons (de_attrEs (cs := [4, 5, 9, 10]) (fun c hc => by simp only [List.mem_cons, List.not_mem_nil, or_false] at hc; rcases hc with rfl | rfl | rfl | rfl <;> first | exact ⟨_, e_Known⟩ | exact ⟨_, e_NoHeir⟩ | exact ⟨_, e_NoThing⟩ | exact ⟨_, e_NoTurns⟩) (de_ix (de_var (pv 1)) de_int)) (da_cons (de_attrEs (cs := [4, 5, 9, 10]) (fun c hc => by simp only [List.mem_cons, List.not_mem_nil, or_false] at hc; rcases hc with rfl | rfl | rfl | rfl <;> first | exact ⟨_, e_Known⟩ | exact ⟨_, e_NoHeir⟩ | exact ⟨_, e_NoThing⟩ | exact ⟨_, e_NoTurns⟩) (de_ix (de_var (pv 1)) de_int)) (da_cons (de_attrEs (cs := [4, 5, 9, 10]) (fun c hc => by simp only [List.mem_cons, List.not_mem_nil, or_false] at hc; rcases hc with rfl | rfl | rfl | rfl <;> first | exact ⟨_, e_Known⟩ | exact ⟨_, e_NoHeir⟩ | exact ⟨_, e_NoThing⟩ | exact ⟨_, e_NoTurns⟩) (de_ix (de_var (pv 1)) de_int)) (da_cons (de_attrEs (cs := [1, 7, 8]) (fun c hc => by simp only [List.mem_cons, List.not_mem_nil, or_false] at hc; rcases hc with rfl | rfl | rfl <;> first | exact ⟨_, e_BadLine⟩ | exact ⟨_, e_NoNumber⟩ | exact ⟨_, e_NoPlace⟩) (de_ix (de_var (pv 1)) de_int)) da_nil)))))))) (dss_cons (ds_set (i := 3) nd rfl (by first | exact .inl rfl | exact .inr rfl) (de_new (df_lst (da_cons (de_var (pv 4)) (da_cons (de_var (pv 4)) (da_cons (de_var (pv 4)) (da_cons (de_var (pv 5)) (da_cons (de_var (pv 4)) (da_cons (de_var (pv 5)) (da_cons (de_var (pv 5)) (da_cons (de_var (pv 5)) (da_cons (de_var (pv 4)) da_nil)))))))))))) (dss_cons (ds_set (i := 2) nd rfl (by first | exact .inl rfl | exact .inr rfl) (de_add (de_var (pv 2)) (de_new (df_lst (da_cons (de_attrEs (cs := [2]) (fun c hc => by simp only [List.mem_cons, List.not_mem_nil, or_false] at hc; rcases hc with rfl <;> first | exact ⟨_, e_BadRun⟩) (de_mk1k e_BadRun hr (de_var (pv 4)))) (da_cons (de_attrEs (cs := [3]) (fun c hc => by simp only [List.mem_cons, List.not_mem_nil, or_false] at hc; rcases hc with rfl <;> first | exact ⟨_, e_BadText⟩) (de_mk1k e_BadText hr de_int)) da_nil)))))) (dss_cons (ds_set (i := 2) nd rfl (by first | exact .inl rfl | exact .inr rfl) (de_add (de_var (pv 2)) (de_new (df_lst (da_cons (de_attrEs (cs := [1, 7, 8]) (fun c hc => by simp only [List.mem_cons, List.not_mem_nil, or_false] at hc; rcases hc with rfl | rfl | rfl <;> first | exact ⟨_, e_BadLine⟩ | exact ⟨_, e_NoNumber⟩ | exact ⟨_, e_NoPlace⟩) (de_mk1k e_BadLine hr (de_neg de_int))) (da_cons (de_attrEs (cs := [4, 5, 9, 10]) (fun c hc => by simp only [List.mem_cons, List.not_mem_nil, or_false] at hc; rcases hc with rfl | rfl | rfl | rfl <;> first | exact ⟨_, e_Known⟩ | exact ⟨_, e_NoHeir⟩ | exact ⟨_, e_NoThing⟩ | exact ⟨_, e_NoTurns⟩) (de_mk1k e_NoThing hr de_str)) da_nil)))))) (dss_cons (ds_set (i := 3) nd rfl (by first | exact .inl rfl | exact .inr rfl) (de_add (de_var (pv 3)) (de_new (df_lst (da_cons (de_var (pv 4)) (da_cons de_int (da_cons (de_neg de_int) (da_cons de_str da_nil)))))))) (dss_cons (ds_set (i := 2) nd rfl (by first | exact .inl rfl | exact .inr rfl) (de_add (de_var (pv 2)) (de_new (df_lst (da_cons (de_attrEs (cs := [1, 7, 8]) (fun c hc => by simp only [List.mem_cons, List.not_mem_nil, or_false] at hc; rcases hc with rfl | rfl | rfl <;> first | exact ⟨_, e_BadLine⟩ | exact ⟨_, e_NoNumber⟩ | exact ⟨_, e_NoPlace⟩) (de_mk1k e_NoPlace hr (de_var (pv 4)))) (da_cons (de_attrEs (cs := [4, 5, 9, 10]) (fun c hc => by simp only [List.mem_cons, List.not_mem_nil, or_false] at hc; rcases hc with rfl | rfl | rfl | rfl <;> first | exact ⟨_, e_Known⟩ | exact ⟨_, e_NoHeir⟩ | exact ⟨_, e_NoThing⟩ | exact ⟨_, e_NoTurns⟩) (de_mk1k e_NoHeir hr de_str)) da_nil)))))) (dss_cons (ds_set (i := 2) nd rfl (by first | exact .inl rfl | exact .inr rfl) (de_add (de_var (pv 2)) (de_new (df_lst (da_cons (de_attrEs (cs := [4, 5, 9, 10]) (fun c hc => by simp only [List.mem_cons, List.not_mem_nil, or_false] at hc; rcases hc with rfl | rfl | rfl | rfl <;> first | exact ⟨_, e_Known⟩ | exact ⟨_, e_NoHeir⟩ | exact ⟨_, e_NoThing⟩ | exact ⟨_, e_NoTurns⟩) (de_mk1k e_Known hr (de_var (pv 5)))) (da_cons (de_attrEs (cs := [4, 5, 9, 10]) (fun c hc => by simp only [List.mem_cons, List.not_mem_nil, or_false] at hc; rcases hc with rfl | rfl | rfl | rfl <;> first | exact ⟨_, e_Known⟩ | exact ⟨_, e_NoHeir⟩ | exact ⟨_, e_NoThing⟩ | exact ⟨_, e_NoTurns⟩) (de_mk1k e_NoTurns hr (de_var (pv 5)))) da_nil)))))) (dss_one (ds_ret (de_callD c_law_same hr (by decide) tk (da_cons (de_add (de_var (pv 2)) (de_new (df_lst (da_cons (de_attrEs (cs := [1, 7, 8]) (fun c hc => by simp only [List.mem_cons, List.not_mem_nil, or_false] at hc; rcases hc with rfl | rfl | rfl <;> first | exact ⟨_, e_BadLine⟩ | exact ⟨_, e_NoNumber⟩ | exact ⟨_, e_NoPlace⟩) (de_mk1k e_NoNumber hr (de_pow de_int de_int))) da_nil)))) (da_cons (de_add (de_var (pv 3)) (de_new (df_lst (da_cons (de_var (pv 4)) (da_cons de_str (da_cons (de_var (pv 5)) (da_cons (de_var (pv 5)) (da_cons (de_pow de_int de_int) da_nil)))))))) da_nil))))))))))))))))))
/-! law -/
abbrev s_law : Stmt := topS 22
abbrev N_law : List Str := ["_law_script", "_law_cells_here", "_law_k"]
theorem sc_law : FnScope N_law ["_law_script"] (defScope s_law) := ⟨rfl, rfl, rfl, by decide +kernel, rfl, by decide +kernel, by decide +kernel⟩
def B_law : S → R Out := (dSeq (dSet 1 (dCall 2 F_law_cells [] (dCons (dV 0) (dCons (dC (.int 3)) dNil)))) (dRet (dCB hAll (dCons (dClose (dComp (.nm 2) [2] (dCBF hRange1 (dCons (dCB hLen (dCons (dV 1) dNil)) dNil)) dYes (dCallBox 1 F_law_right 2 F_law_box (dCons (dV 1) (dCons (dV 2) dNil))))) dNil))))
def F_law : Fn := runFn 1 3 B_law
theorem ok_law (Z : Bi mg) (c_law_cells : DefAt P w K mg base T "_law_cells" ["_law_script", "_law_top_so"] 2 1 F_law_cells) (c_law_right : DefAt P w K mg base T "_law_right" ["_law_box_here"] 1 10 F_law_right) (c_law_box : DefAt P w K mg base T "_law_box" ["_law_script", "_law_k"] 2 1 F_law_box) {f : Addr} {fd : FuncData} (F : Fun K "law" "law" s_law f fd) : FnOk P w K mg base (L2.CX P w) 11 f fd ["_law_script"] (spD K T 1 F_law) := by
  refine fn_okj F sc_law fun cdv A outer s H E W hr hp tk => ?_
  have nd := sc_law.nd
  exact (dss_cons (ds_set (i := 1) nd rfl (by first | exact .inl rfl | exact .inr rfl) (de_callD c_law_cells hr (by decide) tk (da_cons (de_var (pv 0)) (da_cons de_int da_nil)))) (dss_one (ds_ret (de_all rfl (by rfl) Z.all (da_cons (de_new (df_comp (own := [("_law_k", 2)]) (k := (.nm 2)) rfl nd (di_range1 (by rfl) Z.range (da_cons (de_len (by rfl) Z.len (da_cons (de_var (pv 1)) da_nil)) da_nil)) (blkOk_by (N := N_law) (sc := defScope s_law) (by decide +kernel)) (by decide) (fun _ _ _ _ _ => (dg_name nd rfl (by first | exact .inl rfl | exact .inr rfl))) (fun _ _ _ _ _ => dts_nil) (fun _ _ _ _ _ => (de_callBox c_law_right c_law_box hr (by decide) (by decide) takes0 (da_cons (de_var (pv 1)) (da_cons (de_var (pv 2)) da_nil)))))) da_nil)))))
end
end LW

namespace LW
open PySem PySem.Spec PyProof.Rows L2 DL
theorem take_hi {n a s c : Int} (hn : 0 < n) (hl : n < 18446744073709551616) (ha : 0 < a) : F_law_take [.box, .int n] (a, s, c) = .ok (.int (a % n)) (a / n, s, c) := by
  simp [F_law_take, runFn, B_law_take, dSeq, oBind, dIf, dBinB, dBin, dV, dC, hIx, R.bind, hOrd, dSet, dCB, dCons, dNil, hInt, hMod_ok, dSetIx, hDiv_ok, dRet, atI, ixN, S.put, ha, hn, hl]
theorem take_lo {n s c : Int} (hn : 0 < n) (hs : 0 ≤ s) (hs2 : s < 4611686018427387904) (hc : 0 ≤ c) (hc2 : c < 1000000) : ∃ k, F_law_take [.box, .int n] (0, s, c) = .ok (.int k) (0, s, c + 1) ∧ 0 ≤ k ∧ k < n := by
  have f1 : ∀ (x : Int) (st : S), hMulI x (39373 + (c + 1)) st = .ok (.int (x * (39373 + (c + 1)))) st := fun x st => hMulI_r (by omega)
  have f2 : ∀ (x y : Int) (st : S), hMulI x (y % 40009 + 7) st = .ok (.int (x * (y % 40009 + 7))) st := fun x y st => hMulI_r (by omega)
  have f3 : ∀ (x : Int) (st : S), hMulI 48271 x st = .ok (.int (48271 * x)) st := fun x st => hMulI_l (by omega)
  have f4 : ∀ (x : Int) (st : S), hMulI x 48271 st = .ok (.int (x * 48271)) st := fun x st => hMulI_r (by omega)
  simp [F_law_take, runFn, B_law_take, dSeq, dIf, dBinB, dBin, dV, dC, hIx, bind_ok, oBind_nx, oBind_rt, hOrd, dSet, dCB, dCons, dNil, hInt, hMod_ok, dSetIx, hDiv_ok, dRet, atI, ixN, S.put, hn, dNext, hAdd, hMul, f1, f2, f3, f4]
  exact ⟨Int.emod_nonneg _ (by omega), Int.emod_lt_of_pos _ hn⟩
theorem take_spec : Takes1 F_law_take := fun n m b hn hl h => by
  obtain ⟨a, s, c⟩ := b
  obtain ⟨h1, h2, h3, h4, h5⟩ := h
  dsimp only at h1 h2 h3 h4 h5
  by_cases ha : 0 < a
  · exact ⟨_, _, take_hi hn hl ha, Int.emod_nonneg _ (by omega), Int.emod_lt_of_pos _ hn, Int.ediv_nonneg h1 (by omega), h2, h3, h4, by dsimp only; omega⟩
  · have : a = 0 := by omega
    subst this
    obtain ⟨k, e, k0, k1⟩ := take_lo hn h2 h3 h4 (by omega)
    exact ⟨k, _, e, k0, k1, by dsimp only; omega, h2, h3, by dsimp only; omega, by dsimp only; omega⟩
end LW

namespace LW
open PySem PySem.Spec PyProof.Rows L2 DL
/-- plain data of at most that depth -/
def plainN : Nat → D → Bool
  | 0, _ => false
  | _ + 1, .non => true
  | _ + 1, .bl _ => true
  | _ + 1, .int _ => true
  | _ + 1, .str x => PyData.canLay0 (.str x)
  | k + 1, .ls xs => decide (xs.length ≤ 16777216) && xs.all (plainN k)
  | k + 1, .tu xs => decide (xs.length ≤ 16777216) && xs.all (plainN k)
  | _ + 1, _ => false
theorem eqv_str (x : Str) : PyData.eqv (.str x) (.str x) = true := by simp [PyData.eqv]
theorem shaped_str {x : Str} (h : PyData.canLay0 (.str x) = true) : SeqAt.shaped (.str x) = true := by
  unfold SeqAt.shaped
  rw [h]
  rfl
theorem deq_int (i j : Int) : deq (.int i) (.int j) = some (i == j) := rfl
theorem deq_bl (i j : Bool) : deq (.bl i) (.bl j) = some (i == j) := rfl
theorem deq_str {x : Str} (h : PyData.canLay0 (.str x) = true) : deq (.str x) (.str x) = some true := by
  unfold deq
  show (if (SeqAt.shaped (.str x) && SeqAt.shaped (.str x)) = true then some (PyData.eqv (.str x) (.str x)) else none) = _
  rw [shaped_str h, eqv_str]; rfl
theorem deq_non : deq .non .non = some true := rfl
theorem mem_zipD {xs : List D} {d : D} (h : d ∈ zipD xs xs) : ∃ x ∈ xs, d = .tu [x, x] := by
  unfold zipD at h
  obtain ⟨p, hp, rfl⟩ := List.mem_map.mp h
  obtain ⟨i, hi, e⟩ := List.mem_iff_getElem.mp hp
  have := List.getElem_zip (l := xs) (l' := xs) (i := i) (h := hi)
  rw [this] at e
  cases e
  exact ⟨_, List.getElem_mem _, rfl⟩
theorem same_turn {k : Nat} {xs : List D} {a c : D} {b : Bx} {d : D} (ih : ∀ (d : D) (b : Bx), plainN k d = true → F_law_same k [d, d] b = FR.ok (D.bl true) b) (hx : ∀ x ∈ xs, plainN k x = true) (h : d ∈ zipD xs xs) :
    ∃ env', turnD (.tp [2, 3]) [2, 3] dYes (dCall 2 (F_law_same k) [] (dCons (dV 2) (dCons (dV 3) dNil))) d ⟨[.val a, .val c, .un, .un], b⟩ = .ok (some (.bl true)) ⟨env', b⟩ := by
  obtain ⟨x, hx', rfl⟩ := mem_zipD h
  refine ⟨[.val a, .val c, .val x, .val x], ?_⟩
  simp [turnD, S.hide, Sl.hide, wipeS, tgD, DL.putAll, S.put, bind_ok, dYes, dCall, dCons, dNil, dV, ih x b (hx x hx'), fromF]
theorem same_refl : ∀ (k : Nat) (d : D) (b : Bx), plainN k d = true → F_law_same k [d, d] b = .ok (.bl true) b := by
  intro k
  induction k with
  | zero => intro d b h; simp [plainN] at h
  | succ k ih =>
    intro d b h
    cases d with
    | int i => simp [F_law_same, runFn, B_law_same, dSeq, dIf, dTru, dIsi2, hIsi2, kindD, isKind, dV, bind_ok, oBind_nx, oBind_rt, hTru, truD, dNext, dOr, dBinB, hIsN, isNon, dC, dRet, dAndV, dIsi, hIsi, dNotV, dOfB, toD, hEq, deq_int]
    | non => simp [F_law_same, runFn, B_law_same, dSeq, dIf, dTru, dIsi2, hIsi2, kindD, isKind, dV, bind_ok, oBind_nx, oBind_rt, hTru, truD, dNext, dOr, dBinB, hIsN, isNon, dC, dRet, dAndV, dIsi, hIsi, dNotV, dOfB, toD, hEq, deq_bl, deq_non]
    | bl i => simp [F_law_same, runFn, B_law_same, dSeq, dIf, dTru, dIsi2, hIsi2, kindD, isKind, dV, bind_ok, oBind_nx, oBind_rt, hTru, truD, dNext, dOr, dBinB, hIsN, isNon, dC, dRet, dAndV, dIsi, hIsi, dNotV, dOfB, toD, hEq, deq_bl, deq_non]
    | str x =>
      have hx : PyData.canLay0 (.str x) = true := h
      simp [F_law_same, runFn, B_law_same, dSeq, dIf, dTru, dIsi2, hIsi2, kindD, isKind, dV, bind_ok, oBind_nx, oBind_rt, hTru, truD, dNext, dOr, dBinB, hIsN, isNon, dC, dRet, dAndV, dIsi, hIsi, dNotV, dOfB, toD, hEq, deq_bl, deq_str hx]
    | ls xs =>
      simp [plainN] at h
      obtain ⟨hl, hx⟩ := h
      simp [F_law_same, runFn, B_law_same, dSeq, dIf, dTru, dIsi2, hIsi2, kindD, isKind, dV, bind_ok, oBind_nx, oBind_rt, hTru, truD, dNext, dBinB, dC, dRet, dAndV, dIsi, hIsi, dOfB, toD, hNe, hEq, deq_bl, deq_int, dCB, dCons, dNil, hLen, dClose, dComp, dCBF, hZip]
      rw [compD_map (f := fun _ => .bl true) (fun d hd => same_turn ih hx hd) (by simpa [zipD] using hl)]
      simp [bind_ok, oBind_rt, hAll_true]
    | tu xs =>
      simp [plainN] at h
      obtain ⟨hl, hx⟩ := h
      simp [F_law_same, runFn, B_law_same, dSeq, dIf, dTru, dIsi2, hIsi2, kindD, isKind, dV, bind_ok, oBind_nx, oBind_rt, hTru, truD, dNext, dBinB, dC, dRet, dAndV, dIsi, hIsi, dOfB, toD, hNe, hEq, deq_bl, deq_int, dCB, dCons, dNil, hLen, dClose, dComp, dCBF, hZip]
      rw [compD_map (f := fun _ => .bl true) (fun d hd => same_turn ih hx hd) (by simpa [zipD] using hl)]
      simp [bind_ok, oBind_rt, hAll_true]
    | ro _ => simp [plainN] at h
    | box => simp [plainN] at h
    | ob _ _ => simp [plainN] at h
    | er _ _ => simp [plainN] at h
end LW

namespace LW
open PySem PySem.Spec PyProof.Rows L2 DL
theorem atI_ints (cs : List Int) (k : Nat) (h : k < cs.length) : atI (cs.map D.int) (k : Int) = some (.int cs[k]) := atI_nat (by rw [List.getElem?_map, List.getElem?_eq_getElem h]; rfl)
theorem box_spec {cs : List Int} {k : Nat} (h : k < cs.length) (h3 : cs.length ≤ 3) (b : Bx) : ∃ a s, F_law_box [.ls (cs.map .int), .int (k : Nat)] b = .okF [.int a, .int s, .int 0] b ∧ Gd 900000 (a, s, 0) := by
  have hk : (k : Int) < (cs.length : Int) := by omega
  have f1 : ∀ (x : Int) (c : Prop) [Decidable c] (st : S), hMulI x (if c then 1 else 0) st = .ok (.int (x * (if c then 1 else 0))) st := fun x c _ st => hMulI_r (by split <;> omega)
  have f2 : ∀ (x : Int) (st : S), hMulI 39373 x st = .ok (.int (39373 * x)) st := fun x st => hMulI_l (by omega)
  simp [F_law_box, runFn, B_law_box, dSeq, dSet, dIfE, dBinB, dBin, dV, dC, bind_ok, oBind_nx, oBind_rtF, hOrd, dCB, dCons, dNil, hLen, hk, hIx, ixD, atI_ints cs k h, S.put, dRetF, dLst, hLs, hMul, hAbs, hInt, dOfB, toD, hPow, hMod_ok, hAdd, f1, f2]
  refine ⟨_, _, ⟨rfl, rfl⟩, ?_, ?_, ?_, ?_, ?_⟩
  · dsimp only
    split <;> split <;> omega
  · dsimp only; omega
  · dsimp only; omega
  · dsimp only; omega
  · dsimp only; omega
abbrev cellsBody : S → R Out := (dSeq (dSet 5 (dBin hMod (dCB hInt (dCons (dV 3) dNil)) (dV 1))) (dSetIx 2 (dLend 2 (dBin hAdd (dBin hIx (dV 2) (dV 5)) (dBin hMul (dV 4) (dBin hAdd (dV 3) (dC (.int 2)))))) (dV 5)))
theorem cells_turn (k : Nat) (r : Int) (ns cs : List Int) (x3 x4 x5 : Sl) (b : Bx) (h : cs.length = 3) (hk : k ≤ 63) :
    ∃ cs' : List Int, cs'.length = 3 ∧ cellsBody ⟨[.val (.ro ns), .val (.int 3), .own (cs.map .int), .val (.int (k : Nat)), .val (.int r), x5], b⟩ = .ok .nx ⟨[.val (.ro ns), .val (.int 3), .own (cs'.map .int), .val (.int (k : Nat)), .val (.int r), .val (.int ((k : Int) % 3))], b⟩ := by
  have h3 : k % 3 < cs.length := by omega
  have e1 : ((k : Int) % 3) = ((k % 3 : Nat) : Int) := by omega
  have e2 : ixN cs.length ((k : Int) % 3) = some (k % 3) := by unfold ixN; rw [if_pos (by omega), if_pos (by omega)]; congr 1
  have f1 : ∀ (x : Int) (st : S), hMulI x ((k : Int) + 2) st = .ok (.int (x * ((k : Int) + 2))) st := fun x st => hMulI_r (by omega)
  refine ⟨cs.set (k % 3) (cs[k % 3] + r * ((k : Int) + 2)), by simpa using h, ?_⟩
  have a1 : atI (cs.map D.int) ((k : Int) % 3) = some (.int cs[k % 3]) := by rw [e1]; exact atI_ints cs (k % 3) h3
  simp only [cellsBody, dSeq, dSet, dBin, dCB, dCons, dNil, dV, bind_ok, oBind_nx, hInt, S.put, List.getElem?_cons_succ, List.getElem?_cons_zero, List.set_cons_succ, List.set_cons_zero, dC]
  rw [hMod_ok (by omega)]
  simp only [bind_ok, oBind_nx, dSetIx, dLend, dBin, dV, List.getElem?_cons_succ, List.getElem?_cons_zero, S.put, S.hide, List.set_cons_succ, List.set_cons_zero, List.map_cons, List.map_nil, Sl.hide, hIx, ixD, a1, hAdd, hMul, f1, flatD, dC]
  simp [e2, bind_ok, h3]
theorem cells_loop : ∀ (rest : List Int) (k : Nat) (ns cs : List Int) (x3 x4 x5 : Sl) (b : Bx), cs.length = 3 → k + rest.length ≤ 63 →
    ∃ (cs' : List Int) (y3 y4 y5 : Sl), cs'.length = 3 ∧ forD (.tp [3, 4]) cellsBody (enumD k (rest.map .int)) ⟨[.val (.ro ns), .val (.int 3), .own (cs.map .int), x3, x4, x5], b⟩ = .ok .nx ⟨[.val (.ro ns), .val (.int 3), .own (cs'.map .int), y3, y4, y5], b⟩
  | [], k, ns, cs, x3, x4, x5, b, h, _ => ⟨cs, x3, x4, x5, h, rfl⟩
  | r :: rest, k, ns, cs, x3, x4, x5, b, h, hk => by
    obtain ⟨cs1, h1, e1⟩ := cells_turn k r ns cs x3 x4 x5 b h (by simp at hk; omega)
    obtain ⟨cs', y3, y4, y5, hl, e⟩ := cells_loop rest (k + 1) ns cs1 (.val (.int (k : Nat))) (.val (.int r)) (.val (.int ((k : Int) % 3))) b h1 (by simp at hk; omega)
    refine ⟨cs', y3, y4, y5, hl, ?_⟩
    rw [← e]
    exact forD_nx rfl e1
theorem sIx3 (n : Nat) : HT.sIx n 0 (some 3) = min 3 n := HT.sIx_nat n 0 3
theorem sIx63 (n : Nat) : HT.sIx n n (some 63) = min 63 n := HT.sIx_nat n n 63
theorem sIx3n (n : Nat) : HT.sIx n n (some 3) = min 3 n := HT.sIx_nat n n 3
theorem cells_spec (ns : List Int) (b : Bx) : ∃ cs : List Int, cs ≠ [] ∧ cs.length ≤ 3 ∧ F_law_cells [.ro ns, .int 3] b = .ok (.ls (cs.map .int)) b := by
  have c1 : DL.cutD ns none (some 3) = ns.take 3 := by
    unfold DL.cutD
    rw [HT.sIx_none, sIx3n, List.drop_zero, Nat.sub_zero, List.take_eq_take_iff]; omega
  have c2 : ∃ r : List Int, DL.cutD ns (some 3) (some 63) = r ∧ r.length ≤ 60 ∧ (ns.length < 3 → r = []) := by
    refine ⟨_, rfl, ?_, fun h => ?_⟩
    · unfold DL.cutD; rw [sIx3, sIx63, List.length_take, List.length_drop]; omega
    · unfold DL.cutD; rw [sIx3, sIx63]; simp; omega
  obtain ⟨r, c2, hr, hr0⟩ := c2
  have start : ∃ cs : List Int, cs ≠ [] ∧ cs.length ≤ 3 ∧ (3 ≤ ns.length → cs.length = 3) ∧ dOwn 2 (dOrF (dCBF hListOf (dCons (dSlice (dV 0) dNoP (dPart (dV 1))) dNil)) (dLst (dCons (dC (.int 0)) dNil))) ⟨[.val (.ro ns), .val (.int 3), .un, .un, .un, .un], b⟩ = .ok .nx ⟨[.val (.ro ns), .val (.int 3), .own (cs.map .int), .un, .un, .un], b⟩ := by
    by_cases h : ns = []
    · subst h
      exact ⟨[0], by simp, by simp, by simp, rfl⟩
    · refine ⟨ns.take 3, by simp [h], by rw [List.length_take]; omega, fun z => by rw [List.length_take]; omega, ?_⟩
      simp [dOwn, dOrF, dCBF, dCons, dSlice, dV, dNoP, dPart, dNil, bind_ok, sliceD, c1, hListOf, S.put, h]
  obtain ⟨cs, n0, l3, l3', e0⟩ := start
  have loop : ∃ (cs' : List Int) (y3 y4 y5 : Sl), cs' ≠ [] ∧ cs'.length ≤ 3 ∧ forD (.tp [3, 4]) cellsBody (enumD 0 (r.map .int)) ⟨[.val (.ro ns), .val (.int 3), .own (cs.map .int), .un, .un, .un], b⟩ = .ok .nx ⟨[.val (.ro ns), .val (.int 3), .own (cs'.map .int), y3, y4, y5], b⟩ := by
    by_cases h : ns.length < 3
    · rw [hr0 h]
      exact ⟨cs, .un, .un, .un, n0, l3, rfl⟩
    · obtain ⟨cs', y3, y4, y5, hl, e⟩ := cells_loop r 0 ns cs .un .un .un b (l3' (by omega)) (by omega)
      exact ⟨cs', y3, y4, y5, by intro z; subst z; simp at hl, by omega, e⟩
  obtain ⟨cs', y3, y4, y5, n1, l1, e1⟩ := loop
  refine ⟨cs', n1, l1, ?_⟩
  have e2 : dFor (.tp [3, 4]) (dCBF hEnumA (dCons (dSlice (dV 0) (dPart (dV 1)) (dPart (dC (.int 63)))) dNil)) cellsBody ⟨[.val (.ro ns), .val (.int 3), .own (cs.map .int), .un, .un, .un], b⟩ = .ok .nx ⟨[.val (.ro ns), .val (.int 3), .own (cs'.map .int), y3, y4, y5], b⟩ := by
    rw [← e1]
    simp [dFor, dCBF, dCons, dSlice, dV, dC, dPart, dNil, bind_ok, sliceD, c2, hEnumA, hEnum]
  refine run_rt (s := ⟨[.val (.ro ns), .val (.int 3), .val (.ls (cs'.map .int)), y3, y4, y5], b⟩) rfl ?_
  show dSeq _ (dSeq _ _) ⟨[.val (.ro ns), .val (.int 3), .un, .un, .un, .un], b⟩ = _
  rw [seq_nx e0, seq_nx e2]
  rfl
/-- a draw out of a written list -/
theorem of_spec {gs : List D} {m : Nat} {b : Bx} (hg : gs ≠ []) (hl : gs.length < 1000000) (h : Gd (m + 1) b) : ∃ (k : Nat) (b' : Bx) (hk : k < gs.length), F_law_of [.box, .ls gs] b = .ok gs[k] b' ∧ Gd m b' := by
  have l0 : 0 < gs.length := List.length_pos_iff.mpr hg
  obtain ⟨k, b', e, k0, k1, g⟩ := take_spec (gs.length : Nat) m b (by omega) (by omega) h
  have hk : k.toNat < gs.length := by omega
  have e1 : atI gs k = some gs[k.toNat] := by
    have q : atI gs ((k.toNat : Nat) : Int) = some gs[k.toNat] := atI_nat (List.getElem?_eq_getElem hk)
    rwa [show ((k.toNat : Nat) : Int) = k by omega] at q
  refine ⟨k.toNat, b', hk, ?_, g⟩
  simp [F_law_of, runFn, B_law_of, dRet, dBin, dV, bind_ok, dCall, dCons, dNil, dCB, hLen, e, fromF_ok, hIx, ixD, e1]
end LW

namespace LW
open PySem PySem.Spec PyProof.Rows L2 DL
/-- the law over its cells, where each cell's part holds -/
theorem law_turn {ns cs : List Int} (h : ∀ b, Gd 900000 b → ∃ b', F_law_right [.box] b = .ok (.bl true) b') (l3 : cs.length ≤ 3) {i : Nat} (hi : i < cs.length) :
    ∃ env', turnD (.nm 2) [2] dYes (dCallBox 1 F_law_right 2 F_law_box (dCons (dV 1) (dCons (dV 2) dNil))) (.int (0 + (i : Nat))) ⟨[.val (.ro ns), .val (.ls (cs.map .int)), .un], (0, 0, 0)⟩ = .ok (some (.bl true)) ⟨env', (0, 0, 0)⟩ := by
  obtain ⟨a, s, e1, g1⟩ := box_spec hi l3 (0, 0, 0)
  obtain ⟨b', e2⟩ := h _ g1
  refine ⟨[.val (.ro ns), .val (.ls (cs.map .int)), .val (.int (i : Nat))], ?_⟩
  simp [turnD, S.hide, Sl.hide, wipeS, tgD, S.put, bind_ok, dYes, dCallBox, dCons, dNil, dV, e1, e2]
theorem law_of_right (h : ∀ b, Gd 900000 b → ∃ b', F_law_right [.box] b = .ok (.bl true) b') (ns : List Int) : ∃ b', F_law [.ro ns] (0, 0, 0) = .ok (.bl true) b' := by
  obtain ⟨cs, n0, l3, e⟩ := cells_spec ns (0, 0, 0)
  refine ⟨(0, 0, 0), ?_⟩
  have hl : (rangeD 0 cs.length).length ≤ 16777216 := by
    unfold rangeD
    rw [List.length_map, List.length_range]
    omega
  have c1 : compD (.nm 2) [2] dYes (dCallBox 1 F_law_right 2 F_law_box (dCons (dV 1) (dCons (dV 2) dNil))) (rangeD 0 cs.length) [] ⟨[.val (.ro ns), .val (.ls (cs.map .int)), .un], (0, 0, 0)⟩ = .ok ([] ++ (rangeD 0 cs.length).map fun _ => .bl true) ⟨[.val (.ro ns), .val (.ls (cs.map .int)), .un], (0, 0, 0)⟩ :=
    compD_map (f := fun _ => .bl true) (fun d hd => by
      unfold rangeD at hd
      obtain ⟨i, hi, rfl⟩ := List.mem_map.mp hd
      exact law_turn h l3 (List.mem_range.mp hi)) (by rw [List.length_nil, Nat.zero_add]; exact hl)
  have e1 : dSet 1 (dCall 2 F_law_cells [] (dCons (dV 0) (dCons (dC (.int 3)) dNil))) ⟨[.val (.ro ns), .un, .un], (0, 0, 0)⟩ = .ok .nx ⟨[.val (.ro ns), .val (.ls (cs.map .int)), .un], (0, 0, 0)⟩ :=
    dSet_ok (dCall_ok (dCons_ok (dV_ok rfl) (dCons_ok dC_ok dNil_ok)) rfl e)
  have hlen : hLen [.ls (cs.map .int)] ⟨[.val (.ro ns), .val (.ls (cs.map .int)), .un], (0, 0, 0)⟩ = .ok (.int (cs.length : Nat)) ⟨[.val (.ro ns), .val (.ls (cs.map .int)), .un], (0, 0, 0)⟩ := by
    show R.ok (D.int ((cs.map D.int).length : Nat)) _ = _
    rw [List.length_map]
  refine run_rt (s := ⟨[.val (.ro ns), .val (.ls (cs.map .int)), .un], (0, 0, 0)⟩) rfl ?_
  show dSeq _ _ ⟨[.val (.ro ns), .un, .un], (0, 0, 0)⟩ = _
  rw [seq_nx e1]
  exact dRet_ok (dCB_ok (dCons_ok (dClose_ok (dComp_ok (dCBF_ok (dCons_ok (dCB_ok (dCons_ok (dV_ok rfl) dNil_ok) hlen) dNil_ok) (hRange1_nat (by omega))) c1)) dNil_ok) (hAll_true (by intro d hd; obtain ⟨_, _, rfl⟩ := List.mem_map.mp hd; rfl)))
end LW

namespace LW
open PySem PySem.Spec PyProof.Rows L2 DL
/-- which of twelve -/
def row (k : Nat) : List D := (rangeD 0 12).map fun d => match d with
  | .int j => .bl (j == (k : Nat))
  | d => d
theorem sorts0 (fs : List D) (b : Bx) : F_law_sorts [.er 2 fs] b = .ok (.ls (row 0)) b := rfl
theorem sorts1 (fs : List D) (b : Bx) : F_law_sorts [.er 3 fs] b = .ok (.ls (row 1)) b := rfl
theorem sorts2 (fs : List D) (b : Bx) : F_law_sorts [.er 1 fs] b = .ok (.ls (row 2)) b := rfl
theorem sorts3 (fs : List D) (b : Bx) : F_law_sorts [.er 9 fs] b = .ok (.ls (row 3)) b := rfl
theorem sorts4 (fs : List D) (b : Bx) : F_law_sorts [.er 8 fs] b = .ok (.ls (row 4)) b := rfl
theorem sorts5 (fs : List D) (b : Bx) : F_law_sorts [.er 12 fs] b = .ok (.ls (row 5)) b := rfl
theorem sorts6 (fs : List D) (b : Bx) : F_law_sorts [.er 6 fs] b = .ok (.ls (row 6)) b := rfl
theorem sorts7 (fs : List D) (b : Bx) : F_law_sorts [.er 5 fs] b = .ok (.ls (row 7)) b := rfl
theorem sorts8 (fs : List D) (b : Bx) : F_law_sorts [.er 11 fs] b = .ok (.ls (row 8)) b := rfl
theorem sorts9 (fs : List D) (b : Bx) : F_law_sorts [.er 4 fs] b = .ok (.ls (row 9)) b := rfl
theorem sorts10 (fs : List D) (b : Bx) : F_law_sorts [.er 10 fs] b = .ok (.ls (row 10)) b := rfl
theorem sorts11 (fs : List D) (b : Bx) : F_law_sorts [.er 7 fs] b = .ok (.ls (row 11)) b := rfl
theorem row_turn {x0 x1 x2 x3 x4 x5 x7 x8 : Sl} {k : Nat} {b : Bx} {d : D} (x8e : x8.hide = x8) (h : d ∈ rangeD 0 12) :
    ∃ env', turnD (.nm 8) [8] dYes (dOfB (dBinB hEq (dV 8) (dV 6))) d ⟨[x0, x1, x2, x3, x4, x5, .val (.int (k : Nat)), x7, x8], b⟩ = .ok (some (match d with | .int j => .bl (j == (k : Nat)) | d => d)) ⟨env', b⟩ := by
  unfold rangeD at h
  obtain ⟨j, hj, rfl⟩ := List.mem_map.mp h
  refine ⟨[x0.hide, x1.hide, x2.hide, x3.hide, x4.hide, x5.hide, .val (.int (k : Nat)), x7.hide, .val (.int (j : Nat))], ?_⟩
  simp [turnD, S.hide, Sl.hide, wipeS, tgD, S.put, bind_ok, dYes, dOfB, dBinB, dV, hEq, deq_int, toD]
theorem row_comp {x0 x1 x2 x3 x4 x5 x7 x8 : Sl} {k : Nat} {b : Bx} (x8e : x8.hide = x8) :
    dClose (dComp (.nm 8) [8] (dCBF hRange1 (dCons (dC (.int 12)) dNil)) dYes (dOfB (dBinB hEq (dV 8) (dV 6)))) ⟨[x0, x1, x2, x3, x4, x5, .val (.int (k : Nat)), x7, x8], b⟩ = .ok (.ls (row k)) ⟨[x0, x1, x2, x3, x4, x5, .val (.int (k : Nat)), x7, x8], b⟩ :=
  dClose_ok (dComp_ok (dCBF_ok (dCons_ok dC_ok dNil_ok) (hRange1_nat (n := 12) (by decide))) (compD_map (fun d hd => row_turn x8e hd) (by decide)))
theorem row_plain (k : Nat) : plainN 8 (.ls (row k)) = true := by
  unfold row rangeD
  simp [plainN, List.range, List.range.loop]
end LW

namespace LW
open PySem PySem.Spec PyProof.Rows L2 DL
abbrev rightBody : S → R Out := (dSeq (dIf (dNot (dTru (dCall 2 (F_law_same 8) [] (dCons (dCall 1 F_law_sorts [] (dCons (dV 7) dNil)) (dCons (dClose (dComp (.nm 8) [8] (dCBF hRange1 (dCons (dC (.int 12)) dNil)) dYes (dOfB (dBinB hEq (dV 8) (dV 6))))) dNil))))) (dRet (dC (.bl false))) dNext) (dIf (dOr (dNot (dTru (dIsE 13 (tbl_HeirError) (dV 7)))) (dOr (dNot (dTru (dIsE 13 (tbl_ValueError) (dV 7)))) (dTru (dIsE 13 (tbl_LookupError) (dV 7))))) (dRet (dC (.bl false))) dNext))
theorem right_body {x0 x1 x2 x3 x4 x5 x8 : Sl} {k c : Nat} {fs : List D} {b : Bx} (x8e : x8.hide = x8) (hs : ∀ b, F_law_sorts [.er c fs] b = .ok (.ls (row k)) b) (hc : c < 13) (h1 : tbl_HeirError c = true) (h2 : tbl_ValueError c = true) (h3 : tbl_LookupError c = false) :
    rightBody ⟨[x0, x1, x2, x3, x4, x5, .val (.int (k : Nat)), .val (.er c fs), x8], b⟩ = .ok .nx ⟨[x0, x1, x2, x3, x4, x5, .val (.int (k : Nat)), .val (.er c fs), x8], b⟩ := by
  generalize hst : (⟨[x0, x1, x2, x3, x4, x5, .val (.int (k : Nat)), .val (.er c fs), x8], b⟩ : S) = st
  have v7 : st.env[7]? = some (.val (.er c fs)) := by rw [← hst]; rfl
  have eb : { st with bx := st.bx } = st := rfl
  have e1 := dIsE_ok (n := 13) (tbl := tbl_HeirError) (dV_ok v7) hc
  have e2 := dIsE_ok (n := 13) (tbl := tbl_ValueError) (dV_ok v7) hc
  have e3 := dIsE_ok (n := 13) (tbl := tbl_LookupError) (dV_ok v7) hc
  rw [h1] at e1; rw [h2] at e2; rw [h3] at e3
  have a1 : dCall 1 F_law_sorts [] (dCons (dV 7) dNil) st = .ok (.ls (row k)) st := dCall_ok (dCons_ok (dV_ok v7) dNil_ok) rfl (hs st.bx)
  have a3 : dClose (dComp (.nm 8) [8] (dCBF hRange1 (dCons (dC (.int 12)) dNil)) dYes (dOfB (dBinB hEq (dV 8) (dV 6)))) st = .ok (.ls (row k)) st := by rw [← hst]; exact row_comp x8e
  have a2 : dCall 2 (F_law_same 8) [] (dCons (dCall 1 F_law_sorts [] (dCons (dV 7) dNil)) (dCons (dClose (dComp (.nm 8) [8] (dCBF hRange1 (dCons (dC (.int 12)) dNil)) dYes (dOfB (dBinB hEq (dV 8) (dV 6))))) dNil)) st = .ok (.bl true) st := dCall_ok (dCons_ok a1 (dCons_ok a3 dNil_ok)) rfl (same_refl 8 _ st.bx (row_plain k))
  have a4 := dIf_f (a := dRet (dC (.bl false))) (c := dNext) (r := .ok .nx st) (dNot_ok (dTru_bl a2)) rfl
  have a5 := dIf_f (a := dRet (dC (.bl false))) (c := dNext) (r := .ok .nx st) (dOr_f (dNot_ok (dTru_bl e1)) (dOr_f (dNot_ok (dTru_bl e2)) (dTru_bl e3))) rfl
  exact (seq_nx a4).trans a5
/-- the twelve -/
abbrev twelve (x t : D) : List D := [.er 2 [x], .er 3 [x], .er 1 [x], .er 9 [t], .er 8 [x], .er 12 [], .er 6 [], .er 5 [t], .er 11 [], .er 4 [t], .er 10 [t], .er 7 [x]]
theorem right_loop {x0 x1 x2 x3 x4 x5 x6 x7 x8 : Sl} {x t : D} {b : Bx} (x8e : x8.hide = x8) :
    forD (.tp [6, 7]) rightBody (enumD 0 (twelve x t)) ⟨[x0, x1, x2, x3, x4, x5, x6, x7, x8], b⟩ = .ok .nx ⟨[x0, x1, x2, x3, x4, x5, .val (.int 11), .val (.er 7 [x]), x8], b⟩ :=
  (forD_nx rfl (right_body (k := 0) x8e (sorts0 _) (by decide) rfl rfl rfl)).trans <|
  (forD_nx rfl (right_body (k := 1) x8e (sorts1 _) (by decide) rfl rfl rfl)).trans <|
  (forD_nx rfl (right_body (k := 2) x8e (sorts2 _) (by decide) rfl rfl rfl)).trans <|
  (forD_nx rfl (right_body (k := 3) x8e (sorts3 _) (by decide) rfl rfl rfl)).trans <|
  (forD_nx rfl (right_body (k := 4) x8e (sorts4 _) (by decide) rfl rfl rfl)).trans <|
  (forD_nx rfl (right_body (k := 5) x8e (sorts5 _) (by decide) rfl rfl rfl)).trans <|
  (forD_nx rfl (right_body (k := 6) x8e (sorts6 _) (by decide) rfl rfl rfl)).trans <|
  (forD_nx rfl (right_body (k := 7) x8e (sorts7 _) (by decide) rfl rfl rfl)).trans <|
  (forD_nx rfl (right_body (k := 8) x8e (sorts8 _) (by decide) rfl rfl rfl)).trans <|
  (forD_nx rfl (right_body (k := 9) x8e (sorts9 _) (by decide) rfl rfl rfl)).trans <|
  (forD_nx rfl (right_body (k := 10) x8e (sorts10 _) (by decide) rfl rfl rfl)).trans <|
  (forD_nx rfl (right_body (k := 11) x8e (sorts11 _) (by decide) rfl rfl rfl)).trans rfl
/-- what is drawn -/
theorem draw_far {m : Nat} {b : Bx} (h : Gd (m + 1) b) {st : S} (e : st.env[0]? = some (.val .box)) (eb : st.bx = b) : ∃ (k : Int) (b' : Bx), dBin hSub (dCall 2 F_law_take [] (dCons (dV 0) (dCons (dBin hPow (dC (.int 10)) (dC (.int 9))) dNil))) (dBin hMul (dC (.int 5)) (dBin hPow (dC (.int 10)) (dC (.int 8)))) st = .ok (.int k) { st with bx := b' } ∧ Gd m b' := by
  subst eb
  obtain ⟨k, b', e1, k0, k1, g⟩ := take_spec (10 ^ 9) m _ (by decide) (by decide) h
  refine ⟨k - 5 * 10 ^ 8, b', ?_, g⟩
  refine dBin_ok (dCall_ok (dCons_ok (dV_ok e) (dCons_ok (dBin_ok dC_ok dC_ok (hPow_ok (by decide) (by decide) (by decide))) dNil_ok)) rfl e1) (dBin_ok dC_ok (dBin_ok dC_ok dC_ok (hPow_ok (by decide) (by decide) (by decide))) (hMulI_l (by decide))) rfl
theorem draw_tag {m : Nat} {b : Bx} (h : Gd (m + 1) b) {st : S} (e : st.env[0]? = some (.val .box)) (eb : st.bx = b) : ∃ (t : Str) (b' : Bx), dCall 2 F_law_of [] (dCons (dV 0) (dCons (dClose (dLst (dCons (dC (.str "a")) (dCons (dC (.str "ants")) (dCons (dC (.str "abcdefgh")) (dCons (dC (.str "zz")) dNil)))))) dNil)) st = .ok (.str t) { st with bx := b' } ∧ Gd m b' ∧ PyData.canLay0 (.str t) = true := by
  subst eb
  obtain ⟨k, b', hk, e1, g⟩ := of_spec (gs := [.str "a", .str "ants", .str "abcdefgh", .str "zz"]) (by simp) (by decide) h
  have e2 : ∀ d, ([.str "a", .str "ants", .str "abcdefgh", .str "zz"] : List D)[k] = d → dCall 2 F_law_of [] (dCons (dV 0) (dCons (dClose (dLst (dCons (dC (.str "a")) (dCons (dC (.str "ants")) (dCons (dC (.str "abcdefgh")) (dCons (dC (.str "zz")) dNil)))))) dNil)) st = .ok d { st with bx := b' } := fun d hd => by
    subst hd
    exact dCall_ok (dCons_ok (dV_ok e) (dCons_ok (dClose_ok (dLst_ok (dCons_ok dC_ok (dCons_ok dC_ok (dCons_ok dC_ok (dCons_ok dC_ok dNil_ok)))) (by decide))) dNil_ok)) rfl e1
  match k, hk, e2 with
  | 0, _, e2 => exact ⟨"a", b', e2 _ rfl, g, by kernel_rfl⟩
  | 1, _, e2 => exact ⟨"ants", b', e2 _ rfl, g, by kernel_rfl⟩
  | 2, _, e2 => exact ⟨"abcdefgh", b', e2 _ rfl, g, by kernel_rfl⟩
  | 3, _, e2 => exact ⟨"zz", b', e2 _ rfl, g, by kernel_rfl⟩
end LW

namespace LW
open PySem PySem.Spec PyProof.Rows L2 DL
theorem right_for {x0 x2 x3 x4 x5 x6 x7 x8 : Sl} {x t : D} {b : Bx} (x8e : x8.hide = x8) :
    dFor (.tp [6, 7]) (dCBF hEnumA (dCons (dV 1) dNil)) rightBody ⟨[x0, .val (.ls (twelve x t)), x2, x3, x4, x5, x6, x7, x8], b⟩ = .ok .nx ⟨[x0, .val (.ls (twelve x t)), x2, x3, x4, x5, .val (.int 11), .val (.er 7 [x]), x8], b⟩ := by
  have e : dCBF hEnumA (dCons (dV 1) dNil) ⟨[x0, .val (.ls (twelve x t)), x2, x3, x4, x5, x6, x7, x8], b⟩ = .ok (enumD 0 (twelve x t)) ⟨[x0, .val (.ls (twelve x t)), x2, x3, x4, x5, x6, x7, x8], b⟩ := dCBF_ok (dCons_ok (dV_ok rfl) dNil_ok) rfl
  exact dFor_ok e (right_loop x8e)
theorem right_spec (b : Bx) (h : Gd 900000 b) : ∃ b', F_law_right [.box] b = .ok (.bl true) b' := by
  obtain ⟨i, b1, e1, g1⟩ := draw_far (m := 899999) h (st := ⟨[.val .box, .un, .un, .un, .un, .un, .un, .un, .un], b⟩) rfl rfl
  obtain ⟨s, b2, e2, g2, hs⟩ := draw_tag (m := 899998) g1 (st := ⟨[.val .box, .un, .un, .un, .un, .un, .un, .un, .un], b1⟩) rfl rfl
  refine ⟨b2, ?_⟩
  generalize hx : D.int i = x at *
  generalize ht : D.str s = t at *
  have px : plainN 7 x = true := by rw [← hx]; rfl
  have pt : plainN 7 t = true := by rw [← ht]; exact hs
  refine run_rt (s := ⟨[.val .box, .val (.ls (twelve x t)), .val (.ls [x, x, x, t, x, t, t, t, x, x, .int 7, .int (-1), .str "b", x, .str "c", t, t]), .val (.ls [x, x, x, t, x, t, t, t, x, x, .int 7, .int (-1), .str "b"]), .val x, .val t, .val (.int 11), .val (.er 7 [x]), .un], b2⟩) rfl ?_
  show dSeq _ _ ⟨[.val .box, .un, .un, .un, .un, .un, .un, .un, .un], b⟩ = _
  refine (seq_nx (dPar_ok e1 e2)).trans ?_
  show dSeq _ _ ⟨[.val .box, .un, .un, .un, .val x, .val t, .un, .un, .un], b2⟩ = _
  refine (seq_nx (st1 := ⟨[.val .box, .val (.ls [.er 2 [x], .er 3 [x], .er 1 [x], .er 9 [t]]), .un, .un, .val x, .val t, .un, .un, .un], b2⟩) rfl).trans ?_
  refine (seq_nx (st1 := ⟨[.val .box, .val (.ls [.er 2 [x], .er 3 [x], .er 1 [x], .er 9 [t], .er 8 [x], .er 12 [], .er 6 [], .er 5 [t]]), .un, .un, .val x, .val t, .un, .un, .un], b2⟩) rfl).trans ?_
  refine (seq_nx (st1 := ⟨[.val .box, .val (.ls (twelve x t)), .un, .un, .val x, .val t, .un, .un, .un], b2⟩) rfl).trans ?_
  refine (seq_nx (right_for rfl)).trans ?_
  refine (seq_nx (st1 := ⟨[.val .box, .val (.ls (twelve x t)), .val (.ls [x, x, x, t, x]), .un, .val x, .val t, .val (.int 11), .val (.er 7 [x]), .un], b2⟩) rfl).trans ?_
  refine (seq_nx (st1 := ⟨[.val .box, .val (.ls (twelve x t)), .val (.ls [x, x, x, t, x, t, t, t, x]), .un, .val x, .val t, .val (.int 11), .val (.er 7 [x]), .un], b2⟩) rfl).trans ?_
  refine (seq_nx (st1 := ⟨[.val .box, .val (.ls (twelve x t)), .val (.ls [x, x, x, t, x, t, t, t, x]), .val (.ls [x, x, x, t, x, t, t, t, x]), .val x, .val t, .val (.int 11), .val (.er 7 [x]), .un], b2⟩) rfl).trans ?_
  refine (seq_nx (st1 := ⟨[.val .box, .val (.ls (twelve x t)), .val (.ls [x, x, x, t, x, t, t, t, x, x, .int 7]), .val (.ls [x, x, x, t, x, t, t, t, x]), .val x, .val t, .val (.int 11), .val (.er 7 [x]), .un], b2⟩) rfl).trans ?_
  refine (seq_nx (st1 := ⟨[.val .box, .val (.ls (twelve x t)), .val (.ls [x, x, x, t, x, t, t, t, x, x, .int 7, .int (-1), .str "b"]), .val (.ls [x, x, x, t, x, t, t, t, x]), .val x, .val t, .val (.int 11), .val (.er 7 [x]), .un], b2⟩) rfl).trans ?_
  refine (seq_nx (st1 := ⟨[.val .box, .val (.ls (twelve x t)), .val (.ls [x, x, x, t, x, t, t, t, x, x, .int 7, .int (-1), .str "b"]), .val (.ls [x, x, x, t, x, t, t, t, x, x, .int 7, .int (-1), .str "b"]), .val x, .val t, .val (.int 11), .val (.er 7 [x]), .un], b2⟩) rfl).trans ?_
  refine (seq_nx (st1 := ⟨[.val .box, .val (.ls (twelve x t)), .val (.ls [x, x, x, t, x, t, t, t, x, x, .int 7, .int (-1), .str "b", x, .str "c"]), .val (.ls [x, x, x, t, x, t, t, t, x, x, .int 7, .int (-1), .str "b"]), .val x, .val t, .val (.int 11), .val (.er 7 [x]), .un], b2⟩) rfl).trans ?_
  refine (seq_nx (st1 := ⟨[.val .box, .val (.ls (twelve x t)), .val (.ls [x, x, x, t, x, t, t, t, x, x, .int 7, .int (-1), .str "b", x, .str "c", t, t]), .val (.ls [x, x, x, t, x, t, t, t, x, x, .int 7, .int (-1), .str "b"]), .val x, .val t, .val (.int 11), .val (.er 7 [x]), .un], b2⟩) rfl).trans ?_
  generalize hst : (⟨[.val .box, .val (.ls (twelve x t)), .val (.ls [x, x, x, t, x, t, t, t, x, x, .int 7, .int (-1), .str "b", x, .str "c", t, t]), .val (.ls [x, x, x, t, x, t, t, t, x, x, .int 7, .int (-1), .str "b"]), .val x, .val t, .val (.int 11), .val (.er 7 [x]), .un], b2⟩ : S) = st
  have v2 : st.env[2]? = some (.val (.ls [x, x, x, t, x, t, t, t, x, x, .int 7, .int (-1), .str "b", x, .str "c", t, t])) := by rw [← hst]; rfl
  have v3 : st.env[3]? = some (.val (.ls [x, x, x, t, x, t, t, t, x, x, .int 7, .int (-1), .str "b"])) := by rw [← hst]; rfl
  have v4 : st.env[4]? = some (.val x) := by rw [← hst]; rfl
  have v5 : st.env[5]? = some (.val t) := by rw [← hst]; rfl
  have p1 : dBin hPow (dC (.int 10)) (dC (.int 30)) st = .ok (.int (10 ^ 30)) st := dBin_ok dC_ok dC_ok (hPow_ok (by decide) (by decide) (by decide))
  have a1 : dBin hAdd (dV 2) (dClose (dLst (dCons (dAttrEs [1, 7, 8] (dMk 7 (dBin hPow (dC (.int 10)) (dC (.int 30))))) dNil))) st = .ok (.ls [x, x, x, t, x, t, t, t, x, x, .int 7, .int (-1), .str "b", x, .str "c", t, t, .int (10 ^ 30)]) st :=
    dBin_ok (dV_ok v2) (dClose_ok (dLst_ok (dCons_ok (dAttrEs_ok (dMk_ok p1) (by decide)) dNil_ok) (by decide))) (hAdd_ls (by simp))
  have a2 : dBin hAdd (dV 3) (dClose (dLst (dCons (dV 4) (dCons (dC (.str "c")) (dCons (dV 5) (dCons (dV 5) (dCons (dBin hPow (dC (.int 10)) (dC (.int 30))) dNil))))))) st = .ok (.ls [x, x, x, t, x, t, t, t, x, x, .int 7, .int (-1), .str "b", x, .str "c", t, t, .int (10 ^ 30)]) st :=
    dBin_ok (dV_ok v3) (dClose_ok (dLst_ok (dCons_ok (dV_ok v4) (dCons_ok dC_ok (dCons_ok (dV_ok v5) (dCons_ok (dV_ok v5) (dCons_ok p1 dNil_ok))))) (by simp))) (hAdd_ls (by simp))
  have pb : PyData.canLay0 (.str "b") = true := by kernel_rfl
  have pc : PyData.canLay0 (.str "c") = true := by kernel_rfl
  have pl : plainN 8 (.ls [x, x, x, t, x, t, t, t, x, x, .int 7, .int (-1), .str "b", x, .str "c", t, t, .int (10 ^ 30)]) = true := by
    have p7 : ∀ i : Int, plainN 7 (.int i) = true := fun _ => rfl
    simp only [plainN, List.all_cons, List.all_nil, px, pt, p7, pb, pc, Bool.and_self, Bool.and_true, List.length_cons, List.length_nil, decide_eq_true_eq]
    exact Nat.le_of_ble_eq_true rfl
  have a3 : dCall 2 (F_law_same 8) [] (dCons (dBin hAdd (dV 2) (dClose (dLst (dCons (dAttrEs [1, 7, 8] (dMk 7 (dBin hPow (dC (.int 10)) (dC (.int 30))))) dNil)))) (dCons (dBin hAdd (dV 3) (dClose (dLst (dCons (dV 4) (dCons (dC (.str "c")) (dCons (dV 5) (dCons (dV 5) (dCons (dBin hPow (dC (.int 10)) (dC (.int 30))) dNil)))))))) dNil)) st = .ok (.bl true) st :=
    dCall_ok (dCons_ok a1 (dCons_ok a2 dNil_ok)) rfl (same_refl 8 _ st.bx pl)
  exact dRet_ok a3
theorem law_spec (ns : List Int) : ∃ b', F_law [.ro ns] (0, 0, 0) = .ok (.bl true) b' := law_of_right right_spec ns
end LW

set_option maxHeartbeats 4000000
namespace LW
open PySem PySem.Spec PyProof.Rows L2 DL
def clsBody : Stmt → List Stmt
  | .ClassDef (body := b) .. => b
  | _ => []
abbrev si_BadLine : Stmt := (clsBody (topS 2)).getD 0 (.Pass ⟨0, 0, 0, 0⟩)
theorem sci_BadLine : FnScope ["self", "number"] ["self", "number"] (defScope si_BadLine) := ⟨rfl, rfl, rfl, by decide +kernel, rfl, by decide +kernel, by decide +kernel⟩
abbrev si_BadRun : Stmt := (clsBody (topS 3)).getD 0 (.Pass ⟨0, 0, 0, 0⟩)
theorem sci_BadRun : FnScope ["self", "place"] ["self", "place"] (defScope si_BadRun) := ⟨rfl, rfl, rfl, by decide +kernel, rfl, by decide +kernel, by decide +kernel⟩
abbrev si_BadText : Stmt := (clsBody (topS 4)).getD 0 (.Pass ⟨0, 0, 0, 0⟩)
theorem sci_BadText : FnScope ["self", "piece"] ["self", "piece"] (defScope si_BadText) := ⟨rfl, rfl, rfl, by decide +kernel, rfl, by decide +kernel, by decide +kernel⟩
abbrev si_Known : Stmt := (clsBody (topS 5)).getD 0 (.Pass ⟨0, 0, 0, 0⟩)
theorem sci_Known : FnScope ["self", "name"] ["self", "name"] (defScope si_Known) := ⟨rfl, rfl, rfl, by decide +kernel, rfl, by decide +kernel, by decide +kernel⟩
abbrev si_NoHeir : Stmt := (clsBody (topS 6)).getD 0 (.Pass ⟨0, 0, 0, 0⟩)
theorem sci_NoHeir : FnScope ["self", "name"] ["self", "name"] (defScope si_NoHeir) := ⟨rfl, rfl, rfl, by decide +kernel, rfl, by decide +kernel, by decide +kernel⟩
abbrev si_NoNumber : Stmt := (clsBody (topS 8)).getD 0 (.Pass ⟨0, 0, 0, 0⟩)
theorem sci_NoNumber : FnScope ["self", "number"] ["self", "number"] (defScope si_NoNumber) := ⟨rfl, rfl, rfl, by decide +kernel, rfl, by decide +kernel, by decide +kernel⟩
abbrev si_NoPlace : Stmt := (clsBody (topS 9)).getD 0 (.Pass ⟨0, 0, 0, 0⟩)
theorem sci_NoPlace : FnScope ["self", "number"] ["self", "number"] (defScope si_NoPlace) := ⟨rfl, rfl, rfl, by decide +kernel, rfl, by decide +kernel, by decide +kernel⟩
abbrev si_NoThing : Stmt := (clsBody (topS 10)).getD 0 (.Pass ⟨0, 0, 0, 0⟩)
theorem sci_NoThing : FnScope ["self", "name"] ["self", "name"] (defScope si_NoThing) := ⟨rfl, rfl, rfl, by decide +kernel, rfl, by decide +kernel, by decide +kernel⟩
abbrev si_NoTurns : Stmt := (clsBody (topS 11)).getD 0 (.Pass ⟨0, 0, 0, 0⟩)
theorem sci_NoTurns : FnScope ["self", "name"] ["self", "name"] (defScope si_NoTurns) := ⟨rfl, rfl, rfl, by decide +kernel, rfl, by decide +kernel, by decide +kernel⟩
set_option maxHeartbeats 4000000 in
theorem all_mk {l : PySem.W.OpenLaw} {w : World} {K : PySem.W.Frag} {h : Heap} {mg : Str → Option Value} {fa : Addr} (X : K.In h) (G : h.Ns mainGlobals mg) (hfa : mg "law" = some (.ref fa))
    {f_law_box : Addr} {od_law_box an_law_box : Option Addr} {sl_law_box : Array (Option Value)} {oc_law_box kV_law_box dc_law_box pm_law_box cd_law_box ct_law_box : Value}
    {f_law_take : Addr} {od_law_take an_law_take : Option Addr} {sl_law_take : Array (Option Value)} {oc_law_take kV_law_take dc_law_take pm_law_take cd_law_take ct_law_take : Value}
    {f_law_cells : Addr} {od_law_cells an_law_cells : Option Addr} {sl_law_cells : Array (Option Value)} {oc_law_cells kV_law_cells dc_law_cells pm_law_cells cd_law_cells ct_law_cells : Value}
    {f_law_of : Addr} {od_law_of an_law_of : Option Addr} {sl_law_of : Array (Option Value)} {oc_law_of kV_law_of dc_law_of pm_law_of cd_law_of ct_law_of : Value}
    {f_law_same : Addr} {od_law_same an_law_same : Option Addr} {sl_law_same : Array (Option Value)} {oc_law_same kV_law_same dc_law_same pm_law_same cd_law_same ct_law_same : Value}
    {f_law_sorts : Addr} {od_law_sorts an_law_sorts : Option Addr} {sl_law_sorts : Array (Option Value)} {oc_law_sorts kV_law_sorts dc_law_sorts pm_law_sorts cd_law_sorts ct_law_sorts : Value}
    {f_law_right : Addr} {od_law_right an_law_right : Option Addr} {sl_law_right : Array (Option Value)} {oc_law_right kV_law_right dc_law_right pm_law_right cd_law_right ct_law_right : Value}
    {f_law : Addr} {od_law an_law : Option Addr} {sl_law : Array (Option Value)} {oc_law kV_law dc_law pm_law cd_law ct_law : Value}
    {A_HeirError : Addr}
    {A_BadLine : Addr}
    {A_BadRun : Addr}
    {A_BadText : Addr}
    {A_Known : Addr}
    {A_NoHeir : Addr}
    {A_NoList : Addr}
    {A_NoNumber : Addr}
    {A_NoPlace : Addr}
    {A_NoThing : Addr}
    {A_NoTurns : Addr}
    {A_NothingDone : Addr}
    {A_OtherThings : Addr}
    {nm_BadLine q_BadLine : Str} {N_BadLine : Addr} {bs_BadLine sub_BadLine : List Value} {sn_BadLine : List Str} {ab_BadLine : Bool} {col_BadLine : Option Bool} {dd_BadLine : Option Addr} {m0_BadLine m1_BadLine m2_BadLine m3_BadLine m5_BadLine : Option Value} {fi_BadLine : Addr} {odi_BadLine ani_BadLine : Option Addr} {sli_BadLine : Array (Option Value)} {oci_BadLine kVi_BadLine dci_BadLine pmi_BadLine cdi_BadLine cti_BadLine : Value}
    {nm_BadRun q_BadRun : Str} {N_BadRun : Addr} {bs_BadRun sub_BadRun : List Value} {sn_BadRun : List Str} {ab_BadRun : Bool} {col_BadRun : Option Bool} {dd_BadRun : Option Addr} {m0_BadRun m1_BadRun m2_BadRun m3_BadRun m5_BadRun : Option Value} {fi_BadRun : Addr} {odi_BadRun ani_BadRun : Option Addr} {sli_BadRun : Array (Option Value)} {oci_BadRun kVi_BadRun dci_BadRun pmi_BadRun cdi_BadRun cti_BadRun : Value}
    {nm_BadText q_BadText : Str} {N_BadText : Addr} {bs_BadText sub_BadText : List Value} {sn_BadText : List Str} {ab_BadText : Bool} {col_BadText : Option Bool} {dd_BadText : Option Addr} {m0_BadText m1_BadText m2_BadText m3_BadText m5_BadText : Option Value} {fi_BadText : Addr} {odi_BadText ani_BadText : Option Addr} {sli_BadText : Array (Option Value)} {oci_BadText kVi_BadText dci_BadText pmi_BadText cdi_BadText cti_BadText : Value}
    {nm_Known q_Known : Str} {N_Known : Addr} {bs_Known sub_Known : List Value} {sn_Known : List Str} {ab_Known : Bool} {col_Known : Option Bool} {dd_Known : Option Addr} {m0_Known m1_Known m2_Known m3_Known m5_Known : Option Value} {fi_Known : Addr} {odi_Known ani_Known : Option Addr} {sli_Known : Array (Option Value)} {oci_Known kVi_Known dci_Known pmi_Known cdi_Known cti_Known : Value}
    {nm_NoHeir q_NoHeir : Str} {N_NoHeir : Addr} {bs_NoHeir sub_NoHeir : List Value} {sn_NoHeir : List Str} {ab_NoHeir : Bool} {col_NoHeir : Option Bool} {dd_NoHeir : Option Addr} {m0_NoHeir m1_NoHeir m2_NoHeir m3_NoHeir m5_NoHeir : Option Value} {fi_NoHeir : Addr} {odi_NoHeir ani_NoHeir : Option Addr} {sli_NoHeir : Array (Option Value)} {oci_NoHeir kVi_NoHeir dci_NoHeir pmi_NoHeir cdi_NoHeir cti_NoHeir : Value}
    {nm_NoNumber q_NoNumber : Str} {N_NoNumber : Addr} {bs_NoNumber sub_NoNumber : List Value} {sn_NoNumber : List Str} {ab_NoNumber : Bool} {col_NoNumber : Option Bool} {dd_NoNumber : Option Addr} {m0_NoNumber m1_NoNumber m2_NoNumber m3_NoNumber m5_NoNumber : Option Value} {fi_NoNumber : Addr} {odi_NoNumber ani_NoNumber : Option Addr} {sli_NoNumber : Array (Option Value)} {oci_NoNumber kVi_NoNumber dci_NoNumber pmi_NoNumber cdi_NoNumber cti_NoNumber : Value}
    {nm_NoPlace q_NoPlace : Str} {N_NoPlace : Addr} {bs_NoPlace sub_NoPlace : List Value} {sn_NoPlace : List Str} {ab_NoPlace : Bool} {col_NoPlace : Option Bool} {dd_NoPlace : Option Addr} {m0_NoPlace m1_NoPlace m2_NoPlace m3_NoPlace m5_NoPlace : Option Value} {fi_NoPlace : Addr} {odi_NoPlace ani_NoPlace : Option Addr} {sli_NoPlace : Array (Option Value)} {oci_NoPlace kVi_NoPlace dci_NoPlace pmi_NoPlace cdi_NoPlace cti_NoPlace : Value}
    {nm_NoThing q_NoThing : Str} {N_NoThing : Addr} {bs_NoThing sub_NoThing : List Value} {sn_NoThing : List Str} {ab_NoThing : Bool} {col_NoThing : Option Bool} {dd_NoThing : Option Addr} {m0_NoThing m1_NoThing m2_NoThing m3_NoThing m5_NoThing : Option Value} {fi_NoThing : Addr} {odi_NoThing ani_NoThing : Option Addr} {sli_NoThing : Array (Option Value)} {oci_NoThing kVi_NoThing dci_NoThing pmi_NoThing cdi_NoThing cti_NoThing : Value}
    {nm_NoTurns q_NoTurns : Str} {N_NoTurns : Addr} {bs_NoTurns sub_NoTurns : List Value} {sn_NoTurns : List Str} {ab_NoTurns : Bool} {col_NoTurns : Option Bool} {dd_NoTurns : Option Addr} {m0_NoTurns m1_NoTurns m2_NoTurns m3_NoTurns m5_NoTurns : Option Value} {fi_NoTurns : Addr} {odi_NoTurns ani_NoTurns : Option Addr} {sli_NoTurns : Array (Option Value)} {oci_NoTurns kVi_NoTurns dci_NoTurns pmi_NoTurns cdi_NoTurns cti_NoTurns : Value}
    (a_law_box : PySem.W.nsIn K mainGlobals "_law_box" = some (some (.ref f_law_box)))
    (l_law_box : K.lookup f_law_box = some ⟨oc_law_box, od_law_box, .func (PySem.W.fnOf "_law_box" "_law_box" (defArgs s_law_box) (defBody s_law_box) (defScope s_law_box) .none kV_law_box dc_law_box pm_law_box an_law_box cd_law_box ct_law_box), sl_law_box⟩)
    (d_law_box : PySem.W.codeIn K cd_law_box "_law_box" = true)
    (k_law_box : PySem.W.keepIn K (.ref f_law_box) = true)
    (a_law_take : PySem.W.nsIn K mainGlobals "_law_take" = some (some (.ref f_law_take)))
    (l_law_take : K.lookup f_law_take = some ⟨oc_law_take, od_law_take, .func (PySem.W.fnOf "_law_take" "_law_take" (defArgs s_law_take) (defBody s_law_take) (defScope s_law_take) .none kV_law_take dc_law_take pm_law_take an_law_take cd_law_take ct_law_take), sl_law_take⟩)
    (d_law_take : PySem.W.codeIn K cd_law_take "_law_take" = true)
    (k_law_take : PySem.W.keepIn K (.ref f_law_take) = true)
    (a_law_cells : PySem.W.nsIn K mainGlobals "_law_cells" = some (some (.ref f_law_cells)))
    (l_law_cells : K.lookup f_law_cells = some ⟨oc_law_cells, od_law_cells, .func (PySem.W.fnOf "_law_cells" "_law_cells" (defArgs s_law_cells) (defBody s_law_cells) (defScope s_law_cells) .none kV_law_cells dc_law_cells pm_law_cells an_law_cells cd_law_cells ct_law_cells), sl_law_cells⟩)
    (d_law_cells : PySem.W.codeIn K cd_law_cells "_law_cells" = true)
    (k_law_cells : PySem.W.keepIn K (.ref f_law_cells) = true)
    (a_law_of : PySem.W.nsIn K mainGlobals "_law_of" = some (some (.ref f_law_of)))
    (l_law_of : K.lookup f_law_of = some ⟨oc_law_of, od_law_of, .func (PySem.W.fnOf "_law_of" "_law_of" (defArgs s_law_of) (defBody s_law_of) (defScope s_law_of) .none kV_law_of dc_law_of pm_law_of an_law_of cd_law_of ct_law_of), sl_law_of⟩)
    (d_law_of : PySem.W.codeIn K cd_law_of "_law_of" = true)
    (k_law_of : PySem.W.keepIn K (.ref f_law_of) = true)
    (a_law_same : PySem.W.nsIn K mainGlobals "_law_same" = some (some (.ref f_law_same)))
    (l_law_same : K.lookup f_law_same = some ⟨oc_law_same, od_law_same, .func (PySem.W.fnOf "_law_same" "_law_same" (defArgs s_law_same) (defBody s_law_same) (defScope s_law_same) .none kV_law_same dc_law_same pm_law_same an_law_same cd_law_same ct_law_same), sl_law_same⟩)
    (d_law_same : PySem.W.codeIn K cd_law_same "_law_same" = true)
    (k_law_same : PySem.W.keepIn K (.ref f_law_same) = true)
    (a_law_sorts : PySem.W.nsIn K mainGlobals "_law_sorts" = some (some (.ref f_law_sorts)))
    (l_law_sorts : K.lookup f_law_sorts = some ⟨oc_law_sorts, od_law_sorts, .func (PySem.W.fnOf "_law_sorts" "_law_sorts" (defArgs s_law_sorts) (defBody s_law_sorts) (defScope s_law_sorts) .none kV_law_sorts dc_law_sorts pm_law_sorts an_law_sorts cd_law_sorts ct_law_sorts), sl_law_sorts⟩)
    (d_law_sorts : PySem.W.codeIn K cd_law_sorts "_law_sorts" = true)
    (k_law_sorts : PySem.W.keepIn K (.ref f_law_sorts) = true)
    (a_law_right : PySem.W.nsIn K mainGlobals "_law_right" = some (some (.ref f_law_right)))
    (l_law_right : K.lookup f_law_right = some ⟨oc_law_right, od_law_right, .func (PySem.W.fnOf "_law_right" "_law_right" (defArgs s_law_right) (defBody s_law_right) (defScope s_law_right) .none kV_law_right dc_law_right pm_law_right an_law_right cd_law_right ct_law_right), sl_law_right⟩)
    (d_law_right : PySem.W.codeIn K cd_law_right "_law_right" = true)
    (k_law_right : PySem.W.keepIn K (.ref f_law_right) = true)
    (a_law : PySem.W.nsIn K mainGlobals "law" = some (some (.ref f_law)))
    (l_law : K.lookup f_law = some ⟨oc_law, od_law, .func (PySem.W.fnOf "law" "law" (defArgs s_law) (defBody s_law) (defScope s_law) .none kV_law dc_law pm_law an_law cd_law ct_law), sl_law⟩)
    (d_law : PySem.W.codeIn K cd_law "law" = true)
    (k_law : PySem.W.keepIn K (.ref f_law) = true)
    (a_HeirError : PySem.W.nsIn K mainGlobals "HeirError" = some (some (.ref A_HeirError)))
    (a_BadLine : PySem.W.nsIn K mainGlobals "BadLine" = some (some (.ref A_BadLine)))
    (a_BadRun : PySem.W.nsIn K mainGlobals "BadRun" = some (some (.ref A_BadRun)))
    (a_BadText : PySem.W.nsIn K mainGlobals "BadText" = some (some (.ref A_BadText)))
    (a_Known : PySem.W.nsIn K mainGlobals "Known" = some (some (.ref A_Known)))
    (a_NoHeir : PySem.W.nsIn K mainGlobals "NoHeir" = some (some (.ref A_NoHeir)))
    (a_NoList : PySem.W.nsIn K mainGlobals "NoList" = some (some (.ref A_NoList)))
    (a_NoNumber : PySem.W.nsIn K mainGlobals "NoNumber" = some (some (.ref A_NoNumber)))
    (a_NoPlace : PySem.W.nsIn K mainGlobals "NoPlace" = some (some (.ref A_NoPlace)))
    (a_NoThing : PySem.W.nsIn K mainGlobals "NoThing" = some (some (.ref A_NoThing)))
    (a_NoTurns : PySem.W.nsIn K mainGlobals "NoTurns" = some (some (.ref A_NoTurns)))
    (a_NothingDone : PySem.W.nsIn K mainGlobals "NothingDone" = some (some (.ref A_NothingDone)))
    (a_OtherThings : PySem.W.nsIn K mainGlobals "OtherThings" = some (some (.ref A_OtherThings)))
    (he : allErB K [A_HeirError, A_BadLine, A_BadRun, A_BadText, A_Known, A_NoHeir, A_NoList, A_NoNumber, A_NoPlace, A_NoThing, A_NoTurns, A_NothingDone, A_OtherThings] = true)
    (xl_BadLine : K.lookup A_BadLine = some (excClassObj nm_BadLine q_BadLine A_BadLine N_BadLine bs_BadLine [.ref A_HeirError, .type "ValueError", .type "Exception", .type "BaseException", .type "object"] true sn_BadLine sub_BadLine ab_BadLine col_BadLine dd_BadLine m0_BadLine m1_BadLine m2_BadLine m3_BadLine m5_BadLine "ValueError.__new__"))
    (sa_BadLine : PySem.W.findIn K (.ref A_BadLine) "__setattr__" = some (some (.builtin "object.__setattr__")))
    (no_BadLine : PySem.W.findIn K (.ref A_BadLine) "number" = some none)
    (ii_BadLine : PySem.W.findIn K (.ref A_BadLine) "__init__" = some (some (.ref fi_BadLine)))
    (ti_BadLine : PySem.W.typeIn K (.ref fi_BadLine) = some (.type "function"))
    (li_BadLine : K.lookup fi_BadLine = some ⟨oci_BadLine, odi_BadLine, .func (PySem.W.fnOf "__init__" "BadLine.__init__" (defArgs si_BadLine) (defBody si_BadLine) (defScope si_BadLine) .none kVi_BadLine dci_BadLine pmi_BadLine ani_BadLine cdi_BadLine cti_BadLine), sli_BadLine⟩)
    (di_BadLine : PySem.W.codeIn K cdi_BadLine "BadLine.__init__" = true)
    (ki_BadLine : PySem.W.keepIn K (.ref fi_BadLine) = true)
    (xl_BadRun : K.lookup A_BadRun = some (excClassObj nm_BadRun q_BadRun A_BadRun N_BadRun bs_BadRun [.ref A_HeirError, .type "ValueError", .type "Exception", .type "BaseException", .type "object"] true sn_BadRun sub_BadRun ab_BadRun col_BadRun dd_BadRun m0_BadRun m1_BadRun m2_BadRun m3_BadRun m5_BadRun "ValueError.__new__"))
    (sa_BadRun : PySem.W.findIn K (.ref A_BadRun) "__setattr__" = some (some (.builtin "object.__setattr__")))
    (no_BadRun : PySem.W.findIn K (.ref A_BadRun) "place" = some none)
    (ii_BadRun : PySem.W.findIn K (.ref A_BadRun) "__init__" = some (some (.ref fi_BadRun)))
    (ti_BadRun : PySem.W.typeIn K (.ref fi_BadRun) = some (.type "function"))
    (li_BadRun : K.lookup fi_BadRun = some ⟨oci_BadRun, odi_BadRun, .func (PySem.W.fnOf "__init__" "BadRun.__init__" (defArgs si_BadRun) (defBody si_BadRun) (defScope si_BadRun) .none kVi_BadRun dci_BadRun pmi_BadRun ani_BadRun cdi_BadRun cti_BadRun), sli_BadRun⟩)
    (di_BadRun : PySem.W.codeIn K cdi_BadRun "BadRun.__init__" = true)
    (ki_BadRun : PySem.W.keepIn K (.ref fi_BadRun) = true)
    (xl_BadText : K.lookup A_BadText = some (excClassObj nm_BadText q_BadText A_BadText N_BadText bs_BadText [.ref A_HeirError, .type "ValueError", .type "Exception", .type "BaseException", .type "object"] true sn_BadText sub_BadText ab_BadText col_BadText dd_BadText m0_BadText m1_BadText m2_BadText m3_BadText m5_BadText "ValueError.__new__"))
    (sa_BadText : PySem.W.findIn K (.ref A_BadText) "__setattr__" = some (some (.builtin "object.__setattr__")))
    (no_BadText : PySem.W.findIn K (.ref A_BadText) "piece" = some none)
    (ii_BadText : PySem.W.findIn K (.ref A_BadText) "__init__" = some (some (.ref fi_BadText)))
    (ti_BadText : PySem.W.typeIn K (.ref fi_BadText) = some (.type "function"))
    (li_BadText : K.lookup fi_BadText = some ⟨oci_BadText, odi_BadText, .func (PySem.W.fnOf "__init__" "BadText.__init__" (defArgs si_BadText) (defBody si_BadText) (defScope si_BadText) .none kVi_BadText dci_BadText pmi_BadText ani_BadText cdi_BadText cti_BadText), sli_BadText⟩)
    (di_BadText : PySem.W.codeIn K cdi_BadText "BadText.__init__" = true)
    (ki_BadText : PySem.W.keepIn K (.ref fi_BadText) = true)
    (xl_Known : K.lookup A_Known = some (excClassObj nm_Known q_Known A_Known N_Known bs_Known [.ref A_HeirError, .type "ValueError", .type "Exception", .type "BaseException", .type "object"] true sn_Known sub_Known ab_Known col_Known dd_Known m0_Known m1_Known m2_Known m3_Known m5_Known "ValueError.__new__"))
    (sa_Known : PySem.W.findIn K (.ref A_Known) "__setattr__" = some (some (.builtin "object.__setattr__")))
    (no_Known : PySem.W.findIn K (.ref A_Known) "name" = some none)
    (ii_Known : PySem.W.findIn K (.ref A_Known) "__init__" = some (some (.ref fi_Known)))
    (ti_Known : PySem.W.typeIn K (.ref fi_Known) = some (.type "function"))
    (li_Known : K.lookup fi_Known = some ⟨oci_Known, odi_Known, .func (PySem.W.fnOf "__init__" "Known.__init__" (defArgs si_Known) (defBody si_Known) (defScope si_Known) .none kVi_Known dci_Known pmi_Known ani_Known cdi_Known cti_Known), sli_Known⟩)
    (di_Known : PySem.W.codeIn K cdi_Known "Known.__init__" = true)
    (ki_Known : PySem.W.keepIn K (.ref fi_Known) = true)
    (xl_NoHeir : K.lookup A_NoHeir = some (excClassObj nm_NoHeir q_NoHeir A_NoHeir N_NoHeir bs_NoHeir [.ref A_HeirError, .type "ValueError", .type "Exception", .type "BaseException", .type "object"] true sn_NoHeir sub_NoHeir ab_NoHeir col_NoHeir dd_NoHeir m0_NoHeir m1_NoHeir m2_NoHeir m3_NoHeir m5_NoHeir "ValueError.__new__"))
    (sa_NoHeir : PySem.W.findIn K (.ref A_NoHeir) "__setattr__" = some (some (.builtin "object.__setattr__")))
    (no_NoHeir : PySem.W.findIn K (.ref A_NoHeir) "name" = some none)
    (ii_NoHeir : PySem.W.findIn K (.ref A_NoHeir) "__init__" = some (some (.ref fi_NoHeir)))
    (ti_NoHeir : PySem.W.typeIn K (.ref fi_NoHeir) = some (.type "function"))
    (li_NoHeir : K.lookup fi_NoHeir = some ⟨oci_NoHeir, odi_NoHeir, .func (PySem.W.fnOf "__init__" "NoHeir.__init__" (defArgs si_NoHeir) (defBody si_NoHeir) (defScope si_NoHeir) .none kVi_NoHeir dci_NoHeir pmi_NoHeir ani_NoHeir cdi_NoHeir cti_NoHeir), sli_NoHeir⟩)
    (di_NoHeir : PySem.W.codeIn K cdi_NoHeir "NoHeir.__init__" = true)
    (ki_NoHeir : PySem.W.keepIn K (.ref fi_NoHeir) = true)
    (q_NoList : PySem.W.excIn K A_NoList [.type "ValueError", .type "Exception", .type "BaseException", .type "object"] "ValueError.__new__" = true)
    (xl_NoNumber : K.lookup A_NoNumber = some (excClassObj nm_NoNumber q_NoNumber A_NoNumber N_NoNumber bs_NoNumber [.ref A_HeirError, .type "ValueError", .type "Exception", .type "BaseException", .type "object"] true sn_NoNumber sub_NoNumber ab_NoNumber col_NoNumber dd_NoNumber m0_NoNumber m1_NoNumber m2_NoNumber m3_NoNumber m5_NoNumber "ValueError.__new__"))
    (sa_NoNumber : PySem.W.findIn K (.ref A_NoNumber) "__setattr__" = some (some (.builtin "object.__setattr__")))
    (no_NoNumber : PySem.W.findIn K (.ref A_NoNumber) "number" = some none)
    (ii_NoNumber : PySem.W.findIn K (.ref A_NoNumber) "__init__" = some (some (.ref fi_NoNumber)))
    (ti_NoNumber : PySem.W.typeIn K (.ref fi_NoNumber) = some (.type "function"))
    (li_NoNumber : K.lookup fi_NoNumber = some ⟨oci_NoNumber, odi_NoNumber, .func (PySem.W.fnOf "__init__" "NoNumber.__init__" (defArgs si_NoNumber) (defBody si_NoNumber) (defScope si_NoNumber) .none kVi_NoNumber dci_NoNumber pmi_NoNumber ani_NoNumber cdi_NoNumber cti_NoNumber), sli_NoNumber⟩)
    (di_NoNumber : PySem.W.codeIn K cdi_NoNumber "NoNumber.__init__" = true)
    (ki_NoNumber : PySem.W.keepIn K (.ref fi_NoNumber) = true)
    (xl_NoPlace : K.lookup A_NoPlace = some (excClassObj nm_NoPlace q_NoPlace A_NoPlace N_NoPlace bs_NoPlace [.ref A_HeirError, .type "ValueError", .type "Exception", .type "BaseException", .type "object"] true sn_NoPlace sub_NoPlace ab_NoPlace col_NoPlace dd_NoPlace m0_NoPlace m1_NoPlace m2_NoPlace m3_NoPlace m5_NoPlace "ValueError.__new__"))
    (sa_NoPlace : PySem.W.findIn K (.ref A_NoPlace) "__setattr__" = some (some (.builtin "object.__setattr__")))
    (no_NoPlace : PySem.W.findIn K (.ref A_NoPlace) "number" = some none)
    (ii_NoPlace : PySem.W.findIn K (.ref A_NoPlace) "__init__" = some (some (.ref fi_NoPlace)))
    (ti_NoPlace : PySem.W.typeIn K (.ref fi_NoPlace) = some (.type "function"))
    (li_NoPlace : K.lookup fi_NoPlace = some ⟨oci_NoPlace, odi_NoPlace, .func (PySem.W.fnOf "__init__" "NoPlace.__init__" (defArgs si_NoPlace) (defBody si_NoPlace) (defScope si_NoPlace) .none kVi_NoPlace dci_NoPlace pmi_NoPlace ani_NoPlace cdi_NoPlace cti_NoPlace), sli_NoPlace⟩)
    (di_NoPlace : PySem.W.codeIn K cdi_NoPlace "NoPlace.__init__" = true)
    (ki_NoPlace : PySem.W.keepIn K (.ref fi_NoPlace) = true)
    (xl_NoThing : K.lookup A_NoThing = some (excClassObj nm_NoThing q_NoThing A_NoThing N_NoThing bs_NoThing [.ref A_HeirError, .type "ValueError", .type "Exception", .type "BaseException", .type "object"] true sn_NoThing sub_NoThing ab_NoThing col_NoThing dd_NoThing m0_NoThing m1_NoThing m2_NoThing m3_NoThing m5_NoThing "ValueError.__new__"))
    (sa_NoThing : PySem.W.findIn K (.ref A_NoThing) "__setattr__" = some (some (.builtin "object.__setattr__")))
    (no_NoThing : PySem.W.findIn K (.ref A_NoThing) "name" = some none)
    (ii_NoThing : PySem.W.findIn K (.ref A_NoThing) "__init__" = some (some (.ref fi_NoThing)))
    (ti_NoThing : PySem.W.typeIn K (.ref fi_NoThing) = some (.type "function"))
    (li_NoThing : K.lookup fi_NoThing = some ⟨oci_NoThing, odi_NoThing, .func (PySem.W.fnOf "__init__" "NoThing.__init__" (defArgs si_NoThing) (defBody si_NoThing) (defScope si_NoThing) .none kVi_NoThing dci_NoThing pmi_NoThing ani_NoThing cdi_NoThing cti_NoThing), sli_NoThing⟩)
    (di_NoThing : PySem.W.codeIn K cdi_NoThing "NoThing.__init__" = true)
    (ki_NoThing : PySem.W.keepIn K (.ref fi_NoThing) = true)
    (xl_NoTurns : K.lookup A_NoTurns = some (excClassObj nm_NoTurns q_NoTurns A_NoTurns N_NoTurns bs_NoTurns [.ref A_HeirError, .type "ValueError", .type "Exception", .type "BaseException", .type "object"] true sn_NoTurns sub_NoTurns ab_NoTurns col_NoTurns dd_NoTurns m0_NoTurns m1_NoTurns m2_NoTurns m3_NoTurns m5_NoTurns "ValueError.__new__"))
    (sa_NoTurns : PySem.W.findIn K (.ref A_NoTurns) "__setattr__" = some (some (.builtin "object.__setattr__")))
    (no_NoTurns : PySem.W.findIn K (.ref A_NoTurns) "name" = some none)
    (ii_NoTurns : PySem.W.findIn K (.ref A_NoTurns) "__init__" = some (some (.ref fi_NoTurns)))
    (ti_NoTurns : PySem.W.typeIn K (.ref fi_NoTurns) = some (.type "function"))
    (li_NoTurns : K.lookup fi_NoTurns = some ⟨oci_NoTurns, odi_NoTurns, .func (PySem.W.fnOf "__init__" "NoTurns.__init__" (defArgs si_NoTurns) (defBody si_NoTurns) (defScope si_NoTurns) .none kVi_NoTurns dci_NoTurns pmi_NoTurns ani_NoTurns cdi_NoTurns cti_NoTurns), sli_NoTurns⟩)
    (di_NoTurns : PySem.W.codeIn K cdi_NoTurns "NoTurns.__init__" = true)
    (ki_NoTurns : PySem.W.keepIn K (.ref fi_NoTurns) = true)
    (q_NothingDone : PySem.W.excIn K A_NothingDone [.type "ValueError", .type "Exception", .type "BaseException", .type "object"] "ValueError.__new__" = true)
    (q_OtherThings : PySem.W.excIn K A_OtherThings [.type "ValueError", .type "Exception", .type "BaseException", .type "object"] "ValueError.__new__" = true)
    (t_HeirError : isTabB K [A_HeirError, A_BadLine, A_BadRun, A_BadText, A_Known, A_NoHeir, A_NoList, A_NoNumber, A_NoPlace, A_NoThing, A_NoTurns, A_NothingDone, A_OtherThings] (.ref A_HeirError) tblL_HeirError = true)
    (t_BadLine : isTabB K [A_HeirError, A_BadLine, A_BadRun, A_BadText, A_Known, A_NoHeir, A_NoList, A_NoNumber, A_NoPlace, A_NoThing, A_NoTurns, A_NothingDone, A_OtherThings] (.ref A_BadLine) tblL_BadLine = true)
    (t_BadRun : isTabB K [A_HeirError, A_BadLine, A_BadRun, A_BadText, A_Known, A_NoHeir, A_NoList, A_NoNumber, A_NoPlace, A_NoThing, A_NoTurns, A_NothingDone, A_OtherThings] (.ref A_BadRun) tblL_BadRun = true)
    (t_BadText : isTabB K [A_HeirError, A_BadLine, A_BadRun, A_BadText, A_Known, A_NoHeir, A_NoList, A_NoNumber, A_NoPlace, A_NoThing, A_NoTurns, A_NothingDone, A_OtherThings] (.ref A_BadText) tblL_BadText = true)
    (t_Known : isTabB K [A_HeirError, A_BadLine, A_BadRun, A_BadText, A_Known, A_NoHeir, A_NoList, A_NoNumber, A_NoPlace, A_NoThing, A_NoTurns, A_NothingDone, A_OtherThings] (.ref A_Known) tblL_Known = true)
    (t_NoHeir : isTabB K [A_HeirError, A_BadLine, A_BadRun, A_BadText, A_Known, A_NoHeir, A_NoList, A_NoNumber, A_NoPlace, A_NoThing, A_NoTurns, A_NothingDone, A_OtherThings] (.ref A_NoHeir) tblL_NoHeir = true)
    (t_NoList : isTabB K [A_HeirError, A_BadLine, A_BadRun, A_BadText, A_Known, A_NoHeir, A_NoList, A_NoNumber, A_NoPlace, A_NoThing, A_NoTurns, A_NothingDone, A_OtherThings] (.ref A_NoList) tblL_NoList = true)
    (t_NoNumber : isTabB K [A_HeirError, A_BadLine, A_BadRun, A_BadText, A_Known, A_NoHeir, A_NoList, A_NoNumber, A_NoPlace, A_NoThing, A_NoTurns, A_NothingDone, A_OtherThings] (.ref A_NoNumber) tblL_NoNumber = true)
    (t_NoPlace : isTabB K [A_HeirError, A_BadLine, A_BadRun, A_BadText, A_Known, A_NoHeir, A_NoList, A_NoNumber, A_NoPlace, A_NoThing, A_NoTurns, A_NothingDone, A_OtherThings] (.ref A_NoPlace) tblL_NoPlace = true)
    (t_NoThing : isTabB K [A_HeirError, A_BadLine, A_BadRun, A_BadText, A_Known, A_NoHeir, A_NoList, A_NoNumber, A_NoPlace, A_NoThing, A_NoTurns, A_NothingDone, A_OtherThings] (.ref A_NoThing) tblL_NoThing = true)
    (t_NoTurns : isTabB K [A_HeirError, A_BadLine, A_BadRun, A_BadText, A_Known, A_NoHeir, A_NoList, A_NoNumber, A_NoPlace, A_NoThing, A_NoTurns, A_NothingDone, A_OtherThings] (.ref A_NoTurns) tblL_NoTurns = true)
    (t_NothingDone : isTabB K [A_HeirError, A_BadLine, A_BadRun, A_BadText, A_Known, A_NoHeir, A_NoList, A_NoNumber, A_NoPlace, A_NoThing, A_NoTurns, A_NothingDone, A_OtherThings] (.ref A_NothingDone) tblL_NothingDone = true)
    (t_OtherThings : isTabB K [A_HeirError, A_BadLine, A_BadRun, A_BadText, A_Known, A_NoHeir, A_NoList, A_NoNumber, A_NoPlace, A_NoThing, A_NoTurns, A_NothingDone, A_OtherThings] (.ref A_OtherThings) tblL_OtherThings = true)
    (t_ValueError : isTabB K [A_HeirError, A_BadLine, A_BadRun, A_BadText, A_Known, A_NoHeir, A_NoList, A_NoNumber, A_NoPlace, A_NoThing, A_NoTurns, A_NothingDone, A_OtherThings] (.type "ValueError") tblL_ValueError = true)
    (t_LookupError : isTabB K [A_HeirError, A_BadLine, A_BadRun, A_BadText, A_Known, A_NoHeir, A_NoList, A_NoNumber, A_NoPlace, A_NoThing, A_NoTurns, A_NothingDone, A_OtherThings] (.type "LookupError") tblL_LookupError = true)
    (z_len : PySem.W.nsIn K mainGlobals "len" = some none)
    (z_int : PySem.W.nsIn K mainGlobals "int" = some none)
    (z_abs : PySem.W.nsIn K mainGlobals "abs" = some none)
    (z_list : PySem.W.nsIn K mainGlobals "list" = some none)
    (z_tuple : PySem.W.nsIn K mainGlobals "tuple" = some none)
    (z_range : PySem.W.nsIn K mainGlobals "range" = some none)
    (z_zip : PySem.W.nsIn K mainGlobals "zip" = some none)
    (z_enumerate : PySem.W.nsIn K mainGlobals "enumerate" = some none)
    (z_isinstance : PySem.W.nsIn K mainGlobals "isinstance" = some none)
    (z_str : PySem.W.nsIn K mainGlobals "str" = some none)
    (z_bool : PySem.W.nsIn K mainGlobals "bool" = some none)
    (z_all : PySem.W.nsIn K mainGlobals "all" = some none)
    (z_any : PySem.W.nsIn K mainGlobals "any" = some none)
    (z_sum : PySem.W.nsIn K mainGlobals "sum" = some none)
    (z_min : PySem.W.nsIn K mainGlobals "min" = some none)
    (z_max : PySem.W.nsIn K mainGlobals "max" = some none)
    (z_sorted : PySem.W.nsIn K mainGlobals "sorted" = some none)
    (z_reversed : PySem.W.nsIn K mainGlobals "reversed" = some none)
    (z_ValueError : PySem.W.nsIn K mainGlobals "ValueError" = some none)
    (z_LookupError : PySem.W.nsIn K mainGlobals "LookupError" = some none)
    : ∃ fd : FuncData, (∀ (s : Shared) (v : Value), BindsTo s fd ⟨[v], []⟩ [("_law_script", v)]) ∧ ∀ base : Heap, K.In base → base.Ns mainGlobals mg → FnOk l.prog w K mg base (L2.CX l.prog w) 11 fa fd ["_law_script"] (spLaw K) := by
  have e := hfa.symm.trans (PySem.W.mg_of X G a_law)
  cases e
  refine ⟨PySem.W.fnOf "law" "law" (defArgs s_law) (defBody s_law) (defScope s_law) .none kV_law dc_law pm_law an_law cd_law ct_law, fun s v => .of_eq rfl, fun base _ _ => ?_⟩
  have Z : Bi mg := ⟨PySem.W.mg_none_of X G z_len, PySem.W.mg_none_of X G z_int, PySem.W.mg_none_of X G z_abs, PySem.W.mg_none_of X G z_list, PySem.W.mg_none_of X G z_tuple, PySem.W.mg_none_of X G z_range, PySem.W.mg_none_of X G z_zip, PySem.W.mg_none_of X G z_enumerate, PySem.W.mg_none_of X G z_isinstance, PySem.W.mg_none_of X G z_str, PySem.W.mg_none_of X G z_bool, PySem.W.mg_none_of X G z_all, PySem.W.mg_none_of X G z_any, PySem.W.mg_none_of X G z_sum, PySem.W.mg_none_of X G z_min, PySem.W.mg_none_of X G z_max, PySem.W.mg_none_of X G z_sorted, PySem.W.mg_none_of X G z_reversed, PySem.W.mg_none_of X G z_ValueError, PySem.W.mg_none_of X G z_LookupError⟩
  have FI_BadLine := fun_mk (st := si_BadLine) li_BadLine di_BadLine ki_BadLine
  have o_BadLine : OexC K A_BadLine := ⟨⟨_, _, _, _, _, _, _, _, _, _, _, _, _, _, _, xl_BadLine, rfl⟩, sa_BadLine, (allErB_ok (fl := [[], ["number"], ["place"], ["piece"], ["name"], ["name"], [], ["number"], ["number"], ["name"], ["name"], [], []]) he 1 (Nat.le_of_ble_eq_true rfl)).x.hs, (allErB_ok (fl := [[], ["number"], ["place"], ["piece"], ["name"], ["name"], [], ["number"], ["number"], ["name"], ["name"], [], []]) he 1 (Nat.le_of_ble_eq_true rfl)).tyC, (allErB_ok (fl := [[], ["number"], ["place"], ["piece"], ["name"], ["name"], [], ["number"], ["number"], ["name"], ["name"], [], []]) he 1 (Nat.le_of_ble_eq_true rfl)).kC⟩
  have I_BadLine : FnOk l.prog w K mg base CX0 1 fi_BadLine (PySem.W.fnOf "__init__" "BadLine.__init__" (defArgs si_BadLine) (defBody si_BadLine) (defScope si_BadLine) .none kVi_BadLine dci_BadLine pmi_BadLine ani_BadLine cdi_BadLine cti_BadLine) ["self", "number"] (spEr A_BadLine "number") := FI_BadLine.ok sci_BadLine er_len fun cdv A outer s H vs Q E hr h => ⟨_, pss_one (ps_ost (pv 0) (pv 1)), er_read o_BadLine no_BadLine h⟩
  have e_BadLine : Er1At l.prog w K mg base (tabOf [A_HeirError, A_BadLine, A_BadRun, A_BadText, A_Known, A_NoHeir, A_NoList, A_NoNumber, A_NoPlace, A_NoThing, A_NoTurns, A_NothingDone, A_OtherThings] [[], ["number"], ["place"], ["piece"], ["name"], ["name"], [], ["number"], ["number"], ["name"], ["name"], [], []]) "BadLine" "number" 1 := ⟨allErB_ok he 1 (Nat.le_of_ble_eq_true rfl), PySem.W.mg_of X G a_BadLine, rfl, o_BadLine, no_BadLine, _, _, ii_BadLine, ti_BadLine, I_BadLine, FI_BadLine.binds (ps := ["self", "number"]) (fun _ _ _ _ _ _ us hl => match us, hl with | [_, _], _ => rfl), fun s u v => .of_eq rfl⟩
  have FI_BadRun := fun_mk (st := si_BadRun) li_BadRun di_BadRun ki_BadRun
  have o_BadRun : OexC K A_BadRun := ⟨⟨_, _, _, _, _, _, _, _, _, _, _, _, _, _, _, xl_BadRun, rfl⟩, sa_BadRun, (allErB_ok (fl := [[], ["number"], ["place"], ["piece"], ["name"], ["name"], [], ["number"], ["number"], ["name"], ["name"], [], []]) he 2 (Nat.le_of_ble_eq_true rfl)).x.hs, (allErB_ok (fl := [[], ["number"], ["place"], ["piece"], ["name"], ["name"], [], ["number"], ["number"], ["name"], ["name"], [], []]) he 2 (Nat.le_of_ble_eq_true rfl)).tyC, (allErB_ok (fl := [[], ["number"], ["place"], ["piece"], ["name"], ["name"], [], ["number"], ["number"], ["name"], ["name"], [], []]) he 2 (Nat.le_of_ble_eq_true rfl)).kC⟩
  have I_BadRun : FnOk l.prog w K mg base CX0 1 fi_BadRun (PySem.W.fnOf "__init__" "BadRun.__init__" (defArgs si_BadRun) (defBody si_BadRun) (defScope si_BadRun) .none kVi_BadRun dci_BadRun pmi_BadRun ani_BadRun cdi_BadRun cti_BadRun) ["self", "place"] (spEr A_BadRun "place") := FI_BadRun.ok sci_BadRun er_len fun cdv A outer s H vs Q E hr h => ⟨_, pss_one (ps_ost (pv 0) (pv 1)), er_read o_BadRun no_BadRun h⟩
  have e_BadRun : Er1At l.prog w K mg base (tabOf [A_HeirError, A_BadLine, A_BadRun, A_BadText, A_Known, A_NoHeir, A_NoList, A_NoNumber, A_NoPlace, A_NoThing, A_NoTurns, A_NothingDone, A_OtherThings] [[], ["number"], ["place"], ["piece"], ["name"], ["name"], [], ["number"], ["number"], ["name"], ["name"], [], []]) "BadRun" "place" 2 := ⟨allErB_ok he 2 (Nat.le_of_ble_eq_true rfl), PySem.W.mg_of X G a_BadRun, rfl, o_BadRun, no_BadRun, _, _, ii_BadRun, ti_BadRun, I_BadRun, FI_BadRun.binds (ps := ["self", "place"]) (fun _ _ _ _ _ _ us hl => match us, hl with | [_, _], _ => rfl), fun s u v => .of_eq rfl⟩
  have FI_BadText := fun_mk (st := si_BadText) li_BadText di_BadText ki_BadText
  have o_BadText : OexC K A_BadText := ⟨⟨_, _, _, _, _, _, _, _, _, _, _, _, _, _, _, xl_BadText, rfl⟩, sa_BadText, (allErB_ok (fl := [[], ["number"], ["place"], ["piece"], ["name"], ["name"], [], ["number"], ["number"], ["name"], ["name"], [], []]) he 3 (Nat.le_of_ble_eq_true rfl)).x.hs, (allErB_ok (fl := [[], ["number"], ["place"], ["piece"], ["name"], ["name"], [], ["number"], ["number"], ["name"], ["name"], [], []]) he 3 (Nat.le_of_ble_eq_true rfl)).tyC, (allErB_ok (fl := [[], ["number"], ["place"], ["piece"], ["name"], ["name"], [], ["number"], ["number"], ["name"], ["name"], [], []]) he 3 (Nat.le_of_ble_eq_true rfl)).kC⟩
  have I_BadText : FnOk l.prog w K mg base CX0 1 fi_BadText (PySem.W.fnOf "__init__" "BadText.__init__" (defArgs si_BadText) (defBody si_BadText) (defScope si_BadText) .none kVi_BadText dci_BadText pmi_BadText ani_BadText cdi_BadText cti_BadText) ["self", "piece"] (spEr A_BadText "piece") := FI_BadText.ok sci_BadText er_len fun cdv A outer s H vs Q E hr h => ⟨_, pss_one (ps_ost (pv 0) (pv 1)), er_read o_BadText no_BadText h⟩
  have e_BadText : Er1At l.prog w K mg base (tabOf [A_HeirError, A_BadLine, A_BadRun, A_BadText, A_Known, A_NoHeir, A_NoList, A_NoNumber, A_NoPlace, A_NoThing, A_NoTurns, A_NothingDone, A_OtherThings] [[], ["number"], ["place"], ["piece"], ["name"], ["name"], [], ["number"], ["number"], ["name"], ["name"], [], []]) "BadText" "piece" 3 := ⟨allErB_ok he 3 (Nat.le_of_ble_eq_true rfl), PySem.W.mg_of X G a_BadText, rfl, o_BadText, no_BadText, _, _, ii_BadText, ti_BadText, I_BadText, FI_BadText.binds (ps := ["self", "piece"]) (fun _ _ _ _ _ _ us hl => match us, hl with | [_, _], _ => rfl), fun s u v => .of_eq rfl⟩
  have FI_Known := fun_mk (st := si_Known) li_Known di_Known ki_Known
  have o_Known : OexC K A_Known := ⟨⟨_, _, _, _, _, _, _, _, _, _, _, _, _, _, _, xl_Known, rfl⟩, sa_Known, (allErB_ok (fl := [[], ["number"], ["place"], ["piece"], ["name"], ["name"], [], ["number"], ["number"], ["name"], ["name"], [], []]) he 4 (Nat.le_of_ble_eq_true rfl)).x.hs, (allErB_ok (fl := [[], ["number"], ["place"], ["piece"], ["name"], ["name"], [], ["number"], ["number"], ["name"], ["name"], [], []]) he 4 (Nat.le_of_ble_eq_true rfl)).tyC, (allErB_ok (fl := [[], ["number"], ["place"], ["piece"], ["name"], ["name"], [], ["number"], ["number"], ["name"], ["name"], [], []]) he 4 (Nat.le_of_ble_eq_true rfl)).kC⟩
  have I_Known : FnOk l.prog w K mg base CX0 1 fi_Known (PySem.W.fnOf "__init__" "Known.__init__" (defArgs si_Known) (defBody si_Known) (defScope si_Known) .none kVi_Known dci_Known pmi_Known ani_Known cdi_Known cti_Known) ["self", "name"] (spEr A_Known "name") := FI_Known.ok sci_Known er_len fun cdv A outer s H vs Q E hr h => ⟨_, pss_one (ps_ost (pv 0) (pv 1)), er_read o_Known no_Known h⟩
  have e_Known : Er1At l.prog w K mg base (tabOf [A_HeirError, A_BadLine, A_BadRun, A_BadText, A_Known, A_NoHeir, A_NoList, A_NoNumber, A_NoPlace, A_NoThing, A_NoTurns, A_NothingDone, A_OtherThings] [[], ["number"], ["place"], ["piece"], ["name"], ["name"], [], ["number"], ["number"], ["name"], ["name"], [], []]) "Known" "name" 4 := ⟨allErB_ok he 4 (Nat.le_of_ble_eq_true rfl), PySem.W.mg_of X G a_Known, rfl, o_Known, no_Known, _, _, ii_Known, ti_Known, I_Known, FI_Known.binds (ps := ["self", "name"]) (fun _ _ _ _ _ _ us hl => match us, hl with | [_, _], _ => rfl), fun s u v => .of_eq rfl⟩
  have FI_NoHeir := fun_mk (st := si_NoHeir) li_NoHeir di_NoHeir ki_NoHeir
  have o_NoHeir : OexC K A_NoHeir := ⟨⟨_, _, _, _, _, _, _, _, _, _, _, _, _, _, _, xl_NoHeir, rfl⟩, sa_NoHeir, (allErB_ok (fl := [[], ["number"], ["place"], ["piece"], ["name"], ["name"], [], ["number"], ["number"], ["name"], ["name"], [], []]) he 5 (Nat.le_of_ble_eq_true rfl)).x.hs, (allErB_ok (fl := [[], ["number"], ["place"], ["piece"], ["name"], ["name"], [], ["number"], ["number"], ["name"], ["name"], [], []]) he 5 (Nat.le_of_ble_eq_true rfl)).tyC, (allErB_ok (fl := [[], ["number"], ["place"], ["piece"], ["name"], ["name"], [], ["number"], ["number"], ["name"], ["name"], [], []]) he 5 (Nat.le_of_ble_eq_true rfl)).kC⟩
  have I_NoHeir : FnOk l.prog w K mg base CX0 1 fi_NoHeir (PySem.W.fnOf "__init__" "NoHeir.__init__" (defArgs si_NoHeir) (defBody si_NoHeir) (defScope si_NoHeir) .none kVi_NoHeir dci_NoHeir pmi_NoHeir ani_NoHeir cdi_NoHeir cti_NoHeir) ["self", "name"] (spEr A_NoHeir "name") := FI_NoHeir.ok sci_NoHeir er_len fun cdv A outer s H vs Q E hr h => ⟨_, pss_one (ps_ost (pv 0) (pv 1)), er_read o_NoHeir no_NoHeir h⟩
  have e_NoHeir : Er1At l.prog w K mg base (tabOf [A_HeirError, A_BadLine, A_BadRun, A_BadText, A_Known, A_NoHeir, A_NoList, A_NoNumber, A_NoPlace, A_NoThing, A_NoTurns, A_NothingDone, A_OtherThings] [[], ["number"], ["place"], ["piece"], ["name"], ["name"], [], ["number"], ["number"], ["name"], ["name"], [], []]) "NoHeir" "name" 5 := ⟨allErB_ok he 5 (Nat.le_of_ble_eq_true rfl), PySem.W.mg_of X G a_NoHeir, rfl, o_NoHeir, no_NoHeir, _, _, ii_NoHeir, ti_NoHeir, I_NoHeir, FI_NoHeir.binds (ps := ["self", "name"]) (fun _ _ _ _ _ _ us hl => match us, hl with | [_, _], _ => rfl), fun s u v => .of_eq rfl⟩
  have e_NoList : Er0At K mg (tabOf [A_HeirError, A_BadLine, A_BadRun, A_BadText, A_Known, A_NoHeir, A_NoList, A_NoNumber, A_NoPlace, A_NoThing, A_NoTurns, A_NothingDone, A_OtherThings] [[], ["number"], ["place"], ["piece"], ["name"], ["name"], [], ["number"], ["number"], ["name"], ["name"], [], []]) "NoList" 6 := ⟨allErB_ok he 6 (Nat.le_of_ble_eq_true rfl), PySem.W.mg_of X G a_NoList, rfl, q_NoList⟩
  have FI_NoNumber := fun_mk (st := si_NoNumber) li_NoNumber di_NoNumber ki_NoNumber
  have o_NoNumber : OexC K A_NoNumber := ⟨⟨_, _, _, _, _, _, _, _, _, _, _, _, _, _, _, xl_NoNumber, rfl⟩, sa_NoNumber, (allErB_ok (fl := [[], ["number"], ["place"], ["piece"], ["name"], ["name"], [], ["number"], ["number"], ["name"], ["name"], [], []]) he 7 (Nat.le_of_ble_eq_true rfl)).x.hs, (allErB_ok (fl := [[], ["number"], ["place"], ["piece"], ["name"], ["name"], [], ["number"], ["number"], ["name"], ["name"], [], []]) he 7 (Nat.le_of_ble_eq_true rfl)).tyC, (allErB_ok (fl := [[], ["number"], ["place"], ["piece"], ["name"], ["name"], [], ["number"], ["number"], ["name"], ["name"], [], []]) he 7 (Nat.le_of_ble_eq_true rfl)).kC⟩
  have I_NoNumber : FnOk l.prog w K mg base CX0 1 fi_NoNumber (PySem.W.fnOf "__init__" "NoNumber.__init__" (defArgs si_NoNumber) (defBody si_NoNumber) (defScope si_NoNumber) .none kVi_NoNumber dci_NoNumber pmi_NoNumber ani_NoNumber cdi_NoNumber cti_NoNumber) ["self", "number"] (spEr A_NoNumber "number") := FI_NoNumber.ok sci_NoNumber er_len fun cdv A outer s H vs Q E hr h => ⟨_, pss_one (ps_ost (pv 0) (pv 1)), er_read o_NoNumber no_NoNumber h⟩
  have e_NoNumber : Er1At l.prog w K mg base (tabOf [A_HeirError, A_BadLine, A_BadRun, A_BadText, A_Known, A_NoHeir, A_NoList, A_NoNumber, A_NoPlace, A_NoThing, A_NoTurns, A_NothingDone, A_OtherThings] [[], ["number"], ["place"], ["piece"], ["name"], ["name"], [], ["number"], ["number"], ["name"], ["name"], [], []]) "NoNumber" "number" 7 := ⟨allErB_ok he 7 (Nat.le_of_ble_eq_true rfl), PySem.W.mg_of X G a_NoNumber, rfl, o_NoNumber, no_NoNumber, _, _, ii_NoNumber, ti_NoNumber, I_NoNumber, FI_NoNumber.binds (ps := ["self", "number"]) (fun _ _ _ _ _ _ us hl => match us, hl with | [_, _], _ => rfl), fun s u v => .of_eq rfl⟩
  have FI_NoPlace := fun_mk (st := si_NoPlace) li_NoPlace di_NoPlace ki_NoPlace
  have o_NoPlace : OexC K A_NoPlace := ⟨⟨_, _, _, _, _, _, _, _, _, _, _, _, _, _, _, xl_NoPlace, rfl⟩, sa_NoPlace, (allErB_ok (fl := [[], ["number"], ["place"], ["piece"], ["name"], ["name"], [], ["number"], ["number"], ["name"], ["name"], [], []]) he 8 (Nat.le_of_ble_eq_true rfl)).x.hs, (allErB_ok (fl := [[], ["number"], ["place"], ["piece"], ["name"], ["name"], [], ["number"], ["number"], ["name"], ["name"], [], []]) he 8 (Nat.le_of_ble_eq_true rfl)).tyC, (allErB_ok (fl := [[], ["number"], ["place"], ["piece"], ["name"], ["name"], [], ["number"], ["number"], ["name"], ["name"], [], []]) he 8 (Nat.le_of_ble_eq_true rfl)).kC⟩
  have I_NoPlace : FnOk l.prog w K mg base CX0 1 fi_NoPlace (PySem.W.fnOf "__init__" "NoPlace.__init__" (defArgs si_NoPlace) (defBody si_NoPlace) (defScope si_NoPlace) .none kVi_NoPlace dci_NoPlace pmi_NoPlace ani_NoPlace cdi_NoPlace cti_NoPlace) ["self", "number"] (spEr A_NoPlace "number") := FI_NoPlace.ok sci_NoPlace er_len fun cdv A outer s H vs Q E hr h => ⟨_, pss_one (ps_ost (pv 0) (pv 1)), er_read o_NoPlace no_NoPlace h⟩
  have e_NoPlace : Er1At l.prog w K mg base (tabOf [A_HeirError, A_BadLine, A_BadRun, A_BadText, A_Known, A_NoHeir, A_NoList, A_NoNumber, A_NoPlace, A_NoThing, A_NoTurns, A_NothingDone, A_OtherThings] [[], ["number"], ["place"], ["piece"], ["name"], ["name"], [], ["number"], ["number"], ["name"], ["name"], [], []]) "NoPlace" "number" 8 := ⟨allErB_ok he 8 (Nat.le_of_ble_eq_true rfl), PySem.W.mg_of X G a_NoPlace, rfl, o_NoPlace, no_NoPlace, _, _, ii_NoPlace, ti_NoPlace, I_NoPlace, FI_NoPlace.binds (ps := ["self", "number"]) (fun _ _ _ _ _ _ us hl => match us, hl with | [_, _], _ => rfl), fun s u v => .of_eq rfl⟩
  have FI_NoThing := fun_mk (st := si_NoThing) li_NoThing di_NoThing ki_NoThing
  have o_NoThing : OexC K A_NoThing := ⟨⟨_, _, _, _, _, _, _, _, _, _, _, _, _, _, _, xl_NoThing, rfl⟩, sa_NoThing, (allErB_ok (fl := [[], ["number"], ["place"], ["piece"], ["name"], ["name"], [], ["number"], ["number"], ["name"], ["name"], [], []]) he 9 (Nat.le_of_ble_eq_true rfl)).x.hs, (allErB_ok (fl := [[], ["number"], ["place"], ["piece"], ["name"], ["name"], [], ["number"], ["number"], ["name"], ["name"], [], []]) he 9 (Nat.le_of_ble_eq_true rfl)).tyC, (allErB_ok (fl := [[], ["number"], ["place"], ["piece"], ["name"], ["name"], [], ["number"], ["number"], ["name"], ["name"], [], []]) he 9 (Nat.le_of_ble_eq_true rfl)).kC⟩
  have I_NoThing : FnOk l.prog w K mg base CX0 1 fi_NoThing (PySem.W.fnOf "__init__" "NoThing.__init__" (defArgs si_NoThing) (defBody si_NoThing) (defScope si_NoThing) .none kVi_NoThing dci_NoThing pmi_NoThing ani_NoThing cdi_NoThing cti_NoThing) ["self", "name"] (spEr A_NoThing "name") := FI_NoThing.ok sci_NoThing er_len fun cdv A outer s H vs Q E hr h => ⟨_, pss_one (ps_ost (pv 0) (pv 1)), er_read o_NoThing no_NoThing h⟩
  have e_NoThing : Er1At l.prog w K mg base (tabOf [A_HeirError, A_BadLine, A_BadRun, A_BadText, A_Known, A_NoHeir, A_NoList, A_NoNumber, A_NoPlace, A_NoThing, A_NoTurns, A_NothingDone, A_OtherThings] [[], ["number"], ["place"], ["piece"], ["name"], ["name"], [], ["number"], ["number"], ["name"], ["name"], [], []]) "NoThing" "name" 9 := ⟨allErB_ok he 9 (Nat.le_of_ble_eq_true rfl), PySem.W.mg_of X G a_NoThing, rfl, o_NoThing, no_NoThing, _, _, ii_NoThing, ti_NoThing, I_NoThing, FI_NoThing.binds (ps := ["self", "name"]) (fun _ _ _ _ _ _ us hl => match us, hl with | [_, _], _ => rfl), fun s u v => .of_eq rfl⟩
  have FI_NoTurns := fun_mk (st := si_NoTurns) li_NoTurns di_NoTurns ki_NoTurns
  have o_NoTurns : OexC K A_NoTurns := ⟨⟨_, _, _, _, _, _, _, _, _, _, _, _, _, _, _, xl_NoTurns, rfl⟩, sa_NoTurns, (allErB_ok (fl := [[], ["number"], ["place"], ["piece"], ["name"], ["name"], [], ["number"], ["number"], ["name"], ["name"], [], []]) he 10 (Nat.le_of_ble_eq_true rfl)).x.hs, (allErB_ok (fl := [[], ["number"], ["place"], ["piece"], ["name"], ["name"], [], ["number"], ["number"], ["name"], ["name"], [], []]) he 10 (Nat.le_of_ble_eq_true rfl)).tyC, (allErB_ok (fl := [[], ["number"], ["place"], ["piece"], ["name"], ["name"], [], ["number"], ["number"], ["name"], ["name"], [], []]) he 10 (Nat.le_of_ble_eq_true rfl)).kC⟩
  have I_NoTurns : FnOk l.prog w K mg base CX0 1 fi_NoTurns (PySem.W.fnOf "__init__" "NoTurns.__init__" (defArgs si_NoTurns) (defBody si_NoTurns) (defScope si_NoTurns) .none kVi_NoTurns dci_NoTurns pmi_NoTurns ani_NoTurns cdi_NoTurns cti_NoTurns) ["self", "name"] (spEr A_NoTurns "name") := FI_NoTurns.ok sci_NoTurns er_len fun cdv A outer s H vs Q E hr h => ⟨_, pss_one (ps_ost (pv 0) (pv 1)), er_read o_NoTurns no_NoTurns h⟩
  have e_NoTurns : Er1At l.prog w K mg base (tabOf [A_HeirError, A_BadLine, A_BadRun, A_BadText, A_Known, A_NoHeir, A_NoList, A_NoNumber, A_NoPlace, A_NoThing, A_NoTurns, A_NothingDone, A_OtherThings] [[], ["number"], ["place"], ["piece"], ["name"], ["name"], [], ["number"], ["number"], ["name"], ["name"], [], []]) "NoTurns" "name" 10 := ⟨allErB_ok he 10 (Nat.le_of_ble_eq_true rfl), PySem.W.mg_of X G a_NoTurns, rfl, o_NoTurns, no_NoTurns, _, _, ii_NoTurns, ti_NoTurns, I_NoTurns, FI_NoTurns.binds (ps := ["self", "name"]) (fun _ _ _ _ _ _ us hl => match us, hl with | [_, _], _ => rfl), fun s u v => .of_eq rfl⟩
  have e_NothingDone : Er0At K mg (tabOf [A_HeirError, A_BadLine, A_BadRun, A_BadText, A_Known, A_NoHeir, A_NoList, A_NoNumber, A_NoPlace, A_NoThing, A_NoTurns, A_NothingDone, A_OtherThings] [[], ["number"], ["place"], ["piece"], ["name"], ["name"], [], ["number"], ["number"], ["name"], ["name"], [], []]) "NothingDone" 11 := ⟨allErB_ok he 11 (Nat.le_of_ble_eq_true rfl), PySem.W.mg_of X G a_NothingDone, rfl, q_NothingDone⟩
  have e_OtherThings : Er0At K mg (tabOf [A_HeirError, A_BadLine, A_BadRun, A_BadText, A_Known, A_NoHeir, A_NoList, A_NoNumber, A_NoPlace, A_NoThing, A_NoTurns, A_NothingDone, A_OtherThings] [[], ["number"], ["place"], ["piece"], ["name"], ["name"], [], ["number"], ["number"], ["name"], ["name"], [], []]) "OtherThings" 12 := ⟨allErB_ok he 12 (Nat.le_of_ble_eq_true rfl), PySem.W.mg_of X G a_OtherThings, rfl, q_OtherThings⟩
  have i_HeirError : IsAt K mg (tabOf [A_HeirError, A_BadLine, A_BadRun, A_BadText, A_Known, A_NoHeir, A_NoList, A_NoNumber, A_NoPlace, A_NoThing, A_NoTurns, A_NothingDone, A_OtherThings] [[], ["number"], ["place"], ["piece"], ["name"], ["name"], [], ["number"], ["number"], ["name"], ["name"], [], []]) 13 "HeirError" tbl_HeirError := ⟨A_HeirError, PySem.W.mg_of X G a_HeirError, isTabB_ok he t_HeirError⟩
  have i_BadLine : IsAt K mg (tabOf [A_HeirError, A_BadLine, A_BadRun, A_BadText, A_Known, A_NoHeir, A_NoList, A_NoNumber, A_NoPlace, A_NoThing, A_NoTurns, A_NothingDone, A_OtherThings] [[], ["number"], ["place"], ["piece"], ["name"], ["name"], [], ["number"], ["number"], ["name"], ["name"], [], []]) 13 "BadLine" tbl_BadLine := ⟨A_BadLine, PySem.W.mg_of X G a_BadLine, isTabB_ok he t_BadLine⟩
  have i_BadRun : IsAt K mg (tabOf [A_HeirError, A_BadLine, A_BadRun, A_BadText, A_Known, A_NoHeir, A_NoList, A_NoNumber, A_NoPlace, A_NoThing, A_NoTurns, A_NothingDone, A_OtherThings] [[], ["number"], ["place"], ["piece"], ["name"], ["name"], [], ["number"], ["number"], ["name"], ["name"], [], []]) 13 "BadRun" tbl_BadRun := ⟨A_BadRun, PySem.W.mg_of X G a_BadRun, isTabB_ok he t_BadRun⟩
  have i_BadText : IsAt K mg (tabOf [A_HeirError, A_BadLine, A_BadRun, A_BadText, A_Known, A_NoHeir, A_NoList, A_NoNumber, A_NoPlace, A_NoThing, A_NoTurns, A_NothingDone, A_OtherThings] [[], ["number"], ["place"], ["piece"], ["name"], ["name"], [], ["number"], ["number"], ["name"], ["name"], [], []]) 13 "BadText" tbl_BadText := ⟨A_BadText, PySem.W.mg_of X G a_BadText, isTabB_ok he t_BadText⟩
  have i_Known : IsAt K mg (tabOf [A_HeirError, A_BadLine, A_BadRun, A_BadText, A_Known, A_NoHeir, A_NoList, A_NoNumber, A_NoPlace, A_NoThing, A_NoTurns, A_NothingDone, A_OtherThings] [[], ["number"], ["place"], ["piece"], ["name"], ["name"], [], ["number"], ["number"], ["name"], ["name"], [], []]) 13 "Known" tbl_Known := ⟨A_Known, PySem.W.mg_of X G a_Known, isTabB_ok he t_Known⟩
  have i_NoHeir : IsAt K mg (tabOf [A_HeirError, A_BadLine, A_BadRun, A_BadText, A_Known, A_NoHeir, A_NoList, A_NoNumber, A_NoPlace, A_NoThing, A_NoTurns, A_NothingDone, A_OtherThings] [[], ["number"], ["place"], ["piece"], ["name"], ["name"], [], ["number"], ["number"], ["name"], ["name"], [], []]) 13 "NoHeir" tbl_NoHeir := ⟨A_NoHeir, PySem.W.mg_of X G a_NoHeir, isTabB_ok he t_NoHeir⟩
  have i_NoList : IsAt K mg (tabOf [A_HeirError, A_BadLine, A_BadRun, A_BadText, A_Known, A_NoHeir, A_NoList, A_NoNumber, A_NoPlace, A_NoThing, A_NoTurns, A_NothingDone, A_OtherThings] [[], ["number"], ["place"], ["piece"], ["name"], ["name"], [], ["number"], ["number"], ["name"], ["name"], [], []]) 13 "NoList" tbl_NoList := ⟨A_NoList, PySem.W.mg_of X G a_NoList, isTabB_ok he t_NoList⟩
  have i_NoNumber : IsAt K mg (tabOf [A_HeirError, A_BadLine, A_BadRun, A_BadText, A_Known, A_NoHeir, A_NoList, A_NoNumber, A_NoPlace, A_NoThing, A_NoTurns, A_NothingDone, A_OtherThings] [[], ["number"], ["place"], ["piece"], ["name"], ["name"], [], ["number"], ["number"], ["name"], ["name"], [], []]) 13 "NoNumber" tbl_NoNumber := ⟨A_NoNumber, PySem.W.mg_of X G a_NoNumber, isTabB_ok he t_NoNumber⟩
  have i_NoPlace : IsAt K mg (tabOf [A_HeirError, A_BadLine, A_BadRun, A_BadText, A_Known, A_NoHeir, A_NoList, A_NoNumber, A_NoPlace, A_NoThing, A_NoTurns, A_NothingDone, A_OtherThings] [[], ["number"], ["place"], ["piece"], ["name"], ["name"], [], ["number"], ["number"], ["name"], ["name"], [], []]) 13 "NoPlace" tbl_NoPlace := ⟨A_NoPlace, PySem.W.mg_of X G a_NoPlace, isTabB_ok he t_NoPlace⟩
  have i_NoThing : IsAt K mg (tabOf [A_HeirError, A_BadLine, A_BadRun, A_BadText, A_Known, A_NoHeir, A_NoList, A_NoNumber, A_NoPlace, A_NoThing, A_NoTurns, A_NothingDone, A_OtherThings] [[], ["number"], ["place"], ["piece"], ["name"], ["name"], [], ["number"], ["number"], ["name"], ["name"], [], []]) 13 "NoThing" tbl_NoThing := ⟨A_NoThing, PySem.W.mg_of X G a_NoThing, isTabB_ok he t_NoThing⟩
  have i_NoTurns : IsAt K mg (tabOf [A_HeirError, A_BadLine, A_BadRun, A_BadText, A_Known, A_NoHeir, A_NoList, A_NoNumber, A_NoPlace, A_NoThing, A_NoTurns, A_NothingDone, A_OtherThings] [[], ["number"], ["place"], ["piece"], ["name"], ["name"], [], ["number"], ["number"], ["name"], ["name"], [], []]) 13 "NoTurns" tbl_NoTurns := ⟨A_NoTurns, PySem.W.mg_of X G a_NoTurns, isTabB_ok he t_NoTurns⟩
  have i_NothingDone : IsAt K mg (tabOf [A_HeirError, A_BadLine, A_BadRun, A_BadText, A_Known, A_NoHeir, A_NoList, A_NoNumber, A_NoPlace, A_NoThing, A_NoTurns, A_NothingDone, A_OtherThings] [[], ["number"], ["place"], ["piece"], ["name"], ["name"], [], ["number"], ["number"], ["name"], ["name"], [], []]) 13 "NothingDone" tbl_NothingDone := ⟨A_NothingDone, PySem.W.mg_of X G a_NothingDone, isTabB_ok he t_NothingDone⟩
  have i_OtherThings : IsAt K mg (tabOf [A_HeirError, A_BadLine, A_BadRun, A_BadText, A_Known, A_NoHeir, A_NoList, A_NoNumber, A_NoPlace, A_NoThing, A_NoTurns, A_NothingDone, A_OtherThings] [[], ["number"], ["place"], ["piece"], ["name"], ["name"], [], ["number"], ["number"], ["name"], ["name"], [], []]) 13 "OtherThings" tbl_OtherThings := ⟨A_OtherThings, PySem.W.mg_of X G a_OtherThings, isTabB_ok he t_OtherThings⟩
  have i_ValueError : IsTab K (tabOf [A_HeirError, A_BadLine, A_BadRun, A_BadText, A_Known, A_NoHeir, A_NoList, A_NoNumber, A_NoPlace, A_NoThing, A_NoTurns, A_NothingDone, A_OtherThings] [[], ["number"], ["place"], ["piece"], ["name"], ["name"], [], ["number"], ["number"], ["name"], ["name"], [], []]) 13 (.type "ValueError") tbl_ValueError := isTabB_ok he t_ValueError
  have i_LookupError : IsTab K (tabOf [A_HeirError, A_BadLine, A_BadRun, A_BadText, A_Known, A_NoHeir, A_NoList, A_NoNumber, A_NoPlace, A_NoThing, A_NoTurns, A_NothingDone, A_OtherThings] [[], ["number"], ["place"], ["piece"], ["name"], ["name"], [], ["number"], ["number"], ["name"], ["name"], [], []]) 13 (.type "LookupError") tbl_LookupError := isTabB_ok he t_LookupError
  have F_law_box := fun_mk (st := s_law_box) l_law_box d_law_box k_law_box
  have b_law_box := F_law_box.binds (ps := ["_law_script", "_law_k"]) fun _ _ _ _ _ _ us hl => match us, hl with | [_, _], _ => rfl
  have c_law_box : DefAt l.prog w K mg base (tabOf [A_HeirError, A_BadLine, A_BadRun, A_BadText, A_Known, A_NoHeir, A_NoList, A_NoNumber, A_NoPlace, A_NoThing, A_NoTurns, A_NothingDone, A_OtherThings] [[], ["number"], ["place"], ["piece"], ["name"], ["name"], [], ["number"], ["number"], ["name"], ["name"], [], []]) "_law_box" ["_law_script", "_law_k"] 2 1 LW.F_law_box := .of (ok_law_box Z F_law_box) (PySem.W.mg_of X G a_law_box) F_law_box.kp b_law_box
  have F_law_take := fun_mk (st := s_law_take) l_law_take d_law_take k_law_take
  have b_law_take := F_law_take.binds (ps := ["_law_box_here", "_law_size_so"]) fun _ _ _ _ _ _ us hl => match us, hl with | [_, _], _ => rfl
  have c_law_take : DefAt l.prog w K mg base (tabOf [A_HeirError, A_BadLine, A_BadRun, A_BadText, A_Known, A_NoHeir, A_NoList, A_NoNumber, A_NoPlace, A_NoThing, A_NoTurns, A_NothingDone, A_OtherThings] [[], ["number"], ["place"], ["piece"], ["name"], ["name"], [], ["number"], ["number"], ["name"], ["name"], [], []]) "_law_take" ["_law_box_here", "_law_size_so"] 2 1 LW.F_law_take := .of (ok_law_take Z F_law_take) (PySem.W.mg_of X G a_law_take) F_law_take.kp b_law_take
  have F_law_cells := fun_mk (st := s_law_cells) l_law_cells d_law_cells k_law_cells
  have b_law_cells := F_law_cells.binds (ps := ["_law_script", "_law_top_so"]) fun _ _ _ _ _ _ us hl => match us, hl with | [_, _], _ => rfl
  have c_law_cells : DefAt l.prog w K mg base (tabOf [A_HeirError, A_BadLine, A_BadRun, A_BadText, A_Known, A_NoHeir, A_NoList, A_NoNumber, A_NoPlace, A_NoThing, A_NoTurns, A_NothingDone, A_OtherThings] [[], ["number"], ["place"], ["piece"], ["name"], ["name"], [], ["number"], ["number"], ["name"], ["name"], [], []]) "_law_cells" ["_law_script", "_law_top_so"] 2 1 LW.F_law_cells := .of (ok_law_cells Z F_law_cells) (PySem.W.mg_of X G a_law_cells) F_law_cells.kp b_law_cells
  have F_law_of := fun_mk (st := s_law_of) l_law_of d_law_of k_law_of
  have b_law_of := F_law_of.binds (ps := ["_law_box_here", "_law_goods_so"]) fun _ _ _ _ _ _ us hl => match us, hl with | [_, _], _ => rfl
  have c_law_of : DefAt l.prog w K mg base (tabOf [A_HeirError, A_BadLine, A_BadRun, A_BadText, A_Known, A_NoHeir, A_NoList, A_NoNumber, A_NoPlace, A_NoThing, A_NoTurns, A_NothingDone, A_OtherThings] [[], ["number"], ["place"], ["piece"], ["name"], ["name"], [], ["number"], ["number"], ["name"], ["name"], [], []]) "_law_of" ["_law_box_here", "_law_goods_so"] 2 2 LW.F_law_of := .of (ok_law_of Z c_law_take F_law_of) (PySem.W.mg_of X G a_law_of) F_law_of.kp b_law_of
  have F_law_same := fun_mk (st := s_law_same) l_law_same d_law_same k_law_same
  have b_law_same := F_law_same.binds (ps := ["_law_got", "_law_due"]) fun _ _ _ _ _ _ us hl => match us, hl with | [_, _], _ => rfl
  have c_law_same : DefAt l.prog w K mg base (tabOf [A_HeirError, A_BadLine, A_BadRun, A_BadText, A_Known, A_NoHeir, A_NoList, A_NoNumber, A_NoPlace, A_NoThing, A_NoTurns, A_NothingDone, A_OtherThings] [[], ["number"], ["place"], ["piece"], ["name"], ["name"], [], ["number"], ["number"], ["name"], ["name"], [], []]) "_law_same" ["_law_got", "_law_due"] 2 9 (LW.F_law_same 8) := .of (ok_law_same Z F_law_same b_law_same (PySem.W.mg_of X G a_law_same) 8) (PySem.W.mg_of X G a_law_same) F_law_same.kp b_law_same
  have F_law_sorts := fun_mk (st := s_law_sorts) l_law_sorts d_law_sorts k_law_sorts
  have b_law_sorts := F_law_sorts.binds (ps := ["_law_caught"]) fun _ _ _ _ _ _ us hl => match us, hl with | [_], _ => rfl
  have c_law_sorts : DefAt l.prog w K mg base (tabOf [A_HeirError, A_BadLine, A_BadRun, A_BadText, A_Known, A_NoHeir, A_NoList, A_NoNumber, A_NoPlace, A_NoThing, A_NoTurns, A_NothingDone, A_OtherThings] [[], ["number"], ["place"], ["piece"], ["name"], ["name"], [], ["number"], ["number"], ["name"], ["name"], [], []]) "_law_sorts" ["_law_caught"] 1 1 LW.F_law_sorts := .of (ok_law_sorts Z i_BadLine i_BadRun i_BadText i_Known i_NoHeir i_NoList i_NoNumber i_NoPlace i_NoThing i_NoTurns i_NothingDone i_OtherThings F_law_sorts) (PySem.W.mg_of X G a_law_sorts) F_law_sorts.kp b_law_sorts
  have F_law_right := fun_mk (st := s_law_right) l_law_right d_law_right k_law_right
  have b_law_right := F_law_right.binds (ps := ["_law_box_here"]) fun _ _ _ _ _ _ us hl => match us, hl with | [_], _ => rfl
  have c_law_right : DefAt l.prog w K mg base (tabOf [A_HeirError, A_BadLine, A_BadRun, A_BadText, A_Known, A_NoHeir, A_NoList, A_NoNumber, A_NoPlace, A_NoThing, A_NoTurns, A_NothingDone, A_OtherThings] [[], ["number"], ["place"], ["piece"], ["name"], ["name"], [], ["number"], ["number"], ["name"], ["name"], [], []]) "_law_right" ["_law_box_here"] 1 10 LW.F_law_right := .of (ok_law_right Z c_law_take c_law_of c_law_sorts c_law_same e_BadLine e_BadRun e_BadText e_Known e_NoHeir e_NoList e_NoNumber e_NoPlace e_NoThing e_NoTurns e_NothingDone e_OtherThings i_HeirError i_LookupError i_ValueError F_law_right) (PySem.W.mg_of X G a_law_right) F_law_right.kp b_law_right
  have F_law := fun_mk (st := s_law) l_law d_law k_law
  exact law_ok (ok_law (T := (tabOf [A_HeirError, A_BadLine, A_BadRun, A_BadText, A_Known, A_NoHeir, A_NoList, A_NoNumber, A_NoPlace, A_NoThing, A_NoTurns, A_NothingDone, A_OtherThings] [[], ["number"], ["place"], ["piece"], ["name"], ["name"], [], ["number"], ["number"], ["name"], ["name"], [], []])) Z c_law_cells c_law_right c_law_box F_law) fun ns _ => law_spec ns
end LW

set_option maxHeartbeats 4000000
open PySem PySem.W PyProof.Rows
set_option maxHeartbeats 0 in
theorem PySem.Challenge.cw_heirturns_k00_errors_holds : PySem.Challenge.rw_heirturns_k00_errors.Holds := by
  w_on; o_law; k_head; (case hw => w_witness2)
  k_fill
  refine L2.walk_of (l := PySem.Challenge.rw_heirturns_k00_errors) (n := 63) (k := 11) (x := "_law_script") (CX := fun w => L2.CX PySem.Challenge.rw_heirturns_k00_errors.prog w) (sp := fun w => DL.spLaw _) rfl (by decide) rfl ⟨rfl, by decide, by decide⟩ (fun w h Y => PySem.W.kIn_of Y) ?F (fun _ _ a ns hl _ hS => ⟨a, ns, rfl, hS, hl, fun _ => rfl⟩) (fun (_ : World) (_ : L2.Hp) (_ : Shared) (_ : Value) (_ : Shared) h => by obtain ⟨_, _, _, _, _, _, _, _, _, _, _, _, h⟩ := h; exact h)
  case F =>
    intro w mg fa h KX G hmg
    refine' LW.all_mk KX G hmg ?a_law_box ?l_law_box ?d_law_box ?k_law_box ?a_law_take ?l_law_take ?d_law_take ?k_law_take ?a_law_cells ?l_law_cells ?d_law_cells ?k_law_cells ?a_law_of ?l_law_of ?d_law_of ?k_law_of ?a_law_same ?l_law_same ?d_law_same ?k_law_same ?a_law_sorts ?l_law_sorts ?d_law_sorts ?k_law_sorts ?a_law_right ?l_law_right ?d_law_right ?k_law_right ?a_law ?l_law ?d_law ?k_law ?a_HeirError ?a_BadLine ?a_BadRun ?a_BadText ?a_Known ?a_NoHeir ?a_NoList ?a_NoNumber ?a_NoPlace ?a_NoThing ?a_NoTurns ?a_NothingDone ?a_OtherThings ?he ?xl_BadLine ?sa_BadLine ?no_BadLine ?ii_BadLine ?ti_BadLine ?li_BadLine ?di_BadLine ?ki_BadLine ?xl_BadRun ?sa_BadRun ?no_BadRun ?ii_BadRun ?ti_BadRun ?li_BadRun ?di_BadRun ?ki_BadRun ?xl_BadText ?sa_BadText ?no_BadText ?ii_BadText ?ti_BadText ?li_BadText ?di_BadText ?ki_BadText ?xl_Known ?sa_Known ?no_Known ?ii_Known ?ti_Known ?li_Known ?di_Known ?ki_Known ?xl_NoHeir ?sa_NoHeir ?no_NoHeir ?ii_NoHeir ?ti_NoHeir ?li_NoHeir ?di_NoHeir ?ki_NoHeir ?q_NoList ?xl_NoNumber ?sa_NoNumber ?no_NoNumber ?ii_NoNumber ?ti_NoNumber ?li_NoNumber ?di_NoNumber ?ki_NoNumber ?xl_NoPlace ?sa_NoPlace ?no_NoPlace ?ii_NoPlace ?ti_NoPlace ?li_NoPlace ?di_NoPlace ?ki_NoPlace ?xl_NoThing ?sa_NoThing ?no_NoThing ?ii_NoThing ?ti_NoThing ?li_NoThing ?di_NoThing ?ki_NoThing ?xl_NoTurns ?sa_NoTurns ?no_NoTurns ?ii_NoTurns ?ti_NoTurns ?li_NoTurns ?di_NoTurns ?ki_NoTurns ?q_NothingDone ?q_OtherThings ?t_HeirError ?t_BadLine ?t_BadRun ?t_BadText ?t_Known ?t_NoHeir ?t_NoList ?t_NoNumber ?t_NoPlace ?t_NoThing ?t_NoTurns ?t_NothingDone ?t_OtherThings ?t_ValueError ?t_LookupError ?z_len ?z_int ?z_abs ?z_list ?z_tuple ?z_range ?z_zip ?z_enumerate ?z_isinstance ?z_str ?z_bool ?z_all ?z_any ?z_sum ?z_min ?z_max ?z_sorted ?z_reversed ?z_ValueError ?z_LookupError
    (case a_law_box => k_is)
    (case l_law_box => k_is)
    (case d_law_box => k_is)
    (case k_law_box => k_is)
    (case a_law_take => k_is)
    (case l_law_take => k_is)
    (case d_law_take => k_is)
    (case k_law_take => k_is)
    (case a_law_cells => k_is)
    (case l_law_cells => k_is)
    (case d_law_cells => k_is)
    (case k_law_cells => k_is)
    (case a_law_of => k_is)
    (case l_law_of => k_is)
    (case d_law_of => k_is)
    (case k_law_of => k_is)
    (case a_law_same => k_is)
    (case l_law_same => k_is)
    (case d_law_same => k_is)
    (case k_law_same => k_is)
    (case a_law_sorts => k_is)
    (case l_law_sorts => k_is)
    (case d_law_sorts => k_is)
    (case k_law_sorts => k_is)
    (case a_law_right => k_is)
    (case l_law_right => k_is)
    (case d_law_right => k_is)
    (case k_law_right => k_is)
    (case a_law => k_is)
    (case l_law => k_is)
    (case d_law => k_is)
    (case k_law => k_is)
    (case a_HeirError => k_is)
    (case a_BadLine => k_is)
    (case a_BadRun => k_is)
    (case a_BadText => k_is)
    (case a_Known => k_is)
    (case a_NoHeir => k_is)
    (case a_NoList => k_is)
    (case a_NoNumber => k_is)
    (case a_NoPlace => k_is)
    (case a_NoThing => k_is)
    (case a_NoTurns => k_is)
    (case a_NothingDone => k_is)
    (case a_OtherThings => k_is)
    (case he => kernel_rfl)
    (case xl_BadLine => k_is)
    (case sa_BadLine => k_is)
    (case no_BadLine => k_is)
    (case ii_BadLine => k_is)
    (case ti_BadLine => k_is)
    (case li_BadLine => k_is)
    (case di_BadLine => k_is)
    (case ki_BadLine => k_is)
    (case xl_BadRun => k_is)
    (case sa_BadRun => k_is)
    (case no_BadRun => k_is)
    (case ii_BadRun => k_is)
    (case ti_BadRun => k_is)
    (case li_BadRun => k_is)
    (case di_BadRun => k_is)
    (case ki_BadRun => k_is)
    (case xl_BadText => k_is)
    (case sa_BadText => k_is)
    (case no_BadText => k_is)
    (case ii_BadText => k_is)
    (case ti_BadText => k_is)
    (case li_BadText => k_is)
    (case di_BadText => k_is)
    (case ki_BadText => k_is)
    (case xl_Known => k_is)
    (case sa_Known => k_is)
    (case no_Known => k_is)
    (case ii_Known => k_is)
    (case ti_Known => k_is)
    (case li_Known => k_is)
    (case di_Known => k_is)
    (case ki_Known => k_is)
    (case xl_NoHeir => k_is)
    (case sa_NoHeir => k_is)
    (case no_NoHeir => k_is)
    (case ii_NoHeir => k_is)
    (case ti_NoHeir => k_is)
    (case li_NoHeir => k_is)
    (case di_NoHeir => k_is)
    (case ki_NoHeir => k_is)
    (case q_NoList => kernel_rfl)
    (case xl_NoNumber => k_is)
    (case sa_NoNumber => k_is)
    (case no_NoNumber => k_is)
    (case ii_NoNumber => k_is)
    (case ti_NoNumber => k_is)
    (case li_NoNumber => k_is)
    (case di_NoNumber => k_is)
    (case ki_NoNumber => k_is)
    (case xl_NoPlace => k_is)
    (case sa_NoPlace => k_is)
    (case no_NoPlace => k_is)
    (case ii_NoPlace => k_is)
    (case ti_NoPlace => k_is)
    (case li_NoPlace => k_is)
    (case di_NoPlace => k_is)
    (case ki_NoPlace => k_is)
    (case xl_NoThing => k_is)
    (case sa_NoThing => k_is)
    (case no_NoThing => k_is)
    (case ii_NoThing => k_is)
    (case ti_NoThing => k_is)
    (case li_NoThing => k_is)
    (case di_NoThing => k_is)
    (case ki_NoThing => k_is)
    (case xl_NoTurns => k_is)
    (case sa_NoTurns => k_is)
    (case no_NoTurns => k_is)
    (case ii_NoTurns => k_is)
    (case ti_NoTurns => k_is)
    (case li_NoTurns => k_is)
    (case di_NoTurns => k_is)
    (case ki_NoTurns => k_is)
    (case q_NothingDone => kernel_rfl)
    (case q_OtherThings => kernel_rfl)
    (case t_HeirError => kernel_rfl)
    (case t_BadLine => kernel_rfl)
    (case t_BadRun => kernel_rfl)
    (case t_BadText => kernel_rfl)
    (case t_Known => kernel_rfl)
    (case t_NoHeir => kernel_rfl)
    (case t_NoList => kernel_rfl)
    (case t_NoNumber => kernel_rfl)
    (case t_NoPlace => kernel_rfl)
    (case t_NoThing => kernel_rfl)
    (case t_NoTurns => kernel_rfl)
    (case t_NothingDone => kernel_rfl)
    (case t_OtherThings => kernel_rfl)
    (case t_ValueError => kernel_rfl)
    (case t_LookupError => kernel_rfl)
    (case z_len => k_is)
    (case z_int => k_is)
    (case z_abs => k_is)
    (case z_list => k_is)
    (case z_tuple => k_is)
    (case z_range => k_is)
    (case z_zip => k_is)
    (case z_enumerate => k_is)
    (case z_isinstance => k_is)
    (case z_str => k_is)
    (case z_bool => k_is)
    (case z_all => k_is)
    (case z_any => k_is)
    (case z_sum => k_is)
    (case z_min => k_is)
    (case z_max => k_is)
    (case z_sorted => k_is)
    (case z_reversed => k_is)
    (case z_ValueError => k_is)
    (case z_LookupError => k_is)

