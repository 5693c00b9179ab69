import PyProof.Rows.All
import HandS.ForMost
import HandS.ForExc
import HandS.Flow
import HandS.Wide
import HandS.CallSlots
import HandS.TupAny
import HandS.IsInst
import HandS.ExcOwn
import HandS.Zip
import HandS.TryMany
import HandS.NoneIn
import HandS.FStr
import HandS.Text
import HandS.ExcInit
import HandS.ExcValue
import HandS.ExcField
import HandS.ExcIs
import HandS.Small
import KE.KExcIs
import HandS.Style
import HandS.Property
import HandS.More
import PyProof.TupleOfSeq
import KE.GoesMore
import PyProof.StrBlock2
import OpenK.KMeth
import OpenK.KDescr
import HandS.ClsMeth
import HandS.Defaults
import PyProof.ListRange
import KE.KTryMore
import PySem.Challenge.RW_heirturns_k37_lists_that_are_changed
set_option Elab.async false
set_option linter.all false
set_option maxRecDepth 100000
/-! DLa: values as data: what a piece of the program does, said by a function over data (no heap). -/
namespace DL
open PySem PySem.Spec PyProof.Rows L2

/-- data: what a value is, without addresses -/
inductive D where
  | non | bl (b : Bool) | int (i : Int) | str (x : Str)
  | ls (xs : List D) | tu (xs : List D) | ro (xs : List Int) | box
  | ob (c : Nat) (fs : List D) | er (c : Nat) (fs : List D)
  deriving Inhabited

/-- own classes by number: where the class stands, the names of its fields -/
structure Tab where
  C : Nat → Addr
  fld : Nat → List Str

/-- an exception of the class at C, its dict -/
def exV (a C : Addr) (d : Option Addr) : HO := .ext fun h => ∃ (oe : Obj) (vs : Array Value), h.get? a = some oe ∧ oe.cls = .ref C ∧ oe.dict = d ∧ oe.data = .fields vs
mutual
inductive Rep (K : PySem.W.Frag) (T : Tab) (B : Option Addr) (G : Hp) : V → D → Prop
  | non : Rep K T B G .non .non
  | bl (b : Bool) : Rep K T B G (.bl b) (.bl b)
  | int (i : Int) : Rep K T B G (.int i) (.int i)
  | str (x : Str) : Rep K T B G (.str x) (.str x)
  | ls {a : Addr} {xs : List V} {ds : List D} (h : G a = some (.lst xs)) (r : Reps K T B G xs ds) : Rep K T B G (.ref a) (.ls ds)
  | tu {a : Addr} {xs : List V} {ds : List D} (h : SqT K G a xs) (r : Reps K T B G xs ds) : Rep K T B G (.ref a) (.tu ds)
  | ro {a : Addr} {ns : List Int} (h : SqL K G a (ns.map V.int)) : Rep K T B G (.ref a) (.ro ns)
  | box {p : Addr} (h : B = some p) : Rep K T B G (.ref p) .box
  | ob {a dx : Addr} {c : Nat} {vs : List V} {fs : List D} (h : G a = some (.ins (T.C c) dx ((T.fld c).zip vs))) (l : vs.length = (T.fld c).length) (r : Reps K T B G vs fs) : Rep K T B G (.ref a) (.ob c fs)
  | er0 {a : Addr} {c : Nat} (h : G a = some (exV a (T.C c) none)) (hn : T.fld c = []) : Rep K T B G (.ref a) (.er c [])
  | er1 {a d : Addr} {c : Nat} {nm : Str} {v : V} {f : D} (h : G a = some (exV a (T.C c) (some d))) (hn : T.fld c = [nm]) (hd : G d = some (.xd [(nm, v)])) (r : Rep K T B G v f) : Rep K T B G (.ref a) (.er c [f])
inductive Reps (K : PySem.W.Frag) (T : Tab) (B : Option Addr) (G : Hp) : List V → List D → Prop
  | nil : Reps K T B G [] []
  | cons {v : V} {d : D} {vs : List V} {ds : List D} (h : Rep K T B G v d) (r : Reps K T B G vs ds) : Reps K T B G (v :: vs) (d :: ds)
end

section
variable {K : PySem.W.Frag} {T : Tab} {B : Option Addr} {G G' H H' : Hp}
theorem Same.sqt {a : Addr} {xs : List V} (e : Same G G') (h : SqT K G a xs) : SqT K G' a xs := by
  rcases h with (h | ⟨o, h⟩) | h
  · exact .inl (.inl (e _ _ h))
  · exact .inl (.inr ⟨o, e _ _ h⟩)
  · exact .inr h
mutual
theorem Rep.mono (e : Same G G') : ∀ {v : V} {d : D}, Rep K T B G v d → Rep K T B G' v d
  | _, _, .non => .non
  | _, _, .bl b => .bl b
  | _, _, .int i => .int i
  | _, _, .str x => .str x
  | _, _, .ls h r => .ls (e _ _ h) (Reps.mono e r)
  | _, _, .tu h r => .tu (Same.sqt e h) (Reps.mono e r)
  | _, _, .ro h => .ro (e.seq h)
  | _, _, .box h => .box h
  | _, _, .ob h l r => .ob (e _ _ h) l (Reps.mono e r)
  | _, _, .er0 h n => .er0 (e _ _ h) n
  | _, _, .er1 h n d r => .er1 (e _ _ h) n (e _ _ d) (Rep.mono e r)
theorem Reps.mono (e : Same G G') : ∀ {vs : List V} {ds : List D}, Reps K T B G vs ds → Reps K T B G' vs ds
  | _, _, .nil => .nil
  | _, _, .cons h r => .cons (Rep.mono e h) (Reps.mono e r)
end
theorem Reps.length : ∀ {vs : List V} {ds : List D}, Reps K T B G vs ds → vs.length = ds.length
  | _, _, .nil => rfl
  | _, _, .cons _ r => congrArg (· + 1) r.length
theorem Reps.get : ∀ {vs : List V} {ds : List D} {i : Nat} {v : V}, Reps K T B G vs ds → vs[i]? = some v → ∃ d, ds[i]? = some d ∧ Rep K T B G v d
  | _, _, _, _, .nil, e => by simp at e
  | _, _, 0, _, .cons h _, e => by simp at e; subst e; exact ⟨_, rfl, h⟩
  | _, _, i + 1, v, .cons _ r, e => by
    obtain ⟨d, h1, h2⟩ := Reps.get (i := i) (v := v) r (by simpa using e)
    exact ⟨d, by simpa using h1, h2⟩
theorem Reps.get' : ∀ {vs : List V} {ds : List D} {i : Nat} {d : D}, Reps K T B G vs ds → ds[i]? = some d → ∃ v, vs[i]? = some v ∧ Rep K T B G v d
  | _, _, _, _, .nil, e => by simp at e
  | _, _, 0, _, .cons h _, e => by simp at e; subst e; exact ⟨_, rfl, h⟩
  | _, _, i + 1, d, .cons _ r, e => by
    obtain ⟨v, h1, h2⟩ := Reps.get' (i := i) (d := d) r (by simpa using e)
    exact ⟨v, by simpa using h1, h2⟩
theorem Reps.append : ∀ {vs : List V} {ds : List D} {ws : List V} {es : List D}, Reps K T B G vs ds → Reps K T B G ws es → Reps K T B G (vs ++ ws) (ds ++ es)
  | _, _, _, _, .nil, q => q
  | _, _, _, _, .cons h r, q => .cons h (Reps.append r q)
theorem Reps.set {v : V} {d : D} (h : Rep K T B G v d) : ∀ {vs : List V} {ds : List D} (i : Nat), Reps K T B G vs ds → Reps K T B G (vs.set i v) (ds.set i d)
  | _, _, _, .nil => .nil
  | _, _, 0, .cons _ r => .cons h r
  | _, _, i + 1, .cons q r => .cons q (Reps.set h i r)
theorem Reps.take : ∀ {vs : List V} {ds : List D} (n : Nat), Reps K T B G vs ds → Reps K T B G (vs.take n) (ds.take n)
  | _, _, 0, _ => .nil
  | _, _, _ + 1, .nil => .nil
  | _, _, n + 1, .cons h r => .cons h (Reps.take n r)
theorem Reps.drop : ∀ {vs : List V} {ds : List D} (n : Nat), Reps K T B G vs ds → Reps K T B G (vs.drop n) (ds.drop n)
  | _, _, 0, r => r
  | _, _, _ + 1, .nil => .nil
  | _, _, n + 1, .cons _ r => Reps.drop n r
theorem Reps.eraseIdx : ∀ {vs : List V} {ds : List D} (n : Nat), Reps K T B G vs ds → Reps K T B G (vs.eraseIdx n) (ds.eraseIdx n)
  | _, _, _, .nil => .nil
  | _, _, 0, .cons _ r => r
  | _, _, n + 1, .cons h r => .cons h (Reps.eraseIdx n r)
theorem Reps.one {v : V} {d : D} (h : Rep K T B G v d) : Reps K T B G [v] [d] := .cons h .nil
end

/-! ### the state -/
abbrev SV := List (Option V)
abbrev Bx := Int × Int × Int
def boxO (b : Bx) : HO := .lst [.int b.1, .int b.2.1, .int b.2.2]
inductive Sl where
  | un | val (d : D) | own (ds : List D)
structure S where
  env : List Sl
  bx : Bx
/-- what is fixed while a body runs: where the box is; the entry's heaps -/
structure Ctx where
  B : Option Addr
  H0 : Hp
  G0 : Hp

def SlotOk (K : PySem.W.Frag) (T : Tab) (c : Ctx) (G H : Hp) (x : Option (Option V)) : Sl → Prop
  | .un => True
  | .val d => ∃ v, x = some (some v) ∧ Rep K T c.B G v d
  | .own ds => ∃ p vs, x = some (some (.ref p)) ∧ H p = some (.lst vs) ∧ G p = none ∧ c.H0 p = none ∧ Reps K T c.B G vs ds

structure Holds (K : PySem.W.Frag) (T : Tab) (c : Ctx) (G H : Hp) (σ : SV) (st : S) : Prop where
  sub0 : Same c.G0 G
  sub : Same G H
  new : ∀ a, c.G0 a = none → G a ≠ none → c.H0 a = none
  frame : ∀ a o, c.H0 a = some o → c.B ≠ some a → H a = some o
  len : σ.length = st.env.length
  slot : ∀ (i : Nat) (s : Sl), st.env[i]? = some s → SlotOk K T c G H σ[i]? s
  dist : ∀ (i j : Nat) (p : Addr) (ds es : List D), st.env[i]? = some (.own ds) → st.env[j]? = some (.own es) → σ[i]? = some (some (.ref p)) → σ[j]? = some (some (.ref p)) → i = j
  box : ∀ p, c.B = some p → H p = some (boxO st.bx) ∧ G p = none
  box0 : ∀ p, c.B = some p → c.H0 p ≠ none

section
variable {K : PySem.W.Frag} {T : Tab} {c : Ctx} {G G' H H' : Hp} {σ : SV} {st : S}
theorem Holds.h0 (h : Holds K T c G H σ st) {p : Addr} (e : H p = none) : c.H0 p = none := by
  cases q : c.H0 p with
  | none => rfl
  | some o =>
    by_cases hb : c.B = some p
    · have := (h.box p hb).1; rw [e] at this; cases this
    · have := h.frame p o q hb; rw [e] at this; cases this
theorem SlotOk.grow (s1 : Same G G') (s2 : Same H H') (nw : ∀ a, G a = none → G' a ≠ none → H a = none) {x : Option (Option V)} : ∀ {s : Sl}, SlotOk K T c G H x s → SlotOk K T c G' H' x s
  | .un, _ => trivial
  | .val d, ⟨v, e, r⟩ => ⟨v, e, r.mono s1⟩
  | .own ds, ⟨p, vs, e, h, g, z, r⟩ => by
    refine ⟨p, vs, e, s2 _ _ h, ?_, z, r.mono s1⟩
    cases q : G' p with
    | none => rfl
    | some o => have := nw p g (by rw [q]; exact fun z => by cases z); rw [h] at this; cases this
theorem Holds.grow (h : Holds K T c G H σ st) (s1 : Same G G') (s2 : Same H H') (s3 : Same G' H') (nw : ∀ a, G a = none → G' a ≠ none → H a = none) : Holds K T c G' H' σ st where
  sub0 := h.sub0.trans s1
  sub := s3
  new := fun a e n => by
    cases q : G a with
    | none => exact h.h0 (nw a q n)
    | some o => exact h.new a e (by rw [q]; exact fun z => by cases z)
  frame := fun a o e b => s2 _ _ (h.frame a o e b)
  len := h.len
  slot := fun i s e => (h.slot i s e).grow s1 s2 nw
  dist := h.dist
  box := fun p e => ⟨s2 _ _ (h.box p e).1, by
    cases q : G' p with
    | none => rfl
    | some o => have := nw p (h.box p e).2 (by rw [q]; exact fun z => by cases z); rw [(h.box p e).1] at this; cases this⟩
  box0 := h.box0
theorem same_upd {H : Hp} {p : Addr} {o : HO} (h : H p = none) : Same H (upd H p o) := fun b x e => by
  rw [upd_ne (ne_of_none e h)]; exact e
/-- a new object, known from now on -/
theorem Holds.lay (h : Holds K T c G H σ st) {p : Addr} (o : HO) (n : H p = none) : Holds K T c (upd G p o) (upd H p o) σ st := by
  have gn : G p = none := by
    cases q : G p with
    | none => rfl
    | some u => have := h.sub _ _ q; rw [n] at this; cases this
  refine h.grow (same_upd gn) (same_upd n) (fun a u e => ?_) (fun a e q => ?_)
  · by_cases z : a = p
    · subst z; rw [upd_same] at e ⊢; exact e
    · rw [upd_ne z] at e ⊢; exact h.sub _ _ e
  · by_cases z : a = p
    · subst z; exact n
    · rw [upd_ne z] at q; exact absurd e q
theorem Holds.gnone (h : Holds K T c G H σ st) {p : Addr} (n : H p = none) : G p = none := by
  cases q : G p with
  | none => rfl
  | some u => have := h.sub _ _ q; rw [n] at this; cases this
/-- a new object that nobody needs -/
theorem Holds.lose (h : Holds K T c G H σ st) {p : Addr} (o : HO) (n : H p = none) : Holds K T c G (upd H p o) σ st :=
  h.grow (Same.refl _) (same_upd n) (h.sub.trans (same_upd n)) (fun a e q => absurd e q)
end

/-! ### results -/
/-- an error: its class by number, its values -/
structure Er where
  c : Nat
  fs : List D
inductive R (α : Type) where
  | ok (a : α) (s : S) | err (e : Er) (s : S) | stuck
def R.bind {α β : Type} : R α → (α → S → R β) → R β
  | .ok a s, g => g a s
  | .err e s, _ => .err e s
  | .stuck, _ => .stuck
/-- the error in the heap -/
def ErrAt (K : PySem.W.Frag) (T : Tab) (B : Option Addr) (G H : Hp) (e : Er) (cls : Value) (d : Option Addr) : Prop :=
  cls = .ref (T.C e.c) ∧ match e.fs with
    | [] => d = none ∧ T.fld e.c = []
    | f :: r => r = [] ∧ ∃ dd nm v, d = some dd ∧ T.fld e.c = [nm] ∧ G dd = some (.xd [(nm, v)]) ∧ Rep K T B G v f

abbrev Rel (α β : Type) := Ctx → Hp → Hp → SV → S → β → α → Prop
def GOk {α β : Type} (K : PySem.W.Frag) (T : Tab) (W : WX) (rel : Rel α β) (c : Ctx) (G : Hp) (σ : SV) (r : R α) (Q : β → Hp → Prop) : Prop :=
  match r with
  | .ok a st => ∀ G' H' v, Same G G' → Holds K T c G' H' σ st → rel c G' H' σ st v a → Q v H'
  | .err e st => ∀ G' H' cls d, Same G G' → Holds K T c G' H' σ st → ErrAt K T c.B G' H' e cls d → W cls d σ H'
  | .stuck => False
def gD {α β : Type} (K : PySem.W.Frag) (T : Tab) (W : WX) (rel : Rel α β) (f : S → R α) : SV → Hp → (β → Hp → Prop) → Prop :=
  fun σ H Q => ∃ c G st, Holds K T c G H σ st ∧ GOk K T W rel c G σ (f st) Q
section
variable {K : PySem.W.Frag} {T : Tab} {W : WX} {c : Ctx} {G G' H H' : Hp} {σ : SV} {st : S} {α β γ δ : Type} {rel : Rel α β} {rel2 : Rel γ δ}
theorem GOk.mono {r : R α} {Q : β → Hp → Prop} (s : Same G G') (h : GOk K T W rel c G σ r Q) : GOk K T W rel c G' σ r Q := by
  cases r with
  | ok a st => exact fun G2 H2 v s2 => h G2 H2 v (s.trans s2)
  | err e st => exact fun G2 H2 cls d s2 => h G2 H2 cls d (s.trans s2)
  | stuck => exact h
theorem GOk.imp {r : R α} {Q Q' : β → Hp → Prop} (q : ∀ v H, Q v H → Q' v H) (h : GOk K T W rel c G σ r Q) : GOk K T W rel c G σ r Q' := by
  cases r with
  | ok a st => exact fun G2 H2 v s2 h1 h2 => q _ _ (h G2 H2 v s2 h1 h2)
  | err e st => exact h
  | stuck => exact h
/-- THE STEP: what is asked of (f, then g) is asked of f -/
theorem step {f : S → R α} {g : α → S → R γ} {Q : δ → Hp → Prop} (hd : Holds K T c G H σ st) (ok : GOk K T W rel2 c G σ ((f st).bind g) Q) :
    gD K T W rel f σ H (fun x H1 => ∃ G1 st1 a, Same G G1 ∧ Holds K T c G1 H1 σ st1 ∧ rel c G1 H1 σ st1 x a ∧ GOk K T W rel2 c G1 σ (g a st1) Q) := by
  refine ⟨c, G, st, hd, ?_⟩
  generalize f st = r at ok
  cases r with
  | ok a st1 => exact fun G1 H1 x s h r => ⟨G1, st1, a, s, h, r, GOk.mono s ok⟩
  | err e st1 => exact ok
  | stuck => exact ok
/-- handing back -/
theorem GOk.done {a : α} {v : β} {Q : β → Hp → Prop} (ok : GOk K T W rel c G σ (.ok a st) Q) (s : Same G G') (hd : Holds K T c G' H' σ st) (r : rel c G' H' σ st v a) : Q v H' := ok _ _ _ s hd r
end
abbrev relD (K : PySem.W.Frag) (T : Tab) : Rel D V := fun c G _ _ _ v d => Rep K T c.B G v d
abbrev relB : Rel Bool Bool := fun _ _ _ _ _ b c => b = c
abbrev relA (K : PySem.W.Frag) (T : Tab) : Rel (List D) (List V) := fun c G _ _ _ vs ds => Reps K T c.B G vs ds
abbrev relO : Rel (Option Int) (Option Int) := fun _ _ _ _ _ b c => b = c
/-- a list of one's own: known to nobody else -/
def relF (K : PySem.W.Frag) (T : Tab) : Rel (List D) V := fun c G H σ st v ds => ∃ p vs, v = .ref p ∧ H p = some (.lst vs) ∧ G p = none ∧ c.H0 p = none ∧ Reps K T c.B G vs ds ∧
  ∀ (i : Nat) (es : List D), st.env[i]? = some (.own es) → σ[i]? ≠ some (some (.ref p))
section
variable {K : PySem.W.Frag} {T : Tab} {c : Ctx} {G G' H H' : Hp} {σ : SV} {st : S}
/-- a new list, kept for oneself -/
theorem Holds.fresh (h : Holds K T c G H σ st) {p : Addr} {vs : List V} {ds : List D} (n : H p = none) (r : Reps K T c.B G vs ds) : Holds K T c G (upd H p (.lst vs)) σ st ∧ relF K T c G (upd H p (.lst vs)) σ st (.ref p) ds := by
  refine ⟨h.lose _ n, p, vs, rfl, upd_same, h.gnone n, h.h0 n, r, fun i es e q => ?_⟩
  obtain ⟨p2, vs2, e1, e2, _⟩ := h.slot i _ e
  rw [e1] at q
  cases q
  rw [n] at e2; cases e2
/-- it is closed -/
theorem relF.close {v : V} {ds : List D} (h : Holds K T c G H σ st) (r : relF K T c G H σ st v ds) : ∃ G', Same G G' ∧ Holds K T c G' H σ st ∧ Rep K T c.B G' v (.ls ds) := by
  obtain ⟨p, vs, rfl, hp, g, z, rs, nd⟩ := r
  have sg : Same G (upd G p (.lst vs)) := same_upd g
  refine ⟨upd G p (.lst vs), sg, ?_, .ls upd_same (rs.mono sg)⟩
  exact {
    sub0 := h.sub0.trans sg
    sub := fun a o q => by
      by_cases w : a = p
      · subst w; rw [upd_same] at q; cases q; exact hp
      · rw [upd_ne w] at q; exact h.sub _ _ q
    new := fun a q n => by
      by_cases w : a = p
      · subst w; exact z
      · rw [upd_ne w] at n; exact h.new a q n
    frame := h.frame
    len := h.len
    slot := fun j s q => by
      have o := h.slot j s q
      cases s with
      | un => trivial
      | val d => obtain ⟨v, a, b⟩ := o; exact ⟨v, a, b.mono sg⟩
      | own es =>
        obtain ⟨p2, vs2, a1, a2, a3, a4, a5⟩ := o
        refine ⟨p2, vs2, a1, a2, ?_, a4, a5.mono sg⟩
        have ne : p2 ≠ p := fun t => by subst t; exact nd j es q a1
        rw [upd_ne ne]; exact a3
    dist := h.dist
    box := fun b q => by
      obtain ⟨x, y⟩ := h.box b q
      refine ⟨x, ?_⟩
      have ne : b ≠ p := fun t => by subst t; exact h.box0 b q z
      rw [upd_ne ne]; exact y
    box0 := h.box0 }
/-- while it is kept for oneself: the context that guards it -/
def Ctx.guard (c : Ctx) (p : Addr) (vs : List V) : Ctx := { c with H0 := upd c.H0 p (.lst vs) }
theorem Holds.guard {p : Addr} {vs : List V} (h : Holds K T c G H σ st) (hp : H p = some (.lst vs)) (g : G p = none) (z : c.H0 p = none) (nd : ∀ (i : Nat) (es : List D), st.env[i]? = some (.own es) → σ[i]? ≠ some (some (.ref p))) :
    Holds K T (c.guard p vs) G H σ st where
  sub0 := h.sub0
  sub := h.sub
  new := fun a q n => by
    have ne : a ≠ p := fun t => by subst t; exact n g
    show upd c.H0 p _ a = none
    rw [upd_ne ne]; exact h.new a q n
  frame := fun a o e b => by
    have e' : upd c.H0 p (.lst vs) a = some o := e
    by_cases w : a = p
    · subst w; rw [upd_same] at e'; cases e'; exact hp
    · rw [upd_ne w] at e'; exact h.frame a o e' b
  len := h.len
  slot := fun j s q => by
    have o := h.slot j s q
    cases s with
    | un => trivial
    | val d => exact o
    | own es =>
      obtain ⟨p2, vs2, a1, a2, a3, a4, a5⟩ := o
      refine ⟨p2, vs2, a1, a2, a3, ?_, a5⟩
      have ne : p2 ≠ p := fun t => by subst t; exact nd j es q a1
      show upd c.H0 p _ p2 = none
      rw [upd_ne ne]; exact a4
  dist := h.dist
  box := h.box
  box0 := fun b q e => by
    have e' : upd c.H0 p (.lst vs) b = none := e
    by_cases w : b = p
    · subst w; rw [upd_same] at e'; cases e'
    · rw [upd_ne w] at e'; exact h.box0 b q e'
/-- .. and back -/
theorem Holds.unguard {p : Addr} {vs : List V} (z : c.H0 p = none) (g0 : c.B ≠ some p) (h : Holds K T (c.guard p vs) G H σ st) (gp : G p = none) :
    Holds K T c G H σ st ∧ H p = some (.lst vs) ∧ ∀ (i : Nat) (es : List D), st.env[i]? = some (.own es) → σ[i]? ≠ some (some (.ref p)) := by
  have hH : ∀ a, (c.guard p vs).H0 a = upd c.H0 p (.lst vs) a := fun _ => rfl
  refine ⟨{ sub0 := h.sub0, sub := h.sub, new := fun a q n => ?_, frame := fun a o e b => ?_, len := h.len, slot := fun j s q => ?_, dist := h.dist, box := h.box, box0 := fun b q e => ?_ }, h.frame p _ (by rw [hH]; exact upd_same) g0, fun i es e q => ?_⟩
  · have := h.new a q n
    rw [hH] at this
    by_cases w : a = p
    · subst w; exact z
    · rw [upd_ne w] at this; exact this
  · refine h.frame a o ?_ b
    rw [hH, upd_ne (show a ≠ p from fun t => by subst t; rw [z] at e; cases e)]; exact e
  · have o := h.slot j s q
    cases s with
    | un => trivial
    | val d => exact o
    | own es =>
      obtain ⟨p2, vs2, a1, a2, a3, a4, a5⟩ := o
      refine ⟨p2, vs2, a1, a2, a3, ?_, a5⟩
      rw [hH] at a4
      by_cases w : p2 = p
      · subst w; exact z
      · rw [upd_ne w] at a4; exact a4
  · refine h.box0 b q ?_
    rw [hH, upd_ne (show b ≠ p from fun t => by subst t; exact g0 q)]; exact e
  · obtain ⟨p2, vs2, a1, a2, a3, a4, a5⟩ := h.slot i _ e
    rw [a1] at q
    cases q
    rw [hH, upd_same] at a4; cases a4
/-- new known objects never are p: G' p stays free -/
theorem Holds.gfree {p : Addr} {vs : List V} (h : Holds K T (c.guard p vs) G H σ st) (g0 : c.G0 p = none) : G p = none := by
  cases q : G p with
  | none => rfl
  | some o =>
    have := h.new p g0 (by rw [q]; exact fun z => by cases z)
    have hH : (c.guard p vs).H0 p = upd c.H0 p (.lst vs) p := rfl
    rw [hH, upd_same] at this; cases this
end

/-! ### the judgements -/
def DE (X : Cx) (T : Tab) (W : WX) (e : Expr) (f : S → R D) : Prop := PE X e (gD X.K T W (relD X.K T) f)
def DT (X : Cx) (T : Tab) (W : WX) (e : Expr) (f : S → R Bool) : Prop := PT X e (gD X.K T W relB f)
def DW (X : Cx) (T : Tab) (W : WX) (e : Expr) (f : S → R Bool) : Prop := PW X e (gD X.K T W relB f)
def DA (X : Cx) (T : Tab) (W : WX) (es : List Expr) (f : S → R (List D)) : Prop := PA X es (gD X.K T W (relA X.K T) f)
def DF (X : Cx) (T : Tab) (W : WX) (e : Expr) (f : S → R (List D)) : Prop := PE X e (gD X.K T W (relF X.K T) f)
def DO (X : Cx) (T : Tab) (W : WX) (e : Option Expr) (f : S → R (Option Int)) : Prop := PO X e (gD X.K T W relO f)
section
variable {X : Cx}
theorem impE {e : Expr} {t t' : TE} (h : PE X e t) (q : ∀ σ H Q, t' σ H Q → t σ H Q) : PE X e t' := ⟨fun pins s σ H Q I k => h.run pins s σ H Q I (q σ H Q k)⟩
theorem impT {e : Expr} {t t' : TT} (h : PT X e t) (q : ∀ σ H Q, t' σ H Q → t σ H Q) : PT X e t' := ⟨fun pins s σ H Q I k => h.run pins s σ H Q I (q σ H Q k)⟩
theorem impW {e : Expr} {t t' : TT} (h : PW X e t) (q : ∀ σ H Q, t' σ H Q → t σ H Q) : PW X e t' := ⟨fun wh pins s σ H Q I k => h.run wh pins s σ H Q I (q σ H Q k)⟩
theorem impA {es : List Expr} {t t' : TA} (h : PA X es t) (q : ∀ σ H Q, t' σ H Q → t σ H Q) : PA X es t' := ⟨fun pos pins s σ H Q I k => h.run pos pins s σ H Q I (q σ H Q k)⟩
theorem impS {e : Stmt} {t t' : TS} (h : PS X e t) (q : ∀ D σ H, t' D σ H → t D σ H) : PS X e t' := ⟨fun pins s σ H D I k => h.run pins s σ H D I (q D σ H k)⟩
theorem impSs {e : List Stmt} {t t' : TS} (h : PSs X e t) (q : ∀ D σ H, t' D σ H → t D σ H) : PSs X e t' := ⟨fun pins s σ H D I k => h.run pins s σ H D I (q D σ H k)⟩
end
end DL

/-! DLb: expressions. -/
namespace DL
open PySem PySem.Spec PyProof.Rows L2

section
variable {K : PySem.W.Frag} {T : Tab} {W : WX} {c : Ctx} {G G' H H' : Hp} {σ : SV} {st : S} {α β γ δ : Type}
/-! ### names -/
def S.put (st : S) (i : Nat) (s : Sl) : S := { st with env := st.env.set i s }
theorem Holds.freeze (h : Holds K T c G H σ st) {i : Nat} {ds : List D} (e : st.env[i]? = some (.own ds)) :
    ∃ p vs, σ[i]? = some (some (.ref p)) ∧ H p = some (.lst vs) ∧ Reps K T c.B G vs ds ∧ G p = none ∧ Holds K T c (upd G p (.lst vs)) H σ (st.put i (.val (.ls ds))) := by
  obtain ⟨p, vs, e1, e2, g, z, r⟩ := h.slot i _ e
  have sg : Same G (upd G p (.lst vs)) := same_upd g
  refine ⟨p, vs, e1, e2, r, g, ?_⟩
  have hp : (upd G p (.lst vs)) p = some (.lst vs) := upd_same
  exact {
    sub0 := h.sub0.trans sg
    sub := fun a o q => by
      by_cases w : a = p
      · subst w; rw [upd_same] at q; cases q; exact e2
      · rw [upd_ne w] at q; exact h.sub _ _ q
    new := fun a q n => by
      by_cases w : a = p
      · subst w; exact z
      · rw [upd_ne w] at n; exact h.new a q n
    frame := h.frame
    len := by show _ = (st.env.set i _).length; rw [List.length_set]; exact h.len
    slot := fun j s q => by
      have q' : (st.env.set i (.val (.ls ds)))[j]? = some s := q
      by_cases w : i = j
      · subst w
        rw [List.getElem?_set_self (List.getElem?_eq_some_iff.mp e).1] at q'
        cases q'
        exact ⟨_, e1, .ls hp (r.mono sg)⟩
      · rw [List.getElem?_set_ne w] at q'
        have o := h.slot j s q'
        cases s with
        | un => trivial
        | val d => obtain ⟨v, a, b⟩ := o; exact ⟨v, a, b.mono sg⟩
        | own es =>
          obtain ⟨p2, vs2, a1, a2, a3, a4, a5⟩ := o
          refine ⟨p2, vs2, a1, a2, ?_, a4, a5.mono sg⟩
          have ne : p2 ≠ p := fun t => by subst t; exact w (h.dist i j p2 ds es e q' e1 a1)
          rw [upd_ne ne]; exact a3
    dist := fun j k p2 ds2 es2 q1 q2 => by
      have q1' : (st.env.set i (.val (.ls ds)))[j]? = _ := q1
      have q2' : (st.env.set i (.val (.ls ds)))[k]? = _ := q2
      have nj : i ≠ j := fun w => by
        subst w; rw [List.getElem?_set_self (List.getElem?_eq_some_iff.mp e).1] at q1'; cases q1'
      have nk : i ≠ k := fun w => by
        subst w; rw [List.getElem?_set_self (List.getElem?_eq_some_iff.mp e).1] at q2'; cases q2'
      rw [List.getElem?_set_ne nj] at q1'
      rw [List.getElem?_set_ne nk] at q2'
      exact h.dist j k p2 ds2 es2 q1' q2'
    box := fun b q => by
      obtain ⟨x, y⟩ := h.box b q
      refine ⟨x, ?_⟩
      have ne : b ≠ p := fun t => by subst t; exact h.box0 b q z
      rw [upd_ne ne]; exact y
    box0 := h.box0 }
/-- a name's slot; a list that is still being built is closed by it -/
def dV (i : Nat) (st : S) : R D := match st.env[i]? with
  | some (.val d) => .ok d st
  | some (.own ds) => .ok (.ls ds) (st.put i (.val (.ls ds)))
  | _ => .stuck
def dC (d : D) (st : S) : R D := .ok d st
end
section
variable {X : Cx} {T : Tab} {W : WX}
theorem de_var {i : Nat} {e : Expr} (h : PE X e (tVar i)) : DE X T W e (dV i) := impE h fun σ H Q ⟨c, G, st, hd, ok⟩ => by
  unfold dV at ok
  cases q : st.env[i]? with
  | none => rw [q] at ok; exact ok.elim
  | some s =>
    rw [q] at ok
    cases s with
    | un => exact ok.elim
    | val d => obtain ⟨v, e1, r⟩ := hd.slot i _ q; exact ⟨v, e1, ok _ _ _ (Same.refl _) hd r⟩
    | own ds =>
      obtain ⟨p, vs, e1, e2, r, g, h2⟩ := hd.freeze q
      exact ⟨_, e1, ok _ _ _ (same_upd g) h2 (.ls upd_same (r.mono (same_upd g)))⟩
/-- a constant, a name of the module whose value is flat -/
theorem de_const {v : V} {d : D} {e : Expr} (h : PE X e (tC v)) (r : ∀ B G, Rep X.K T B G v d) : DE X T W e (dC d) := impE h fun σ H Q ⟨c, G, st, hd, ok⟩ => ok _ _ _ (Same.refl _) hd (r _ _)
theorem de_int {i : Int} {j pos} : DE X T W (.Constant (.int i) j pos) (dC (.int i)) := de_const pe_int fun _ _ => .int i
theorem de_bl {b : Bool} {j pos} : DE X T W (.Constant (.bool b) j pos) (dC (.bl b)) := de_const pe_bl fun _ _ => .bl b
theorem de_non {j pos} : DE X T W (.Constant .none j pos) (dC .non) := de_const pe_non fun _ _ => .non
theorem de_str {x : Str} {j pos} : DE X T W (.Constant (.str x) j pos) (dC (.str x)) := de_const pe_str fun _ _ => .str x

/-! ### two operands -/
def dBin (h : D → D → S → R D) (fa fb : S → R D) : S → R D := fun st => (fa st).bind fun x st => (fb st).bind fun y st => h x y st
def dBinB (h : D → D → S → R Bool) (fa fb : S → R D) : S → R Bool := fun st => (fa st).bind fun x st => (fb st).bind fun y st => h x y st
def toD (r : R Bool) : R D := r.bind fun k st => .ok (.bl k) st
def dOfB (f : S → R Bool) : S → R D := fun st => toD (f st)
def Snd2 (X : Cx) (T : Tab) (W : WX) (r : R2) (h : D → D → S → R D) : Prop :=
  ∀ (c : Ctx) (G H : Hp) (σ : SV) (st : S) (x y : V) (a b : D) (Q : VK), Holds X.K T c G H σ st → Rep X.K T c.B G x a → Rep X.K T c.B G y b → GOk X.K T W (relD X.K T) c G σ (h a b st) Q → r x y H Q
theorem bin_read {r : R2} {h : D → D → S → R D} {a b : Expr} {fa fb : S → R D} (sd : Snd2 X T W r h) : ∀ σ H Q, gD X.K T W (relD X.K T) (dBin h fa fb) σ H Q → tOp r (gD X.K T W (relD X.K T) fa) (gD X.K T W (relD X.K T) fb) σ H Q := by
  intro σ H Q ⟨c, G, st, hd, ok⟩
  obtain ⟨c0, G0, st0, hd0, ok0⟩ := step (rel := relD X.K T) hd ok
  refine ⟨c0, G0, st0, hd0, ok0.imp fun x H1 ⟨G1, st1, a, s1, hd1, r1, ok1⟩ => ?_⟩
  obtain ⟨c2, G2, st2, hd2, ok2⟩ := step (rel := relD X.K T) hd1 ok1
  exact ⟨c2, G2, st2, hd2, ok2.imp fun y H2 ⟨G3, st3, b, s3, hd3, r3, ok3⟩ => sd c G3 H2 σ st3 x y a b Q hd3 (r1.mono s3) r3 ok3⟩
theorem de_bin {op : Operator} {r : R2} {h : D → D → S → R D} {a b : Expr} {fa fb : S → R D} {pos : Pos} (ho : OpR X (binaryOp op) r) (sd : Snd2 X T W r h) (ha : DE X T W a fa) (hb : DE X T W b fb) :
    DE X T W (.BinOp a op b pos) (dBin h fa fb) := impE (pe_op ho ha hb) (bin_read (a := a) (b := b) sd)
theorem dOfB_bin {h : D → D → S → R Bool} {fa fb : S → R D} : dOfB (dBinB h fa fb) = dBin (fun a b st => toD (h a b st)) fa fb := by
  funext st
  unfold dOfB dBinB dBin toD R.bind
  cases fa st with
  | ok a s => dsimp only; cases fb s <;> rfl
  | err e s => rfl
  | stuck => rfl
theorem de_cmp {op : CmpOp} {r : R2} {h : D → D → S → R Bool} {a b : Expr} {fa fb : S → R D} {pos : Pos} (ho : OpR X (compareOp op) r) (sd : Snd2 X T W r fun a b st => toD (h a b st)) (ha : DE X T W a fa) (hb : DE X T W b fb)
    (hm : behindInMarks op b = false) : DE X T W (.Compare a [op] [b] pos) (dOfB (dBinB h fa fb)) := by
  rw [dOfB_bin]
  exact impE (pe_cmpR ho ha hb hm) (bin_read (a := a) (b := b) sd)
/-- what is wanted of a truth value, of the value True or False -/
theorem GOk.ofB {K : PySem.W.Frag} {c : Ctx} {G : Hp} {σ : SV} {r : R Bool} {Q : Bool → Hp → Prop} (ok : GOk K T W relB c G σ r Q) : GOk K T W (relD K T) c G σ (toD r) fun x H' => ∃ k, x = .bl k ∧ Q k H' := by
  cases r with
  | ok a s =>
    intro G' H' v s1 h1 r1
    cases r1
    exact ⟨a, rfl, ok G' H' a s1 h1 rfl⟩
  | err e s => exact ok
  | stuck => exact ok
theorem dt_cmp {op : CmpOp} {r : R2} {h : D → D → S → R Bool} {a b : Expr} {fa fb : S → R D} {pos : Pos} (ho : OpR X (compareOp op) r) (sd : Snd2 X T W r fun a b st => toD (h a b st)) (ha : DE X T W a fa) (hb : DE X T W b fb)
    (hm : behindInMarks op b = false) : DT X T W (.Compare a [op] [b] pos) (dBinB h fa fb) := by
  refine impT (pt_cmpR ho ha hb hm) fun σ H Q ⟨c, G, st, hd, ok⟩ => ?_
  refine bin_read (a := a) (b := b) sd σ H _ ⟨c, G, st, hd, ?_⟩
  have := GOk.ofB ok
  rw [show toD (dBinB h fa fb st) = dOfB (dBinB h fa fb) st from rfl, dOfB_bin] at this
  exact this

/-! ### one operand -/
def dUn (h : D → S → R D) (fa : S → R D) : S → R D := fun st => (fa st).bind h
theorem de_un {op : UnaryOp} {r : V → Hp → VK → Prop} {h : D → S → R D} {a : Expr} {fa : S → R D} {pos : Pos} (ho : UnR X (unaryOp op) r)
    (sd : ∀ (c : Ctx) (G H : Hp) (σ : SV) (st : S) (x : V) (a : D) (Q : VK), Holds X.K T c G H σ st → Rep X.K T c.B G x a → GOk X.K T W (relD X.K T) c G σ (h a st) Q → r x H Q) (ha : DE X T W a fa) : DE X T W (.UnaryOp op a pos) (dUn h fa) := by
  refine impE (pe_un ho ha) fun σ H Q ⟨c, G, st, hd, ok⟩ => ?_
  obtain ⟨c0, G0, st0, hd0, ok0⟩ := step (rel := relD X.K T) hd ok
  exact ⟨c0, G0, st0, hd0, ok0.imp fun x H1 ⟨G1, st1, a, s1, hd1, r1, ok1⟩ => sd c G1 H1 σ st1 x a Q hd1 r1 ok1⟩
def hNeg : D → S → R D
  | .int i, st => .ok (.int (-i)) st
  | _, _ => .stuck
theorem de_neg {a : Expr} {fa : S → R D} {pos : Pos} (ha : DE X T W a fa) : DE X T W (.UnaryOp .USub a pos) (dUn hNeg fa) :=
  de_un un_neg (fun c G H σ st x a Q hd r ok => by
    cases r <;> first | exact ok.elim | skip
    exact ⟨_, rfl, ok _ _ _ (Same.refl _) hd (.int _)⟩) ha

/-! ### ints -/
def hSub : D → D → S → R D
  | .int i, .int j, st => .ok (.int (i - j)) st
  | _, _, _ => .stuck
theorem de_sub {a b : Expr} {fa fb : S → R D} {pos : Pos} (ha : DE X T W a fa) (hb : DE X T W b fb) : DE X T W (.BinOp a .Sub b pos) (dBin hSub fa fb) :=
  de_bin op_sub (fun c G H σ st x y a b Q hd r1 r2 ok => by
    cases r1 <;> cases r2 <;> first | exact ok.elim | skip
    exact ⟨_, _, rfl, rfl, ok _ _ _ (Same.refl _) hd (.int _)⟩) ha hb
/-- a number that is short enough to be multiplied -/
def mulFits (i j : Int) : Bool := decide (i.natAbs.log2 + j.natAbs.log2 < 1000000)
def hMulI (i j : Int) (st : S) : R D := if -18446744073709551616 < i ∧ i < 18446744073709551616 ∨ -18446744073709551616 < j ∧ j < 18446744073709551616 then .ok (.int (i * j)) st else .stuck
def repD (xs : List D) (k : Nat) : List D := (List.replicate k xs).flatten
def hMul : D → D → S → R D
  | .int i, .int j, st => hMulI i j st
  | .ls xs, .int k, st => if -9223372036854775808 ≤ k ∧ k < 9223372036854775808 ∧ xs.length * k.toNat ≤ 16777216 then .ok (.ls (repD xs k.toNat)) st else .stuck
  | _, _, _ => .stuck
theorem Reps.rep {K : PySem.W.Frag} {B : Option Addr} {G : Hp} {vs : List V} {ds : List D} (h : Reps K T B G vs ds) : ∀ k : Nat, Reps K T B G (List.replicate k vs).flatten (List.replicate k ds).flatten
  | 0 => .nil
  | k + 1 => by
    rw [List.replicate_succ, List.replicate_succ, List.flatten_cons, List.flatten_cons]
    exact h.append (Reps.rep h k)
theorem de_mul {a b : Expr} {fa fb : S → R D} {pos : Pos} (ha : DE X T W a fa) (hb : DE X T W b fb) : DE X T W (.BinOp a .Mult b pos) (dBin hMul fa fb) :=
  de_bin (op_mul.or op_rep) (fun c G H σ st x y a b Q hd r1 r2 ok => by
    cases r1 <;> cases r2 <;> first | exact ok.elim | skip
    · rename_i i j
      have ok' : GOk X.K T W (relD X.K T) c G σ (hMulI i j st) Q := ok
      unfold hMulI at ok'
      by_cases q : -18446744073709551616 < i ∧ i < 18446744073709551616 ∨ -18446744073709551616 < j ∧ j < 18446744073709551616
      · rw [if_pos q] at ok'
        exact .inl ⟨_, _, rfl, rfl, q, ok' _ _ _ (Same.refl _) hd (.int _)⟩
      · rw [if_neg q] at ok'; exact ok'.elim
    · rename_i p vs ds h r k
      have ok' : GOk X.K T W (relD X.K T) c G σ (if -9223372036854775808 ≤ k ∧ k < 9223372036854775808 ∧ ds.length * k.toNat ≤ 16777216 then .ok (.ls (repD ds k.toNat)) st else .stuck) Q := ok
      by_cases q : -9223372036854775808 ≤ k ∧ k < 9223372036854775808 ∧ ds.length * k.toNat ≤ 16777216
      · rw [if_pos q] at ok'
        refine .inr ⟨p, k, vs, rfl, rfl, hd.sub _ _ h, q.1, q.2.1, by rw [r.length, sizeLine_eq]; exact q.2.2, fun l hl => ok' _ _ _ (same_upd (hd.gnone hl)) (hd.lay _ hl) (.ls upd_same ((r.mono (same_upd (hd.gnone hl))).rep _))⟩
      · rw [if_neg q] at ok'; exact ok'.elim) ha hb
def hMod : D → D → S → R D
  | .int i, .int j, st => if 0 < j then .ok (.int (i % j)) st else .stuck
  | _, _, _ => .stuck
theorem de_mod {a b : Expr} {fa fb : S → R D} {pos : Pos} (ha : DE X T W a fa) (hb : DE X T W b fb) : DE X T W (.BinOp a .Mod b pos) (dBin hMod fa fb) :=
  de_bin op_mod (fun c G H σ st x y a b Q hd r1 r2 ok => by
    cases r1 <;> cases r2 <;> first | exact ok.elim | skip
    rename_i i j
    have ok' : GOk X.K T W (relD X.K T) c G σ (if 0 < j then .ok (.int (i % j)) st else .stuck) Q := ok
    by_cases q : 0 < j
    · rw [if_pos q] at ok'
      exact ⟨_, _, rfl, rfl, q, ok' _ _ _ (Same.refl _) hd (.int _)⟩
    · rw [if_neg q] at ok'; exact ok'.elim) ha hb
def hDiv : D → D → S → R D
  | .int i, .int j, st => if 0 < j ∧ j.natAbs.log2 < 9000 then .ok (.int (i / j)) st else .stuck
  | _, _, _ => .stuck
theorem de_div {a b : Expr} {fa fb : S → R D} {pos : Pos} (ha : DE X T W a fa) (hb : DE X T W b fb) : DE X T W (.BinOp a .FloorDiv b pos) (dBin hDiv fa fb) :=
  de_bin op_fdivW (fun c G H σ st x y a b Q hd r1 r2 ok => by
    cases r1 <;> cases r2 <;> first | exact ok.elim | skip
    rename_i i j
    have ok' : GOk X.K T W (relD X.K T) c G σ (if 0 < j ∧ j.natAbs.log2 < 9000 then .ok (.int (i / j)) st else .stuck) Q := ok
    by_cases q : 0 < j ∧ j.natAbs.log2 < 9000
    · rw [if_pos q] at ok'
      exact ⟨_, _, rfl, rfl, q, ok' _ _ _ (Same.refl _) hd (.int _)⟩
    · rw [if_neg q] at ok'; exact ok'.elim) ha hb
def hPow : D → D → S → R D
  | .int i, .int j, st => if 0 ≤ j ∧ j ≤ 1000000 ∧ i.natAbs < 18446744073709551616 then .ok (.int (i ^ j.toNat)) st else .stuck
  | _, _, _ => .stuck
theorem de_pow {a b : Expr} {fa fb : S → R D} {pos : Pos} (ha : DE X T W a fa) (hb : DE X T W b fb) : DE X T W (.BinOp a .Pow b pos) (dBin hPow fa fb) :=
  de_bin op_pow (fun c G H σ st x y a b Q hd r1 r2 ok => by
    cases r1 <;> cases r2 <;> first | exact ok.elim | skip
    rename_i i j
    have ok' : GOk X.K T W (relD X.K T) c G σ (if 0 ≤ j ∧ j ≤ 1000000 ∧ i.natAbs < 18446744073709551616 then .ok (.int (i ^ j.toNat)) st else .stuck) Q := ok
    by_cases q : 0 ≤ j ∧ j ≤ 1000000 ∧ i.natAbs < 18446744073709551616
    · rw [if_pos q] at ok'
      exact ⟨_, _, rfl, rfl, q, ok' _ _ _ (Same.refl _) hd (.int _)⟩
    · rw [if_neg q] at ok'; exact ok'.elim) ha hb
/-- + of ints, texts, lists, tuples -/
def hAdd : D → D → S → R D
  | .int i, .int j, st => .ok (.int (i + j)) st
  | .str x, .str y, st => if x.length + y.length ≤ 16777216 then .ok (.str (x ++ y)) st else .stuck
  | .ls xs, .ls ys, st => if xs.length + ys.length ≤ 16777216 then .ok (.ls (xs ++ ys)) st else .stuck
  | .tu xs, .tu ys, st => if xs.length + ys.length ≤ 16777216 then .ok (.tu (xs ++ ys)) st else .stuck
  | _, _, _ => .stuck

theorem Reps.ne {K : PySem.W.Frag} {B : Option Addr} {G : Hp} {vs : List V} {ds : List D} (h : Reps K T B G vs ds) : vs = [] ↔ ds = [] := by
  cases h with
  | nil => simp
  | cons _ _ => simp
theorem add_rule : ∃ r : R2, OpR X (binaryOp .Add) r ∧ Snd2 X T W r hAdd :=
  ⟨_, (op_add.or (op_add_str.or (op_cat.or op_catA))), (fun c G H σ st x y a b Q hd r1 r2 ok => by
    cases r1 <;> cases r2 <;> first | exact ok.elim | skip
    · exact .inl ⟨_, _, rfl, rfl, ok _ _ _ (Same.refl _) hd (.int _)⟩
    · rename_i x y
      have ok' : GOk X.K T W (relD X.K T) c G σ (if x.length + y.length ≤ 16777216 then .ok (.str (x ++ y)) st else .stuck) Q := ok
      by_cases q : x.length + y.length ≤ 16777216
      · rw [if_pos q] at ok'
        exact .inr (.inl ⟨_, _, rfl, rfl, by rw [sizeLine_eq]; exact q, ok' _ _ _ (Same.refl _) hd (.str _)⟩)
      · rw [if_neg q] at ok'; exact ok'.elim
    · rename_i p vs ds h r p2 vs2 ds2 h2 r2
      have ok' : GOk X.K T W (relD X.K T) c G σ (if ds.length + ds2.length ≤ 16777216 then .ok (.ls (ds ++ ds2)) st else .stuck) Q := ok
      by_cases q : ds.length + ds2.length ≤ 16777216
      · rw [if_pos q] at ok'
        exact .inr (.inr (.inl ⟨_, _, _, _, rfl, rfl, hd.sub _ _ h, hd.sub _ _ h2, by rw [sizeLine_eq, r.length, r2.length]; exact q, fun l hl => ok' _ _ _ (same_upd (hd.gnone hl)) (hd.lay _ hl) (.ls upd_same ((r.append r2).mono (same_upd (hd.gnone hl))))⟩))
      · rw [if_neg q] at ok'; exact ok'.elim
    · rename_i p vs ds h r p2 vs2 ds2 h2 r2
      have ok' : GOk X.K T W (relD X.K T) c G σ (if ds.length + ds2.length ≤ 16777216 then .ok (.tu (ds ++ ds2)) st else .stuck) Q := ok
      by_cases q : ds.length + ds2.length ≤ 16777216
      · rw [if_pos q] at ok'
        refine .inr (.inr (.inr ⟨_, _, _, _, rfl, rfl, Same.sqt hd.sub h, Same.sqt hd.sub h2, by rw [sizeLine_eq, r.length, r2.length]; exact q, fun e => ?_, fun e1 e2 => ?_, fun e1 e2 l hl => ?_⟩))
        · have e' := r.ne.mp e
          subst e'
          exact ok' _ _ _ (Same.refl _) hd (.tu h2 r2)
        · have e' := r2.ne.mp e2
          subst e'
          exact ok' _ _ _ (Same.refl _) hd (.tu h (by rw [List.append_nil]; exact r))
        · exact ok' _ _ _ (same_upd (hd.gnone hl)) (hd.lay _ hl) (.tu (.inl (.inl upd_same)) ((r.append r2).mono (same_upd (hd.gnone hl))))
      · rw [if_neg q] at ok'; exact ok'.elim)⟩
theorem de_add {a b : Expr} {fa fb : S → R D} {pos : Pos} (ha : DE X T W a fa) (hb : DE X T W b fb) : DE X T W (.BinOp a .Add b pos) (dBin hAdd fa fb) := by
  obtain ⟨r, o, sd⟩ := add_rule (X := X) (T := T) (W := W)
  exact de_bin o sd ha hb

/-! ### comparisons -/
mutual
def toP : D → Option PyData
  | .non => some .none
  | .bl b => some (.bool b)
  | .int i => some (.int i)
  | .str x => some (.str x)
  | .ls xs => (toPs xs).map .list
  | .tu xs => (toPs xs).map .tuple
  | _ => none
def toPs : List D → Option (List PyData)
  | [] => some []
  | d :: ds => (toP d).bind fun p => (toPs ds).map fun ps => p :: ps
end
mutual
theorem toP_dp {K : PySem.W.Frag} {B : Option Addr} {G : Hp} : ∀ {v : V} {d : D} {p : PyData}, Rep K T B G v d → toP d = some p → Dp K G v p
  | _, _, _, .non, e => by cases e; exact .non
  | _, _, _, .bl b, e => by cases e; exact .bl b
  | _, _, _, .int i, e => by cases e; exact .int i
  | _, _, _, .str x, e => by cases e; exact .str x
  | _, _, p, .ls (ds := ds) h r, e => by
    have e' : (toPs ds).map .list = some p := by simpa only [toP] using e
    cases q : toPs ds with
    | none => rw [q] at e'; cases e'
    | some ps => rw [q] at e'; cases e'; exact .lst (SqL.of h) (toPs_dp r q)
  | _, _, p, .tu (ds := ds) h r, e => by
    have e' : (toPs ds).map .tuple = some p := by simpa only [toP] using e
    cases q : toPs ds with
    | none => rw [q] at e'; cases e'
    | some ps => rw [q] at e'; cases e'; exact .tup h (toPs_dp r q)
  | _, _, _, .ro h, e => by simp [toP] at e
  | _, _, _, .box h, e => by simp [toP] at e
  | _, _, _, .ob h l r, e => by simp [toP] at e
  | _, _, _, .er0 _ _, e => by simp [toP] at e
  | _, _, _, .er1 _ _ _ _, e => by simp [toP] at e
theorem toPs_dp {K : PySem.W.Frag} {B : Option Addr} {G : Hp} : ∀ {vs : List V} {ds : List D} {ps : List PyData}, Reps K T B G vs ds → toPs ds = some ps → DpAll K G vs ps
  | _, _, _, .nil, e => by simp [toPs] at e; subst e; exact .nil
  | _, _, ps, .cons (d := d) (ds := ds) h r, e => by
    have e' : (toP d).bind (fun p => (toPs ds).map fun ps => p :: ps) = some ps := by simpa only [toPs] using e
    cases q : toP d with
    | none => rw [q] at e'; cases e'
    | some p =>
      cases q2 : toPs ds with
      | none => rw [q, q2] at e'; cases e'
      | some ps2 => rw [q, q2] at e'; cases e'; exact .cons (toP_dp h q) (toPs_dp r q2)
end
mutual
theorem Dp.mono {K : PySem.W.Frag} {G H : Hp} (s : Same G H) : ∀ {v : V} {p : PyData}, Dp K G v p → Dp K H v p
  | _, _, .non => .non
  | _, _, .bl b => .bl b
  | _, _, .int i => .int i
  | _, _, .str x => .str x
  | _, _, .lst h r => .lst (s.seq h) (DpAll.mono s r)
  | _, _, .tup h r => .tup (Same.sqt s h) (DpAll.mono s r)
theorem DpAll.mono {K : PySem.W.Frag} {G H : Hp} (s : Same G H) : ∀ {vs : List V} {ps : List PyData}, DpAll K G vs ps → DpAll K H vs ps
  | _, _, .nil => .nil
  | _, _, .cons h r => .cons (Dp.mono s h) (DpAll.mono s r)
end
/-- ==, where it is plain data -/
def deq (a b : D) : Option Bool := match toP a, toP b with
  | some p, some q => if SeqAt.shaped p && SeqAt.shaped q then some (PyData.eqv p q) else none
  | _, _ => none
theorem deq_some {a b : D} {k : Bool} (h : deq a b = some k) : ∃ p q, toP a = some p ∧ toP b = some q ∧ SeqAt.shaped p = true ∧ SeqAt.shaped q = true ∧ k = PyData.eqv p q := by
  unfold deq at h
  cases hp : toP a with
  | none => rw [hp] at h; cases h
  | some p =>
    cases hq : toP b with
    | none => rw [hp, hq] at h; cases h
    | some q =>
      rw [hp, hq] at h
      dsimp only at h
      cases hc : (SeqAt.shaped p && SeqAt.shaped q) with
      | false => rw [hc] at h; cases h
      | true =>
        rw [hc, if_pos rfl] at h
        rw [Bool.and_eq_true] at hc
        exact ⟨p, q, rfl, rfl, hc.1, hc.2, (Option.some.inj h).symm⟩
def hEq (a b : D) (st : S) : R Bool := match deq a b with
  | some k => .ok k st
  | none => .stuck
def hNe (a b : D) (st : S) : R Bool := match deq a b with
  | some k => .ok (!k) st
  | none => .stuck
theorem snd_eq (hu : X.A.units + 64 < cLine) : Snd2 X T W (rEqD X.K) fun a b st => toD (hEq a b st) := fun c G H σ st x y a b Q hd r1 r2 ok => by
  replace ok : GOk X.K T W (relD X.K T) c G σ (toD (hEq a b st)) Q := ok
  unfold hEq at ok
  cases e : deq a b with
  | none => rw [e] at ok; exact ok.elim
  | some k =>
    rw [e] at ok
    obtain ⟨p, q, e1, e2, s1, s2, rfl⟩ := deq_some e
    exact ⟨p, q, Dp.mono hd.sub (toP_dp r1 e1), Dp.mono hd.sub (toP_dp r2 e2), s1, s2, ok _ _ _ (Same.refl _) hd (.bl _)⟩
theorem snd_ne (hu : X.A.units + 64 < cLine) : Snd2 X T W (rNeD X.K) fun a b st => toD (hNe a b st) := fun c G H σ st x y a b Q hd r1 r2 ok => by
  replace ok : GOk X.K T W (relD X.K T) c G σ (toD (hNe a b st)) Q := ok
  unfold hNe at ok
  cases e : deq a b with
  | none => rw [e] at ok; exact ok.elim
  | some k =>
    rw [e] at ok
    obtain ⟨p, q, e1, e2, s1, s2, rfl⟩ := deq_some e
    exact ⟨p, q, Dp.mono hd.sub (toP_dp r1 e1), Dp.mono hd.sub (toP_dp r2 e2), s1, s2, ok _ _ _ (Same.refl _) hd (.bl _)⟩
/-- an order: of ints, of texts -/
def hOrd (f : Int → Int → Bool) (g : Str → Str → Bool) : D → D → S → R Bool
  | .int i, .int j, st => .ok (f i j) st
  | .str x, .str y, st => .ok (g x y) st
  | _, _, _ => .stuck
abbrev hLt := hOrd (fun i j => decide (i < j)) (fun x y => decide (x.cps.toList < y.cps.toList))
abbrev hGt := hOrd (fun i j => decide (j < i)) (fun x y => decide (y.cps.toList < x.cps.toList))
abbrev hLe := hOrd (fun i j => decide (i ≤ j)) (fun x y => !decide (y.cps.toList < x.cps.toList))
abbrev hGe := hOrd (fun i j => decide (j ≤ i)) (fun x y => !decide (x.cps.toList < y.cps.toList))
theorem snd_ord {f : Int → Int → Bool} {g : Str → Str → Bool} : Snd2 X T W (fun x y H Q => rI0 (fun i j => .bl (f i j)) x y H Q ∨ ∃ i j, x = .str i ∧ y = .str j ∧ Q (.bl (g i j)) H) fun a b st => toD (hOrd f g a b st) := fun c G H σ st x y a b Q hd r1 r2 ok => by
  cases r1 <;> cases r2 <;> first | exact ok.elim | skip
  · exact .inl ⟨_, _, rfl, rfl, ok _ _ _ (Same.refl _) hd (.bl _)⟩
  · exact .inr ⟨_, _, rfl, rfl, ok _ _ _ (Same.refl _) hd (.bl _)⟩
/-- is None -/
def isNon : D → Bool
  | .non => true
  | _ => false
def hIsN (a b : D) (st : S) : R Bool := if isNon b then .ok (isNon a) st else .stuck
def hNotN (a b : D) (st : S) : R Bool := if isNon b then .ok (!isNon a) st else .stuck
theorem rep_non {K : PySem.W.Frag} {B : Option Addr} {G : Hp} {v : V} {d : D} (r : Rep K T B G v d) : decide (v = .non) = isNon d := by
  cases r <;> first | exact decide_eq_true rfl | exact decide_eq_false (fun z => by cases z)
theorem snd_isN : Snd2 X T W (fun x y H Q => y = .non ∧ Q (.bl (decide (x = .non))) H) fun a b st => toD (hIsN a b st) := fun c G H σ st x y a b Q hd r1 r2 ok => by
  replace ok : GOk X.K T W (relD X.K T) c G σ (toD (hIsN a b st)) Q := ok
  unfold hIsN at ok
  cases e : isNon b with
  | false => rw [e] at ok; exact ok.elim
  | true =>
    rw [e] at ok
    refine ⟨of_decide_eq_true ((rep_non r2).trans e), ?_⟩
    rw [rep_non r1]
    exact ok _ _ _ (Same.refl _) hd (.bl _)
theorem snd_notN : Snd2 X T W (fun x y H Q => y = .non ∧ Q (.bl (!decide (x = .non))) H) fun a b st => toD (hNotN a b st) := fun c G H σ st x y a b Q hd r1 r2 ok => by
  replace ok : GOk X.K T W (relD X.K T) c G σ (toD (hNotN a b st)) Q := ok
  unfold hNotN at ok
  cases e : isNon b with
  | false => rw [e] at ok; exact ok.elim
  | true =>
    rw [e] at ok
    refine ⟨of_decide_eq_true ((rep_non r2).trans e), ?_⟩
    rw [rep_non r1]
    exact ok _ _ _ (Same.refl _) hd (.bl _)
/-- in, of flat items -/
def flatD : D → Option V
  | .non => some .non
  | .bl b => some (.bl b)
  | .int i => some (.int i)
  | .str x => some (.str x)
  | _ => none
def flatDs : List D → Option (List V)
  | [] => some []
  | d :: ds => (flatD d).bind fun v => (flatDs ds).map fun vs => v :: vs
theorem flatD_rep {K : PySem.W.Frag} {B : Option Addr} {G : Hp} {v w : V} {d : D} (r : Rep K T B G v d) (h : flatD d = some w) : v = w ∧ flatV v = true := by
  cases r <;> simp [flatD] at h <;> subst h <;> exact ⟨rfl, rfl⟩
theorem flatDs_rep {K : PySem.W.Frag} {B : Option Addr} {G : Hp} : ∀ {vs ws : List V} {ds : List D}, Reps K T B G vs ds → flatDs ds = some ws → vs = ws ∧ vs.all flatV = true
  | _, _, _, .nil, h => by simp [flatDs] at h; subst h; exact ⟨rfl, rfl⟩
  | _, ws, _, .cons (d := d) (ds := ds) h r, e => by
    have e' : (flatD d).bind (fun v => (flatDs ds).map fun vs => v :: vs) = some ws := e
    cases q : flatD d with
    | none => rw [q] at e'; cases e'
    | some p =>
      cases q2 : flatDs ds with
      | none => rw [q, q2] at e'; cases e'
      | some ps2 =>
        rw [q, q2] at e'; cases e'
        obtain ⟨a1, a2⟩ := flatD_rep h q
        obtain ⟨b1, b2⟩ := flatDs_rep r q2
        subst a1 b1
        refine ⟨rfl, ?_⟩
        rw [List.all_cons, a2, b2]; rfl
def dIn (a b : D) : Option Bool := match b with
  | .ls ds => match flatD a, flatDs ds with
    | some v, some vs => some (inV v vs)
    | _, _ => none
  | .tu ds => match flatD a, flatDs ds with
    | some v, some vs => some (inV v vs)
    | _, _ => none
  | .str y => match a with
    | .str x => some (!(Builtin.Str.occurrences y x 0 y.length 1).isEmpty)
    | _ => none
  | _ => none
def hIn (a b : D) (st : S) : R Bool := match dIn a b with
  | some k => .ok k st
  | none => .stuck
def hNotIn (a b : D) (st : S) : R Bool := match dIn a b with
  | some k => .ok (!k) st
  | none => .stuck
theorem dIn_cases {K : PySem.W.Frag} {B : Option Addr} {G H : Hp} (s : Same G H) {x y : V} {a b : D} {k : Bool} (r1 : Rep K T B G x a) (r2 : Rep K T B G y b) (h : dIn a b = some k) :
    (∃ p xs, y = .ref p ∧ (SqL K H p xs ∨ SqT K H p xs) ∧ flatV x = true ∧ xs.all flatV = true ∧ k = inV x xs) ∨ ∃ i j, x = .str i ∧ y = .str j ∧ k = !(Builtin.Str.occurrences j i 0 j.length 1).isEmpty := by
  cases r2 with
  | ls hh r =>
    rename_i p vs ds
    have h' : (match flatD a, flatDs ds with | some v, some vs => some (inV v vs) | _, _ => none) = some k := h
    cases q : flatD a with
    | none => rw [q] at h'; cases h'
    | some v =>
      cases q2 : flatDs ds with
      | none => rw [q, q2] at h'; cases h'
      | some ws =>
        rw [q, q2] at h'; cases h'
        obtain ⟨a1, a2⟩ := flatD_rep r1 q
        obtain ⟨b1, b2⟩ := flatDs_rep r q2
        subst a1 b1
        exact .inl ⟨p, vs, rfl, .inl (SqL.of (s _ _ hh)), a2, b2, rfl⟩
  | tu hh r =>
    rename_i p vs ds
    have h' : (match flatD a, flatDs ds with | some v, some vs => some (inV v vs) | _, _ => none) = some k := h
    cases q : flatD a with
    | none => rw [q] at h'; cases h'
    | some v =>
      cases q2 : flatDs ds with
      | none => rw [q, q2] at h'; cases h'
      | some ws =>
        rw [q, q2] at h'; cases h'
        obtain ⟨a1, a2⟩ := flatD_rep r1 q
        obtain ⟨b1, b2⟩ := flatDs_rep r q2
        subst a1 b1
        exact .inl ⟨p, vs, rfl, .inr (Same.sqt s hh), a2, b2, rfl⟩
  | str z =>
    cases r1 <;> first | (cases h; done) | skip
    exact .inr ⟨_, _, rfl, rfl, (Option.some.inj h).symm⟩
  | non => cases h
  | bl _ => cases h
  | int _ => cases h
  | ro _ => cases h
  | box _ => cases h
  | ob _ _ _ => cases h
  | er0 _ _ => cases h
  | er1 _ _ _ _ => cases h
theorem snd_in : Snd2 X T W (fun x y H Q => rIn X.K false x y H Q ∨ ∃ i j, x = .str i ∧ y = .str j ∧ Q (.bl (!(Builtin.Str.occurrences j i 0 j.length 1).isEmpty)) H) fun a b st => toD (hIn a b st) := fun c G H σ st x y a b Q hd r1 r2 ok => by
  replace ok : GOk X.K T W (relD X.K T) c G σ (toD (hIn a b st)) Q := ok
  unfold hIn at ok
  cases e : dIn a b with
  | none => rw [e] at ok; exact ok.elim
  | some k =>
    rw [e] at ok
    have q := ok _ _ (.bl k) (Same.refl _) hd (.bl k)
    rcases dIn_cases hd.sub r1 r2 e with ⟨p, xs, rfl, h1, h2, h3, rfl⟩ | ⟨i, j, rfl, rfl, rfl⟩
    · exact .inl ⟨p, xs, rfl, h1, h2, h3, q⟩
    · exact .inr ⟨i, j, rfl, rfl, q⟩
theorem snd_notIn : Snd2 X T W (fun x y H Q => rIn X.K true x y H Q ∨ ∃ i j, x = .str i ∧ y = .str j ∧ Q (.bl (!(!(Builtin.Str.occurrences j i 0 j.length 1).isEmpty))) H) fun a b st => toD (hNotIn a b st) := fun c G H σ st x y a b Q hd r1 r2 ok => by
  replace ok : GOk X.K T W (relD X.K T) c G σ (toD (hNotIn a b st)) Q := ok
  unfold hNotIn at ok
  cases e : dIn a b with
  | none => rw [e] at ok; exact ok.elim
  | some k =>
    rw [e] at ok
    have q := ok _ _ (.bl (!k)) (Same.refl _) hd (.bl (!k))
    rcases dIn_cases hd.sub r1 r2 e with ⟨p, xs, rfl, h1, h2, h3, rfl⟩ | ⟨i, j, rfl, rfl, rfl⟩
    · exact .inl ⟨p, xs, rfl, h1, h2, h3, q⟩
    · exact .inr ⟨i, j, rfl, rfl, q⟩

theorem de_eq {a b : Expr} {fa fb : S → R D} {pos : Pos} (hu : X.A.units + 64 < cLine) (ha : DE X T W a fa) (hb : DE X T W b fb) : DE X T W (.Compare a [.Eq] [b] pos) (dOfB (dBinB hEq fa fb)) := de_cmp (op_eqD hu) (snd_eq hu) ha hb (nomark _)
theorem dt_eq {a b : Expr} {fa fb : S → R D} {pos : Pos} (hu : X.A.units + 64 < cLine) (ha : DE X T W a fa) (hb : DE X T W b fb) : DT X T W (.Compare a [.Eq] [b] pos) (dBinB hEq fa fb) := dt_cmp (op_eqD hu) (snd_eq hu) ha hb (nomark _)
theorem de_ne {a b : Expr} {fa fb : S → R D} {pos : Pos} (hu : X.A.units + 64 < cLine) (ha : DE X T W a fa) (hb : DE X T W b fb) : DE X T W (.Compare a [.NotEq] [b] pos) (dOfB (dBinB hNe fa fb)) := de_cmp (op_neD hu) (snd_ne hu) ha hb (nomark _)
theorem dt_ne {a b : Expr} {fa fb : S → R D} {pos : Pos} (hu : X.A.units + 64 < cLine) (ha : DE X T W a fa) (hb : DE X T W b fb) : DT X T W (.Compare a [.NotEq] [b] pos) (dBinB hNe fa fb) := dt_cmp (op_neD hu) (snd_ne hu) ha hb (nomark _)
theorem de_lt {a b : Expr} {fa fb : S → R D} {pos : Pos} (ha : DE X T W a fa) (hb : DE X T W b fb) : DE X T W (.Compare a [.Lt] [b] pos) (dOfB (dBinB hLt fa fb)) := de_cmp (op_lt.or op_lt_str) snd_ord ha hb (nomark _)
theorem dt_lt {a b : Expr} {fa fb : S → R D} {pos : Pos} (ha : DE X T W a fa) (hb : DE X T W b fb) : DT X T W (.Compare a [.Lt] [b] pos) (dBinB hLt fa fb) := dt_cmp (op_lt.or op_lt_str) snd_ord ha hb (nomark _)
theorem de_gt {a b : Expr} {fa fb : S → R D} {pos : Pos} (ha : DE X T W a fa) (hb : DE X T W b fb) : DE X T W (.Compare a [.Gt] [b] pos) (dOfB (dBinB hGt fa fb)) := de_cmp (op_gt.or op_gt_str) snd_ord ha hb (nomark _)
theorem dt_gt {a b : Expr} {fa fb : S → R D} {pos : Pos} (ha : DE X T W a fa) (hb : DE X T W b fb) : DT X T W (.Compare a [.Gt] [b] pos) (dBinB hGt fa fb) := dt_cmp (op_gt.or op_gt_str) snd_ord ha hb (nomark _)
theorem de_le {a b : Expr} {fa fb : S → R D} {pos : Pos} (ha : DE X T W a fa) (hb : DE X T W b fb) : DE X T W (.Compare a [.LtE] [b] pos) (dOfB (dBinB hLe fa fb)) := de_cmp (op_le.or op_le_str) snd_ord ha hb (nomark _)
theorem dt_le {a b : Expr} {fa fb : S → R D} {pos : Pos} (ha : DE X T W a fa) (hb : DE X T W b fb) : DT X T W (.Compare a [.LtE] [b] pos) (dBinB hLe fa fb) := dt_cmp (op_le.or op_le_str) snd_ord ha hb (nomark _)
theorem de_ge {a b : Expr} {fa fb : S → R D} {pos : Pos} (ha : DE X T W a fa) (hb : DE X T W b fb) : DE X T W (.Compare a [.GtE] [b] pos) (dOfB (dBinB hGe fa fb)) := de_cmp (op_ge.or op_ge_str) snd_ord ha hb (nomark _)
theorem dt_ge {a b : Expr} {fa fb : S → R D} {pos : Pos} (ha : DE X T W a fa) (hb : DE X T W b fb) : DT X T W (.Compare a [.GtE] [b] pos) (dBinB hGe fa fb) := dt_cmp (op_ge.or op_ge_str) snd_ord ha hb (nomark _)
theorem de_isN {a b : Expr} {fa fb : S → R D} {pos : Pos} (ha : DE X T W a fa) (hb : DE X T W b fb) : DE X T W (.Compare a [.Is] [b] pos) (dOfB (dBinB hIsN fa fb)) := de_cmp op_isN snd_isN ha hb (nomark _)
theorem dt_isN {a b : Expr} {fa fb : S → R D} {pos : Pos} (ha : DE X T W a fa) (hb : DE X T W b fb) : DT X T W (.Compare a [.Is] [b] pos) (dBinB hIsN fa fb) := dt_cmp op_isN snd_isN ha hb (nomark _)
theorem de_notN {a b : Expr} {fa fb : S → R D} {pos : Pos} (ha : DE X T W a fa) (hb : DE X T W b fb) : DE X T W (.Compare a [.IsNot] [b] pos) (dOfB (dBinB hNotN fa fb)) := de_cmp op_notN snd_notN ha hb (nomark _)
theorem dt_notN {a b : Expr} {fa fb : S → R D} {pos : Pos} (ha : DE X T W a fa) (hb : DE X T W b fb) : DT X T W (.Compare a [.IsNot] [b] pos) (dBinB hNotN fa fb) := dt_cmp op_notN snd_notN ha hb (nomark _)
theorem de_in {a b : Expr} {fa fb : S → R D} {pos : Pos} (ha : DE X T W a fa) (hb : DE X T W b fb) (hm : behindInMarks .In b = false := by rfl) : DE X T W (.Compare a [.In] [b] pos) (dOfB (dBinB hIn fa fb)) := de_cmp (op_in_seq.or op_in_str) snd_in ha hb hm
theorem dt_in {a b : Expr} {fa fb : S → R D} {pos : Pos} (ha : DE X T W a fa) (hb : DE X T W b fb) (hm : behindInMarks .In b = false := by rfl) : DT X T W (.Compare a [.In] [b] pos) (dBinB hIn fa fb) := dt_cmp (op_in_seq.or op_in_str) snd_in ha hb hm
theorem de_notIn {a b : Expr} {fa fb : S → R D} {pos : Pos} (ha : DE X T W a fa) (hb : DE X T W b fb) (hm : behindInMarks .NotIn b = false := by rfl) : DE X T W (.Compare a [.NotIn] [b] pos) (dOfB (dBinB hNotIn fa fb)) := de_cmp (op_notIn_seq.or op_notIn_str) snd_notIn ha hb hm
theorem dt_notIn {a b : Expr} {fa fb : S → R D} {pos : Pos} (ha : DE X T W a fa) (hb : DE X T W b fb) (hm : behindInMarks .NotIn b = false := by rfl) : DT X T W (.Compare a [.NotIn] [b] pos) (dBinB hNotIn fa fb) := dt_cmp (op_notIn_seq.or op_notIn_str) snd_notIn ha hb hm
end
end DL

/-! DLc: tests, displays, subscripts, slices, calls. -/
namespace DL
open PySem PySem.Spec PyProof.Rows L2
section
variable {X : Cx} {T : Tab} {W : WX}
/-! ### tests -/
def truD : D → Option Bool
  | .non => some false
  | .bl b => some b
  | .int i => some (i != 0)
  | .str y => if y.length ≤ 16777216 then some ((y.length : Int) != 0) else none
  | .ls xs => some (!xs.isEmpty)
  | .tu xs => some (!xs.isEmpty)
  | .ro xs => some (!xs.isEmpty)
  | _ => none
def hTru (d : D) (st : S) : R Bool := match truD d with
  | some k => .ok k st
  | none => .stuck
def dTru (f : S → R D) : S → R Bool := fun st => (f st).bind hTru
theorem Reps.isEmpty {K : PySem.W.Frag} {B : Option Addr} {G : Hp} {vs : List V} {ds : List D} (h : Reps K T B G vs ds) : vs.isEmpty = ds.isEmpty := by
  cases h <;> rfl
theorem truV_of {K : PySem.W.Frag} {B : Option Addr} {G H : Hp} (s : Same G H) {v : V} {d : D} {k : Bool} (r : Rep K T B G v d) (e : truD d = some k) : TruV K v H k := by
  cases r with
  | non => cases e; rfl
  | bl b => cases e; rfl
  | int i => cases e; rfl
  | str x =>
    have e' : (if x.length ≤ 16777216 then some ((x.length : Int) != 0) else none) = some k := e
    by_cases q : x.length ≤ 16777216
    · rw [if_pos q] at e'; cases e'; exact ⟨by rw [sizeLine_eq]; exact q, rfl⟩
    · rw [if_neg q] at e'; cases e'
  | ls h r => cases e; exact .inl ⟨_, SqL.of (s _ _ h), by rw [r.isEmpty]⟩
  | tu h r => cases e; exact .inr (.inl ⟨_, Same.sqt s h, by rw [r.isEmpty]⟩)
  | ro h => cases e; exact .inl ⟨_, s.seq h, by rw [List.isEmpty_map]⟩
  | box h => cases e
  | ob _ _ _ => cases e
  | er0 _ _ => cases e
  | er1 _ _ _ _ => cases e
theorem dt_tru {a : Expr} {fa : S → R D} (ha : DE X T W a fa) (he : ∀ whole, isTrue a X.env whole = (do let v ← whole; standAt a.pos; holding [v] (truthy v)) := by intro _; rfl) : DT X T W a (dTru fa) := by
  refine impT (pt_truth ha he) fun σ H Q ⟨c, G, st, hd, ok⟩ => ?_
  obtain ⟨c0, G0, st0, hd0, ok0⟩ := step (rel := relD X.K T) hd ok
  refine ⟨c0, G0, st0, hd0, ok0.imp fun x H1 ⟨G1, st1, a, s1, hd1, r1, ok1⟩ => ?_⟩
  unfold hTru at ok1
  cases e : truD a with
  | none => rw [e] at ok1; exact ok1.elim
  | some k => rw [e] at ok1; exact ⟨k, truV_of hd1.sub r1 e, ok1 _ _ _ (Same.refl _) hd1 rfl⟩
def dNot (f : S → R Bool) : S → R Bool := fun st => (f st).bind fun k st => .ok (!k) st
theorem dt_not {a : Expr} {f : S → R Bool} {pos : Pos} (ha : DT X T W a f) : DT X T W (.UnaryOp .Not a pos) (dNot f) := by
  refine impT (pt_not ha) fun σ H Q ⟨c, G, st, hd, ok⟩ => ?_
  obtain ⟨c0, G0, st0, hd0, ok0⟩ := step (rel := relB) hd ok
  exact ⟨c0, G0, st0, hd0, ok0.imp fun k H1 ⟨G1, st1, a, s1, hd1, r1, ok1⟩ => by cases r1; exact ok1 _ _ _ (Same.refl _) hd1 rfl⟩
def dAnd (f g : S → R Bool) : S → R Bool := fun st => (f st).bind fun k st => if k = true then g st else .ok false st
def dOr (f g : S → R Bool) : S → R Bool := fun st => (f st).bind fun k st => if k = true then .ok true st else g st
theorem dw_and1 {a : Expr} {f : S → R Bool} {pos : Pos} (ha : DT X T W a f) : DW X T W (.BoolOp .And [a] pos) f := pw_and1 ha
theorem dw_or1 {a : Expr} {f : S → R Bool} {pos : Pos} (ha : DT X T W a f) : DW X T W (.BoolOp .Or [a] pos) f := pw_or1 ha
theorem dw_and {a b : Expr} {rest : List Expr} {f g : S → R Bool} {pos : Pos} (ha : DT X T W a f) (hb : DW X T W (.BoolOp .And (b :: rest) pos) g) : DW X T W (.BoolOp .And (a :: b :: rest) pos) (dAnd f g) := by
  refine impW (pw_and ha hb) fun σ H Q ⟨c, G, st, hd, ok⟩ => ?_
  obtain ⟨c0, G0, st0, hd0, ok0⟩ := step (rel := relB) hd ok
  refine ⟨c0, G0, st0, hd0, ok0.imp fun k H1 ⟨G1, st1, a, s1, hd1, r1, ok1⟩ => ?_⟩
  cases r1
  cases k with
  | true => rw [if_pos rfl] at ok1 ⊢; exact ⟨_, G1, st1, hd1, ok1⟩
  | false => rw [if_neg Bool.false_ne_true] at ok1 ⊢; exact ok1 _ _ _ (Same.refl _) hd1 rfl
theorem dw_or {a b : Expr} {rest : List Expr} {f g : S → R Bool} {pos : Pos} (ha : DT X T W a f) (hb : DW X T W (.BoolOp .Or (b :: rest) pos) g) : DW X T W (.BoolOp .Or (a :: b :: rest) pos) (dOr f g) := by
  refine impW (pw_or ha hb) fun σ H Q ⟨c, G, st, hd, ok⟩ => ?_
  obtain ⟨c0, G0, st0, hd0, ok0⟩ := step (rel := relB) hd ok
  refine ⟨c0, G0, st0, hd0, ok0.imp fun k H1 ⟨G1, st1, a, s1, hd1, r1, ok1⟩ => ?_⟩
  cases r1
  cases k with
  | true => rw [if_pos rfl] at ok1 ⊢; exact ok1 _ _ _ (Same.refl _) hd1 rfl
  | false => rw [if_neg Bool.false_ne_true] at ok1 ⊢; exact ⟨_, G1, st1, hd1, ok1⟩
theorem dt_bool {e : Expr} {f : S → R Bool} (h : DW X T W e f) : DT X T W e f := PW.pt h
/-- as values -/
def dAndV (f g : S → R D) : S → R D := fun st => (f st).bind fun x st => (hTru x st).bind fun k st => if k = true then g st else .ok x st
def dOrV (f g : S → R D) : S → R D := fun st => (f st).bind fun x st => (hTru x st).bind fun k st => if k = true then .ok x st else g st
def dNotV (f : S → R D) : S → R D := fun st => (f st).bind fun x st => (hTru x st).bind fun k st => .ok (.bl (!k)) st
theorem de_one {op : BoolOp} {a : Expr} {f : S → R D} {pos : Pos} (ha : DE X T W a f) : DE X T W (.BoolOp op [a] pos) f := pe_one ha
theorem de_and {a b : Expr} {rest : List Expr} {f g : S → R D} {pos : Pos} (ha : DE X T W a f) (hb : DE X T W (.BoolOp .And (b :: rest) pos) g) : DE X T W (.BoolOp .And (a :: b :: rest) pos) (dAndV f g) := by
  refine impE (pe_andT ha hb) fun σ H Q ⟨c, G, st, hd, ok⟩ => ?_
  obtain ⟨c0, G0, st0, hd0, ok0⟩ := step (rel := relD X.K T) hd ok
  refine ⟨c0, G0, st0, hd0, ok0.imp fun x H1 ⟨G1, st1, a, s1, hd1, r1, ok1⟩ => ?_⟩
  unfold hTru at ok1
  cases e : truD a with
  | none => rw [e] at ok1; exact ok1.elim
  | some k =>
    rw [e] at ok1
    refine ⟨k, truV_of hd1.sub r1 e, ?_⟩
    replace ok1 : GOk X.K T W (relD X.K T) c G1 σ (if k = true then g st1 else .ok a st1) Q := ok1
    cases k with
    | true => rw [if_pos rfl] at ok1 ⊢; exact ⟨_, G1, st1, hd1, ok1⟩
    | false => rw [if_neg Bool.false_ne_true] at ok1 ⊢; exact ok1 _ _ _ (Same.refl _) hd1 r1
theorem de_or {a b : Expr} {rest : List Expr} {f g : S → R D} {pos : Pos} (ha : DE X T W a f) (hb : DE X T W (.BoolOp .Or (b :: rest) pos) g) : DE X T W (.BoolOp .Or (a :: b :: rest) pos) (dOrV f g) := by
  refine impE (pe_orT ha hb) fun σ H Q ⟨c, G, st, hd, ok⟩ => ?_
  obtain ⟨c0, G0, st0, hd0, ok0⟩ := step (rel := relD X.K T) hd ok
  refine ⟨c0, G0, st0, hd0, ok0.imp fun x H1 ⟨G1, st1, a, s1, hd1, r1, ok1⟩ => ?_⟩
  unfold hTru at ok1
  cases e : truD a with
  | none => rw [e] at ok1; exact ok1.elim
  | some k =>
    rw [e] at ok1
    refine ⟨k, truV_of hd1.sub r1 e, ?_⟩
    replace ok1 : GOk X.K T W (relD X.K T) c G1 σ (if k = true then .ok a st1 else g st1) Q := ok1
    cases k with
    | true => rw [if_pos rfl] at ok1 ⊢; exact ok1 _ _ _ (Same.refl _) hd1 r1
    | false => rw [if_neg Bool.false_ne_true] at ok1 ⊢; exact ⟨_, G1, st1, hd1, ok1⟩
theorem de_not {a : Expr} {f : S → R D} {pos : Pos} (ha : DE X T W a f) : DE X T W (.UnaryOp .Not a pos) (dNotV f) := by
  refine impE (pe_notT ha) fun σ H Q ⟨c, G, st, hd, ok⟩ => ?_
  obtain ⟨c0, G0, st0, hd0, ok0⟩ := step (rel := relD X.K T) hd ok
  refine ⟨c0, G0, st0, hd0, ok0.imp fun x H1 ⟨G1, st1, a, s1, hd1, r1, ok1⟩ => ?_⟩
  unfold hTru at ok1
  cases e : truD a with
  | none => rw [e] at ok1; exact ok1.elim
  | some k => rw [e] at ok1; exact ⟨k, truV_of hd1.sub r1 e, ok1 _ _ _ (Same.refl _) hd1 (.bl _)⟩
def dIfE (t : S → R Bool) (f g : S → R D) : S → R D := fun st => (t st).bind fun k st => if k = true then f st else g st
theorem de_ifE {t a b : Expr} {ft : S → R Bool} {f g : S → R D} {pos : Pos} (ht : DT X T W t ft) (ha : DE X T W a f) (hb : DE X T W b g) : DE X T W (.IfExp t a b pos) (dIfE ft f g) := by
  refine impE (pe_ifExp ht ha hb) fun σ H Q ⟨c, G, st, hd, ok⟩ => ?_
  obtain ⟨c0, G0, st0, hd0, ok0⟩ := step (rel := relB) hd ok
  refine ⟨c0, G0, st0, hd0, ok0.imp fun k H1 ⟨G1, st1, a, s1, hd1, r1, ok1⟩ => ?_⟩
  cases r1
  cases k with
  | true => rw [if_pos rfl] at ok1 ⊢; exact ⟨_, G1, st1, hd1, ok1⟩
  | false => rw [if_neg Bool.false_ne_true] at ok1 ⊢; exact ⟨_, G1, st1, hd1, ok1⟩
/-- a < b < c -/
def dChain (h h' : D → D → S → R Bool) (fa fb fc : S → R D) : S → R D := fun st => (fa st).bind fun x st => (fb st).bind fun y st => (h x y st).bind fun k st => if k = true then (fc st).bind fun z st => toD (h' y z st) else .ok (.bl false) st
theorem de_chain {op op' : CmpOp} {r r' : R2} {h h' : D → D → S → R Bool} {a b e : Expr} {fa fb fc : S → R D} {pos : Pos} (ho : OpR X (compareOp op) r) (ho' : OpR X (compareOp op') r')
    (sd : Snd2 X T W r fun a b st => toD (h a b st)) (sd' : Snd2 X T W r' fun a b st => toD (h' a b st))
    (ha : DE X T W a fa) (hb : DE X T W b fb) (hc : DE X T W e fc) (hm : lastMarks [op, op'] [b, e] = false := by with_unfolding_all rfl) : DE X T W (.Compare a [op, op'] [b, e] pos) (dChain h h' fa fb fc) := by
  refine impE (pe_chain ho ho' ha hb hc hm) fun σ H Q ⟨c, G, st, hd, ok⟩ => ?_
  obtain ⟨c0, G0, st0, hd0, ok0⟩ := step (rel := relD X.K T) hd ok
  refine ⟨c0, G0, st0, hd0, ok0.imp fun x H1 ⟨G1, st1, a, s1, hd1, r1, ok1⟩ => ?_⟩
  obtain ⟨c2, G2, st2, hd2, ok2⟩ := step (rel := relD X.K T) hd1 ok1
  refine ⟨c2, G2, st2, hd2, ok2.imp fun y H2 ⟨G3, st3, b, s3, hd3, r3, ok3⟩ => ?_⟩
  refine sd c G3 H2 σ st3 x y a b _ hd3 (r1.mono s3) r3 ?_
  have q : GOk X.K T W (relB) c G3 σ (h a b st3) (fun k H' => ∃ G4 st4, Same G3 G4 ∧ Holds X.K T c G4 H' σ st4 ∧ GOk X.K T W (relD X.K T) c G4 σ (if k = true then (fc st4).bind fun z st => toD (h' b z st) else .ok (.bl false) st4) Q) := by
    revert ok3
    cases h a b st3 with
    | ok k s4 => exact fun ok3 G' H' v s h e => by cases e; exact ⟨G', s4, s, h, GOk.mono s ok3⟩
    | err e s => exact fun ok3 => ok3
    | stuck => exact fun ok3 => ok3
  refine (GOk.ofB q).imp fun z H3 ⟨k, e, G4, st4, s4, hd4, ok4⟩ => ⟨k, e, ?_⟩
  cases k with
  | true =>
    rw [if_pos rfl] at ok4 ⊢
    obtain ⟨c5, G5, st5, hd5, ok5⟩ := step (rel := relD X.K T) hd4 ok4
    exact ⟨c5, G5, st5, hd5, ok5.imp fun z H4 ⟨G6, st6, d, s6, hd6, r6, ok6⟩ => sd' c G6 H4 σ st6 y z b d Q hd6 ((r3.mono s4).mono s6) r6 ok6⟩
  | false => rw [if_neg Bool.false_ne_true] at ok4 ⊢; exact ok4 _ _ _ (Same.refl _) hd4 (.bl _)

/-! ### displays -/
def dNil : S → R (List D) := fun st => .ok [] st
def dCons (f : S → R D) (g : S → R (List D)) : S → R (List D) := fun st => (f st).bind fun x st => (g st).bind fun xs st => .ok (x :: xs) st
theorem da_nil : DA X T W [] dNil := impA pa_nil fun σ H Q ⟨c, G, st, hd, ok⟩ => ok _ _ _ (Same.refl _) hd .nil
theorem da_cons {e : Expr} {es : List Expr} {f : S → R D} {g : S → R (List D)} (he : DE X T W e f) (hr : DA X T W es g) (hs : starEach (e :: es) X.env = (false, eval e X.env) :: starEach es X.env := by rfl) : DA X T W (e :: es) (dCons f g) := by
  refine impA (pa_cons he hr hs) fun σ H Q ⟨c, G, st, hd, ok⟩ => ?_
  obtain ⟨c0, G0, st0, hd0, ok0⟩ := step (rel := relD X.K T) hd ok
  refine ⟨c0, G0, st0, hd0, ok0.imp fun x H1 ⟨G1, st1, a, s1, hd1, r1, ok1⟩ => ?_⟩
  obtain ⟨c2, G2, st2, hd2, ok2⟩ := step (rel := relA X.K T) hd1 ok1
  exact ⟨c2, G2, st2, hd2, ok2.imp fun y H2 ⟨G3, st3, b, s3, hd3, r3, ok3⟩ => ok3 _ _ _ (Same.refl _) hd3 (.cons (r1.mono s3) r3)⟩
def hTu (xs : List D) (st : S) : R D := if xs.length ≤ 16777216 then .ok (.tu xs) st else .stuck
def hLs (xs : List D) (st : S) : R (List D) := if xs.length ≤ 16777216 then .ok xs st else .stuck
def dTup (g : S → R (List D)) : S → R D := fun st => (g st).bind hTu
def dLst (g : S → R (List D)) : S → R (List D) := fun st => (g st).bind hLs
theorem de_tup {es : List Expr} {g : S → R (List D)} {x1} {pos : Pos} (h : DA X T W es g) : DE X T W (.Tuple es x1 pos) (dTup g) := by
  refine impE (pe_tup h) fun σ H Q ⟨c, G, st, hd, ok⟩ => ?_
  obtain ⟨c0, G0, st0, hd0, ok0⟩ := step (rel := relA X.K T) hd ok
  refine ⟨c0, G0, st0, hd0, ok0.imp fun vs H1 ⟨G1, st1, a, s1, hd1, r1, ok1⟩ => ?_⟩
  unfold hTu at ok1
  by_cases q : a.length ≤ 16777216
  · rw [if_pos q] at ok1
    exact ⟨by rw [sizeLine_eq, r1.length]; exact q, fun p hp => ok1 _ _ _ (same_upd (hd1.gnone hp)) (hd1.lay _ hp) (.tu (.inl (.inl upd_same)) (r1.mono (same_upd (hd1.gnone hp))))⟩
  · rw [if_neg q] at ok1; exact ok1.elim
theorem df_lst {es : List Expr} {g : S → R (List D)} {pos : Pos} (h : DA X T W es g) : DF X T W (.List es pos) (dLst g) := by
  refine impE (pe_lst h) fun σ H Q ⟨c, G, st, hd, ok⟩ => ?_
  obtain ⟨c0, G0, st0, hd0, ok0⟩ := step (rel := relA X.K T) hd ok
  refine ⟨c0, G0, st0, hd0, ok0.imp fun vs H1 ⟨G1, st1, a, s1, hd1, r1, ok1⟩ => ?_⟩
  unfold hLs at ok1
  by_cases q : a.length ≤ 16777216
  · rw [if_pos q] at ok1
    refine ⟨by rw [sizeLine_eq, r1.length]; exact q, fun p hp => ?_⟩
    obtain ⟨h2, r2⟩ := hd1.fresh hp r1
    exact ok1 _ _ _ (Same.refl _) h2 r2
  · rw [if_neg q] at ok1; exact ok1.elim
/-- a new list, handed on -/
def dClose (f : S → R (List D)) : S → R D := fun st => (f st).bind fun ds st => .ok (.ls ds) st
theorem de_new {e : Expr} {f : S → R (List D)} (h : DF X T W e f) : DE X T W e (dClose f) := by
  refine impE h fun σ H Q ⟨c, G, st, hd, ok⟩ => ?_
  obtain ⟨c0, G0, st0, hd0, ok0⟩ := step (rel := relF X.K T) hd ok
  refine ⟨c0, G0, st0, hd0, ok0.imp fun v H1 ⟨G1, st1, a, s1, hd1, r1, ok1⟩ => ?_⟩
  obtain ⟨G2, s2, hd2, r2⟩ := r1.close hd1
  exact ok1 _ _ _ s2 hd2 r2
/-- xs + ys, kept -/
def hCat : D → D → S → R (List D)
  | .ls xs, .ls ys, st => if xs.length + ys.length ≤ 16777216 then .ok (xs ++ ys) st else .stuck
  | _, _, _ => .stuck
def dCat (fa fb : S → R D) : S → R (List D) := fun st => (fa st).bind fun x st => (fb st).bind fun y st => hCat x y st
theorem df_cat {a b : Expr} {fa fb : S → R D} {pos : Pos} (ha : DE X T W a fa) (hb : DE X T W b fb) : DF X T W (.BinOp a .Add b pos) (dCat fa fb) := by
  refine impE (pe_op op_cat ha hb) fun σ H Q ⟨c, G, st, hd, ok⟩ => ?_
  obtain ⟨c0, G0, st0, hd0, ok0⟩ := step (rel := relD X.K T) hd ok
  refine ⟨c0, G0, st0, hd0, ok0.imp fun x H1 ⟨G1, st1, a, s1, hd1, r1, ok1⟩ => ?_⟩
  obtain ⟨c2, G2, st2, hd2, ok2⟩ := step (rel := relD X.K T) hd1 ok1
  refine ⟨c2, G2, st2, hd2, ok2.imp fun y H2 ⟨G3, st3, b, s3, hd3, r3, ok3⟩ => ?_⟩
  replace r1 := r1.mono s3
  cases r1 with
  | @ls p vs ds h r =>
    cases r3 with
    | @ls p2 vs2 ds2 h2 r2 =>
      have ok' : GOk X.K T W (relF X.K T) c G3 σ (if ds.length + ds2.length ≤ 16777216 then .ok (ds ++ ds2) st3 else .stuck) Q := ok3
      by_cases q : ds.length + ds2.length ≤ 16777216
      · rw [if_pos q] at ok'
        refine ⟨_, _, _, _, rfl, rfl, hd3.sub _ _ h, hd3.sub _ _ h2, by rw [sizeLine_eq, r.length, r2.length]; exact q, fun l hl => ?_⟩
        obtain ⟨h4, r4⟩ := hd3.fresh hl (r.append r2)
        exact ok' _ _ _ (Same.refl _) h4 r4
      · rw [if_neg q] at ok'; exact ok'.elim
    | _ => exact ok3.elim
  | _ => cases r3 <;> exact ok3.elim

/-! ### subscripts -/
def ixD : D → D → Option D
  | .ls xs, .int i => atI xs i
  | .tu xs, .int i => atI xs i
  | .ro ns, .int i => (atI ns i).map .int
  | .str z, .int i => if z.length ≤ 16777216 then (atI z.cps.toList i).map fun c => .str ⟨#[c]⟩ else none
  | _, _ => none
def hIx (a b : D) (st : S) : R D := match a, b with
  | .box, .int i => match atI [st.bx.1, st.bx.2.1, st.bx.2.2] i with
    | some n => .ok (.int n) st
    | none => .stuck
  | a, b => match ixD a b with
    | some d => .ok d st
    | none => .stuck
theorem Reps.atI {K : PySem.W.Frag} {B : Option Addr} {G : Hp} {vs : List V} {ds : List D} {i : Int} {d : D} (r : Reps K T B G vs ds) (h : L2.atI ds i = some d) : ∃ v, L2.atI vs i = some v ∧ Rep K T B G v d := by
  unfold L2.atI at h ⊢
  rw [← r.length] at h
  cases e : ixN vs.length i with
  | none => rw [e] at h; cases h
  | some j =>
    rw [e] at h
    obtain ⟨v, e1, e2⟩ := r.get' (i := j) (d := d) h
    exact ⟨v, e1, e2⟩
theorem atI_map {α β : Type} (f : α → β) (xs : List α) (i : Int) : L2.atI (xs.map f) i = (L2.atI xs i).map f := by
  unfold L2.atI
  rw [List.length_map]
  cases ixN xs.length i with
  | none => rfl
  | some j => exact List.getElem?_map
theorem snd_ix : Snd2 X T W (rIx X.K) hIx := fun c G H σ st x y a b Q hd r1 r2 ok => by
  cases r2 with
  | int i =>
    cases r1 with
    | non => exact ok.elim
    | bl _ => exact ok.elim
    | int _ => exact ok.elim
    | ob _ _ _ => exact ok.elim
    | er0 _ _ => exact ok.elim
    | er1 _ _ _ _ => exact ok.elim
    | str z =>
      have ok' : GOk X.K T W (relD X.K T) c G σ (match (if z.length ≤ 16777216 then (atI z.cps.toList i).map fun c => D.str ⟨#[c]⟩ else none) with | some d => .ok d st | none => .stuck) Q := ok
      by_cases q : z.length ≤ 16777216
      · rw [if_pos q] at ok'
        cases e : L2.atI z.cps.toList i with
        | none => rw [e] at ok'; exact ok'.elim
        | some ch => rw [e] at ok'; exact .inr (.inr ⟨z, i, ch, rfl, rfl, by rw [sizeLine_eq]; exact q, e, ok' _ _ _ (Same.refl _) hd (.str _)⟩)
      · rw [if_neg q] at ok'; exact ok'.elim
    | ls h r =>
      rename_i p vs ds
      have ok' : GOk X.K T W (relD X.K T) c G σ (match L2.atI ds i with | some d => .ok d st | none => .stuck) Q := ok
      cases e : L2.atI ds i with
      | none => rw [e] at ok'; exact ok'.elim
      | some d =>
        rw [e] at ok'
        obtain ⟨v, e1, e2⟩ := r.atI e
        exact .inl ⟨p, vs, i, v, rfl, rfl, SqL.of (hd.sub _ _ h), e1, ok' _ _ _ (Same.refl _) hd e2⟩
    | tu h r =>
      rename_i p vs ds
      have ok' : GOk X.K T W (relD X.K T) c G σ (match L2.atI ds i with | some d => .ok d st | none => .stuck) Q := ok
      cases e : L2.atI ds i with
      | none => rw [e] at ok'; exact ok'.elim
      | some d =>
        rw [e] at ok'
        obtain ⟨v, e1, e2⟩ := r.atI e
        exact .inr (.inl ⟨p, vs, i, v, rfl, rfl, Same.sqt hd.sub h, e1, ok' _ _ _ (Same.refl _) hd e2⟩)
    | ro h =>
      rename_i p ns
      have ok' : GOk X.K T W (relD X.K T) c G σ (match (L2.atI ns i).map D.int with | some d => .ok d st | none => .stuck) Q := ok
      cases e : L2.atI ns i with
      | none => rw [e] at ok'; exact ok'.elim
      | some n =>
        rw [e] at ok'
        exact .inl ⟨p, _, i, .int n, rfl, rfl, hd.sub.seq h, by rw [atI_map, e]; rfl, ok' _ _ _ (Same.refl _) hd (.int _)⟩
    | box h =>
      rename_i p
      have ok' : GOk X.K T W (relD X.K T) c G σ (match L2.atI [st.bx.1, st.bx.2.1, st.bx.2.2] i with | some n => .ok (.int n) st | none => .stuck) Q := ok
      cases e : L2.atI [st.bx.1, st.bx.2.1, st.bx.2.2] i with
      | none => rw [e] at ok'; exact ok'.elim
      | some n =>
        rw [e] at ok'
        exact .inl ⟨p, [st.bx.1, st.bx.2.1, st.bx.2.2].map V.int, i, .int n, rfl, rfl, SqL.of (hd.box p h).1, by rw [atI_map, e]; rfl, ok' _ _ _ (Same.refl _) hd (.int _)⟩
  | non => cases r1 <;> exact ok.elim
  | bl _ => cases r1 <;> exact ok.elim
  | str _ => cases r1 <;> exact ok.elim
  | ls _ _ => cases r1 <;> exact ok.elim
  | tu _ _ => cases r1 <;> exact ok.elim
  | ro _ => cases r1 <;> exact ok.elim
  | box _ => cases r1 <;> exact ok.elim
  | ob _ _ _ => cases r1 <;> exact ok.elim
  | er0 _ _ => cases r1 <;> exact ok.elim
  | er1 _ _ _ _ => cases r1 <;> exact ok.elim
theorem de_ix {a b : Expr} {fa fb : S → R D} {pos : Pos} (ha : DE X T W a fa) (hb : DE X T W b fb) (hs : PlainIx b := by exact fun _ _ => rfl) : DE X T W (.Subscript a b pos) (dBin hIx fa fb) :=
  impE (pe_ix ix_seq ha hb hs) (bin_read (a := a) (b := b) snd_ix)
/-! ### slices -/
def dNoP : S → R (Option Int) := fun st => .ok none st
def dPart (f : S → R D) : S → R (Option Int) := fun st => (f st).bind fun d st => match d with
  | .int i => .ok (some i) st
  | _ => .stuck
theorem do_none : DO X T W none dNoP := ⟨fun pins s σ H Q I ⟨c, G, st, hd, ok⟩ => po_none.run pins s σ H Q I (ok _ _ _ (Same.refl _) hd rfl)⟩
theorem do_some {e : Expr} {f : S → R D} (h : DE X T W e f) : DO X T W (some e) (dPart f) := ⟨fun pins s σ H Q I ⟨c, G, st, hd, ok⟩ => (po_some h).run pins s σ H Q I (by
  obtain ⟨c0, G0, st0, hd0, ok0⟩ := step (rel := relD X.K T) hd ok
  refine ⟨c0, G0, st0, hd0, ok0.imp fun x H1 ⟨G1, st1, a, s1, hd1, r1, ok1⟩ => ?_⟩
  cases r1 <;> first | exact ok1.elim | skip
  exact ⟨_, rfl, ok1 _ _ _ (Same.refl _) hd1 rfl⟩)⟩
def cutD {α : Type} (xs : List α) (lo hi : Option Int) : List α := (xs.drop (HT.sIx xs.length 0 lo)).take (HT.sIx xs.length xs.length hi - HT.sIx xs.length 0 lo)
theorem Reps.cut {K : PySem.W.Frag} {B : Option Addr} {G : Hp} {vs : List V} {ds : List D} (r : Reps K T B G vs ds) (lo hi : Option Int) : Reps K T B G (cutV vs lo hi) (cutD ds lo hi) := by
  unfold cutV cutD
  rw [r.length]
  exact (r.drop _).take _
theorem cut_whole {α : Type} (xs : List α) (lo hi : Option Int) (h : HT.sIx xs.length 0 lo = 0 ∧ HT.sIx xs.length xs.length hi = xs.length) : cutD xs lo hi = xs := by
  unfold cutD
  rw [h.1, h.2]
  simp
theorem cut_map {α β : Type} (f : α → β) (xs : List α) (lo hi : Option Int) : cutD (xs.map f) lo hi = (cutD xs lo hi).map f := by
  unfold cutD
  rw [List.length_map, List.map_take, List.map_drop]
def sliceD (d : D) (lo hi : Option Int) : Option D := match d with
  | .ls xs => some (.ls (cutD xs lo hi))
  | .ro xs => some (.ls ((cutD xs lo hi).map .int))
  | .tu xs => some (.tu (cutD xs lo hi))
  | .str z => if z.length ≤ 16777216 then some (.str (cutS z lo hi)) else none
  | _ => none
def dSlice (f : S → R D) (l h : S → R (Option Int)) : S → R D := fun st => (f st).bind fun x st => (l st).bind fun lo st => (h st).bind fun hi st => match sliceD x lo hi with
  | some d => .ok d st
  | none => .stuck
theorem Reps.ints {K : PySem.W.Frag} {B : Option Addr} {G : Hp} : ∀ (ns : List Int), Reps K T B G (ns.map V.int) (ns.map D.int)
  | [] => .nil
  | n :: ns => .cons (.int n) (Reps.ints ns)
theorem de_slice {e : Expr} {lo hi : Option Expr} {f : S → R D} {l h : S → R (Option Int)} {pos p2 : Pos} (he : DE X T W e f) (hl : DO X T W lo l) (hh : DO X T W hi h) : DE X T W (.Subscript e (.Slice lo hi none p2) pos) (dSlice f l h) := by
  refine impE (pe_slice (sl_list.or (sl_tupA.or sl_str)) he hl hh) fun σ H Q ⟨c, G, st, hd, ok⟩ => ?_
  obtain ⟨c0, G0, st0, hd0, ok0⟩ := step (rel := relD X.K T) hd ok
  refine ⟨c0, G0, st0, hd0, ok0.imp fun x H1 ⟨G1, st1, a, s1, hd1, r1, ok1⟩ => ?_⟩
  obtain ⟨c2, G2, st2, hd2, ok2⟩ := step (rel := relO) hd1 ok1
  refine ⟨c2, G2, st2, hd2, ok2.imp fun y H2 ⟨G3, st3, b, s3, hd3, r3, ok3⟩ => ?_⟩
  cases r3
  obtain ⟨c4, G4, st4, hd4, ok4⟩ := step (rel := relO) hd3 ok3
  refine ⟨c4, G4, st4, hd4, ok4.imp fun z H3 ⟨G5, st5, b, s5, hd5, r5, ok5⟩ => ?_⟩
  cases r5
  replace r1 := (r1.mono s3).mono s5
  cases r1 with
  | str w =>
    have ok' : GOk X.K T W (relD X.K T) c G5 σ (match (if w.length ≤ 16777216 then some (D.str (cutS w y z)) else none) with | some d => .ok d st5 | none => .stuck) Q := ok5
    by_cases q : w.length ≤ 16777216
    · rw [if_pos q] at ok'
      exact .inr (.inr ⟨w, rfl, by rw [sizeLine_eq]; exact q, ok' _ _ _ (Same.refl _) hd5 (.str _)⟩)
    · rw [if_neg q] at ok'; exact ok'.elim
  | ls h r => exact .inl ⟨_, _, rfl, SqL.of (hd5.sub _ _ h), fun l hl => ok5 _ _ _ (same_upd (hd5.gnone hl)) (hd5.lay _ hl) (.ls upd_same ((r.cut y z).mono (same_upd (hd5.gnone hl))))⟩
  | tu h r =>
    refine .inr (.inl ⟨_, _, rfl, Same.sqt hd5.sub h, fun w => ok5 _ _ _ (Same.refl _) hd5 (.tu h ?_), fun w l hl => ok5 _ _ _ (same_upd (hd5.gnone hl)) (hd5.lay _ hl) (.tu (.inl (.inl upd_same)) ((r.cut y z).mono (same_upd (hd5.gnone hl))))⟩)
    rw [r.length] at w
    rw [cut_whole _ y z w]
    exact r
  | @ro p ns h =>
    refine .inl ⟨p, _, rfl, hd5.sub.seq h, fun l hl => ok5 _ _ _ (same_upd (hd5.gnone hl)) (hd5.lay _ hl) (.ls upd_same ?_)⟩
    rw [show cutV (ns.map V.int) y z = (cutD ns y z).map V.int from cut_map V.int ns y z]
    exact Reps.ints _
  | _ => exact ok5.elim
end
end DL

/-! DLd: calls, built-ins, what is walked. -/
namespace DL
open PySem PySem.Spec PyProof.Rows L2

/-! ### a def's promise -/
inductive FR where
  | ok (d : D) (b : Bx) | okF (ds : List D) (b : Bx) | err (e : Er) (b : Bx) | stuck
abbrev Fn := List D → Bx → FR
structure After (K : PySem.W.Frag) (T : Tab) (B : Option Addr) (G H G' H' : Hp) (b : Bx) : Prop where
  sG : Same G G'
  sub : Same G' H'
  new : ∀ a, G a = none → G' a ≠ none → H a = none
  frame : ∀ a o, H a = some o → B ≠ some a → H' a = some o
  box : ∀ p, B = some p → H' p = some (boxO b) ∧ G' p = none
def FOk (K : PySem.W.Frag) (T : Tab) (B : Option Addr) (G H : Hp) (r : FR) (Q : VK) (E : XK) : Prop := match r with
  | .ok d b => ∀ G' H' v, After K T B G H G' H' b → Rep K T B G' v d → Q v H'
  | .okF ds b => ∀ G' H' p vs, After K T B G H G' H' b → H' p = some (.lst vs) → G' p = none → H p = none → Reps K T B G' vs ds → Q (.ref p) H'
  | .err e b => ∀ G' H' cls dd, After K T B G H G' H' b → ErrAt K T B G' H' e cls dd → E cls dd H'
  | .stuck => False
def spD (K : PySem.W.Frag) (T : Tab) (n : Nat) (F : Fn) : Sp := fun vs H Q E => vs.length = n ∧ ∃ (B : Option Addr) (G : Hp) (ds : List D) (b : Bx), Same G H ∧ (∀ p, B = some p → H p = some (boxO b) ∧ G p = none) ∧ Reps K T B G vs ds ∧ FOk K T B G H (F ds b) Q E
def fromF (r : FR) (st : S) : R D := match r with
  | .ok d b => .ok d { st with bx := b }
  | .okF ds b => .ok (.ls ds) { st with bx := b }
  | .err e b => .err e { st with bx := b }
  | .stuck => .stuck
section
variable {K : PySem.W.Frag} {T : Tab} {W : WX} {c : Ctx} {G G' H H' : Hp} {σ : SV} {st : S}
theorem Holds.after (h : Holds K T c G H σ st) {b : Bx} (a : After K T c.B G H G' H' b) : Holds K T c G' H' σ { st with bx := b } where
  sub0 := h.sub0.trans a.sG
  sub := a.sub
  new := fun x e n => by
    cases q : G x with
    | none => exact h.h0 (a.new x q n)
    | some o => exact h.new x e (by rw [q]; exact fun z => by cases z)
  frame := fun x o e n => a.frame x o (h.frame x o e n) n
  len := h.len
  slot := fun i s e => by
    have o := h.slot i s e
    cases s with
    | un => trivial
    | val d => obtain ⟨v, e1, r⟩ := o; exact ⟨v, e1, r.mono a.sG⟩
    | own ds =>
      obtain ⟨p, vs, e1, e2, g, z, r⟩ := o
      refine ⟨p, vs, e1, a.frame p _ e2 (fun q => h.box0 p q z), ?_, z, r.mono a.sG⟩
      cases q : G' p with
      | none => rfl
      | some o => have := a.new p g (by rw [q]; exact fun z => by cases z); rw [e2] at this; cases this
  dist := h.dist
  box := a.box
  box0 := h.box0
/-- what a call hands back as new is nobody's -/
theorem Holds.handed (h : Holds K T c G H σ st) {b : Bx} (a : After K T c.B G H G' H' b) {p : Addr} {vs : List V} {ds : List D} (hp : H' p = some (.lst vs)) (g : G' p = none) (n : H p = none) (r : Reps K T c.B G' vs ds) : relF K T c G' H' σ { st with bx := b } (.ref p) ds := by
  refine ⟨p, vs, rfl, hp, g, h.h0 n, r, fun i es e q => ?_⟩
  obtain ⟨p2, vs2, e1, e2, _⟩ := h.slot i _ e
  rw [e1] at q
  cases q
  rw [n] at e2; cases e2
/-- the call of a def by its promise -/
theorem spD_use {n : Nat} {F : Fn} {vs : List V} {ds : List D} {Q : VK} (h : Holds K T c G H σ st) (r : Reps K T c.B G vs ds) (l : vs.length = n) (ok : GOk K T W (relD K T) c G σ (fromF (F ds st.bx) st) Q) :
    spD K T n F vs H Q (WE W σ) := by
  refine ⟨l, c.B, G, ds, st.bx, h.sub, h.box, r, ?_⟩
  revert ok
  cases F ds st.bx with
  | ok d b => exact fun ok G' H' v a r => ok G' H' v a.sG (h.after a) r
  | okF ds b =>
    intro ok G' H' p vs a hp g n r
    obtain ⟨G2, s2, h2, r2⟩ := (h.handed a hp g n r).close (h.after a)
    exact ok G2 H' (.ref p) (a.sG.trans s2) h2 r2
  | err e b => exact fun ok G' H' cls dd a r => ok G' H' cls dd a.sG (h.after a) r
  | stuck => exact fun ok => ok
end
section
variable {X : Cx} {T : Tab} {W : WX}
/-- a call: the written arguments, then the defaults -/
def dCall (n : Nat) (F : Fn) (dds : List D) (fa : S → R (List D)) : S → R D := fun st => (fa st).bind fun ds st => if (ds ++ dds).length = n then fromF (F (ds ++ dds) st.bx) st else .stuck
theorem de_call {k n : Nat} {F : Fn} {f : Addr} {fd : FuncData} {ps : List Str} {dvs : List V} {ds : List Value} {dds : List D} {x : Str} {p pos : Pos} {e : Expr} {es : List Expr} {fa : S → R (List D)}
    (G : FnOk X.prog X.w X.K X.mg X.base (L2.CX X.prog X.w) k f fd ps (spD X.K T n F)) (hr : Room k X.A) (hg : Gl X x) (hm : X.mg x = some (.ref f)) (hk : PySem.W.keepIn X.K (.ref f) = true) (hb : Binds X.K fd ps ds) (hd : Vals dvs ds)
    (hrd : ∀ B G, Reps X.K T B G dvs dds) (tk : Takes X W) (ha : DA X T W (e :: es) fa) (hdb : (x == ("__debug__" : Str)) = false := by decide) (he : starEach (e :: es) X.env = (false, eval e X.env) :: starEach es X.env := by rfl) (hpl : (backTo pos (starEach es X.env)).any (·.1) = false := by rfl) :
    DE X T W (.Call (.Name x p) (e :: es) [] pos) (dCall n F dds fa) := by
  refine impE (pe_callSD (E := WE W) G hr hg hm hk hb hd (passAt tk) ha hdb he hpl) fun σ H Q ⟨c, G, st, hd, ok⟩ => ?_
  obtain ⟨c0, G0, st0, hd0, ok0⟩ := step (rel := relA X.K T) hd ok
  refine ⟨c0, G0, st0, hd0, ok0.imp fun vs H1 ⟨G1, st1, as, s1, hd1, r1, ok1⟩ => ?_⟩
  have r2 := r1.append (hrd c.B G1)
  by_cases q : (as ++ dds).length = n
  · rw [if_pos q] at ok1
    exact spD_use hd1 r2 (r2.length.trans q) ok1
  · rw [if_neg q] at ok1; exact ok1.elim
theorem de_call0 {k n : Nat} {F : Fn} {f : Addr} {fd : FuncData} {ps : List Str} {dvs : List V} {ds : List Value} {dds : List D} {x : Str} {p pos : Pos}
    (G : FnOk X.prog X.w X.K X.mg X.base (L2.CX X.prog X.w) k f fd ps (spD X.K T n F)) (hr : Room k X.A) (hg : Gl X x) (hm : X.mg x = some (.ref f)) (hk : PySem.W.keepIn X.K (.ref f) = true) (hb : Binds X.K fd ps ds) (hd : Vals dvs ds)
    (hrd : ∀ B G, Reps X.K T B G dvs dds) (tk : Takes X W) (hdb : (x == ("__debug__" : Str)) = false := by decide) :
    DE X T W (.Call (.Name x p) [] [] pos) (dCall n F dds dNil) := by
  refine ⟨fun pins s σ H Q I ⟨c, G', st, hd', ok⟩ => ?_⟩
  refine wpAny_Call_Name_kw (ld_glob I hg hm ?_ hdb)
  refine PySem.W.callWith_K0 I.kIn hk ?_
  replace ok : GOk X.K T W (relD X.K T) c G' σ (if ([] ++ dds).length = n then fromF (F ([] ++ dds) st.bx) st else .stuck) Q := ok
  by_cases q : ([] ++ dds).length = n
  · rw [if_pos q] at ok
    exact run_fnSD (us := []) (E := WE W) G hr hb hd (passAt tk σ) I .nil (spD_use hd' (hrd c.B G') ((hrd c.B G').length.trans q) ok)
  · rw [if_neg q] at ok; exact ok.elim

/-! ### built-ins -/
def dCB (h : List D → S → R D) (fa : S → R (List D)) : S → R D := fun st => (fa st).bind h
def SndC (X : Cx) (T : Tab) (W : WX) (r : List V → Hp → VK → Prop) (h : List D → S → R D) : Prop :=
  ∀ (c : Ctx) (G H : Hp) (σ : SV) (st : S) (vs : List V) (ds : List D) (Q : VK), Holds X.K T c G H σ st → Reps X.K T c.B G vs ds → GOk X.K T W (relD X.K T) c G σ (h ds st) Q → r vs H Q
theorem cb_read {r : List V → Hp → VK → Prop} {h : List D → S → R D} {fa : S → R (List D)} (sd : SndC X T W r h) : ∀ σ H Q, gD X.K T W (relD X.K T) (dCB h fa) σ H Q → tCB r (gD X.K T W (relA X.K T) fa) σ H Q := fun σ H Q ⟨c, G, st, hd, ok⟩ => by
  obtain ⟨c0, G0, st0, hd0, ok0⟩ := step (rel := relA X.K T) hd ok
  exact ⟨c0, G0, st0, hd0, ok0.imp fun vs H1 ⟨G1, st1, a, s1, hd1, r1, ok1⟩ => sd c G1 H1 σ st1 vs a Q hd1 r1 ok1⟩
theorem de_callB {id : String} {r : List V → Hp → VK → Prop} {h : List D → S → R D} {x : Str} {p pos : Pos} {e : Expr} {es : List Expr} {fa : S → R (List D)} (hc : CallR X (.builtin id) r) (sd : SndC X T W r h) (hg : Gl X x) (hm : X.mg x = none) (hv : bootBuiltins x = some (.builtin id)) (ha : DA X T W (e :: es) fa)
    (hn : x ≠ "__name__" := by decide) (hdb : (x == ("__debug__" : Str)) = false := by decide) (he : starEach (e :: es) X.env = (false, eval e X.env) :: starEach es X.env := by rfl) (hpl : (backTo pos (starEach es X.env)).any (·.1) = false := by rfl) :
    DE X T W (.Call (.Name x p) (e :: es) [] pos) (dCB h fa) := impE (pe_callB hc hg hm hv ha hn hdb he hpl) (cb_read sd)
theorem de_callTy {Ty : String} {r : List V → Hp → VK → Prop} {h : List D → S → R D} {x : Str} {p pos : Pos} {e : Expr} {es : List Expr} {fa : S → R (List D)} (hc : CallR X (.type Ty) r) (sd : SndC X T W r h) (hg : Gl X x) (hm : X.mg x = none) (hv : bootBuiltins x = some (.type Ty)) (ha : DA X T W (e :: es) fa)
    (hn : x ≠ "__name__" := by decide) (hdb : (x == ("__debug__" : Str)) = false := by decide) (he : starEach (e :: es) X.env = (false, eval e X.env) :: starEach es X.env := by rfl) (hpl : (backTo pos (starEach es X.env)).any (·.1) = false := by rfl) :
    DE X T W (.Call (.Name x p) (e :: es) [] pos) (dCB h fa) := impE (pe_callTy hc hg hm hv ha hn hdb he hpl) (cb_read sd)
/-- len -/
def hLen : List D → S → R D
  | [.ls xs], st => .ok (.int xs.length) st
  | [.tu xs], st => .ok (.int xs.length) st
  | [.ro xs], st => .ok (.int xs.length) st
  | [.str z], st => if z.length ≤ 16777216 then .ok (.int z.length) st else .stuck
  | _, _ => .stuck
theorem snd_len : SndC X T W (fun xs H Q => (∃ p ys, xs = [.ref p] ∧ (SqL X.K H p ys ∨ SqT X.K H p ys) ∧ Q (.int ys.length) H) ∨ ∃ z, xs = [.str z] ∧ z.length ≤ sizeLine ∧ Q (.int z.length) H) hLen := fun c G H σ st vs ds Q hd r ok => by
  cases r with
  | nil => exact ok.elim
  | cons r1 r =>
    cases r with
    | cons _ _ => cases r1 <;> exact ok.elim
    | nil =>
      cases r1 with
      | @ls p vs ds h r => exact .inl ⟨p, vs, rfl, .inl (SqL.of (hd.sub _ _ h)), by rw [r.length]; exact ok _ _ _ (Same.refl _) hd (.int _)⟩
      | @tu p vs ds h r => exact .inl ⟨p, vs, rfl, .inr (Same.sqt hd.sub h), by rw [r.length]; exact ok _ _ _ (Same.refl _) hd (.int _)⟩
      | @ro p ns h => exact .inl ⟨p, _, rfl, .inl (hd.sub.seq h), by rw [List.length_map]; exact ok _ _ _ (Same.refl _) hd (.int _)⟩
      | str z =>
        have ok' : GOk X.K T W (relD X.K T) c G σ (if z.length ≤ 16777216 then .ok (.int z.length) st else .stuck) Q := ok
        by_cases q : z.length ≤ 16777216
        · rw [if_pos q] at ok'
          exact .inr ⟨z, rfl, by rw [sizeLine_eq]; exact q, ok' _ _ _ (Same.refl _) hd (.int _)⟩
        · rw [if_neg q] at ok'; exact ok'.elim
      | _ => exact ok.elim
theorem de_len {p pos : Pos} {e : Expr} {fa : S → R (List D)} (hg : Gl X "len") (hm : X.mg "len" = none) (ha : DA X T W [e] fa) (he : starEach [e] X.env = (false, eval e X.env) :: starEach [] X.env := by rfl) :
    DE X T W (.Call (.Name "len" p) [e] [] pos) (dCB hLen fa) := de_callB (call_len_seq.or call_len_str) snd_len hg hm PySem.boot_len ha (he := he)
/-- int(n), int(flag) -/
def hInt : List D → S → R D
  | [.int i], st => .ok (.int i) st
  | [.bl k], st => .ok (.int (if k then 1 else 0)) st
  | [.str a], st => match PySem.intText? a with
    | some n => if a.length ≤ 640 then .ok (.int n) st else .stuck
    | none => .stuck
  | _, _ => .stuck
theorem snd_int : SndC X T W (fun xs H Q => ((∃ i, xs = [.int i] ∧ Q (.int i) H) ∨ ∃ k, xs = [.bl k] ∧ Q (.int (if k then 1 else 0)) H) ∨ ∃ a n, xs = [.str a] ∧ PySem.intText? a = some n ∧ a.length ≤ 640 ∧ Q (.int n) H) hInt := fun c G H σ st vs ds Q hd r ok => by
  cases r with
  | nil => exact ok.elim
  | cons r1 r =>
    cases r with
    | cons _ _ => cases r1 <;> exact ok.elim
    | nil =>
      cases r1 with
      | int i => exact .inl (.inl ⟨i, rfl, ok _ _ _ (Same.refl _) hd (.int _)⟩)
      | bl k => exact .inl (.inr ⟨k, rfl, ok _ _ _ (Same.refl _) hd (.int _)⟩)
      | str a =>
        have ok' : GOk X.K T W (relD X.K T) c G σ (match PySem.intText? a with | some n => if a.length ≤ 640 then .ok (.int n) st else .stuck | none => .stuck) Q := ok
        cases e : PySem.intText? a with
        | none => rw [e] at ok'; exact ok'.elim
        | some n =>
          rw [e] at ok'
          dsimp only at ok'
          by_cases q : a.length ≤ 640
          · rw [if_pos q] at ok'
            exact .inr ⟨a, n, rfl, e, q, ok' _ _ _ (Same.refl _) hd (.int _)⟩
          · rw [if_neg q] at ok'; exact ok'.elim
      | _ => exact ok.elim
theorem boot_int' : bootBuiltins "int" = some (.type "int") := by decide +kernel
theorem de_intc {p pos : Pos} {e : Expr} {fa : S → R (List D)} (hg : Gl X "int") (hm : X.mg "int" = none) (ha : DA X T W [e] fa) (he : starEach [e] X.env = (false, eval e X.env) :: starEach [] X.env := by rfl) :
    DE X T W (.Call (.Name "int" p) [e] [] pos) (dCB hInt fa) := de_callTy (call_int1.or call_int_str) snd_int hg hm boot_int' ha (he := he)
/-- abs -/
def hAbs : List D → S → R D
  | [.int i], st => .ok (.int (if i < 0 then -i else i)) st
  | _, _ => .stuck
theorem snd_abs : SndC X T W (fun xs H Q => ∃ i, xs = [.int i] ∧ Q (.int (if i < 0 then -i else i)) H) hAbs := fun c G H σ st vs ds Q hd r ok => by
  cases r with
  | nil => exact ok.elim
  | cons r1 r =>
    cases r with
    | cons _ _ => cases r1 <;> exact ok.elim
    | nil =>
      cases r1 with
      | int i => exact ⟨i, rfl, ok _ _ _ (Same.refl _) hd (.int _)⟩
      | _ => exact ok.elim
theorem boot_abs' : bootBuiltins "abs" = some (.builtin "abs") := by decide +kernel
theorem de_abs {p pos : Pos} {e : Expr} {fa : S → R (List D)} (hg : Gl X "abs") (hm : X.mg "abs" = none) (ha : DA X T W [e] fa) (he : starEach [e] X.env = (false, eval e X.env) :: starEach [] X.env := by rfl) :
    DE X T W (.Call (.Name "abs" p) [e] [] pos) (dCB hAbs fa) := de_callB call_abs snd_abs hg hm boot_abs' ha (he := he)
/-- max, min of two -/
def h2 (g : Int → Int → Int) : List D → S → R D
  | [.int i, .int j], st => .ok (.int (g i j)) st
  | _, _ => .stuck
theorem snd_2 {g : Int → Int → Int} : SndC X T W (fun xs H Q => ∃ i j, xs = [.int i, .int j] ∧ Q (.int (g i j)) H) (h2 g) := fun c G H σ st vs ds Q hd r ok => by
  cases r with
  | nil => exact ok.elim
  | cons r1 r =>
    cases r with
    | nil => cases r1 <;> exact ok.elim
    | cons r2 r =>
      cases r with
      | cons _ _ => cases r1 <;> cases r2 <;> exact ok.elim
      | nil =>
        cases r1 with
        | int i =>
          cases r2 with
          | int j => exact ⟨i, j, rfl, ok _ _ _ (Same.refl _) hd (.int _)⟩
          | _ => exact ok.elim
        | _ => cases r2 <;> exact ok.elim
abbrev gMax (i j : Int) : Int := if j > i then j else i
abbrev gMin (i j : Int) : Int := if j < i then j else i
theorem boot_max' : bootBuiltins "max" = some (.builtin "max") := by decide +kernel
theorem boot_min' : bootBuiltins "min" = some (.builtin "min") := by decide +kernel
theorem de_max2 {p pos : Pos} {e e2 : Expr} {fa : S → R (List D)} (hc : X.calm = true) (hg : Gl X "max") (hm : X.mg "max" = none) (ha : DA X T W [e, e2] fa) (he : starEach [e, e2] X.env = (false, eval e X.env) :: starEach [e2] X.env := by rfl) (hpl : (backTo pos (starEach [e2] X.env)).any (·.1) = false := by rfl) :
    DE X T W (.Call (.Name "max" p) [e, e2] [] pos) (dCB (h2 gMax) fa) := de_callB (call_max2 hc) snd_2 hg hm boot_max' ha (he := he) (hpl := hpl)
theorem de_min2 {p pos : Pos} {e e2 : Expr} {fa : S → R (List D)} (hc : X.calm = true) (hg : Gl X "min") (hm : X.mg "min" = none) (ha : DA X T W [e, e2] fa) (he : starEach [e, e2] X.env = (false, eval e X.env) :: starEach [e2] X.env := by rfl) (hpl : (backTo pos (starEach [e2] X.env)).any (·.1) = false := by rfl) :
    DE X T W (.Call (.Name "min" p) [e, e2] [] pos) (dCB (h2 gMin) fa) := de_callB (call_min2 hc) snd_2 hg hm boot_min' ha (he := he) (hpl := hpl)
/-- list(xs): a new list -/
def hListOf : List D → S → R (List D)
  | [.ls xs], st => .ok xs st
  | [.tu xs], st => .ok xs st
  | [.ro xs], st => .ok (xs.map .int) st
  | _, _ => .stuck
def dCBF (h : List D → S → R (List D)) (fa : S → R (List D)) : S → R (List D) := fun st => (fa st).bind h
theorem boot_list' : bootBuiltins "list" = some (.type "list") := by decide +kernel
theorem boot_tuple' : bootBuiltins "tuple" = some (.type "tuple") := by decide +kernel
theorem df_list {p pos : Pos} {e : Expr} {fa : S → R (List D)} (hg : Gl X "list") (hm : X.mg "list" = none) (ha : DA X T W [e] fa) (he : starEach [e] X.env = (false, eval e X.env) :: starEach [] X.env := by rfl) :
    DF X T W (.Call (.Name "list" p) [e] [] pos) (dCBF hListOf fa) := by
  refine impE (pe_callTy call_list_of hg hm boot_list' ha (he := he)) fun σ H Q ⟨c, G, st, hd, ok⟩ => ?_
  obtain ⟨c0, G0, st0, hd0, ok0⟩ := step (rel := relA X.K T) hd ok
  refine ⟨c0, G0, st0, hd0, ok0.imp fun vs H1 ⟨G1, st1, a, s1, hd1, r, ok1⟩ => ?_⟩
  cases r with
  | nil => exact ok1.elim
  | cons r1 r =>
    cases r with
    | cons _ _ => cases r1 <;> exact ok1.elim
    | nil =>
      cases r1 with
      | @ls p vs ds h r =>
        refine ⟨p, vs, rfl, .inl (SqL.of (hd1.sub _ _ h)), fun l hl => ?_⟩
        obtain ⟨h4, r4⟩ := hd1.fresh hl r
        exact ok1 _ _ _ (Same.refl _) h4 r4
      | @tu p vs ds h r =>
        refine ⟨p, vs, rfl, .inr (Same.sqt hd1.sub h), fun l hl => ?_⟩
        obtain ⟨h4, r4⟩ := hd1.fresh hl r
        exact ok1 _ _ _ (Same.refl _) h4 r4
      | @ro p ns h =>
        refine ⟨p, _, rfl, .inl (hd1.sub.seq h), fun l hl => ?_⟩
        obtain ⟨h4, r4⟩ := hd1.fresh hl (Reps.ints ns)
        exact ok1 _ _ _ (Same.refl _) h4 r4
      | _ => exact ok1.elim
/-- tuple(xs) -/
def hTupOf : List D → S → R D
  | [.ls xs], st => .ok (.tu xs) st
  | [.tu xs], st => .ok (.tu xs) st
  | _, _ => .stuck
theorem snd_tupOf : SndC X T W (fun xs H Q => ∃ p ys, xs = [.ref p] ∧ ((SqL X.K H p ys ∧ ∀ l, H l = none → Q (.ref l) (upd H l (.tup ys))) ∨ (SqT X.K H p ys ∧ Q (.ref p) H))) hTupOf := fun c G H σ st vs ds Q hd r ok => by
  cases r with
  | nil => exact ok.elim
  | cons r1 r =>
    cases r with
    | cons _ _ => cases r1 <;> exact ok.elim
    | nil =>
      cases r1 with
      | @ls p vs ds h r => exact ⟨p, vs, rfl, .inl ⟨SqL.of (hd.sub _ _ h), fun l hl => ok _ _ _ (same_upd (hd.gnone hl)) (hd.lay _ hl) (.tu (.inl (.inl upd_same)) (r.mono (same_upd (hd.gnone hl))))⟩⟩
      | @tu p vs ds h r => exact ⟨p, vs, rfl, .inr ⟨Same.sqt hd.sub h, ok _ _ _ (Same.refl _) hd (.tu h r)⟩⟩
      | _ => exact ok.elim
theorem de_tupleOf {p pos : Pos} {e : Expr} {fa : S → R (List D)} (hg : Gl X "tuple") (hm : X.mg "tuple" = none) (ha : DA X T W [e] fa) (he : starEach [e] X.env = (false, eval e X.env) :: starEach [] X.env := by rfl) :
    DE X T W (.Call (.Name "tuple" p) [e] [] pos) (dCB hTupOf fa) := de_callTy call_tuple_of snd_tupOf hg hm boot_tuple' ha (he := he)
/-- all, any of a list of bools -/
def blD : D → Option Bool
  | .bl b => some b
  | _ => none
def blDs : List D → Option (List Bool)
  | [] => some []
  | d :: ds => (blD d).bind fun b => (blDs ds).map fun bs => b :: bs
theorem blDs_rep {K : PySem.W.Frag} {B : Option Addr} {G : Hp} : ∀ {vs : List V} {ds : List D} {bs : List Bool}, Reps K T B G vs ds → blDs ds = some bs → vs = bs.map V.bl
  | _, _, _, .nil, h => by simp [blDs] at h; subst h; rfl
  | _, _, bs, .cons (d := d) (ds := ds) h r, e => by
    have e' : (blD d).bind (fun b => (blDs ds).map fun bs => b :: bs) = some bs := e
    cases q : blD d with
    | none => rw [q] at e'; cases e'
    | some b =>
      cases q2 : blDs ds with
      | none => rw [q, q2] at e'; cases e'
      | some bs2 =>
        rw [q, q2] at e'; cases e'
        cases h <;> simp [blD] at q
        subst q
        rw [blDs_rep r q2]; rfl
def hAA (g : List Bool → Bool) : List D → S → R D
  | [.ls ds], st => match blDs ds with
    | some bs => .ok (.bl (g bs)) st
    | none => .stuck
  | _, _ => .stuck
theorem snd_aa {g : List Bool → Bool} : SndC X T W (fun vs H Q => ∃ (a : Addr) (bs : List Bool), vs = [V.ref a] ∧ SqL X.K H a (bs.map V.bl) ∧ Q (.bl (g bs)) H) (hAA g) := fun c G H σ st vs ds Q hd r ok => by
  cases r with
  | nil => exact ok.elim
  | cons r1 r =>
    cases r with
    | cons _ _ => cases r1 <;> exact ok.elim
    | nil =>
      cases r1 with
      | @ls p vs ds h r =>
        have ok' : GOk X.K T W (relD X.K T) c G σ (match blDs ds with | some bs => .ok (.bl (g bs)) st | none => .stuck) Q := ok
        cases e : blDs ds with
        | none => rw [e] at ok'; exact ok'.elim
        | some bs =>
          rw [e] at ok'
          refine ⟨p, bs, rfl, ?_, ok' _ _ _ (Same.refl _) hd (.bl _)⟩
          rw [← blDs_rep r e]
          exact SqL.of (hd.sub _ _ h)
      | _ => exact ok.elim
abbrev hAll := hAA fun bs => bs.all id
abbrev hAny := hAA fun bs => bs.any id
theorem boot_all' : bootBuiltins "all" = some (.builtin "all") := by decide +kernel
theorem boot_any' : bootBuiltins "any" = some (.builtin "any") := by decide +kernel
theorem de_all {p pos : Pos} {e : Expr} {fa : S → R (List D)} (hc : X.calm = true) (hg : Gl X "all") (hm : X.mg "all" = none) (ha : DA X T W [e] fa) (he : starEach [e] X.env = (false, eval e X.env) :: starEach [] X.env := by rfl) :
    DE X T W (.Call (.Name "all" p) [e] [] pos) (dCB hAll fa) := de_callB (cr_all hc) snd_aa hg hm boot_all' ha (he := he)
theorem de_any {p pos : Pos} {e : Expr} {fa : S → R (List D)} (hc : X.calm = true) (hg : Gl X "any") (hm : X.mg "any" = none) (ha : DA X T W [e] fa) (he : starEach [e] X.env = (false, eval e X.env) :: starEach [] X.env := by rfl) :
    DE X T W (.Call (.Name "any" p) [e] [] pos) (dCB hAny fa) := de_callB (cr_any hc) snd_aa hg hm boot_any' ha (he := he)
/-- sum of a list of ints -/
def intDs : List D → Option (List Int)
  | [] => some []
  | d :: ds => match d with
    | .int i => (intDs ds).map fun is => i :: is
    | _ => none
theorem intDs_rep {K : PySem.W.Frag} {B : Option Addr} {G : Hp} : ∀ {vs : List V} {ds : List D} {bs : List Int}, Reps K T B G vs ds → intDs ds = some bs → vs = bs.map V.int
  | _, _, _, .nil, h => by simp [intDs] at h; subst h; rfl
  | _, _, bs, .cons (d := d) (ds := ds) h r, e => by
    cases h <;> first | (simp [intDs] at e; done) | skip
    rename_i i
    have e' : ((intDs ds).map fun is => i :: is) = some bs := e
    cases q2 : intDs ds with
    | none => rw [q2] at e'; cases e'
    | some bs2 =>
      rw [q2] at e'; cases e'
      rw [intDs_rep r q2]; rfl
def hSum : List D → S → R D
  | [.ls ds], st => match intDs ds with
    | some is => .ok (.int is.sum) st
    | none => .stuck
  | _, _ => .stuck
theorem snd_sum : SndC X T W (rSum X.K) hSum := fun c G H σ st vs ds Q hd r ok => by
  cases r with
  | nil => exact ok.elim
  | cons r1 r =>
    cases r with
    | cons _ _ => cases r1 <;> exact ok.elim
    | nil =>
      cases r1 with
      | @ls p vs ds h r =>
        have ok' : GOk X.K T W (relD X.K T) c G σ (match intDs ds with | some is => .ok (.int is.sum) st | none => .stuck) Q := ok
        cases e : intDs ds with
        | none => rw [e] at ok'; exact ok'.elim
        | some bs =>
          rw [e] at ok'
          refine ⟨p, bs, rfl, ?_, ok' _ _ _ (Same.refl _) hd (.int _)⟩
          rw [← intDs_rep r e]
          exact SqL.of (hd.sub _ _ h)
      | _ => exact ok.elim
theorem boot_sum' : bootBuiltins "sum" = some (.builtin "sum") := by decide +kernel
theorem de_sum {p pos : Pos} {e : Expr} {fa : S → R (List D)} (hc : X.calm = true) (hg : Gl X "sum") (hm : X.mg "sum" = none) (ha : DA X T W [e] fa) (he : starEach [e] X.env = (false, eval e X.env) :: starEach [] X.env := by rfl) :
    DE X T W (.Call (.Name "sum" p) [e] [] pos) (dCB hSum fa) := de_callB (cr_sum hc) snd_sum hg hm boot_sum' ha (he := he)
end
end DL

/-! DLe: what is walked; statements; loops; comprehensions; a def's body. -/
namespace DL
open PySem PySem.Spec PyProof.Rows L2

/-! ### what is walked -/
def relI (K : PySem.W.Frag) (T : Tab) : Rel (List D) It := fun c G _ _ _ J ds => ∀ (c' : Ctx) (G' H' : Hp) (σ' : SV) (st' : S), c'.B = c.B → Same G G' → Holds K T c' G' H' σ' st' →
  J.stop ds.length H' ∧ ∀ (i : Nat) (d : D), ds[i]? = some d → J.go i H' ∧ ∀ x H2, J.yld i H' x H2 → ∃ G2, Same G' G2 ∧ Same H' H2 ∧ Holds K T c' G2 H2 σ' st' ∧ Rep K T c.B G2 x d
def DI (X : Cx) (T : Tab) (W : WX) (tg iter : Expr) (f : S → R (List D)) : Prop := PI X tg iter (gD X.K T W (relI X.K T) f)
theorem impI {X : Cx} {tg iter : Expr} {t t' : TI} (h : PI X tg iter t) (q : ∀ σ H Q, t' σ H Q → t σ H Q) : PI X tg iter t' := ⟨fun pins s σ H Q I k => h.run pins s σ H Q I (q σ H Q k)⟩
def iAny (K : PySem.W.Frag) (te : TE) : TI := fun σ H R => te σ H fun x H1 => (∃ a, x = .ref a ∧ (∃ xs, SqL K H1 a xs) ∧ R (Itl K a) H1) ∨ (∃ a, x = .ref a ∧ (∃ xs, SqT K H1 a xs) ∧ R (Itt K a) H1) ∨ ∃ z, x = .str z ∧ R (Its z) H1
theorem pi_any {X : Cx} {tg e : Expr} {te : TE} (hl : PE X e te) : PI X tg e (iAny X.K te) := by
  refine ⟨fun pins s σ H R I h => ?_⟩
  refine thn (hl.run pins s σ H _ I h) fun v s1 ⟨x, H1, I1, r1, q1⟩ => ?_
  rcases q1 with ⟨a, e, ⟨xs, hq⟩, q⟩ | ⟨a, e, ⟨xs, hq⟩, q⟩ | ⟨z, e, q⟩
  · subst e
    cases r1
    obtain ⟨its, rv, p, hz⟩ := I1.list hq
    refine wpAny_pyIter_list p.isList ?_
    refine ⟨s1.heap.objs.size, [s1.heap.objs.size], _, _, H1, rfl, I1.kept (t' := s1.toks) fun b o e => Heap.get?_push_of_some _ e, turn_list a _, ⟨_, Heap.get?_push_size _ rfl, rfl, rfl⟩, fun b hb => ?_, q⟩
    have e : b = s1.heap.objs.size := by simpa using hb
    subst e
    exact I1.fpOk (Nat.le_refl _) (I1.hok.fresh (Nat.le_refl _))
  · subst e
    cases r1
    obtain ⟨its, rv, p, hz⟩ := I1.tuple hq
    refine wpAny_pyIter_tuple (show s1.heap.IsTuple a its.toArray from p) ?_
    refine ⟨s1.heap.objs.size, [s1.heap.objs.size], _, _, H1, rfl, I1.kept (t' := s1.toks) fun b o e => Heap.get?_push_of_some _ e, turn_tuple a _, ⟨_, Heap.get?_push_size _ rfl, rfl, rfl⟩, fun b hb => ?_, q⟩
    have e : b = s1.heap.objs.size := by simpa using hb
    subst e
    exact I1.fpOk (Nat.le_refl _) (I1.hok.fresh (Nat.le_refl _))
  · subst e
    obtain ⟨t, rfl⟩ := r1
    cases ha : z.cps.all (· < 128)
    · exact wpAny_pyIter_wide ha (pi_one (tk := s1.toks) I1 _ (turn_str _ z t "str_iterator" (.inr rfl)) ⟨_, Heap.get?_push_size _ rfl, rfl, rfl⟩ q)
    · exact wpAny_pyIter_ascii ha (pi_one (tk := s1.toks) I1 _ (turn_str _ z t "str_ascii_iterator" (.inl rfl)) ⟨_, Heap.get?_push_size _ rfl, rfl, rfl⟩ q)
section
variable {X : Cx} {T : Tab} {W : WX}
def signs (z : Str) : List D := z.cps.toList.map fun c => .str ⟨#[c]⟩
def seqD : D → Option (List D)
  | .ls xs => some xs
  | .tu xs => some xs
  | .ro ns => some (ns.map .int)
  | .str z => some (signs z)
  | _ => none
def hSeq (d : D) (st : S) : R (List D) := match seqD d with
  | some ds => .ok ds st
  | none => .stuck
def dSeqI (f : S → R D) : S → R (List D) := fun st => (f st).bind hSeq
theorem relI_list {K : PySem.W.Frag} {c : Ctx} {G H : Hp} {σ : SV} {st : S} {a : Addr} {xs : List V} {ds : List D} (h : SqL K G a xs) (r : Reps K T c.B G xs ds) : relI K T c G H σ st (Itl K a) ds := fun c' G' H' σ' st' eB s hd => by
  have hq : SqL K H' a xs := hd.sub.seq (s.seq h)
  refine ⟨⟨xs, hq, Nat.le_of_eq r.length⟩, fun i d e => ?_⟩
  obtain ⟨v, e1, e2⟩ := r.get' e
  refine ⟨⟨xs, v, hq, e1⟩, fun x H2 ⟨e3, e4⟩ => ?_⟩
  subst e3
  have e5 := e4 xs hq
  rw [e1] at e5
  cases e5
  exact ⟨G', Same.refl _, Same.refl _, hd, e2.mono s⟩
theorem relI_tup {K : PySem.W.Frag} {c : Ctx} {G H : Hp} {σ : SV} {st : S} {a : Addr} {xs : List V} {ds : List D} (h : SqT K G a xs) (r : Reps K T c.B G xs ds) : relI K T c G H σ st (Itt K a) ds := fun c' G' H' σ' st' eB s hd => by
  have hq : SqT K H' a xs := Same.sqt hd.sub (Same.sqt s h)
  refine ⟨⟨xs, hq, Nat.le_of_eq r.length⟩, fun i d e => ?_⟩
  obtain ⟨v, e1, e2⟩ := r.get' e
  refine ⟨⟨xs, v, hq, e1⟩, fun x H2 ⟨e3, e4⟩ => ?_⟩
  subst e3
  have e5 := e4 xs hq
  rw [e1] at e5
  cases e5
  exact ⟨G', Same.refl _, Same.refl _, hd, e2.mono s⟩
theorem relI_str {K : PySem.W.Frag} {c : Ctx} {G H : Hp} {σ : SV} {st : S} {z : Str} : relI K T c G H σ st (Its z) (signs z) := fun c' G' H' σ' st' eB s hd => by
  refine ⟨by show z.cps.size ≤ (signs z).length; unfold signs; simp, fun i d e => ?_⟩
  unfold signs at e
  rw [List.getElem?_map] at e
  cases q : z.cps.toList[i]? with
  | none => rw [q] at e; cases e
  | some ch =>
    rw [q] at e
    cases e
    have q' : z.cps[i]? = some ch := by rw [← Array.getElem?_toList]; exact q
    refine ⟨by show i < z.cps.size; exact (Array.getElem?_eq_some_iff.mp q').1, fun x H2 ⟨e3, ch2, e4, e5⟩ => ?_⟩
    subst e3 e5
    rw [q'] at e4
    cases e4
    exact ⟨G', Same.refl _, Same.refl _, hd, .str _⟩
theorem di_seq {tg e : Expr} {f : S → R D} (h : DE X T W e f) : DI X T W tg e (dSeqI f) := by
  refine impI (pi_any h) fun σ H Q ⟨c, G, st, hd, ok⟩ => ?_
  obtain ⟨c0, G0, st0, hd0, ok0⟩ := step (rel := relD X.K T) hd ok
  refine ⟨c0, G0, st0, hd0, ok0.imp fun x H1 ⟨G1, st1, a, s1, hd1, r1, ok1⟩ => ?_⟩
  cases r1 with
  | @ls p vs ds h r => exact .inl ⟨p, rfl, ⟨vs, SqL.of (hd1.sub _ _ h)⟩, ok1 _ _ _ (Same.refl _) hd1 (relI_list (SqL.of h) r)⟩
  | @tu p vs ds h r => exact .inr (.inl ⟨p, rfl, ⟨vs, Same.sqt hd1.sub h⟩, ok1 _ _ _ (Same.refl _) hd1 (relI_tup h r)⟩)
  | @ro p ns h => exact .inl ⟨p, rfl, ⟨_, hd1.sub.seq h⟩, ok1 _ _ _ (Same.refl _) hd1 (relI_list h (Reps.ints ns))⟩
  | str z => exact .inr (.inr ⟨z, rfl, ok1 _ _ _ (Same.refl _) hd1 relI_str⟩)
  | _ => exact ok1.elim
/-- range -/
def rangeD (lo : Int) (n : Nat) : List D := (List.range n).map fun i => .int (lo + (i : Nat))
def hRange1 : List D → S → R (List D)
  | [.int j], st => if -4611686018427387904 ≤ j ∧ j < 4611686018427387904 then .ok (rangeD 0 j.toNat) st else .stuck
  | _, _ => .stuck
def hRange2 : List D → S → R (List D)
  | [.int i, .int j], st => if -4611686018427387904 ≤ i ∧ i < 4611686018427387904 ∧ -4611686018427387904 ≤ j ∧ j < 4611686018427387904 then .ok (rangeD i (j - i).toNat) st else .stuck
  | _, _ => .stuck
theorem relI_range {K : PySem.W.Frag} {c : Ctx} {G H : Hp} {σ : SV} {st : S} {lo : Int} {n : Nat} : relI K T c G H σ st (Itr lo n) (rangeD lo n) := fun c' G' H' σ' st' eB s hd => by
  refine ⟨by show n ≤ (rangeD lo n).length; unfold rangeD; simp, fun i d e => ?_⟩
  unfold rangeD at e
  rw [List.getElem?_map] at e
  cases q : (List.range n)[i]? with
  | none => rw [q] at e; cases e
  | some k =>
    rw [q] at e
    cases e
    have q1 : i < n := by have := (List.getElem?_eq_some_iff.mp q).1; simpa using this
    have q2 : k = i := by rw [List.getElem?_range q1] at q; exact (Option.some.inj q).symm
    subst q2
    refine ⟨q1, fun x H2 ⟨e3, e4⟩ => ?_⟩
    subst e3 e4
    exact ⟨G', Same.refl _, Same.refl _, hd, .int _⟩
theorem di_range1 {tg a : Expr} {fa : S → R (List D)} {p pos : Pos} (hg : Gl X "range") (hm : X.mg "range" = none) (ha : DA X T W [a] fa) (hs : starEach [a] X.env = [(false, eval a X.env)] := by rfl) : DI X T W tg (.Call (.Name "range" p) [a] [] pos) (dCBF hRange1 fa) := by
  refine impI (pi_range1 hg hm ha hs) fun σ H Q ⟨c, G, st, hd, ok⟩ => ?_
  obtain ⟨c0, G0, st0, hd0, ok0⟩ := step (rel := relA X.K T) hd ok
  refine ⟨c0, G0, st0, hd0, ok0.imp fun x H1 ⟨G1, st1, a, s1, hd1, r1, ok1⟩ => ?_⟩
  cases r1 with
  | nil => exact ok1.elim
  | cons r1 r =>
    cases r with
    | cons _ _ => cases r1 <;> exact ok1.elim
    | nil =>
      cases r1 with
      | int j =>
        have ok' : GOk X.K T W (relI X.K T) c G1 σ (if -4611686018427387904 ≤ j ∧ j < 4611686018427387904 then .ok (rangeD 0 j.toNat) st1 else .stuck) Q := ok1
        by_cases q : -4611686018427387904 ≤ j ∧ j < 4611686018427387904
        · rw [if_pos q] at ok'
          exact ⟨j, rfl, q.1, q.2, ok' _ _ _ (Same.refl _) hd1 relI_range⟩
        · rw [if_neg q] at ok'; exact ok'.elim
      | _ => exact ok1.elim
theorem di_range2 {tg a b : Expr} {fa : S → R (List D)} {p pos : Pos} (hg : Gl X "range") (hm : X.mg "range" = none) (ha : DA X T W [a, b] fa) (hs : starEach [a, b] X.env = [(false, eval a X.env), (false, eval b X.env)] := by rfl) (hs2 : starEach [b] X.env = [(false, eval b X.env)] := by rfl) :
    DI X T W tg (.Call (.Name "range" p) [a, b] [] pos) (dCBF hRange2 fa) := by
  refine impI (pi_range2 hg hm ha hs hs2) fun σ H Q ⟨c, G, st, hd, ok⟩ => ?_
  obtain ⟨c0, G0, st0, hd0, ok0⟩ := step (rel := relA X.K T) hd ok
  refine ⟨c0, G0, st0, hd0, ok0.imp fun x H1 ⟨G1, st1, a, s1, hd1, r1, ok1⟩ => ?_⟩
  cases r1 with
  | nil => exact ok1.elim
  | cons r1 r =>
    cases r with
    | nil => cases r1 <;> exact ok1.elim
    | cons r2 r =>
      cases r with
      | cons _ _ => cases r1 <;> cases r2 <;> exact ok1.elim
      | nil =>
        cases r1 with
        | int i =>
          cases r2 with
          | int j =>
            have ok' : GOk X.K T W (relI X.K T) c G1 σ (if -4611686018427387904 ≤ i ∧ i < 4611686018427387904 ∧ -4611686018427387904 ≤ j ∧ j < 4611686018427387904 then .ok (rangeD i (j - i).toNat) st1 else .stuck) Q := ok1
            by_cases q : -4611686018427387904 ≤ i ∧ i < 4611686018427387904 ∧ -4611686018427387904 ≤ j ∧ j < 4611686018427387904
            · rw [if_pos q] at ok'
              exact ⟨i, j, rfl, q, ok' _ _ _ (Same.refl _) hd1 relI_range⟩
            · rw [if_neg q] at ok'; exact ok'.elim
          | _ => exact ok1.elim
        | _ => cases r2 <;> exact ok1.elim
/-- zip of two lists, of two tuples -/
def zipD (xs ys : List D) : List D := (xs.zip ys).map fun p => .tu [p.1, p.2]
def hZip : List D → S → R (List D)
  | [.ls xs, .ls ys], st => .ok (zipD xs ys) st
  | [.tu xs, .tu ys], st => .ok (zipD xs ys) st
  | _, _ => .stuck
theorem zipD_get {xs ys : List D} {i : Nat} {d : D} (h : (zipD xs ys)[i]? = some d) : ∃ a b, xs[i]? = some a ∧ ys[i]? = some b ∧ d = .tu [a, b] := by
  unfold zipD at h
  rw [List.getElem?_map] at h
  cases q : (xs.zip ys)[i]? with
  | none => rw [q] at h; cases h
  | some p =>
    rw [q] at h
    cases h
    obtain ⟨a, b⟩ := p
    rw [List.getElem?_zip_eq_some] at q
    exact ⟨a, b, q.1, q.2, rfl⟩
theorem relI_zip {K : PySem.W.Frag} {c : Ctx} {G H : Hp} {σ : SV} {st : S} {a b : Addr} {xs ys : List V} {ds es : List D} (h : G a = some (.lst xs)) (h2 : G b = some (.lst ys)) (r : Reps K T c.B G xs ds) (r2 : Reps K T c.B G ys es) : relI K T c G H σ st (Itz K a b) (zipD ds es) := fun c' G' H' σ' st' eB s hd => by
  have hq : SqL K H' a xs := SqL.of (hd.sub _ _ (s _ _ h))
  have hq2 : SqL K H' b ys := SqL.of (hd.sub _ _ (s _ _ h2))
  refine ⟨⟨xs, ys, hq, hq2, ?_⟩, fun i d e => ?_⟩
  · unfold zipD
    rw [List.length_map, List.length_zip, r.length, r2.length]
    omega
  · obtain ⟨d1, d2, e1, e2, rfl⟩ := zipD_get e
    obtain ⟨v1, f1, g1⟩ := r.get' e1
    obtain ⟨v2, f2, g2⟩ := r2.get' e2
    refine ⟨⟨xs, ys, v1, v2, hq, hq2, f1, f2⟩, fun x H2 ⟨t, x1, x2, ex, nt, eH, y1, y2⟩ => ?_⟩
    have z1 := y1 xs hq
    rw [f1] at z1; cases z1
    have z2 := y2 ys hq2
    rw [f2] at z2; cases z2
    subst ex eH
    have sg := same_upd (o := .tup [v1, v2]) (hd.gnone nt)
    exact ⟨_, sg, same_upd nt, hd.lay _ nt, .tu (.inl (.inl upd_same)) (.cons ((g1.mono s).mono sg) (.cons ((g2.mono s).mono sg) .nil))⟩
theorem relI_zipT {K : PySem.W.Frag} {c : Ctx} {G H : Hp} {σ : SV} {st : S} {a b : Addr} {xs ys : List V} {ds es : List D} (h : SqT K G a xs) (h2 : SqT K G b ys) (r : Reps K T c.B G xs ds) (r2 : Reps K T c.B G ys es) : relI K T c G H σ st (RZ.ItzT K a b) (zipD ds es) := fun c' G' H' σ' st' eB s hd => by
  have hq : SqT K H' a xs := Same.sqt hd.sub (Same.sqt s h)
  have hq2 : SqT K H' b ys := Same.sqt hd.sub (Same.sqt s h2)
  refine ⟨⟨xs, ys, hq, hq2, ?_⟩, fun i d e => ?_⟩
  · unfold zipD
    rw [List.length_map, List.length_zip, r.length, r2.length]
    omega
  · obtain ⟨d1, d2, e1, e2, rfl⟩ := zipD_get e
    obtain ⟨v1, f1, g1⟩ := r.get' e1
    obtain ⟨v2, f2, g2⟩ := r2.get' e2
    refine ⟨⟨xs, ys, v1, v2, hq, hq2, f1, f2⟩, fun x H2 ⟨t, x1, x2, ex, nt, eH, y1, y2⟩ => ?_⟩
    have z1 := y1 xs hq
    rw [f1] at z1; cases z1
    have z2 := y2 ys hq2
    rw [f2] at z2; cases z2
    subst ex eH
    have sg := same_upd (o := .tup [v1, v2]) (hd.gnone nt)
    exact ⟨_, sg, same_upd nt, hd.lay _ nt, .tu (.inl (.inl upd_same)) (.cons ((g1.mono s).mono sg) (.cons ((g2.mono s).mono sg) .nil))⟩
theorem di_zip {e e2 : Expr} {fa : S → R (List D)} {p pos tpos : Pos} {elts : List Expr} {kk : Nat} (hg : Gl X "zip") (hm : X.mg "zip" = none) (ha : DA X T W [e, e2] fa)
    (hs : starEach [e, e2] X.env = (false, eval e X.env) :: starEach [e2] X.env := by rfl) (hpl : (backTo pos (starEach [e2] X.env)).any (·.1) = false := by rfl) :
    DI X T W (.Tuple elts kk tpos) (.Call (.Name "zip" p) [e, e2] [] pos) (dCBF hZip fa) := by
  refine impI (RZ.pi_zipA hg hm ha hs hpl) fun σ H Q ⟨c, G, st, hd, ok⟩ => ?_
  obtain ⟨c0, G0, st0, hd0, ok0⟩ := step (rel := relA X.K T) hd ok
  refine ⟨c0, G0, st0, hd0, ok0.imp fun x H1 ⟨G1, st1, a, s1, hd1, r1, ok1⟩ => ?_⟩
  cases r1 with
  | nil => exact ok1.elim
  | cons r1 r =>
    cases r with
    | nil => cases r1 <;> exact ok1.elim
    | cons r2 r =>
      cases r with
      | cons _ _ => cases r1 <;> cases r2 <;> exact ok1.elim
      | nil =>
        cases r1 with
        | @ls p vs ds h r =>
          cases r2 with
          | @ls p2 vs2 ds2 h2 r2 => exact ⟨p, p2, vs, vs2, rfl, .inl ⟨SqL.of (hd1.sub _ _ h), SqL.of (hd1.sub _ _ h2), ok1 _ _ _ (Same.refl _) hd1 (relI_zip h h2 r r2)⟩⟩
          | _ => exact ok1.elim
        | @tu p vs ds h r =>
          cases r2 with
          | @tu p2 vs2 ds2 h2 r2 => exact ⟨p, p2, vs, vs2, rfl, .inr ⟨Same.sqt hd1.sub h, Same.sqt hd1.sub h2, ok1 _ _ _ (Same.refl _) hd1 (relI_zipT h h2 r r2)⟩⟩
          | _ => exact ok1.elim
        | _ => cases r2 <;> exact ok1.elim
/-- enumerate of a list -/
def enumD : Nat → List D → List D
  | _, [] => []
  | k, d :: ds => .tu [.int k, d] :: enumD (k + 1) ds
theorem enumD_get : ∀ {ds : List D} {k i : Nat} {d : D}, (enumD k ds)[i]? = some d → ∃ a, ds[i]? = some a ∧ d = .tu [.int ((k + i : Nat) : Int), a]
  | [], _, _, _, h => by simp [enumD] at h
  | a :: ds, k, 0, d, h => by
    have e : D.tu [.int (k : Nat), a] = d := Option.some.inj h
    subst e
    exact ⟨a, rfl, rfl⟩
  | a :: ds, k, i + 1, d, h => by
    obtain ⟨b, e1, e2⟩ := enumD_get (ds := ds) (k := k + 1) (i := i) (d := d) h
    refine ⟨b, e1, ?_⟩
    rw [e2, show k + 1 + i = k + (i + 1) by omega]
theorem enumD_len : ∀ (ds : List D) (k : Nat), (enumD k ds).length = ds.length
  | [], _ => rfl
  | a :: ds, k => congrArg (· + 1) (enumD_len ds (k + 1))
def hEnum : List D → S → R (List D)
  | [.ls xs], st => .ok (enumD 0 xs) st
  | _, _ => .stuck
theorem relI_enum {K : PySem.W.Frag} {c : Ctx} {G H : Hp} {σ : SV} {st : S} {a : Addr} {xs : List V} {ds : List D} (h : G a = some (.lst xs)) (r : Reps K T c.B G xs ds) : relI K T c G H σ st (Ite K a) (enumD 0 ds) := fun c' G' H' σ' st' eB s hd => by
  have hq : SqL K H' a xs := SqL.of (hd.sub _ _ (s _ _ h))
  refine ⟨⟨xs, hq, by rw [enumD_len, r.length]; exact Nat.le_refl _⟩, fun i d e => ?_⟩
  obtain ⟨d1, e1, rfl⟩ := enumD_get e
  obtain ⟨v1, f1, g1⟩ := r.get' e1
  refine ⟨⟨xs, v1, hq, f1⟩, fun x H2 ⟨t, x1, ex, nt, eH, y1⟩ => ?_⟩
  have z1 := y1 xs hq
  rw [f1] at z1; cases z1
  subst ex eH
  have sg := same_upd (o := .tup [.int (i : Nat), v1]) (hd.gnone nt)
  refine ⟨_, sg, same_upd nt, hd.lay _ nt, .tu (.inl (.inl upd_same)) (.cons ?_ (.cons ((g1.mono s).mono sg) .nil))⟩
  rw [Nat.zero_add]
  exact .int _
theorem di_enumL {e : Expr} {fa : S → R (List D)} {p pos tpos : Pos} {elts : List Expr} {kk : Nat} (hg : Gl X "enumerate") (hm : X.mg "enumerate" = none) (ha : DA X T W [e] fa) (hs : starEach [e] X.env = [(false, eval e X.env)] := by rfl) :
    DI X T W (.Tuple elts kk tpos) (.Call (.Name "enumerate" p) [e] [] pos) (dCBF hEnum fa) := by
  refine impI (pi_enum hg hm ha hs) fun σ H Q ⟨c, G, st, hd, ok⟩ => ?_
  obtain ⟨c0, G0, st0, hd0, ok0⟩ := step (rel := relA X.K T) hd ok
  refine ⟨c0, G0, st0, hd0, ok0.imp fun x H1 ⟨G1, st1, a, s1, hd1, r1, ok1⟩ => ?_⟩
  cases r1 with
  | nil => exact ok1.elim
  | cons r1 r =>
    cases r with
    | cons _ _ => cases r1 <;> exact ok1.elim
    | nil =>
      cases r1 with
      | @ls p vs ds h r => exact ⟨p, vs, rfl, SqL.of (hd1.sub _ _ h), ok1 _ _ _ (Same.refl _) hd1 (relI_enum h r)⟩
      | _ => exact ok1.elim
end
end DL

/-! DLf: statements, loops. -/
namespace DL
open PySem PySem.Spec PyProof.Rows L2
inductive Out where
  | nx | rt (d : D) | rtF (ds : List D) | bk | ct
def SOk (K : PySem.W.Frag) (T : Tab) (W : WX) (c : Ctx) (G : Hp) (r : R Out) (E : Ends) : Prop := match r with
  | .ok .nx st => ∀ G' H' σ', Same G G' → Holds K T c G' H' σ' st → E.nx σ' H'
  | .ok (.rt d) st => ∀ G' H' σ' v, Same G G' → Holds K T c G' H' σ' st → Rep K T c.B G' v d → E.rt v H'
  | .ok (.rtF ds) st => ∀ G' H' σ' v, Same G G' → Holds K T c G' H' σ' st → relF K T c G' H' σ' st v ds → E.rt v H'
  | .ok .bk st => ∀ G' H' σ', Same G G' → Holds K T c G' H' σ' st → E.bk σ' H'
  | .ok .ct st => ∀ G' H' σ', Same G G' → Holds K T c G' H' σ' st → E.ct σ' H'
  | .err e st => ∀ G' H' σ' cls d, Same G G' → Holds K T c G' H' σ' st → ErrAt K T c.B G' H' e cls d → W cls d σ' H'
  | .stuck => False
def tD (K : PySem.W.Frag) (T : Tab) (W : WX) (f : S → R Out) : TS := fun E σ H => ∃ c G st, Holds K T c G H σ st ∧ SOk K T W c G (f st) E
def DS (X : Cx) (T : Tab) (W : WX) (s : Stmt) (f : S → R Out) : Prop := PS X s (tD X.K T W f)
def DSs (X : Cx) (T : Tab) (W : WX) (s : List Stmt) (f : S → R Out) : Prop := PSs X s (tD X.K T W f)
section
variable {K : PySem.W.Frag} {T : Tab} {W : WX} {c : Ctx} {G G' H H' : Hp} {σ : SV} {st : S} {α β : Type} {rel : Rel α β} {E : Ends}
theorem SOk.mono {r : R Out} (s : Same G G') (h : SOk K T W c G r E) : SOk K T W c G' r E := by
  cases r with
  | ok o st =>
    cases o with
    | nx => exact fun G2 H2 σ2 s2 => h G2 H2 σ2 (s.trans s2)
    | bk => exact fun G2 H2 σ2 s2 => h G2 H2 σ2 (s.trans s2)
    | ct => exact fun G2 H2 σ2 s2 => h G2 H2 σ2 (s.trans s2)
    | rt d => exact fun G2 H2 σ2 v s2 => h G2 H2 σ2 v (s.trans s2)
    | rtF d => exact fun G2 H2 σ2 v s2 => h G2 H2 σ2 v (s.trans s2)
  | err e st => exact fun G2 H2 σ2 cls d s2 => h G2 H2 σ2 cls d (s.trans s2)
  | stuck => exact h
theorem stepS {f : S → R α} {g : α → S → R Out} (hd : Holds K T c G H σ st) (ok : SOk K T W c G ((f st).bind g) E) :
    gD K T W rel f σ H (fun x H1 => ∃ G1 st1 a, Same G G1 ∧ Holds K T c G1 H1 σ st1 ∧ rel c G1 H1 σ st1 x a ∧ SOk K T W c G1 (g a st1) E) := by
  refine ⟨c, G, st, hd, ?_⟩
  generalize f st = r at ok
  cases r with
  | ok a st1 => exact fun G1 H1 x s h r => ⟨G1, st1, a, s, h, r, SOk.mono s ok⟩
  | err e st1 => exact fun G1 H1 cls d s h r => ok G1 H1 σ cls d s h r
  | stuck => exact ok
/-- a statement, then more -/
def oBind (r : R Out) (g : S → R Out) : R Out := match r with
  | .ok .nx st => g st
  | r => r
theorem SOk.seq {r : R Out} {g : S → R Out} (ok : SOk K T W c G (oBind r g) E) : SOk K T W c G r { E with nx := tD K T W g E } := by
  cases r with
  | ok o st =>
    cases o with
    | nx => exact fun G2 H2 σ2 s2 h2 => ⟨c, G2, st, h2, SOk.mono s2 ok⟩
    | bk => exact ok
    | ct => exact ok
    | rt d => exact ok
    | rtF d => exact ok
  | err e st => exact ok
  | stuck => exact ok
/-! ### stores -/
theorem Holds.putVal (h : Holds K T c G H σ st) {v : V} {d : D} (r : Rep K T c.B G v d) (i : Nat) : Holds K T c G H (σ.set i (some v)) (st.put i (.val d)) where
  sub0 := h.sub0
  sub := h.sub
  new := h.new
  frame := h.frame
  len := by show (σ.set i _).length = (st.env.set i _).length; rw [List.length_set, List.length_set]; exact h.len
  slot := fun j s q => by
    have q' : (st.env.set i (.val d))[j]? = some s := q
    by_cases w : i = j
    · subst w
      by_cases hi : i < st.env.length
      · rw [List.getElem?_set_self hi] at q'
        cases q'
        exact ⟨v, List.getElem?_set_self (by rw [h.len]; exact hi), r⟩
      · rw [List.getElem?_eq_none (by rw [List.length_set]; omega)] at q'; cases q'
    · rw [List.getElem?_set_ne w] at q'
      rw [List.getElem?_set_ne w]
      exact h.slot j s q'
  dist := fun j k p ds es q1 q2 e1 e2 => by
    have q1' : (st.env.set i (.val d))[j]? = _ := q1
    have q2' : (st.env.set i (.val d))[k]? = _ := q2
    have nj : i ≠ j := fun w => by
      subst w
      by_cases hi : i < st.env.length
      · rw [List.getElem?_set_self hi] at q1'; cases q1'
      · rw [List.getElem?_eq_none (by rw [List.length_set]; omega)] at q1'; cases q1'
    have nk : i ≠ k := fun w => by
      subst w
      by_cases hi : i < st.env.length
      · rw [List.getElem?_set_self hi] at q2'; cases q2'
      · rw [List.getElem?_eq_none (by rw [List.length_set]; omega)] at q2'; cases q2'
    rw [List.getElem?_set_ne nj] at q1' e1
    rw [List.getElem?_set_ne nk] at q2' e2
    exact h.dist j k p ds es q1' q2' e1 e2
  box := h.box
  box0 := h.box0
theorem Holds.putOwn (h : Holds K T c G H σ st) {v : V} {ds : List D} (r : relF K T c G H σ st v ds) (i : Nat) : Holds K T c G H (σ.set i (some v)) (st.put i (.own ds)) := by
  obtain ⟨p, vs, rfl, hp, g, z, rs, nd⟩ := r
  exact {
    sub0 := h.sub0
    sub := h.sub
    new := h.new
    frame := h.frame
    len := by show (σ.set i _).length = (st.env.set i _).length; rw [List.length_set, List.length_set]; exact h.len
    slot := fun j s q => by
      have q' : (st.env.set i (.own ds))[j]? = some s := q
      by_cases w : i = j
      · subst w
        by_cases hi : i < st.env.length
        · rw [List.getElem?_set_self hi] at q'
          cases q'
          exact ⟨p, vs, List.getElem?_set_self (by rw [h.len]; exact hi), hp, g, z, rs⟩
        · rw [List.getElem?_eq_none (by rw [List.length_set]; omega)] at q'; cases q'
      · rw [List.getElem?_set_ne w] at q'
        rw [List.getElem?_set_ne w]
        exact h.slot j s q'
    dist := fun j k p2 ds2 es q1 q2 e1 e2 => by
      have q1' : (st.env.set i (.own ds))[j]? = _ := q1
      have q2' : (st.env.set i (.own ds))[k]? = _ := q2
      have big : ∀ j : Nat, i = j → ∀ x, (st.env.set i (.own ds))[j]? = some x → i < st.env.length := fun j w x q => by
        subst w
        have := (List.getElem?_eq_some_iff.mp q).1
        rw [List.length_set] at this; exact this
      by_cases wj : i = j
      · by_cases wk : i = k
        · exact wj.symm.trans wk
        · have hi := big j wj _ q1'
          subst wj
          rw [List.getElem?_set_self (by rw [h.len]; exact hi)] at e1
          cases e1
          rw [List.getElem?_set_ne wk] at q2' e2
          exact absurd e2 (nd k es q2')
      · by_cases wk : i = k
        · have hi := big k wk _ q2'
          subst wk
          rw [List.getElem?_set_self (by rw [h.len]; exact hi)] at e2
          cases e2
          rw [List.getElem?_set_ne wj] at q1' e1
          exact absurd e1 (nd j ds2 q1')
        · rw [List.getElem?_set_ne wj] at q1' e1
          rw [List.getElem?_set_ne wk] at q2' e2
          exact h.dist j k p2 ds2 es q1' q2' e1 e2
    box := h.box
    box0 := h.box0 }
/-- an own list changes -/
theorem Holds.setOwn (h : Holds K T c G H σ st) {i : Nat} {ds es : List D} {p : Addr} {vs : List V} (e : st.env[i]? = some (.own ds)) (e1 : σ[i]? = some (some (.ref p))) (r : Reps K T c.B G vs es) :
    Holds K T c G (upd H p (.lst vs)) σ (st.put i (.own es)) := by
  obtain ⟨p2, vs2, f1, hp, g, z, rs⟩ := h.slot i _ e
  rw [e1] at f1
  cases f1
  have hi : i < st.env.length := (List.getElem?_eq_some_iff.mp e).1
  exact {
    sub0 := h.sub0
    sub := fun a o q => by
      have ne : a ≠ p := fun w => by subst w; rw [g] at q; cases q
      rw [upd_ne ne]; exact h.sub _ _ q
    new := h.new
    frame := fun a o q b => by
      have ne : a ≠ p := fun w => by subst w; rw [z] at q; cases q
      rw [upd_ne ne]; exact h.frame a o q b
    len := by show _ = (st.env.set i _).length; rw [List.length_set]; exact h.len
    slot := fun j s q => by
      have q' : (st.env.set i (.own es))[j]? = some s := q
      by_cases w : i = j
      · subst w
        rw [List.getElem?_set_self hi] at q'
        cases q'
        exact ⟨p, vs, e1, upd_same, g, z, r⟩
      · rw [List.getElem?_set_ne w] at q'
        have o := h.slot j s q'
        cases s with
        | un => trivial
        | val d => exact o
        | own es2 =>
          obtain ⟨p3, vs3, a1, a2, a3, a4, a5⟩ := o
          have ne : p3 ≠ p := fun t => by subst t; exact w (h.dist i j p3 ds es2 e q' e1 a1)
          exact ⟨p3, vs3, a1, by rw [upd_ne ne]; exact a2, a3, a4, a5⟩
    dist := fun j k p3 ds3 es3 q1 q2 a1 a2 => by
      have own : ∀ (j : Nat) (x : List D), (st.put i (.own es)).env[j]? = some (.own x) → ∃ y, st.env[j]? = some (.own y) := fun j x q => by
        have q' : (st.env.set i (.own es))[j]? = some (.own x) := q
        by_cases w : i = j
        · subst w; exact ⟨_, e⟩
        · rw [List.getElem?_set_ne w] at q'; exact ⟨x, q'⟩
      obtain ⟨y1, b1⟩ := own j ds3 q1
      obtain ⟨y2, b2⟩ := own k es3 q2
      exact h.dist j k p3 y1 y2 b1 b2 a1 a2
    box := fun b q => by
      obtain ⟨x, y⟩ := h.box b q
      have ne : b ≠ p := fun t => by subst t; exact h.box0 b q z
      exact ⟨by rw [upd_ne ne]; exact x, y⟩
    box0 := h.box0 }
/-- the box changes -/
theorem Holds.setBox (h : Holds K T c G H σ st) {p : Addr} (e : c.B = some p) (b : Bx) : Holds K T c G (upd H p (boxO b)) σ { st with bx := b } where
  sub0 := h.sub0
  sub := fun a o q => by
    have ne : a ≠ p := fun w => by subst w; rw [(h.box a e).2] at q; cases q
    rw [upd_ne ne]; exact h.sub _ _ q
  new := h.new
  frame := fun a o q n => by
    have ne : a ≠ p := fun w => by subst w; exact n e
    rw [upd_ne ne]; exact h.frame a o q n
  len := h.len
  slot := fun j s q => by
    have o := h.slot j s q
    cases s with
    | un => trivial
    | val d => exact o
    | own es =>
      obtain ⟨p3, vs3, a1, a2, a3, a4, a5⟩ := o
      have ne : p3 ≠ p := fun t => by subst t; exact h.box0 p3 e a4
      exact ⟨p3, vs3, a1, by rw [upd_ne ne]; exact a2, a3, a4, a5⟩
  dist := h.dist
  box := fun q w => by
    rw [e] at w
    cases w
    exact ⟨upd_same, (h.box p e).2⟩
  box0 := h.box0
end
section
variable {X : Cx} {T : Tab} {W : WX}
/-! ### blocks -/
def dNext : S → R Out := fun st => .ok .nx st
def dSeq (f g : S → R Out) : S → R Out := fun st => oBind (f st) g
theorem dss_nil : DSs X T W [] dNext := impSs pss_nil fun E σ H ⟨c, G, st, hd, ok⟩ => ok _ _ _ (Same.refl _) hd
theorem dss_cons {s : Stmt} {rest : List Stmt} {f g : S → R Out} (h1 : DS X T W s f) (h2 : DSs X T W rest g) : DSs X T W (s :: rest) (dSeq f g) := impSs (pss_cons h1 h2) fun E σ H ⟨c, G, st, hd, ok⟩ => ⟨c, G, st, hd, SOk.seq ok⟩
theorem dss_one {s : Stmt} {f : S → R Out} (h : DS X T W s f) : DSs X T W [s] f := pss_one h
theorem ds_pass {pos : Pos} : DS X T W (.Pass pos) dNext := impS ps_pass fun E σ H ⟨c, G, st, hd, ok⟩ => ok _ _ _ (Same.refl _) hd
def dBreak : S → R Out := fun st => .ok .bk st
def dCont : S → R Out := fun st => .ok .ct st
theorem ds_break {pos : Pos} : DS X T W (.Break pos) dBreak := impS ps_break fun E σ H ⟨c, G, st, hd, ok⟩ => ok _ _ _ (Same.refl _) hd
theorem ds_cont {pos : Pos} : DS X T W (.Continue pos) dCont := impS ps_continue fun E σ H ⟨c, G, st, hd, ok⟩ => ok _ _ _ (Same.refl _) hd
theorem ds_doc {x : Str} {j : Nat} {pos pos' : Pos} : DS X T W (.Expr (.Constant (.str x) j pos) pos') dNext := impS ps_doc fun E σ H ⟨c, G, st, hd, ok⟩ => ok _ _ _ (Same.refl _) hd
def dDrop (f : S → R D) : S → R Out := fun st => (f st).bind fun _ st => .ok .nx st
theorem ds_expr {e : Expr} {f : S → R D} {pos : Pos} (he : DE X T W e f) (hs : swapsWith e none pos.line X.env = pure false := by rfl) : DS X T W (.Expr e pos) (dDrop f) := impS (ps_expr he hs) fun E σ H ⟨c, G, st, hd, ok⟩ => by
  obtain ⟨c0, G0, st0, hd0, ok0⟩ := stepS (rel := relD X.K T) hd ok
  exact ⟨c0, G0, st0, hd0, ok0.imp fun x H1 ⟨G1, st1, a, s1, hd1, r1, ok1⟩ => ok1 _ _ _ (Same.refl _) hd1⟩
def dRet (f : S → R D) : S → R Out := fun st => (f st).bind fun d st => .ok (.rt d) st
theorem ds_ret {e : Expr} {f : S → R D} {pos : Pos} (he : DE X T W e f) : DS X T W (.Return (some e) pos) (dRet f) := impS (ps_ret he) fun E σ H ⟨c, G, st, hd, ok⟩ => by
  obtain ⟨c0, G0, st0, hd0, ok0⟩ := stepS (rel := relD X.K T) hd ok
  exact ⟨c0, G0, st0, hd0, ok0.imp fun x H1 ⟨G1, st1, a, s1, hd1, r1, ok1⟩ => ok1 _ _ _ _ (Same.refl _) hd1 r1⟩
def dRetF (f : S → R (List D)) : S → R Out := fun st => (f st).bind fun ds st => .ok (.rtF ds) st
theorem ds_retF {e : Expr} {f : S → R (List D)} {pos : Pos} (he : DF X T W e f) : DS X T W (.Return (some e) pos) (dRetF f) := impS (ps_ret he) fun E σ H ⟨c, G, st, hd, ok⟩ => by
  obtain ⟨c0, G0, st0, hd0, ok0⟩ := stepS (rel := relF X.K T) hd ok
  exact ⟨c0, G0, st0, hd0, ok0.imp fun x H1 ⟨G1, st1, a, s1, hd1, r1, ok1⟩ => ok1 _ _ _ _ (Same.refl _) hd1 r1⟩
theorem ds_retN {pos : Pos} : DS X T W (.Return none pos) (dRet (dC .non)) := impS ps_retN fun E σ H ⟨c, G, st, hd, ok⟩ => ok _ _ _ _ (Same.refl _) hd .non
def dIf (t : S → R Bool) (f g : S → R Out) : S → R Out := fun st => (t st).bind fun k st => if k = true then f st else g st
theorem ds_if {e : Expr} {a b : List Stmt} {t : S → R Bool} {f g : S → R Out} {pos : Pos} (ht : DT X T W e t) (ha : DSs X T W a f) (hb : DSs X T W b g) : DS X T W (.If e a b pos) (dIf t f g) := impS (ps_if ht ha hb) fun E σ H ⟨c, G, st, hd, ok⟩ => by
  obtain ⟨c0, G0, st0, hd0, ok0⟩ := stepS (rel := relB) hd ok
  refine ⟨c0, G0, st0, hd0, ok0.imp fun k H1 ⟨G1, st1, a, s1, hd1, r1, ok1⟩ => ?_⟩
  cases r1
  cases k with
  | true => rw [if_pos rfl] at ok1 ⊢; exact ⟨_, G1, st1, hd1, ok1⟩
  | false => rw [if_neg Bool.false_ne_true] at ok1 ⊢; exact ⟨_, G1, st1, hd1, ok1⟩
def dSet (i : Nat) (f : S → R D) : S → R Out := fun st => (f st).bind fun d st => .ok .nx (st.put i (.val d))
def dOwn (i : Nat) (f : S → R (List D)) : S → R Out := fun st => (f st).bind fun ds st => .ok .nx (st.put i (.own ds))
theorem ds_set {i : Nat} {x : Str} {e : Expr} {f : S → R D} {pos pos' : Pos} (hN : X.N.Nodup) (hi : X.N[i]? = some x) (hx : Loc X.env.scope x) (he : DE X T W e f) (hs : swapsWith e (some (.Name x pos')) pos.line X.env = pure false := by rfl)
    (hf : X.fn x = true ∨ X.env.scope.names.lookup x = some .local := by first | exact .inl rfl | exact .inr rfl | assumption) : DS X T W (.Assign [.Name x pos'] e pos) (dSet i f) := impS (ps_set hN hi hx he hs hf) fun E σ H ⟨c, G, st, hd, ok⟩ => by
  obtain ⟨c0, G0, st0, hd0, ok0⟩ := stepS (rel := relD X.K T) hd ok
  exact ⟨c0, G0, st0, hd0, ok0.imp fun x H1 ⟨G1, st1, a, s1, hd1, r1, ok1⟩ => ok1 _ _ _ (Same.refl _) (hd1.putVal r1 i)⟩
theorem ds_own {i : Nat} {x : Str} {e : Expr} {f : S → R (List D)} {pos pos' : Pos} (hN : X.N.Nodup) (hi : X.N[i]? = some x) (hx : Loc X.env.scope x) (he : DF X T W e f) (hs : swapsWith e (some (.Name x pos')) pos.line X.env = pure false := by rfl)
    (hf : X.fn x = true ∨ X.env.scope.names.lookup x = some .local := by first | exact .inl rfl | exact .inr rfl | assumption) : DS X T W (.Assign [.Name x pos'] e pos) (dOwn i f) := impS (ps_set hN hi hx he hs hf) fun E σ H ⟨c, G, st, hd, ok⟩ => by
  obtain ⟨c0, G0, st0, hd0, ok0⟩ := stepS (rel := relF X.K T) hd ok
  exact ⟨c0, G0, st0, hd0, ok0.imp fun x H1 ⟨G1, st1, a, s1, hd1, r1, ok1⟩ => ok1 _ _ _ (Same.refl _) (hd1.putOwn r1 i)⟩
/-- x.append(e), x one's own list -/
def dApp (i : Nat) (f : S → R D) : S → R Out := fun st => match st.env[i]? with
  | some (.own _) => (f st).bind fun d st => match st.env[i]? with
    | some (.own ds) => if ds.length < 16777216 then .ok .nx (st.put i (.own (ds ++ [d]))) else .stuck
    | _ => .stuck
  | _ => .stuck
theorem ds_append {i : Nat} {o e : Expr} {f : S → R D} {pos apos cpos : Pos} (ho : PE X o (tVar i)) (he : DE X T W e f) (hn : starEach [e] X.env = (false, eval e X.env) :: starEach [] X.env := by rfl)
    (hp : PS X (.Expr (.Call (.Attribute o "append" apos) [e] [] cpos) pos) (tDrop (tBM X.K "list" rAppend (tVar i) (tCons (gD X.K T W (relD X.K T) f) tNil)))) :
    DS X T W (.Expr (.Call (.Attribute o "append" apos) [e] [] cpos) pos) (dApp i f) := impS hp fun E σ H ⟨c, G, st, hd, ok⟩ => by
  unfold dApp at ok
  cases q : st.env[i]? with
  | none => rw [q] at ok; exact ok.elim
  | some s =>
    rw [q] at ok
    cases s with
    | un => exact ok.elim
    | val d => exact ok.elim
    | own ds =>
      obtain ⟨p, vs, e1, e2, g, z, r⟩ := hd.slot i _ q
      refine ⟨.ref p, e1, .inl ⟨rfl, vs, SqL.of e2⟩, ?_⟩
      obtain ⟨c0, G0, st0, hd0, ok0⟩ := stepS (rel := relD X.K T) hd ok
      refine ⟨c0, G0, st0, hd0, ok0.imp fun x H1 ⟨G1, st1, a, s1, hd1, r1, ok1⟩ => ?_⟩
      cases q1 : st1.env[i]? with
      | none => rw [q1] at ok1; exact ok1.elim
      | some s =>
        rw [q1] at ok1
        cases s with
        | un => exact ok1.elim
        | val d => exact ok1.elim
        | own ds1 =>
          obtain ⟨p2, vs2, f1, f2, g2, z2, r2⟩ := hd1.slot i _ q1
          rw [e1] at f1
          cases f1
          dsimp only at ok1
          by_cases w : ds1.length < 16777216
          · rw [if_pos w] at ok1
            exact ⟨p, vs2, x, rfl, rfl, f2, by rw [sizeLine_eq, r2.length]; exact w, ok1 _ _ _ (Same.refl _) (hd1.setOwn q1 e1 (r2.append (.one r1)))⟩
          · rw [if_neg w] at ok1; exact ok1.elim
/-- x[k] = e, x one's own list, or the box -/
def dSetIx (i : Nat) (f g : S → R D) : S → R Out := fun st => (f st).bind fun d st => match st.env[i]? with
  | some (.own _) => (g st).bind fun k st => match st.env[i]?, k with
    | some (.own ds), .int k => match ixN ds.length k with
      | some j => .ok .nx (st.put i (.own (ds.set j d)))
      | none => .stuck
    | _, _ => .stuck
  | some (.val .box) => (g st).bind fun k st => match k, d with
    | .int k, .int n => if k = 0 then .ok .nx { st with bx := (n, st.bx.2.1, st.bx.2.2) } else if k = 1 then .ok .nx { st with bx := (st.bx.1, n, st.bx.2.2) } else if k = 2 then .ok .nx { st with bx := (st.bx.1, st.bx.2.1, n) } else .stuck
    | _, _ => .stuck
  | _ => .stuck
theorem ds_setIx {i : Nat} {o k e : Expr} {f g : S → R D} {pos p1 : Pos} (ho : PE X o (tVar i)) (hk : DE X T W k g) (he : DE X T W e f)
    (hp : PS X (.Assign [.Subscript o k p1] e pos) (tAsg (gD X.K T W (relD X.K T) f) (gSub (tVar i) (gD X.K T W (relD X.K T) g) rSetL))) : DS X T W (.Assign [.Subscript o k p1] e pos) (dSetIx i f g) := impS hp fun E σ H ⟨c, G, st, hd, ok⟩ => by
  obtain ⟨c0, G0, st0, hd0, ok0⟩ := stepS (rel := relD X.K T) hd ok
  refine ⟨c0, G0, st0, hd0, ok0.imp fun x H1 ⟨G1, st1, a, s1, hd1, r1, ok1⟩ => ?_⟩
  cases q : st1.env[i]? with
  | none => rw [q] at ok1; exact ok1.elim
  | some s =>
    rw [q] at ok1
    cases s with
    | un => exact ok1.elim
    | own ds =>
      obtain ⟨p, vs, e1, e2, gg, z, r⟩ := hd1.slot i _ q
      refine ⟨.ref p, e1, ?_⟩
      obtain ⟨c2, G2, st2, hd2, ok2⟩ := stepS (rel := relD X.K T) hd1 ok1
      refine ⟨c2, G2, st2, hd2, ok2.imp fun y H2 ⟨G3, st3, b, s3, hd3, r3, ok3⟩ => ?_⟩
      cases q1 : st3.env[i]? with
      | none => rw [q1] at ok3; exact ok3.elim
      | some s =>
        rw [q1] at ok3
        cases s with
        | un => exact ok3.elim
        | val d => exact ok3.elim
        | own ds1 =>
          obtain ⟨p2, vs2, f1, f2, g2, z2, r2⟩ := hd3.slot i _ q1
          rw [e1] at f1
          cases f1
          cases r3 with
          | int kk =>
            dsimp only at ok3
            cases w : ixN ds1.length kk with
            | none => rw [w] at ok3; exact ok3.elim
            | some j =>
              rw [w] at ok3
              exact ⟨p, vs2, kk, j, rfl, rfl, f2, by rw [r2.length]; exact w, ok3 _ _ _ (Same.refl _) (hd3.setOwn q1 e1 (r2.set (r1.mono s3) j))⟩
          | _ => exact ok3.elim
    | val d =>
      cases d with
      | box =>
        obtain ⟨v, e1, rb⟩ := hd1.slot i _ q
        cases rb with
        | @box p hb =>
          refine ⟨.ref p, e1, ?_⟩
          obtain ⟨c2, G2, st2, hd2, ok2⟩ := stepS (rel := relD X.K T) hd1 ok1
          refine ⟨c2, G2, st2, hd2, ok2.imp fun y H2 ⟨G3, st3, b, s3, hd3, r3, ok3⟩ => ?_⟩
          have hbx := (hd3.box p hb).1
          cases r3 with
          | int kk =>
            cases r1 with
            | int n =>
              replace ok3 : SOk X.K T W c G3 (if kk = 0 then .ok .nx { st3 with bx := (n, st3.bx.2.1, st3.bx.2.2) } else if kk = 1 then .ok .nx { st3 with bx := (st3.bx.1, n, st3.bx.2.2) } else if kk = 2 then .ok .nx { st3 with bx := (st3.bx.1, st3.bx.2.1, n) } else .stuck) E := ok3
              by_cases k0 : kk = 0
              · subst k0
                rw [if_pos rfl] at ok3
                exact ⟨p, _, 0, 0, rfl, rfl, hbx, rfl, ok3 _ _ _ (Same.refl _) (hd3.setBox hb (n, st3.bx.2.1, st3.bx.2.2))⟩
              · rw [if_neg k0] at ok3
                by_cases k1 : kk = 1
                · subst k1
                  rw [if_pos rfl] at ok3
                  exact ⟨p, _, 1, 1, rfl, rfl, hbx, rfl, ok3 _ _ _ (Same.refl _) (hd3.setBox hb (st3.bx.1, n, st3.bx.2.2))⟩
                · rw [if_neg k1] at ok3
                  by_cases k2 : kk = 2
                  · subst k2
                    rw [if_pos rfl] at ok3
                    exact ⟨p, _, 2, 2, rfl, rfl, hbx, rfl, ok3 _ _ _ (Same.refl _) (hd3.setBox hb (st3.bx.1, st3.bx.2.1, n))⟩
                  · rw [if_neg k2] at ok3; exact ok3.elim
            | _ => exact ok3.elim
          | _ => exact ok3.elim
      | _ => exact ok1.elim
/-! ### targets -/
inductive Tg where
  | nm (i : Nat) | tp (is : List Nat) | np (i : Nat) (is : List Nat) | pn (is : List Nat) (i : Nat)
def gNames : List Nat → TGs
  | [] => gNil
  | i :: is => gCons (gName i) (gNames is)
def gUn (K : PySem.W.Frag) (n : Nat) (t : TGs) : TG := fun v σ H Q => ∃ a xs, v = .ref a ∧ (SqT K H a xs ∨ SqL K H a xs) ∧ xs.length = n ∧ t xs σ H Q
def tgT (K : PySem.W.Frag) : Tg → TG
  | .nm i => gName i
  | .tp is => gUn K is.length (gNames is)
  | .np i is => gUn K 2 (gCons (gName i) (gCons (gUn K is.length (gNames is)) gNil))
  | .pn is i => gUn K 2 (gCons (gUn K is.length (gNames is)) (gCons (gName i) gNil))
def DG (X : Cx) (tg : Expr) (k : Tg) : Prop := PG X tg (tgT X.K k)
def putAll : List Nat → List D → S → S
  | i :: is, d :: ds, st => putAll is ds (st.put i (.val d))
  | _, _, st => st
def setAll : List Nat → List V → SV → SV
  | i :: is, v :: vs, σ => setAll is vs (σ.set i (some v))
  | _, _, σ => σ
def tgD : Tg → D → S → R Unit
  | .nm i, d, st => .ok () (st.put i (.val d))
  | .tp is, .tu ds, st => if ds.length = is.length then .ok () (putAll is ds st) else .stuck
  | .tp is, .ls ds, st => if ds.length = is.length then .ok () (putAll is ds st) else .stuck
  | .np i is, .tu [x, .tu ds], st => if ds.length = is.length then .ok () (putAll is ds (st.put i (.val x))) else .stuck
  | .np i is, .tu [x, .ls ds], st => if ds.length = is.length then .ok () (putAll is ds (st.put i (.val x))) else .stuck
  | .pn is i, .tu [.tu ds, x], st => if ds.length = is.length then .ok () ((putAll is ds st).put i (.val x)) else .stuck
  | .pn is i, .tu [.ls ds, x], st => if ds.length = is.length then .ok () ((putAll is ds st).put i (.val x)) else .stuck
  | _, _, _ => .stuck
theorem gNames_run {Q : SV → Hp → Prop} : ∀ {is : List Nat} {vs : List V} {σ : SV} {H : Hp}, vs.length = is.length → Q (setAll is vs σ) H → gNames is vs σ H Q
  | [], [], σ, H, _, q => ⟨rfl, q⟩
  | i :: is, v :: vs, σ, H, l, q => ⟨v, vs, rfl, gNames_run (is := is) (vs := vs) (by simpa using l) q⟩
  | [], _ :: _, _, _, l, _ => by simp at l
  | _ :: _, [], _, _, l, _ => by simp at l
theorem Holds.putAll {K : PySem.W.Frag} {c : Ctx} {G H : Hp} : ∀ {is : List Nat} {vs : List V} {ds : List D} {σ : SV} {st : S}, Holds K T c G H σ st → Reps K T c.B G vs ds → Holds K T c G H (setAll is vs σ) (DL.putAll is ds st)
  | [], _, _, _, _, h, _ => h
  | i :: is, _, _, _, _, h, .nil => h
  | i :: is, _, _, _, _, h, .cons r rs => Holds.putAll (is := is) (h.putVal r i) rs
theorem tg_run {K : PySem.W.Frag} {c : Ctx} {G H : Hp} {σ : SV} {st st' : S} {v : V} {d : D} {k : Tg} {Q : SV → Hp → Prop} (hd : Holds K T c G H σ st) (r : Rep K T c.B G v d) (e : tgD k d st = .ok () st') (q : ∀ σ', Holds K T c G H σ' st' → Q σ' H) : tgT K k v σ H Q := by
  cases k with
  | nm i => cases e; exact q _ (hd.putVal r i)
  | tp is =>
    cases r with
    | @tu p vs ds h rs =>
      have e' : (if ds.length = is.length then R.ok () (DL.putAll is ds st) else .stuck) = .ok () st' := e
      by_cases l : ds.length = is.length
      · rw [if_pos l] at e'; cases e'
        exact ⟨p, vs, rfl, .inl (Same.sqt hd.sub h), rs.length.trans l, gNames_run (rs.length.trans l) (q _ (hd.putAll rs))⟩
      · rw [if_neg l] at e'; cases e'
    | @ls p vs ds h rs =>
      have e' : (if ds.length = is.length then R.ok () (DL.putAll is ds st) else .stuck) = .ok () st' := e
      by_cases l : ds.length = is.length
      · rw [if_pos l] at e'; cases e'
        exact ⟨p, vs, rfl, .inr (SqL.of (hd.sub _ _ h)), rs.length.trans l, gNames_run (rs.length.trans l) (q _ (hd.putAll rs))⟩
      · rw [if_neg l] at e'; cases e'
    | _ => cases e
  | np i is =>
    cases r with
    | @tu p ws ds h rs =>
      cases rs with
      | nil => cases e
      | cons r1 rs =>
        cases rs with
        | nil => cases r1 <;> cases e
        | cons r2 rs =>
          cases rs with
          | cons _ _ => cases r1 <;> cases r2 <;> cases e
          | nil =>
            cases r2 with
            | @tu p2 us es h2 rs2 =>
              have e' : (if es.length = is.length then R.ok () (DL.putAll is es (st.put i (.val _))) else .stuck) = .ok () st' := e
              by_cases l : es.length = is.length
              · rw [if_pos l] at e'; cases e'
                exact ⟨p, _, rfl, .inl (Same.sqt hd.sub h), rfl, _, _, rfl, _, _, rfl, ⟨p2, us, rfl, .inl (Same.sqt hd.sub h2), rs2.length.trans l, gNames_run (rs2.length.trans l) ⟨rfl, q _ (Holds.putAll (hd.putVal r1 i) rs2)⟩⟩⟩
              · rw [if_neg l] at e'; cases e'
            | @ls p2 us es h2 rs2 =>
              have e' : (if es.length = is.length then R.ok () (DL.putAll is es (st.put i (.val _))) else .stuck) = .ok () st' := e
              by_cases l : es.length = is.length
              · rw [if_pos l] at e'; cases e'
                exact ⟨p, _, rfl, .inl (Same.sqt hd.sub h), rfl, _, _, rfl, _, _, rfl, ⟨p2, us, rfl, .inr (SqL.of (hd.sub _ _ h2)), rs2.length.trans l, gNames_run (rs2.length.trans l) ⟨rfl, q _ (Holds.putAll (hd.putVal r1 i) rs2)⟩⟩⟩
              · rw [if_neg l] at e'; cases e'
            | _ => cases r1 <;> cases e
    | _ => cases e
  | pn is i =>
    cases r with
    | @tu p ws ds h rs =>
      cases rs with
      | nil => cases e
      | cons r1 rs =>
        cases rs with
        | nil => cases r1 <;> cases e
        | cons r2 rs =>
          cases rs with
          | cons _ _ => cases r1 <;> cases r2 <;> cases e
          | nil =>
            cases r1 with
            | @tu p2 us es h2 rs2 =>
              have e' : (if es.length = is.length then R.ok () ((DL.putAll is es st).put i (.val _)) else .stuck) = .ok () st' := e
              by_cases l : es.length = is.length
              · rw [if_pos l] at e'; cases e'
                exact ⟨p, _, rfl, .inl (Same.sqt hd.sub h), rfl, _, _, rfl, ⟨p2, us, rfl, .inl (Same.sqt hd.sub h2), rs2.length.trans l, gNames_run (rs2.length.trans l) ⟨_, _, rfl, ⟨rfl, q _ ((hd.putAll rs2).putVal r2 i)⟩⟩⟩⟩
              · rw [if_neg l] at e'; cases e'
            | @ls p2 us es h2 rs2 =>
              have e' : (if es.length = is.length then R.ok () ((DL.putAll is es st).put i (.val _)) else .stuck) = .ok () st' := e
              by_cases l : es.length = is.length
              · rw [if_pos l] at e'; cases e'
                exact ⟨p, _, rfl, .inl (Same.sqt hd.sub h), rfl, _, _, rfl, ⟨p2, us, rfl, .inr (SqL.of (hd.sub _ _ h2)), rs2.length.trans l, gNames_run (rs2.length.trans l) ⟨_, _, rfl, ⟨rfl, q _ ((hd.putAll rs2).putVal r2 i)⟩⟩⟩⟩
              · rw [if_neg l] at e'; cases e'
            | _ => cases r2 <;> cases e
    | _ => cases e
theorem tgD_noerr {k : Tg} {d : D} {st : S} : (∃ st', tgD k d st = .ok () st') ∨ tgD k d st = .stuck := by
  unfold tgD
  split <;> first | exact .inl ⟨_, rfl⟩ | exact .inr rfl | skip
  all_goals
    split
    · exact .inl ⟨_, rfl⟩
    · exact .inr rfl
theorem dg_name {i : Nat} {x : Str} {pos : Pos} (hN : X.N.Nodup) (hi : X.N[i]? = some x) (hx : Loc X.env.scope x) (hf : X.fn x = true ∨ X.env.scope.names.lookup x = some .local := by first | exact .inl rfl | exact .inr rfl | assumption) : DG X (.Name x pos) (.nm i) := pg_name hN hi hx hf
theorem dg_tup {es : List Expr} {k : Nat} {is : List Nat} {pos : Pos} (h1 : PG X (.Tuple es k pos) (gTup X.K is.length (gNames is))) (h2 : PG X (.Tuple es k pos) (gUnl X.K is.length (gNames is))) : DG X (.Tuple es k pos) (.tp is) :=
  ⟨fun pins s σ H v u Q I r ⟨a, xs, e, hq, l, q⟩ => hq.elim (fun z => h1.run pins s σ H v u Q I r ⟨a, xs, e, z, l, q⟩) fun z => h2.run pins s σ H v u Q I r ⟨a, xs, e, z, l, q⟩⟩
/-- i, (a, b, ..) and (a, b, ..), i -/
theorem dg_two {es : List Expr} {k : Nat} {t : TGs} {pos : Pos} {g : Tg} (e : tgT X.K g = gUn X.K 2 t) (h1 : PG X (.Tuple es k pos) (gTup X.K 2 t)) (h2 : PG X (.Tuple es k pos) (gUnl X.K 2 t)) : DG X (.Tuple es k pos) g := by
  unfold DG
  rw [e]
  exact ⟨fun pins s σ H v u Q I r ⟨a, xs, e, hq, l, q⟩ => hq.elim (fun z => h1.run pins s σ H v u Q I r ⟨a, xs, e, z, l, q⟩) fun z => h2.run pins s σ H v u Q I r ⟨a, xs, e, z, l, q⟩⟩
/-- a, b = e -/
def dUnpack (k : Tg) (f : S → R D) : S → R Out := fun st => (f st).bind fun d st => (tgD k d st).bind fun _ st => .ok .nx st
theorem ds_asg {tg e : Expr} {k : Tg} {f : S → R D} {pos : Pos} (he : DE X T W e f) (hg : DG X tg k) (hs : swapsWithSole [tg] e pos.line X.env = pure false := by rfl) (hw : swappedStores [tg] e X.env = pure none := by rfl) (h1 : (assignEach [tg] X.env).map (·.2) = [assign tg X.env] := by rfl) :
    DS X T W (.Assign [tg] e pos) (dUnpack k f) := impS (ps_asg he hg hs hw h1) fun E σ H ⟨c, G, st, hd, ok⟩ => by
  obtain ⟨c0, G0, st0, hd0, ok0⟩ := stepS (rel := relD X.K T) hd ok
  refine ⟨c0, G0, st0, hd0, ok0.imp fun x H1 ⟨G1, st1, a, s1, hd1, r1, ok1⟩ => ?_⟩
  rcases tgD_noerr (k := k) (d := a) (st := st1) with ⟨st2, e2⟩ | e2
  · rw [e2] at ok1
    exact tg_run hd1 r1 e2 fun σ' h => ok1 _ _ _ (Same.refl _) h
  · rw [e2] at ok1; exact ok1.elim
/-! ### for -/
def forD (k : Tg) (b : S → R Out) : List D → S → R Out
  | [], st => .ok .nx st
  | d :: ds, st => (tgD k d st).bind fun _ st => match b st with
    | .ok .nx st => forD k b ds st
    | .ok .ct st => forD k b ds st
    | .ok .bk st => .ok .nx st
    | r => r
def dFor (k : Tg) (i : S → R (List D)) (b : S → R Out) : S → R Out := fun st => (i st).bind fun ds st => forD k b ds st
theorem ds_for {tg iter : Expr} {body : List Stmt} {k : Tg} {i : S → R (List D)} {b : S → R Out} {pos : Pos} (hp : PassesOwn (model X.prog X.w) X.A X.env X.xe) (hc : X.calm = true) (hi : DI X T W tg iter i) (hg : DG X tg k) (hb : DSs X T W body b)
    (hs : ∀ x, foldedSetIterable iter X.env x = pure x := by intro _; rfl) : DS X T W (.For tg iter body [] pos) (dFor k i b) := impS (ps_for hp hc hi hg hb hs) fun E σ H ⟨c, G, st, hd, ok⟩ => by
  obtain ⟨c0, G0, st0, hd0, ok0⟩ := stepS (rel := relI X.K T) hd ok
  refine ⟨c0, G0, st0, hd0, ok0.imp fun J H1 ⟨G1, st1, ds, s1, hd1, r1, ok1⟩ => ?_⟩
  refine ⟨fun i m σ H => m = ds.length - i ∧ i ≤ ds.length ∧ ∃ G' st', Same G1 G' ∧ Holds X.K T c G' H σ st' ∧ SOk X.K T W c G' (forD k b (ds.drop i) st') E, ⟨ds.length, by simp, Nat.zero_le _, G1, st1, Same.refl _, hd1, ok1⟩, ?_⟩
  rintro i m σ H ⟨rfl, hi, G', st', s', hd', ok'⟩
  obtain ⟨rs, rg⟩ := r1 c G' H σ st' rfl s' hd'
  by_cases hlt : i < ds.length
  · have e0 : ds[i]? = some ds[i] := List.getElem?_eq_getElem hlt
    obtain ⟨g1, g2⟩ := rg i _ e0
    have ed : ds.drop i = ds[i] :: ds.drop (i + 1) := List.drop_eq_getElem_cons hlt
    rw [ed] at ok'
    refine .inr ⟨g1, fun σ' H' => ∃ G2 st2, Same G1 G2 ∧ Holds X.K T c G2 H' σ' st2 ∧ SOk X.K T W c G2 (forD k b (ds.drop (i + 1)) st2) E, fun σ' H' ⟨G2, st2, a1, a2, a3⟩ => ⟨ds.length - (i + 1), by omega, rfl, hlt, G2, st2, a1, a2, a3⟩, fun x H' y => ?_⟩
    obtain ⟨G2, s2, s2', hd2, r2⟩ := g2 x H' y
    rcases tgD_noerr (k := k) (d := ds[i]) (st := st') with ⟨st2, e2⟩ | e2
    · have ok2 : SOk X.K T W c G' (match b st2 with | .ok .nx st => forD k b (ds.drop (i + 1)) st | .ok .ct st => forD k b (ds.drop (i + 1)) st | .ok .bk st => .ok .nx st | r => r) E := by
        have := ok'
        unfold forD at this
        rw [e2] at this
        exact this
      refine tg_run hd2 r2 e2 fun σ2 h2 => ⟨c, G2, st2, h2, ?_⟩
      have ok3 := SOk.mono s2 ok2
      revert ok3
      cases b st2 with
      | ok o st3 =>
        cases o with
        | nx => exact fun ok3 G3 H3 σ3 s3 h3 => ⟨G3, st3, (s'.trans s2).trans s3, h3, SOk.mono s3 ok3⟩
        | ct => exact fun ok3 G3 H3 σ3 s3 h3 => ⟨G3, st3, (s'.trans s2).trans s3, h3, SOk.mono s3 ok3⟩
        | bk => exact fun ok3 => ok3
        | rt d => exact fun ok3 => ok3
        | rtF d => exact fun ok3 => ok3
      | err e st => exact fun ok3 => ok3
      | stuck => exact fun ok3 => ok3
    · unfold forD at ok'
      rw [e2] at ok'; exact ok'.elim
  · have e : i = ds.length := by omega
    subst e
    rw [List.drop_length] at ok'
    exact .inl ⟨rs, ok' _ _ _ (Same.refl _) hd'⟩
end
end DL

/-! DLg: comprehensions, pairs of targets, a def's body. -/
namespace DL
open PySem PySem.Spec PyProof.Rows L2
abbrev W0 : WX := fun _ _ _ _ => False
section
variable {K : PySem.W.Frag} {T : Tab} {W : WX} {c : Ctx} {G G' H H' : Hp} {σ σ' : SV} {st : S}
/-! ### a block of its own: as within a call -/
def Sl.hide : Sl → Sl
  | .own _ => .un
  | s => s
def S.hide (st : S) : S := { st with env := st.env.map Sl.hide }
def inner (c : Ctx) (G H : Hp) : Ctx := ⟨c.B, H, G⟩
theorem Holds.enter (h : Holds K T c G H σ st) : Holds K T (inner c G H) G H σ st.hide where
  sub0 := Same.refl _
  sub := h.sub
  new := fun a e n => absurd e n
  frame := fun a o e _ => e
  len := by show _ = (st.env.map Sl.hide).length; rw [List.length_map]; exact h.len
  slot := fun i s e => by
    have e' : (st.env.map Sl.hide)[i]? = some s := e
    rw [List.getElem?_map] at e'
    cases q : st.env[i]? with
    | none => rw [q] at e'; cases e'
    | some s' =>
      rw [q] at e'
      cases e'
      have o := h.slot i s' q
      cases s' with
      | un => trivial
      | val d => exact o
      | own ds => trivial
  dist := fun i j p ds es e1 => by
    have e' : (st.env.map Sl.hide)[i]? = some (.own ds) := e1
    rw [List.getElem?_map] at e'
    cases q : st.env[i]? with
    | none => rw [q] at e'; cases e'
    | some s' => rw [q] at e'; cases s' <;> cases e'
  box := h.box
  box0 := fun p e n => by have := (h.box p e).1; rw [show H p = none from n] at this; cases this
theorem Holds.leave {G' H' : Hp} {σ' : SV} {st' : S} (h : Holds K T c G H σ st) (h' : Holds K T (inner c G H) G' H' σ' st') : Holds K T c G' H' σ { st with bx := st'.bx } :=
  h.after (b := st'.bx) ⟨h'.sub0, h'.sub, h'.new, h'.frame, h'.box⟩
theorem Holds.forget {σ' : SV} {env' : List Sl} (h : Holds K T c G H σ st) (l : σ'.length = σ.length) (l2 : env'.length = st.env.length) (w : ∀ (i : Nat) s, env'[i]? = some s → s = .un ∨ (st.env[i]? = some s ∧ σ'[i]? = σ[i]?)) : Holds K T c G H σ' { st with env := env' } where
  sub0 := h.sub0
  sub := h.sub
  new := h.new
  frame := h.frame
  len := by rw [l, h.len]; exact l2.symm
  slot := fun i s e => by
    rcases w i s e with z | ⟨z1, z2⟩
    · subst z; trivial
    · rw [z2]; exact h.slot i s z1
  dist := fun i j p ds es e1 e2 a1 a2 => by
    rcases w i _ e1 with z | ⟨z1, z2⟩
    · cases z
    · rcases w j _ e2 with y | ⟨y1, y2⟩
      · cases y
      · rw [z2] at a1
        rw [y2] at a2
        exact h.dist i j p ds es z1 y1 a1 a2
  box := h.box
  box0 := h.box0
def wipeS (env : List Sl) : List Nat → List Sl
  | [] => env
  | v :: vs => (wipeS env vs).set v .un
theorem wipeS_length (env : List Sl) : ∀ vs : List Nat, (wipeS env vs).length = env.length
  | [] => rfl
  | v :: vs => by unfold wipeS; rw [List.length_set, wipeS_length env vs]
theorem wipeS_get (env : List Sl) : ∀ (vs : List Nat) (i : Nat) (s : Sl), (wipeS env vs)[i]? = some s → s = .un ∨ (env[i]? = some s ∧ i ∉ vs)
  | [], i, s, e => .inr ⟨e, by simp⟩
  | v :: vs, i, s, e => by
    unfold wipeS at e
    by_cases q : v = i
    · subst q
      by_cases l : v < (wipeS env vs).length
      · rw [List.getElem?_set_self l] at e; exact .inl (Option.some.inj e).symm
      · rw [List.getElem?_eq_none (by rw [List.length_set]; omega)] at e; cases e
    · rw [List.getElem?_set_ne q] at e
      rcases wipeS_get env vs i s e with z | ⟨z1, z2⟩
      · exact .inl z
      · exact .inr ⟨z1, by simp only [List.mem_cons, not_or]; exact ⟨fun y => q y.symm, z2⟩⟩
theorem Holds.wiped (h : Holds K T c G H σ st) (vs : List Nat) : Holds K T c G H (wipe σ vs) { st with env := wipeS st.env vs } :=
  h.forget (wipe_length σ vs) (wipeS_length _ vs) fun i s e => by
    rcases wipeS_get _ vs i s e with z | ⟨z1, z2⟩
    · exact .inl z
    · exact .inr ⟨z1, wipe_out z2⟩
/-- a list that nobody knows changes -/
theorem Holds.poke (h : Holds K T c G H σ st) {p : Addr} {vs : List V} {o : HO} (hp : H p = some (.lst vs)) (g : G p = none) (z : c.H0 p = none) (nd : ∀ (i : Nat) (es : List D), st.env[i]? = some (.own es) → σ[i]? ≠ some (some (.ref p))) : Holds K T c G (upd H p o) σ st where
  sub0 := h.sub0
  sub := fun a u q => by
    have ne : a ≠ p := fun w => by subst w; rw [g] at q; cases q
    rw [upd_ne ne]; exact h.sub _ _ q
  new := h.new
  frame := fun a u q b => by
    have ne : a ≠ p := fun w => by subst w; rw [z] at q; cases q
    rw [upd_ne ne]; exact h.frame a u q b
  len := h.len
  slot := fun j s q => by
    have u := h.slot j s q
    cases s with
    | un => trivial
    | val d => exact u
    | own es =>
      obtain ⟨p3, vs3, a1, a2, a3, a4, a5⟩ := u
      have ne : p3 ≠ p := fun t => by subst t; exact nd j es q a1
      exact ⟨p3, vs3, a1, by rw [upd_ne ne]; exact a2, a3, a4, a5⟩
  dist := h.dist
  box := fun b q => by
    obtain ⟨x, y⟩ := h.box b q
    have ne : b ≠ p := fun t => by subst t; exact h.box0 b q z
    exact ⟨by rw [upd_ne ne]; exact x, y⟩
  box0 := h.box0
end
/-- one turn's value: none where the test says no -/
def turnD (k : Tg) (vs : List Nat) (t : S → R Bool) (e : S → R D) (d : D) (st : S) : R (Option D) :=
  (tgD k d { st.hide with env := wipeS st.hide.env vs }).bind fun _ s2 => (t s2).bind fun b s3 => if b = true then (e s3).bind fun y s4 => .ok (some y) s4 else .ok none s3
def compD (k : Tg) (vs : List Nat) (t : S → R Bool) (e : S → R D) : List D → List D → S → R (List D)
  | [], acc, st => .ok acc st
  | d :: ds, acc, st => match turnD k vs t e d st with
    | .ok (some y) s => if acc.length < 16777216 then compD k vs t e ds (acc ++ [y]) { st with bx := s.bx } else .stuck
    | .ok none s => compD k vs t e ds acc { st with bx := s.bx }
    | _ => .stuck
def dComp (k : Tg) (vs : List Nat) (i : S → R (List D)) (t : S → R Bool) (e : S → R D) : S → R (List D) := fun st => (i st).bind fun ds st => compD k vs t e ds [] st
def tgIn (vs : List Nat) : Tg → Prop
  | .nm i => i ∈ vs
  | .tp is => ∀ i ∈ is, i ∈ vs
  | .np i is => i ∈ vs ∧ ∀ j ∈ is, j ∈ vs
  | .pn is i => i ∈ vs ∧ ∀ j ∈ is, j ∈ vs
instance (vs : List Nat) (k : Tg) : Decidable (tgIn vs k) := match k with
  | .nm i => inferInstanceAs (Decidable (i ∈ vs))
  | .tp is => inferInstanceAs (Decidable (∀ i ∈ is, i ∈ vs))
  | .np i is => inferInstanceAs (Decidable (i ∈ vs ∧ ∀ j ∈ is, j ∈ vs))
  | .pn is i => inferInstanceAs (Decidable (i ∈ vs ∧ ∀ j ∈ is, j ∈ vs))
section
variable {X : Cx} {T : Tab}
def DTs (X : Cx) (T : Tab) (ifs : List Expr) (f : S → R Bool) : Prop := PTs X ifs (gD X.K T W0 relB f)
def dYes : S → R Bool := fun st => .ok true st
theorem dts_nil : DTs X T [] dYes := ⟨fun pins s σ H Q I ⟨c, G, st, hd, ok⟩ => pts_nil.run pins s σ H Q I (ok _ _ _ (Same.refl _) hd rfl)⟩
theorem dts_one {e : Expr} {f : S → R Bool} (h : DT X T W0 e f) : DTs X T [e] f := ⟨fun pins s σ H Q I q => (pts_one h).run pins s σ H Q I q⟩
theorem wipe_set {σ : SV} {i : Nat} {v : Option V} : ∀ {vs : List Nat}, i ∈ vs → wipe (σ.set i v) vs = wipe σ vs
  | [], h => by simp at h
  | w :: vs, h => by
    unfold wipe
    by_cases q : i = w
    · subst q
      by_cases m : i ∈ vs
      · rw [wipe_set m]
      · rw [wipe_set_out m, List.set_set]
    · have m : i ∈ vs := by rcases List.mem_cons.mp h with z | z; exact absurd z q; exact z
      rw [wipe_set m]
where
  wipe_set_out {σ : SV} {i : Nat} {v : Option V} : ∀ {vs : List Nat}, i ∉ vs → wipe (σ.set i v) vs = (wipe σ vs).set i v
  | [], _ => rfl
  | w :: vs, h => by
    unfold wipe
    have h1 : i ≠ w := fun z => h (by simp [z])
    have h2 : i ∉ vs := fun z => h (by simp [z])
    rw [wipe_set_out h2, List.set_comm _ _ h1]
theorem wipe_setAll {vs : List Nat} : ∀ {is : List Nat} {ws : List V} {σ : SV}, (∀ i ∈ is, i ∈ vs) → wipe (setAll is ws σ) vs = wipe σ vs
  | [], _, _, _ => rfl
  | _ :: _, [], _, _ => rfl
  | i :: is, w :: ws, σ, h => by
    show wipe (setAll is ws (σ.set i (some w))) vs = _
    rw [wipe_setAll (is := is) (ws := ws) fun j hj => h j (List.mem_cons_of_mem _ hj), wipe_set (h i List.mem_cons_self)]
theorem wipe_wipe {σ : SV} {i : Nat} : ∀ {vs : List Nat} {ws : List Nat}, (∀ v ∈ ws, v ∈ vs) → wipe (wipe σ ws) vs = wipe σ vs
  | vs, [], _ => rfl
  | vs, w :: ws, h => by
    show wipe ((wipe σ ws).set w none) vs = _
    rw [wipe_set (h w List.mem_cons_self), wipe_wipe (i := i) fun v hv => h v (List.mem_cons_of_mem _ hv)]
theorem tg_run2 {K : PySem.W.Frag} {c : Ctx} {G H : Hp} {σ : SV} {st st' : S} {v : V} {d : D} {k : Tg} {vs : List Nat} {Q : SV → Hp → Prop} (hk : tgIn vs k) (hd : Holds K T c G H σ st) (r : Rep K T c.B G v d) (e : tgD k d st = .ok () st') (q : ∀ σ', wipe σ' vs = wipe σ vs → Holds K T c G H σ' st' → Q σ' H) : tgT K k v σ H Q := by
  cases k with
  | nm i => cases e; exact q _ (wipe_set hk) (hd.putVal r i)
  | tp is =>
    cases r with
    | @tu p ws ds h rs =>
      have e' : (if ds.length = is.length then R.ok () (DL.putAll is ds st) else .stuck) = .ok () st' := e
      by_cases l : ds.length = is.length
      · rw [if_pos l] at e'; cases e'
        exact ⟨p, ws, rfl, .inl (Same.sqt hd.sub h), rs.length.trans l, gNames_run (rs.length.trans l) (q _ (wipe_setAll hk) (hd.putAll rs))⟩
      · rw [if_neg l] at e'; cases e'
    | @ls p ws ds h rs =>
      have e' : (if ds.length = is.length then R.ok () (DL.putAll is ds st) else .stuck) = .ok () st' := e
      by_cases l : ds.length = is.length
      · rw [if_pos l] at e'; cases e'
        exact ⟨p, ws, rfl, .inr (SqL.of (hd.sub _ _ h)), rs.length.trans l, gNames_run (rs.length.trans l) (q _ (wipe_setAll hk) (hd.putAll rs))⟩
      · rw [if_neg l] at e'; cases e'
    | _ => cases e
  | np i is =>
    cases r with
    | @tu p ws ds h rs =>
      cases rs with
      | nil => cases e
      | cons r1 rs =>
        cases rs with
        | nil => cases r1 <;> cases e
        | cons r2 rs =>
          cases rs with
          | cons _ _ => cases r1 <;> cases r2 <;> cases e
          | nil =>
            cases r2 with
            | @tu p2 us es h2 rs2 =>
              have e' : (if es.length = is.length then R.ok () (DL.putAll is es (st.put i (.val _))) else .stuck) = .ok () st' := e
              by_cases l : es.length = is.length
              · rw [if_pos l] at e'; cases e'
                exact ⟨p, _, rfl, .inl (Same.sqt hd.sub h), rfl, _, _, rfl, _, _, rfl, ⟨p2, us, rfl, .inl (Same.sqt hd.sub h2), rs2.length.trans l, gNames_run (rs2.length.trans l) ⟨rfl, q _ ((wipe_setAll hk.2).trans (wipe_set hk.1)) (Holds.putAll (hd.putVal r1 i) rs2)⟩⟩⟩
              · rw [if_neg l] at e'; cases e'
            | @ls p2 us es h2 rs2 =>
              have e' : (if es.length = is.length then R.ok () (DL.putAll is es (st.put i (.val _))) else .stuck) = .ok () st' := e
              by_cases l : es.length = is.length
              · rw [if_pos l] at e'; cases e'
                exact ⟨p, _, rfl, .inl (Same.sqt hd.sub h), rfl, _, _, rfl, _, _, rfl, ⟨p2, us, rfl, .inr (SqL.of (hd.sub _ _ h2)), rs2.length.trans l, gNames_run (rs2.length.trans l) ⟨rfl, q _ ((wipe_setAll hk.2).trans (wipe_set hk.1)) (Holds.putAll (hd.putVal r1 i) rs2)⟩⟩⟩
              · rw [if_neg l] at e'; cases e'
            | _ => cases r1 <;> cases e
    | _ => cases e
  | pn is i =>
    cases r with
    | @tu p ws ds h rs =>
      cases rs with
      | nil => cases e
      | cons r1 rs =>
        cases rs with
        | nil => cases r1 <;> cases e
        | cons r2 rs =>
          cases rs with
          | cons _ _ => cases r1 <;> cases r2 <;> cases e
          | nil =>
            cases r1 with
            | @tu p2 us es h2 rs2 =>
              have e' : (if es.length = is.length then R.ok () ((DL.putAll is es st).put i (.val _)) else .stuck) = .ok () st' := e
              by_cases l : es.length = is.length
              · rw [if_pos l] at e'; cases e'
                exact ⟨p, _, rfl, .inl (Same.sqt hd.sub h), rfl, _, _, rfl, ⟨p2, us, rfl, .inl (Same.sqt hd.sub h2), rs2.length.trans l, gNames_run (rs2.length.trans l) ⟨_, _, rfl, ⟨rfl, q _ ((wipe_set hk.1).trans (wipe_setAll hk.2)) ((hd.putAll rs2).putVal r2 i)⟩⟩⟩⟩
              · rw [if_neg l] at e'; cases e'
            | @ls p2 us es h2 rs2 =>
              have e' : (if es.length = is.length then R.ok () ((DL.putAll is es st).put i (.val _)) else .stuck) = .ok () st' := e
              by_cases l : es.length = is.length
              · rw [if_pos l] at e'; cases e'
                exact ⟨p, _, rfl, .inl (Same.sqt hd.sub h), rfl, _, _, rfl, ⟨p2, us, rfl, .inr (SqL.of (hd.sub _ _ h2)), rs2.length.trans l, gNames_run (rs2.length.trans l) ⟨_, _, rfl, ⟨rfl, q _ ((wipe_set hk.1).trans (wipe_setAll hk.2)) ((hd.putAll rs2).putVal r2 i)⟩⟩⟩⟩
              · rw [if_neg l] at e'; cases e'
            | _ => cases r2 <;> cases e
    | _ => cases e
/-- the reading of a comprehension -/
theorem comp_read {W : WX} {k : Tg} {vs : List Nat} {i : S → R (List D)} {t : S → R Bool} {e : S → R D} (hk : tgIn vs k) : ∀ σ H Q, gD X.K T W (relF X.K T) (dComp k vs i t e) σ H Q → tLc (gD X.K T W (relI X.K T) i) (tgT X.K k) (gD X.K T W0 relB t) (gD X.K T W0 (relD X.K T) e) vs σ H Q := by
  intro σ H Q ⟨c, G, st, hd, ok⟩
  obtain ⟨c0, G0, st0, hd0, ok0⟩ := step (rel := relI X.K T) hd ok
  refine ⟨c0, G0, st0, hd0, ok0.imp fun J H1 ⟨G1, st1, ds, s1, hd1, r1, ok1⟩ => ?_⟩
  intro L hL
  obtain ⟨hf, rf⟩ := hd1.fresh hL (.nil)
  -- the invariant
  refine ⟨fun j m H => m = ds.length - j ∧ j ≤ ds.length ∧ ∃ G' b acc, Same G1 G' ∧ Holds X.K T c G' H σ { st1 with bx := b } ∧ relF X.K T c G' H σ { st1 with bx := b } (.ref L) acc ∧ GOk X.K T W (relF X.K T) c G' σ (compD k vs t e (ds.drop j) acc { st1 with bx := b }) Q,
    ⟨ds.length, by simp, Nat.zero_le _, G1, st1.bx, [], Same.refl _, hf, rf, ok1⟩, ?_⟩
  rintro j m H2 ⟨rfl, hj, G', b, acc, s', hd', rf', ok'⟩
  obtain ⟨rs, rg⟩ := r1 (inner c G' H2) G' H2 σ ({ st1 with bx := b } : S).hide rfl s' hd'.enter
  by_cases hlt : j < ds.length
  · have e0 : ds[j]? = some ds[j] := List.getElem?_eq_getElem hlt
    obtain ⟨g1, g2⟩ := rg j _ e0
    have ed : ds.drop j = ds[j] :: ds.drop (j + 1) := List.drop_eq_getElem_cons hlt
    rw [ed] at ok'
    refine .inr ⟨g1, fun H' => ∃ G' b acc, Same G1 G' ∧ Holds X.K T c G' H' σ { st1 with bx := b } ∧ relF X.K T c G' H' σ { st1 with bx := b } (.ref L) acc ∧ GOk X.K T W (relF X.K T) c G' σ (compD k vs t e (ds.drop (j + 1)) acc { st1 with bx := b }) Q,
      fun H' ⟨Ga, ba, acca, a1, a2, a3, a4⟩ => ⟨ds.length - (j + 1), by omega, rfl, hlt, Ga, ba, acca, a1, a2, a3, a4⟩, fun x H' y => ?_⟩
    obtain ⟨G2, s2, s2', hd2, r2⟩ := g2 x H' y
    have hw := hd2.wiped vs
    -- what the turn gives
    obtain ⟨p0, ws, eL, hL2, gL, zL, rL, ndL⟩ := rf'
    cases eL
    -- behind the turn
    have back : ∀ {G3 H3 : Hp} {σ3 : SV} {s3 : S}, Same G2 G3 → Holds X.K T (inner c G' H2) G3 H3 σ3 s3 → Holds X.K T c G3 H3 σ { st1 with bx := s3.bx } ∧ H3 L = some (.lst ws) ∧ G3 L = none ∧ Reps X.K T c.B G3 ws acc := fun {G3 H3 σ3 s3} s3s h3 => by
      refine ⟨hd'.leave h3, h3.frame L _ hL2 (fun q => hd'.box0 L q zL), ?_, rL.mono (s2.trans s3s)⟩
      cases q : G3 L with
      | none => rfl
      | some o =>
        have z : H2 L = none := h3.new L gL (by rw [q]; exact fun z => by cases z)
        rw [hL2] at z; cases z
    have turnok : (∃ y s, turnD k vs t e ds[j] { st1 with bx := b } = .ok (some y) s ∧ acc.length < 16777216 ∧ GOk X.K T W (relF X.K T) c G' σ (compD k vs t e (ds.drop (j + 1)) (acc ++ [y]) { st1 with bx := s.bx }) Q) ∨
        (∃ s, turnD k vs t e ds[j] { st1 with bx := b } = .ok none s ∧ GOk X.K T W (relF X.K T) c G' σ (compD k vs t e (ds.drop (j + 1)) acc { st1 with bx := s.bx }) Q) := by
      have ok2 := ok'
      unfold compD at ok2
      revert ok2
      cases turnD k vs t e ds[j] { st1 with bx := b } with
      | ok o s =>
        cases o with
        | none => exact fun ok2 => .inr ⟨s, rfl, ok2⟩
        | some y =>
          intro ok2
          dsimp only at ok2
          by_cases q : acc.length < 16777216
          · rw [if_pos q] at ok2; exact .inl ⟨y, s, rfl, q, ok2⟩
          · rw [if_neg q] at ok2; exact ok2.elim
      | err er s => exact fun ok2 => ok2.elim
      | stuck => exact fun ok2 => ok2.elim
    rcases tgD_noerr (k := k) (d := ds[j]) (st := { ({ st1 with bx := b } : S).hide with env := wipeS ({ st1 with bx := b } : S).hide.env vs }) with ⟨st2, e2⟩ | e2
    rotate_left
    · exfalso
      rcases turnok with ⟨y, s, q, _⟩ | ⟨s, q, _⟩
      · unfold turnD at q; rw [e2] at q; cases q
      · unfold turnD at q; rw [e2] at q; cases q
    refine tg_run2 hk hw r2 e2 fun σ2 hσ h2 => ⟨hσ.trans (wipe_wipe (i := 0) fun v hv => hv), ?_⟩
    refine ⟨inner c G' H2, G2, st2, h2, ?_⟩
    unfold turnD at turnok
    rw [e2] at turnok
    replace turnok : (∃ y s, ((t st2).bind fun b s3 => if b = true then (e s3).bind fun y s4 => R.ok (some y) s4 else .ok none s3) = .ok (some y) s ∧ acc.length < 16777216 ∧ GOk X.K T W (relF X.K T) c G' σ (compD k vs t e (ds.drop (j + 1)) (acc ++ [y]) { st1 with bx := s.bx }) Q) ∨
        (∃ s, ((t st2).bind fun b s3 => if b = true then (e s3).bind fun y s4 => R.ok (some y) s4 else .ok none s3) = .ok none s ∧ GOk X.K T W (relF X.K T) c G' σ (compD k vs t e (ds.drop (j + 1)) acc { st1 with bx := s.bx }) Q) := turnok
    cases ht : t st2 with
    | stuck => rw [ht] at turnok; rcases turnok with ⟨_, _, q, _⟩ | ⟨_, q, _⟩ <;> cases q
    | err _ _ => rw [ht] at turnok; rcases turnok with ⟨_, _, q, _⟩ | ⟨_, q, _⟩ <;> cases q
    | ok bb s3 =>
      rw [ht] at turnok
      replace turnok : (∃ y s, (if bb = true then (e s3).bind fun y s4 => R.ok (some y) s4 else .ok none s3) = .ok (some y) s ∧ acc.length < 16777216 ∧ GOk X.K T W (relF X.K T) c G' σ (compD k vs t e (ds.drop (j + 1)) (acc ++ [y]) { st1 with bx := s.bx }) Q) ∨
        (∃ s, (if bb = true then (e s3).bind fun y s4 => R.ok (some y) s4 else .ok none s3) = .ok none s ∧ GOk X.K T W (relF X.K T) c G' σ (compD k vs t e (ds.drop (j + 1)) acc { st1 with bx := s.bx }) Q) := turnok
      intro G3 H3 v s3s h3 ev
      cases ev
      cases bb with
      | false =>
        rw [if_neg Bool.false_ne_true] at turnok ⊢
        rcases turnok with ⟨_, _, q, _⟩ | ⟨s, q, ok3⟩
        · cases q
        · cases q
          obtain ⟨b1, b2, b3, b4⟩ := back s3s h3
          exact ⟨G3, s3.bx, acc, (s'.trans s2).trans s3s, b1, ⟨L, ws, rfl, b2, b3, zL, b4, ndL⟩, GOk.mono (s2.trans s3s) ok3⟩
      | true =>
        rw [if_pos rfl] at turnok ⊢
        refine ⟨inner c G' H2, G3, s3, h3, ?_⟩
        cases he : e s3 with
        | stuck => rw [he] at turnok; rcases turnok with ⟨_, _, q, _⟩ | ⟨_, q, _⟩ <;> cases q
        | err _ _ => rw [he] at turnok; rcases turnok with ⟨_, _, q, _⟩ | ⟨_, q, _⟩ <;> cases q
        | ok y s4 =>
          rw [he] at turnok
          intro G4 H4 v s4s h4 rv
          obtain ⟨b1, b2, b3, b4⟩ := back (s3s.trans s4s) h4
          rcases turnok with ⟨y', s, q, la, ok3⟩ | ⟨_, q, _⟩
          · cases q
            refine ⟨ws, b2, by rw [sizeLine_eq, b4.length]; exact la, G4, s4.bx, acc ++ [y], ((s'.trans s2).trans s3s).trans s4s, b1.poke b2 b3 zL ndL, ⟨L, _, rfl, upd_same, b3, zL, b4.append (.one rv), ndL⟩, GOk.mono ((s2.trans s3s).trans s4s) ok3⟩
          · cases q
  · have ej : j = ds.length := by omega
    subst ej
    rw [List.drop_length] at ok'
    exact .inl ⟨rs, ok' _ _ _ (Same.refl _) hd' rf'⟩
theorem df_comp {W : WX} {elt tg iter : Expr} {ifs : List Expr} {scope : Scope} {own : List (Str × Nat)} {pos : Pos} {k : Tg} {i : S → R (List D)} {t : S → R Bool} {e : S → R D} (hc : X.calm = true) (hN : X.N.Nodup) (hi : DI X T W tg iter i) (ok : BlkOk X.N X.env.scope scope own)
    (hk : tgIn (own.map (·.2)) k)
    (hg : ∀ (s : Shared) (H : Hp) (C : Addr) (cl : List (Str × Addr)) (fp : List Addr), DG (X.blk s H scope (compEnvC scope cl C X.env) fp) tg k) (ht : ∀ (s : Shared) (H : Hp) (C : Addr) (cl : List (Str × Addr)) (fp : List Addr), DTs (X.blk s H scope (compEnvC scope cl C X.env) fp) T ifs t)
    (he : ∀ (s : Shared) (H : Hp) (C : Addr) (cl : List (Str × Addr)) (fp : List Addr), DE (X.blk s H scope (compEnvC scope cl C X.env) fp) T W0 elt e) (hs : ∀ x, foldedSetIterable iter X.env x = pure x := by intro _; rfl) :
    DF X T W (.ListComp elt [⟨tg, iter, ifs, 0⟩] scope pos) (dComp k (own.map (·.2)) i t e) := impE (pe_lc (g := tgT X.K k) (tt := gD X.K T W0 relB t) (te := gD X.K T W0 (relD X.K T) e) hc hN hi ok hg ht he hs) (comp_read hk)
/-- y = [..], kept or closed -/
theorem ds_ownLc {W : WX} {j : Nat} {y : Str} {py : Pos} {elt tg iter : Expr} {ifs : List Expr} {scope : Scope} {own : List (Str × Nat)} {pos spos : Pos} {k : Tg} {i : S → R (List D)} {t : S → R Bool} {e : S → R D} (hc : X.calm = true) (hN : X.N.Nodup) (hy : X.N[j]? = some y) (hyl : X.env.scope.names.lookup y = some .local)
    (hsw : swapsWith (.ListComp elt [⟨tg, iter, ifs, 0⟩] scope pos) (some (.Name y py)) spos.line X.env = pure true) (hi : DI X T W tg iter i) (ok : BlkOk X.N X.env.scope scope own)
    (hk : tgIn (own.map (·.2)) k)
    (hg : ∀ (s : Shared) (H : Hp) (C : Addr) (cl : List (Str × Addr)) (fp : List Addr), DG (X.blk s H scope (compEnvC scope cl C X.env) fp) tg k) (ht : ∀ (s : Shared) (H : Hp) (C : Addr) (cl : List (Str × Addr)) (fp : List Addr), DTs (X.blk s H scope (compEnvC scope cl C X.env) fp) T ifs t)
    (he : ∀ (s : Shared) (H : Hp) (C : Addr) (cl : List (Str × Addr)) (fp : List Addr), DE (X.blk s H scope (compEnvC scope cl C X.env) fp) T W0 elt e) (hs : ∀ x, foldedSetIterable iter X.env x = pure x := by intro _; rfl) :
    DS X T W (.Assign [.Name y py] (.ListComp elt [⟨tg, iter, ifs, 0⟩] scope pos) spos) (dOwn j (dComp k (own.map (·.2)) i t e)) := impS (ps_setLc (g := tgT X.K k) (tt := gD X.K T W0 relB t) (te := gD X.K T W0 (relD X.K T) e) hc hN hy hyl hsw hi ok hg ht he hs) fun E σ H ⟨c, G, st, hd, ok⟩ => by
  obtain ⟨c0, G0, st0, hd0, ok0⟩ := stepS (rel := relF X.K T) hd ok
  exact comp_read hk σ H _ ⟨c0, G0, st0, hd0, ok0.imp fun x H1 ⟨G1, st1, a, s1, hd1, r1, ok1⟩ => ok1 _ _ _ (Same.refl _) (hd1.putOwn r1 j)⟩
theorem ds_setLc {W : WX} {j : Nat} {y : Str} {py : Pos} {elt tg iter : Expr} {ifs : List Expr} {scope : Scope} {own : List (Str × Nat)} {pos spos : Pos} {k : Tg} {i : S → R (List D)} {t : S → R Bool} {e : S → R D} (hc : X.calm = true) (hN : X.N.Nodup) (hy : X.N[j]? = some y) (hyl : X.env.scope.names.lookup y = some .local)
    (hsw : swapsWith (.ListComp elt [⟨tg, iter, ifs, 0⟩] scope pos) (some (.Name y py)) spos.line X.env = pure true) (hi : DI X T W tg iter i) (ok : BlkOk X.N X.env.scope scope own)
    (hk : tgIn (own.map (·.2)) k)
    (hg : ∀ (s : Shared) (H : Hp) (C : Addr) (cl : List (Str × Addr)) (fp : List Addr), DG (X.blk s H scope (compEnvC scope cl C X.env) fp) tg k) (ht : ∀ (s : Shared) (H : Hp) (C : Addr) (cl : List (Str × Addr)) (fp : List Addr), DTs (X.blk s H scope (compEnvC scope cl C X.env) fp) T ifs t)
    (he : ∀ (s : Shared) (H : Hp) (C : Addr) (cl : List (Str × Addr)) (fp : List Addr), DE (X.blk s H scope (compEnvC scope cl C X.env) fp) T W0 elt e) (hs : ∀ x, foldedSetIterable iter X.env x = pure x := by intro _; rfl) :
    DS X T W (.Assign [.Name y py] (.ListComp elt [⟨tg, iter, ifs, 0⟩] scope pos) spos) (dSet j (dClose (dComp k (own.map (·.2)) i t e))) := impS (ps_setLc (g := tgT X.K k) (tt := gD X.K T W0 relB t) (te := gD X.K T W0 (relD X.K T) e) hc hN hy hyl hsw hi ok hg ht he hs) fun E σ H ⟨c, G, st, hd, ok⟩ => by
  have ok' : SOk X.K T W c G ((dComp k (own.map (·.2)) i t e st).bind fun ds st => .ok .nx (st.put j (.val (.ls ds)))) E := by
    have z : dSet j (dClose (dComp k (own.map (·.2)) i t e)) st = ((dComp k (own.map (·.2)) i t e st).bind fun ds st => .ok .nx (st.put j (.val (.ls ds)))) := by
      unfold dSet dClose R.bind
      cases dComp k (own.map (·.2)) i t e st <;> rfl
    rw [z] at ok; exact ok
  obtain ⟨c0, G0, st0, hd0, ok0⟩ := stepS (rel := relF X.K T) hd ok'
  refine comp_read hk σ H _ ⟨c0, G0, st0, hd0, ok0.imp fun x H1 ⟨G1, st1, a, s1, hd1, r1, ok1⟩ => ?_⟩
  obtain ⟨G2, s2, hd2, r2⟩ := r1.close hd1
  exact ok1 _ _ _ s2 (hd2.putVal r2 j)
end

/-! ### a def -/
section
variable {P : Program} {w : World} {K : PySem.W.Frag} {mg : Str → Option Value} {base : Heap} {T : Tab}
def runFn (n N : Nat) (f : S → R Out) : Fn := fun ds b => if ds.length = n then match f ⟨ds.map Sl.val ++ List.replicate (N - n) Sl.un, b⟩ with
  | .ok .nx s => .ok .non s.bx
  | .ok (.rt d) s => .ok d s.bx
  | .ok (.rtF ds) s => .okF ds s.bx
  | .err e s => .err e s.bx
  | _ => .stuck
  else .stuck
abbrev wOf (E : XK) : WX := fun cls d _ H => E cls d H
theorem holds_start {B : Option Addr} {G H : Hp} {vs : List V} {ds : List D} {b : Bx} {N : Nat} (s : Same G H) (hb : ∀ p, B = some p → H p = some (boxO b) ∧ G p = none) (r : Reps K T B G vs ds) :
    Holds K T ⟨B, H, G⟩ G H (vs.map some ++ List.replicate N none) ⟨ds.map Sl.val ++ List.replicate N Sl.un, b⟩ where
  sub0 := Same.refl _
  sub := s
  new := fun a e n => absurd e n
  frame := fun a o e _ => e
  len := by simp [r.length]
  slot := fun i s e => by
    have e' : (ds.map Sl.val ++ List.replicate N Sl.un)[i]? = some s := e
    by_cases hi : i < ds.length
    · rw [List.getElem?_append_left (by simpa using hi), List.getElem?_map, List.getElem?_eq_getElem hi] at e'
      cases e'
      obtain ⟨v, e1, e2⟩ := r.get' (List.getElem?_eq_getElem hi)
      refine ⟨v, ?_, e2⟩
      rw [List.getElem?_append_left (by rw [List.length_map, r.length]; exact hi), List.getElem?_map, e1]; rfl
    · rw [List.getElem?_append_right (by simpa using hi), List.getElem?_replicate] at e'
      split at e'
      · cases e'; trivial
      · cases e'
  dist := fun i j p xs ys e => by
    have e' : (ds.map Sl.val ++ List.replicate N Sl.un)[i]? = some (.own xs) := e
    by_cases hi : i < ds.length
    · rw [List.getElem?_append_left (by simpa using hi), List.getElem?_map, List.getElem?_eq_getElem hi] at e'
      cases e'
    · rw [List.getElem?_append_right (by simpa using hi), List.getElem?_replicate] at e'
      split at e' <;> cases e'
  box := hb
  box0 := fun p e n => by have := (hb p e).1; rw [show H p = none from n] at this; cases this
/-- THE RULE for a def -/
theorem fn_ok {x qual : Str} {stm : Stmt} {f : Addr} {fd : FuncData} {N ps : List Str} {k : Nat} {body : S → R Out} (F : Fun K x qual stm f fd) (Sc : FnScope N ps (defScope stm))
    (hb : ∀ (X : Cx) (W : WX), X.prog = P → X.w = w → X.K = K → X.mg = mg → X.base = base → X.N = N → X.env.scope = defScope stm → X.calm = true → (∀ x, X.fn x = true) → Room k X.A → X.stack = X.env :: X.outer → X.env.frame = some X.env.locals → X.ex = [] → PassesOwn (model X.prog X.w) X.A X.env X.xe → Takes X W →
      (∃ (cdv : Value) (A : Around) (outer : List Env) (s : Shared) (H : Hp) (E : XK), X = cxOf (L2.CX P w) P w K mg base N qual (defScope stm) f cdv A outer s H E) → DSs X T W (defBody stm) body) :
    FnOk P w K mg base (L2.CX P w) (k + 1) f fd ps (spD K T ps.length (runFn ps.length N.length body)) := by
  refine F.okX Sc (fun vs H Q E h => h.1) (fun cdv A outer s H vs Q E hr h => ?_)
  obtain ⟨hl, B, G, ds, b, sm, hbx, r, ok⟩ := h
  refine ⟨_, hb (cxOf (L2.CX P w) P w K mg base N qual (defScope stm) f cdv A outer s H E) (wOf E) rfl rfl rfl rfl rfl rfl rfl rfl (fun _ => rfl) hr rfl rfl rfl ?_ ?_ ⟨cdv, A, outer, s, H, E, rfl⟩, ?_⟩
  · exact passes_of rfl
  · exact takes_of rfl rfl rfl rfl
  · refine ⟨⟨B, H, G⟩, G, ⟨ds.map Sl.val ++ List.replicate (N.length - ps.length) Sl.un, b⟩, ?_, ?_⟩
    · show Holds K T _ G H (L2.start N vs) _
      unfold L2.start
      rw [hl]
      exact holds_start sm hbx r
    · unfold runFn at ok
      rw [if_pos (r.length.symm.trans hl)] at ok
      have fin : ∀ {G' H' : Hp} {σ' : SV} {st' : S}, Same G G' → Holds K T ⟨B, H, G⟩ G' H' σ' st' → After K T B G H G' H' st'.bx := fun s' h' => ⟨h'.sub0, h'.sub, h'.new, h'.frame, h'.box⟩
      revert ok
      cases body ⟨ds.map Sl.val ++ List.replicate (N.length - ps.length) Sl.un, b⟩ with
      | ok o st' =>
        cases o with
        | nx => exact fun ok G' H' σ' s' h' => ok G' H' .non (fin s' h') .non
        | rt d => exact fun ok G' H' σ' v s' h' r' => ok G' H' v (fin s' h') r'
        | rtF ds2 =>
          intro ok G' H' σ' v s' h' r'
          obtain ⟨p, vs', rfl, hp', gp', z, rs, _⟩ := r'
          exact ok G' H' p vs' (fin s' h') hp' gp' z rs
        | bk => exact fun ok => ok.elim
        | ct => exact fun ok => ok.elim
      | err e st' => exact fun ok G' H' σ' cls d s' h' er => ok G' H' cls d (fin s' h') er
      | stuck => exact fun ok => ok.elim
end
end DL

/-! DLh: reading one's own list; two targets; pop; isinstance of built-in types; texts. -/
namespace DL
open PySem PySem.Spec PyProof.Rows L2
section
variable {K : PySem.W.Frag} {T : Tab} {W : WX} {c : Ctx} {G G' H H' : Hp} {σ σ' : SV} {st : S}
theorem flat_low {v w : V} {d : D} (r : Rep K T c.B G' v d) (h : flatD d = some w) : Rep K T c.B G v d := by
  cases r <;> simp [flatD] at h <;> constructor
/-- what a read of one's own list leaves -/
theorem Holds.lent (h : Holds K T c G H σ st) {p : Addr} {vs : List V} {G' H' : Hp} {σ' : SV} {st' : S} (gp : G p = none) (h' : Holds K T (inner c (upd G p (.lst vs)) H) G' H' σ' st') : Holds K T c G H' σ { st with bx := st'.bx } :=
  h.after (b := st'.bx) ⟨Same.refl _, fun a o e => h'.sub _ _ (h'.sub0 _ _ (same_upd gp _ _ e)), fun a e n => absurd e n, h'.frame, fun p e => ⟨(h'.box p e).1, (h.box p e).2⟩⟩
end
section
variable {X : Cx} {T : Tab} {W : WX}
def dLend (i : Nat) (f : S → R D) : S → R D := fun st => match st.env[i]? with
  | some (.own ds) => match f (st.put i (.val (.ls ds))).hide with
    | .ok d s => if (flatD d).isSome then .ok d { st with bx := s.bx } else .stuck
    | _ => .stuck
  | _ => .stuck
theorem de_lend (i : Nat) {e : Expr} {f : S → R D} (h : DE X T W e f) : DE X T W e (dLend i f) := impE h fun σ H Q ⟨c, G, st, hd, ok⟩ => by
  unfold dLend at ok
  cases q : st.env[i]? with
  | none => rw [q] at ok; exact ok.elim
  | some s =>
    rw [q] at ok
    cases s with
    | un => exact ok.elim
    | val d => exact ok.elim
    | own ds =>
      obtain ⟨p, vs, e1, e2, r, g, h2⟩ := hd.freeze q
      refine ⟨_, _, _, h2.enter, ?_⟩
      dsimp only at ok
      revert ok
      cases f (st.put i (.val (.ls ds))).hide with
      | ok d s =>
        intro ok G' H' v s1 h' r'
        dsimp only at ok
        cases w : flatD d with
        | none => rw [w] at ok; exact ok.elim
        | some u => rw [w] at ok; exact ok _ _ _ (Same.refl _) (hd.lent g h') (flat_low r' w)
      | err _ _ => exact fun ok => ok.elim
      | stuck => exact fun ok => ok.elim
def dLendB (i : Nat) (f : S → R Bool) : S → R Bool := fun st => match st.env[i]? with
  | some (.own ds) => match f (st.put i (.val (.ls ds))).hide with
    | .ok k s => .ok k { st with bx := s.bx }
    | _ => .stuck
  | _ => .stuck
theorem dt_lend (i : Nat) {e : Expr} {f : S → R Bool} (h : DT X T W e f) : DT X T W e (dLendB i f) := impT h fun σ H Q ⟨c, G, st, hd, ok⟩ => by
  unfold dLendB at ok
  cases q : st.env[i]? with
  | none => rw [q] at ok; exact ok.elim
  | some s =>
    rw [q] at ok
    cases s with
    | un => exact ok.elim
    | val d => exact ok.elim
    | own ds =>
      obtain ⟨p, vs, e1, e2, r, g, h2⟩ := hd.freeze q
      refine ⟨_, _, _, h2.enter, ?_⟩
      dsimp only at ok
      revert ok
      cases f (st.put i (.val (.ls ds))).hide with
      | ok d s =>
        intro ok G' H' v s1 h' r'
        cases r'
        exact ok _ _ _ (Same.refl _) (hd.lent g h') rfl
      | err _ _ => exact fun ok => ok.elim
      | stuck => exact fun ok => ok.elim
/-- y.pop(k), y one's own list -/
def dPop (i : Nat) (f : S → R D) : S → R D := fun st => match st.env[i]? with
  | some (.own _) => (f st).bind fun k st => match st.env[i]?, k with
    | some (.own ds), .int k => if 0 ≤ k ∧ k < 9223372036854775808 then match ds[k.toNat]? with
      | some d => .ok d (st.put i (.own (ds.eraseIdx k.toNat)))
      | none => .stuck
      else .stuck
    | _, _ => .stuck
  | _ => .stuck
theorem de_pop {i : Nat} {o e : Expr} {f : S → R D} {apos cpos : Pos} (ho : PE X o (tVar i)) (he : DE X T W e f)
    (hp : PE X (.Call (.Attribute o "pop" apos) [e] [] cpos) (tBM X.K "list" rPopAt (tVar i) (tCons (gD X.K T W (relD X.K T) f) tNil))) : DE X T W (.Call (.Attribute o "pop" apos) [e] [] cpos) (dPop i f) := impE hp fun σ H Q ⟨c, G, st, hd, ok⟩ => by
  unfold dPop at ok
  cases q : st.env[i]? with
  | none => rw [q] at ok; exact ok.elim
  | some s =>
    rw [q] at ok
    cases s with
    | un => exact ok.elim
    | val d => exact ok.elim
    | own ds =>
      obtain ⟨p, vs, e1, e2, g, z, r⟩ := hd.slot i _ q
      refine ⟨.ref p, e1, .inl ⟨rfl, vs, SqL.of e2⟩, ?_⟩
      obtain ⟨c0, G0, st0, hd0, ok0⟩ := step (rel := relD X.K T) hd ok
      refine ⟨c0, G0, st0, hd0, ok0.imp fun x H1 ⟨G1, st1, a, s1, hd1, r1, ok1⟩ => ?_⟩
      cases q1 : st1.env[i]? with
      | none => rw [q1] at ok1; exact ok1.elim
      | some s =>
        rw [q1] at ok1
        cases s with
        | un => exact ok1.elim
        | val d => exact ok1.elim
        | own ds1 =>
          obtain ⟨p2, vs2, f1, f2, g2, z2, r2⟩ := hd1.slot i _ q1
          rw [e1] at f1
          cases f1
          cases r1 with
          | int k =>
            dsimp only at ok1
            by_cases w : 0 ≤ k ∧ k < 9223372036854775808
            · rw [if_pos w] at ok1
              cases y : ds1[k.toNat]? with
              | none => rw [y] at ok1; exact ok1.elim
              | some d =>
                rw [y] at ok1
                obtain ⟨v, y1, y2⟩ := r2.get' y
                have hlt : k.toNat < vs2.length := (List.getElem?_eq_some_iff.mp y1).1
                have hq : seqIndex? k vs2.length = some k.toNat := (ixN_seq (show ixN vs2.length k = some k.toNat by unfold ixN; rw [if_pos w.1, if_pos (by omega)])).1
                exact ⟨p, vs2, k, k.toNat, v, rfl, rfl, f2, by omega, w.2, hq, y1, ok1 _ _ _ (Same.refl _) (hd1.setOwn q1 e1 (r2.eraseIdx _)) y2⟩
            · rw [if_neg w] at ok1; exact ok1.elim
          | _ => exact ok1.elim
/-! ### a, b = x, y: both sides written -/
section
variable {α β : Type}
/-- how a value is put down -/
structure Put (K : PySem.W.Frag) (T : Tab) (α : Type) where
  rel : Rel α V
  sl : α → Sl
  put : ∀ {c : Ctx} {G H : Hp} {σ : SV} {st : S} {v : V} {a : α}, Holds K T c G H σ st → rel c G H σ st v a → ∀ i, Holds K T c G H (σ.set i (some v)) (st.put i (sl a))
def putV (K : PySem.W.Frag) (T : Tab) : Put K T D := ⟨relD K T, .val, fun h r i => h.putVal r i⟩
def putO (K : PySem.W.Frag) (T : Tab) : Put K T (List D) := ⟨relF K T, .own, fun h r i => h.putOwn r i⟩
def dPar (i j : Nat) (sa : α → Sl) (sb : β → Sl) (f : S → R α) (g : S → R β) : S → R Out := fun st => (f st).bind fun a st => (g st).bind fun b st => .ok .nx ((st.put i (sa a)).put j (sb b))
theorem dPar_vv (K : PySem.W.Frag) {i j : Nat} {f g : S → R D} (E : Ends) (σ : SV) (H : Hp) (h : tD K T W (dPar i j .val .val f g) E σ H) : tPar i j (tCons (gD K T W (relD K T) f) (tCons (gD K T W (relD K T) g) tNil)) E σ H := by
  obtain ⟨c, G, st, hd, ok⟩ := h
  obtain ⟨c0, G0, st0, hd0, ok0⟩ := stepS (rel := relD K T) hd ok
  refine ⟨c0, G0, st0, hd0, ok0.imp fun x H1 ⟨G1, st1, a, s1, hd1, r1, ok1⟩ => ?_⟩
  obtain ⟨c2, G2, st2, hd2, ok2⟩ := stepS (rel := relD K T) hd1 ok1
  exact ⟨c2, G2, st2, hd2, ok2.imp fun y H2 ⟨G3, st3, b, s3, hd3, r3, ok3⟩ => ⟨x, y, rfl, ok3 _ _ _ (Same.refl _) ((hd3.putVal (r1.mono s3) i).putVal r3 j)⟩⟩
theorem dPar_vo (K : PySem.W.Frag) {i j : Nat} {f : S → R D} {g : S → R (List D)} (hij : i ≠ j) (E : Ends) (σ : SV) (H : Hp) (h : tD K T W (dPar i j .val .own f g) E σ H) : tPar i j (tCons (gD K T W (relD K T) f) (tCons (gD K T W (relF K T) g) tNil)) E σ H := by
  obtain ⟨c, G, st, hd, ok⟩ := h
  obtain ⟨c0, G0, st0, hd0, ok0⟩ := stepS (rel := relD K T) hd ok
  refine ⟨c0, G0, st0, hd0, ok0.imp fun x H1 ⟨G1, st1, a, s1, hd1, r1, ok1⟩ => ?_⟩
  obtain ⟨c2, G2, st2, hd2, ok2⟩ := stepS (rel := relF K T) hd1 ok1
  refine ⟨c2, G2, st2, hd2, ok2.imp fun y H2 ⟨G3, st3, b, s3, hd3, r3, ok3⟩ => ⟨x, y, rfl, ok3 _ _ _ (Same.refl _) ((hd3.putVal (r1.mono s3) i).putOwn ?_ j)⟩⟩
  obtain ⟨p, vs, ev, hp, g1, z, rs, nd⟩ := r3
  refine ⟨p, vs, ev, hp, g1, z, rs, fun k es e q => ?_⟩
  have e' : (st3.env.set i (.val a))[k]? = some (.own es) := e
  have nk : i ≠ k := fun w => by
    subst w
    by_cases hi : i < st3.env.length
    · rw [List.getElem?_set_self hi] at e'; cases e'
    · rw [List.getElem?_eq_none (by rw [List.length_set]; omega)] at e'; cases e'
  rw [List.getElem?_set_ne nk] at e' q
  exact nd k es e' q
theorem dPar_ov (K : PySem.W.Frag) {i j : Nat} {f : S → R (List D)} {g : S → R D} (hij : i ≠ j) (E : Ends) (σ : SV) (H : Hp) (h : tD K T W (dPar i j .own .val f g) E σ H) : tPar i j (tCons (gD K T W (relF K T) f) (tCons (gD K T W (relD K T) g) tNil)) E σ H := by
  obtain ⟨c, G, st, hd, ok⟩ := h
  obtain ⟨c0, G0, st0, hd0, ok0⟩ := stepS (rel := relF K T) hd ok
  refine ⟨c0, G0, st0, hd0, ok0.imp fun x H1 ⟨G1, st1, a, s1, hd1, r1, ok1⟩ => ?_⟩
  obtain ⟨p, vs, ev, hp, gp, z, rs, nd⟩ := r1
  subst ev
  have hg := hd1.guard hp gp z nd
  have g0 : c.G0 p = none := by
    cases q : c.G0 p with
    | none => rfl
    | some o => have := hd1.sub0 _ _ q; rw [gp] at this; cases this
  have nb : c.B ≠ some p := fun q => hd1.box0 p q z
  refine ⟨c.guard p vs, G1, st1, hg, ?_⟩
  replace ok1 : SOk K T W c G1 ((g st1).bind fun b st => .ok .nx ((st.put i (.own a)).put j (.val b))) E := ok1
  revert ok1
  cases g st1 with
  | stuck => exact fun ok1 => ok1.elim
  | err e s =>
    intro ok1 G' H' cls d s' h' er
    have h2 := (h'.unguard z nb (h'.gfree g0)).1
    exact ok1 G' H' σ cls d s' h2 er
  | ok b st2 =>
    intro ok1 G' H' y s' h' r'
    obtain ⟨h2, hp2, nd2⟩ := h'.unguard z nb (h'.gfree g0)
    have rf : relF K T c G' H' σ st2 (.ref p) a := ⟨p, vs, rfl, hp2, h'.gfree g0, z, rs.mono s', nd2⟩
    exact ⟨.ref p, y, rfl, ok1 G' H' _ s' ((h2.putOwn rf i).putVal r' j)⟩
theorem dPar_oo (K : PySem.W.Frag) {i j : Nat} {f : S → R (List D)} {g : S → R (List D)} (hij : i ≠ j) (E : Ends) (σ : SV) (H : Hp) (h : tD K T W (dPar i j .own .own f g) E σ H) : tPar i j (tCons (gD K T W (relF K T) f) (tCons (gD K T W (relF K T) g) tNil)) E σ H := by
  obtain ⟨c, G, st, hd, ok⟩ := h
  obtain ⟨c0, G0, st0, hd0, ok0⟩ := stepS (rel := relF K T) hd ok
  refine ⟨c0, G0, st0, hd0, ok0.imp fun x H1 ⟨G1, st1, a, s1, hd1, r1, ok1⟩ => ?_⟩
  obtain ⟨p, vs, ev, hp, gp, z, rs, nd⟩ := r1
  subst ev
  have hg := hd1.guard hp gp z nd
  have g0 : c.G0 p = none := by
    cases q : c.G0 p with
    | none => rfl
    | some o => have := hd1.sub0 _ _ q; rw [gp] at this; cases this
  have nb : c.B ≠ some p := fun q => hd1.box0 p q z
  refine ⟨c.guard p vs, G1, st1, hg, ?_⟩
  replace ok1 : SOk K T W c G1 ((g st1).bind fun b st => .ok .nx ((st.put i (.own a)).put j (.own b))) E := ok1
  revert ok1
  cases g st1 with
  | stuck => exact fun ok1 => ok1.elim
  | err e s =>
    intro ok1 G' H' cls d s' h' er
    have h2 := (h'.unguard z nb (h'.gfree g0)).1
    exact ok1 G' H' σ cls d s' h2 er
  | ok b st2 =>
    intro ok1 G' H' y s' h' r'
    obtain ⟨h2, hp2, nd2⟩ := h'.unguard z nb (h'.gfree g0)
    have rf : relF K T c G' H' σ st2 (.ref p) a := ⟨p, vs, rfl, hp2, h'.gfree g0, z, rs.mono s', nd2⟩
    obtain ⟨p2, vs2, ev2, hp3, gp3, z3, rs3, nd3⟩ := r'
    subst ev2
    have ne : p2 ≠ p := fun t => by
      subst t
      have hH : (c.guard p2 vs).H0 p2 = upd c.H0 p2 (.lst vs) p2 := rfl
      rw [hH, upd_same] at z3; cases z3
    have z4 : c.H0 p2 = none := by
      have hH : (c.guard p vs).H0 p2 = upd c.H0 p (.lst vs) p2 := rfl
      rw [hH, upd_ne ne] at z3; exact z3
    refine ⟨.ref p, .ref p2, rfl, ok1 G' H' _ s' ((h2.putOwn rf i).putOwn ⟨p2, vs2, rfl, hp3, gp3, z4, rs3, fun k es e q => ?_⟩ j)⟩
    have e' : (st2.env.set i (.own a))[k]? = some (.own es) := e
    by_cases w : i = k
    · subst w
      by_cases hi : i < σ.length
      · rw [List.getElem?_set_self hi] at q; cases q; exact ne rfl
      · rw [List.getElem?_eq_none (by rw [List.length_set]; omega)] at q; cases q
    · rw [List.getElem?_set_ne w] at e' q
      exact nd3 k es e' q
end
theorem ds_par {i j : Nat} {x y : Str} {a b : Expr} {α β : Type} {sa : α → Sl} {sb : β → Sl} {f : S → R α} {g : S → R β} {ta tb : TE} {px py pt : Pos} {kt k2 pt2} {pos : Pos} (hc : X.calm = true) (hN : X.N.Nodup) (hi : X.N[i]? = some x) (hj : X.N[j]? = some y) (hij : i ≠ j)
    (hx : X.env.scope.names.lookup x = some .local) (hy : X.env.scope.names.lookup y = some .local) (ha : PE X a ta) (hb : PE X b tb)
    (hr : ∀ E σ H, tD X.K T W (dPar i j sa sb f g) E σ H → tPar i j (tCons ta (tCons tb tNil)) E σ H)
    (h1 : starEach [a, b] X.env = (false, eval a X.env) :: starEach [b] X.env) (h2 : starEach [b] X.env = (false, eval b X.env) :: starEach [] X.env)
    (hw : swappedStores [.Tuple [.Name x px, .Name y py] kt pt] (.Tuple [a, b] k2 pt2) X.env = pure (some [x, y]))
    (hs : swapsWithSole [.Tuple [.Name x px, .Name y py] kt pt] (.Tuple [a, b] k2 pt2) pos.line X.env = pure false) :
    DS X T W (.Assign [.Tuple [.Name x px, .Name y py] kt pt] (.Tuple [a, b] k2 pt2) pos) (dPar i j sa sb f g) := impS (ps_par hc hN hi hj hij hx hy (pa_cons ha (pa_cons hb pa_nil h2) h1) hw hs) hr
/-! ### isinstance of built-in types -/
def kindD : D → Option Nat
  | .non => some 0
  | .bl _ => some 1
  | .int _ => some 2
  | .str _ => some 3
  | .ls _ => some 4
  | .tu _ => some 5
  | .box => some 4
  | _ => none
/-- a built-in type by number -/
def tyName : Nat → String
  | 0 => "NoneType"
  | 1 => "bool"
  | 2 => "int"
  | 3 => "str"
  | 4 => "list"
  | _ => "tuple"
def isKind (k t : Nat) : Bool := k == t || (k == 1 && t == 2)
theorem kit_kinds : ∀ k, k < 6 → ∀ t, t < 6 → kitB (tyName k) (tyName t) = some (isKind k t) := by decide +kernel
theorem kindD_lt {d : D} {k : Nat} (h : kindD d = some k) : k < 6 := by
  cases d <;> simp [kindD] at h <;> omega
theorem kindD_ty {K : PySem.W.Frag} {c : Ctx} {G H : Hp} {σ : SV} {st : S} (hd : Holds K T c G H σ st) {v : V} {d : D} {k : Nat} (r : Rep K T c.B G v d) (h : kindD d = some k) : TyX K H v (.type (tyName k)) := by
  cases r with
  | non => cases h; exact .base .non
  | bl b => cases h; exact .base (.bl b)
  | int i => cases h; exact .base (.int i)
  | str x => cases h; exact .base (.str x)
  | ls e _ => cases h; exact .base (.lst (hd.sub _ _ e))
  | tu e _ =>
    cases h
    rcases e with (e | ⟨o, e⟩) | ⟨o, its, n, e1, e2, _⟩
    · exact .base (.tup (hd.sub _ _ e))
    · exact .fTuple (hd.sub _ _ e)
    · exact .kTuple e1 e2
  | box e => cases h; exact .base (.lst (hd.box _ e).1)
  | ro _ => cases h
  | ob _ _ _ => cases h
  | er0 _ _ => cases h
  | er1 _ _ _ _ => cases h
def hIsi (t : Nat) (d : D) (st : S) : R D := match kindD d with
  | some k => .ok (.bl (isKind k t)) st
  | none => .stuck
def dIsi (t : Nat) (f : S → R D) : S → R D := fun st => (f st).bind fun d st => hIsi t d st
theorem boot_isi : bootBuiltins "isinstance" = some (.builtin "isinstance") := by decide +kernel
theorem de_isi {t : Nat} {e : Expr} {f : S → R D} {x : Str} {p p2 pos : Pos} (ht : t < 6) (hg : Gl X "isinstance") (hm : X.mg "isinstance" = none) (he : DE X T W e f) (hc : PE X (.Name x p2) (tC (.ty (tyName t))))
    (h1 : starEach [e, .Name x p2] X.env = (false, eval e X.env) :: starEach [.Name x p2] X.env := by rfl) (h2 : starEach [.Name x p2] X.env = (false, eval (.Name x p2) X.env) :: starEach [] X.env := by rfl) (hpl : (backTo pos (starEach [.Name x p2] X.env)).any (·.1) = false := by rfl) :
    DE X T W (.Call (.Name "isinstance" p) [e, .Name x p2] [] pos) (dIsi t f) := impE (pe_callB call_isi hg hm boot_isi (pa_cons he (pa_cons hc pa_nil h2) h1) (hpl := hpl) (he := h1)) fun σ H Q ⟨c, G, st, hd, ok⟩ => by
  obtain ⟨c0, G0, st0, hd0, ok0⟩ := step (rel := relD X.K T) hd ok
  refine ⟨c0, G0, st0, hd0, ok0.imp fun v H1 ⟨G1, st1, a, s1, hd1, r1, ok1⟩ => ?_⟩
  unfold hIsi at ok1
  cases q : kindD a with
  | none => rw [q] at ok1; exact ok1.elim
  | some k =>
    rw [q] at ok1
    exact ⟨v, _, _, _, isKind k t, rfl, .ty _, kindD_ty hd1 r1 q, kit_ty (kit_kinds k (kindD_lt q) t ht), ok1 _ _ _ (Same.refl _) hd1 (.bl _)⟩
def hIsi2 (t u : Nat) (d : D) (st : S) : R D := match kindD d with
  | some k => .ok (.bl (isKind k t || isKind k u)) st
  | none => .stuck
def dIsi2 (t u : Nat) (f : S → R D) : S → R D := fun st => (f st).bind fun d st => hIsi2 t u d st
theorem kit_any2 {K : PySem.W.Frag} {k t u : Nat} (hk : k < 6) (ht : t < 6) (hu : u < 6) : PySem.W.kitAny K (.type (tyName k)) [.type (tyName t), .type (tyName u)] = some (isKind k t || isKind k u) := by
  have e1 : PySem.W.kitOne K (.type (tyName k)) (.type (tyName t)) = some (isKind k t) := kit_ty (kit_kinds k hk t ht)
  have e2 : PySem.W.kitOne K (.type (tyName k)) (.type (tyName u)) = some (isKind k u) := kit_ty (kit_kinds k hk u hu)
  refine kitAny_cons e1 (fun h => ?_) fun h => by rw [h]; rfl
  rw [h, Bool.false_or]
  exact kitAny_cons e2 (fun h2 => by rw [h2]; exact kitAny_nil) fun h2 => h2
theorem de_isi2 {t u : Nat} {e : Expr} {f : S → R D} {x y : Str} {p p2 p3 p4 pos : Pos} {kk} (ht : t < 6) (hu : u < 6) (hg : Gl X "isinstance") (hm : X.mg "isinstance" = none) (he : DE X T W e f) (hc : PE X (.Name x p2) (tC (.ty (tyName t)))) (hc2 : PE X (.Name y p3) (tC (.ty (tyName u))))
    (h1 : starEach [e, .Tuple [.Name x p2, .Name y p3] kk p4] X.env = (false, eval e X.env) :: starEach [.Tuple [.Name x p2, .Name y p3] kk p4] X.env := by rfl) (h2 : starEach [.Tuple [.Name x p2, .Name y p3] kk p4] X.env = (false, eval (.Tuple [.Name x p2, .Name y p3] kk p4) X.env) :: starEach [] X.env := by rfl)
    (h3 : starEach [.Name x p2, .Name y p3] X.env = (false, eval (.Name x p2) X.env) :: starEach [.Name y p3] X.env := by rfl) (h4 : starEach [.Name y p3] X.env = (false, eval (.Name y p3) X.env) :: starEach [] X.env := by rfl) (hpl : (backTo pos (starEach [.Tuple [.Name x p2, .Name y p3] kk p4] X.env)).any (·.1) = false := by rfl) :
    DE X T W (.Call (.Name "isinstance" p) [e, .Tuple [.Name x p2, .Name y p3] kk p4] [] pos) (dIsi2 t u f) := impE (pe_callB call_isiT hg hm boot_isi (pa_cons he (pa_cons (pe_tup (pa_cons hc (pa_cons hc2 pa_nil h4) h3)) pa_nil h2) h1) (hpl := hpl) (he := h1)) fun σ H Q ⟨c, G, st, hd, ok⟩ => by
  obtain ⟨c0, G0, st0, hd0, ok0⟩ := step (rel := relD X.K T) hd ok
  refine ⟨c0, G0, st0, hd0, ok0.imp fun v H1 ⟨G1, st1, a, s1, hd1, r1, ok1⟩ => ?_⟩
  unfold hIsi2 at ok1
  cases q : kindD a with
  | none => rw [q] at ok1; exact ok1.elim
  | some k =>
    rw [q] at ok1
    refine ⟨by show 2 ≤ sizeLine; decide, fun l hl => ?_⟩
    have hl2 := hd1.lay (.tup [.ty (tyName t), .ty (tyName u)]) hl
    exact ⟨v, l, _, _, _, _, rfl, upd_same, .cons (.ty _) (.cons (.ty _) .nil), kindD_ty hl2 (r1.mono (same_upd (hd1.gnone hl))) q, kit_any2 (kindD_lt q) ht hu, ok1 _ _ _ (same_upd (hd1.gnone hl)) hl2 (.bl _)⟩
end
end DL

/-! DLi: short words for a text's defs. -/
namespace DL
open PySem PySem.Spec PyProof.Rows L2
section
variable {X : Cx} {T : Tab} {W : WX}
/-- xs or ys, both new -/
def dOrF (f g : S → R (List D)) : S → R (List D) := fun st => (f st).bind fun ds st => if ds.isEmpty = true then g st else .ok ds st
theorem df_one {op : BoolOp} {a : Expr} {f : S → R (List D)} {pos : Pos} (ha : DF X T W a f) : DF X T W (.BoolOp op [a] pos) f := pe_one ha
theorem df_or {a b : Expr} {rest : List Expr} {f g : S → R (List D)} {pos : Pos} (ha : DF X T W a f) (hb : DF X T W (.BoolOp .Or (b :: rest) pos) g) : DF X T W (.BoolOp .Or (a :: b :: rest) pos) (dOrF f g) := by
  refine impE (pe_orT ha hb) fun σ H Q ⟨c, G, st, hd, ok⟩ => ?_
  obtain ⟨c0, G0, st0, hd0, ok0⟩ := step (rel := relF X.K T) hd ok
  refine ⟨c0, G0, st0, hd0, ok0.imp fun x H1 ⟨G1, st1, ds, s1, hd1, r1, ok1⟩ => ?_⟩
  obtain ⟨p, vs, rfl, hp, gp, z, rs, nd⟩ := r1
  refine ⟨!vs.isEmpty, .inl ⟨vs, SqL.of hp, rfl⟩, ?_⟩
  rw [rs.isEmpty]
  cases e : ds.isEmpty with
  | true =>
    rw [e, if_pos rfl] at ok1
    show if (!true) = true then _ else _
    rw [if_neg (by decide)]
    exact ⟨_, G1, st1, hd1, ok1⟩
  | false =>
    rw [e, if_neg (by decide)] at ok1
    show if (!false) = true then _ else _
    rw [if_pos (by decide)]
    exact ok1 _ _ _ (Same.refl _) hd1 ⟨p, vs, rfl, hp, gp, z, rs, nd⟩
abbrev hEnumA := hEnum
theorem di_enum {e : Expr} {fa : S → R (List D)} {p pos tpos : Pos} {elts : List Expr} {kk : Nat} (hg : Gl X "enumerate") (hm : X.mg "enumerate" = none) (ha : DA X T W [e] fa) (hs : starEach [e] X.env = [(false, eval e X.env)] := by rfl) :
    DI X T W (.Tuple elts kk tpos) (.Call (.Name "enumerate" p) [e] [] pos) (dCBF hEnumA fa) := di_enumL hg hm ha hs
end
/-- the built-in names that the text leaves as they are -/
structure Bi (mg : Str → Option Value) : Prop where
  len : mg "len" = none
  int : mg "int" = none
  abs : mg "abs" = none
  list : mg "list" = none
  tuple : mg "tuple" = none
  range : mg "range" = none
  zip : mg "zip" = none
  enumerate : mg "enumerate" = none
  isinstance : mg "isinstance" = none
  str : mg "str" = none
  bool : mg "bool" = none
  all : mg "all" = none
  any : mg "any" = none
  sum : mg "sum" = none
  min : mg "min" = none
  max : mg "max" = none
  sorted : mg "sorted" = none
  reversed : mg "reversed" = none
  ValueError : mg "ValueError" = none
  LookupError : mg "LookupError" = none
  set : mg "set" = none
section
variable {P : Program} {w : World} {K : PySem.W.Frag} {mg : Str → Option Value} {base : Heap} {T : Tab}
/-- a def that stands under its name, by its promise -/
structure DefAt (P : Program) (w : World) (K : PySem.W.Frag) (mg : Str → Option Value) (base : Heap) (T : Tab) (x : Str) (ps : List Str) (n k : Nat) (F : Fn) : Prop where
  ex : ∃ (f : Addr) (fd : FuncData), FnOk P w K mg base (L2.CX P w) k f fd ps (spD K T n F) ∧ mg x = some (.ref f) ∧ PySem.W.keepIn K (.ref f) = true ∧ Binds K fd ps []
theorem DefAt.of {x : Str} {ps : List Str} {n k : Nat} {F : Fn} {f : Addr} {fd : FuncData} (h : FnOk P w K mg base (L2.CX P w) k f fd ps (spD K T n F)) (hm : mg x = some (.ref f)) (kp : PySem.W.keepIn K (.ref f) = true) (b : Binds K fd ps []) : DefAt P w K mg base T x ps n k F := ⟨f, fd, h, hm, kp, b⟩
theorem fn_never {k n : Nat} {f : Addr} {fd : FuncData} {ps : List Str} (hn : n = ps.length) : FnOk P w K mg base (L2.CX P w) k f fd ps (spD K T n fun _ _ => .stuck) :=
  ⟨fun vs H Q E h => h.1.trans hn, fun A outer s H args us vs Q E hr he hb hv hs => by obtain ⟨_, _, _, _, _, _, _, _, z⟩ := hs; exact z.elim⟩
theorem fn_okj {x qual : Str} {stm : Stmt} {f : Addr} {fd : FuncData} {N ps : List Str} {k : Nat} {body : S → R Out} (F : Fun K x qual stm f fd) (Sc : FnScope N ps (defScope stm))
    (hb : ∀ (cdv : Value) (A : Around) (outer : List Env) (s : Shared) (H : Hp) (E : XK) (W : WX), Room k (A.deeper (envOfC qual (defScope stm) s.heap.objs.size f cdv)) →
      PassesOwn (model P w) (cxOf (L2.CX P w) P w K mg base N qual (defScope stm) f cdv A outer s H E).A (cxOf (L2.CX P w) P w K mg base N qual (defScope stm) f cdv A outer s H E).env (cxOf (L2.CX P w) P w K mg base N qual (defScope stm) f cdv A outer s H E).xe →
      Takes (cxOf (L2.CX P w) P w K mg base N qual (defScope stm) f cdv A outer s H E) W → DSs (cxOf (L2.CX P w) P w K mg base N qual (defScope stm) f cdv A outer s H E) T W (defBody stm) body) :
    FnOk P w K mg base (L2.CX P w) (k + 1) f fd ps (spD K T ps.length (runFn ps.length N.length body)) :=
  fn_ok F Sc fun X W _ _ _ _ _ _ _ _ _ hr _ _ _ hp tk ⟨cdv, A, outer, s, H, E, e⟩ => by subst e; exact hb cdv A outer s H E W hr hp tk
end
section
variable {X : Cx} {T : Tab} {W : WX}
theorem de_callD {k n j : Nat} {F : Fn} {ps : List Str} {x : Str} {p pos : Pos} {e : Expr} {es : List Expr} {fa : S → R (List D)}
    (h : DefAt X.prog X.w X.K X.mg X.base T x ps n k F) (hr : Room j X.A) (hj : k ≤ j) (tk : Takes X W) (ha : DA X T W (e :: es) fa) (hg : Gl X x := by rfl) (hdb : (x == ("__debug__" : Str)) = false := by decide) (he : starEach (e :: es) X.env = (false, eval e X.env) :: starEach es X.env := by rfl) (hpl : (backTo pos (starEach es X.env)).any (·.1) = false := by rfl) :
    DE X T W (.Call (.Name x p) (e :: es) [] pos) (dCall n F [] fa) := by
  obtain ⟨f, fd, ok, hm, hk, hb⟩ := h.ex
  exact de_call ok (hr.mono hj) hg hm hk hb .nil (fun _ _ => .nil) tk ha hdb he hpl
theorem de_callD0 {k n j : Nat} {F : Fn} {ps : List Str} {x : Str} {p pos : Pos}
    (h : DefAt X.prog X.w X.K X.mg X.base T x ps n k F) (hr : Room j X.A) (hj : k ≤ j) (tk : Takes X W) (hg : Gl X x := by rfl) (hdb : (x == ("__debug__" : Str)) = false := by decide) :
    DE X T W (.Call (.Name x p) [] [] pos) (dCall n F [] dNil) := by
  obtain ⟨f, fd, ok, hm, hk, hb⟩ := h.ex
  exact de_call0 ok (hr.mono hj) hg hm hk hb .nil (fun _ _ => .nil) tk hdb

/-- f(g(..)), g's new list the box of f -/
def dCallBox (n : Nat) (F : Fn) (m : Nat) (Gf : Fn) (fa : S → R (List D)) : S → R D := fun st => (fa st).bind fun ds st => if ds.length = m ∧ n = 1 then match Gf ds st.bx with
  | .okF [.int a, .int b, .int c] b' => match F [.box] (a, b, c) with
    | .ok (.bl k) _ => .ok (.bl k) { st with bx := b' }
    | _ => .stuck
  | _ => .stuck
  else .stuck
theorem de_callBox {k k2 n m j : Nat} {F Gf : Fn} {ps ps2 : List Str} {x y : Str} {p p2 pos pos2 : Pos} {e : Expr} {es : List Expr} {fa : S → R (List D)}
    (h : DefAt X.prog X.w X.K X.mg X.base T x ps n k F) (h2 : DefAt X.prog X.w X.K X.mg X.base T y ps2 m k2 Gf) (hr : Room j X.A) (hj : k ≤ j) (hj2 : k2 ≤ j) (tk : Takes X W) (ha : DA X T W (e :: es) fa) (hg : Gl X x := by rfl) (hg2 : Gl X y := by rfl) (hdb : (x == ("__debug__" : Str)) = false := by decide) (hdb2 : (y == ("__debug__" : Str)) = false := by decide)
    (he : starEach (e :: es) X.env = (false, eval e X.env) :: starEach es X.env := by rfl) (hpl : (backTo pos2 (starEach es X.env)).any (·.1) = false := by rfl)
    (he2 : starEach [.Call (.Name y p2) (e :: es) [] pos2] X.env = (false, eval (.Call (.Name y p2) (e :: es) [] pos2) X.env) :: starEach [] X.env := by rfl) (hpl2 : (backTo pos (starEach [] X.env)).any (·.1) = false := by rfl) :
    DE X T W (.Call (.Name x p) [.Call (.Name y p2) (e :: es) [] pos2] [] pos) (dCallBox n F m Gf fa) := by
  obtain ⟨f, fd, ok, hm, hk, hb⟩ := h.ex
  obtain ⟨f2, fd2, ok2, hm2, hk2, hb2⟩ := h2.ex
  refine impE (pe_callSD (E := WE W) ok (hr.mono hj) hg hm hk hb .nil (passAt tk) (pa_cons (pe_callSD (E := WE W) ok2 (hr.mono hj2) hg2 hm2 hk2 hb2 .nil (passAt tk) ha hdb2 he hpl) pa_nil he2) hdb (by rfl) hpl2) fun σ H Q ⟨c, G, st, hd, okQ⟩ => ?_
  obtain ⟨c0, G0, st0, hd0, ok0⟩ := step (rel := relA X.K T) hd okQ
  refine ⟨c0, G0, st0, hd0, ok0.imp fun vs H1 ⟨G1, st1, as, s1, hd1, r1, ok1⟩ => ?_⟩
  show spD X.K T m Gf (vs ++ []) H1 _ _
  rw [List.append_nil]
  by_cases q : as.length = m ∧ n = 1
  · rw [if_pos q] at ok1
    refine ⟨r1.length.trans q.1, c.B, G1, as, st1.bx, hd1.sub, hd1.box, r1, ?_⟩
    revert ok1
    cases Gf as st1.bx with
    | stuck => exact fun ok1 => ok1.elim
    | err _ _ => exact fun ok1 => ok1.elim
    | ok _ _ => exact fun ok1 => ok1.elim
    | okF l b' =>
      intro ok1 G' H' pb vsb a hp g nn r
      match l, r, ok1 with
      | [.int i1, .int i2, .int i3], .cons (.int _) (.cons (.int _) (.cons (.int _) .nil)), ok1 =>
        show spD X.K T n F [.ref pb] H' _ _
        refine ⟨q.2.symm, some pb, fun _ => none, [.box], (i1, i2, i3), (fun a o z => nomatch z), (fun p e => by cases e; exact ⟨hp, rfl⟩), .cons (.box rfl) .nil, ?_⟩
        replace ok1 : GOk X.K T W (relD X.K T) c G1 σ (match F [.box] (i1, i2, i3) with | .ok (.bl k) _ => .ok (.bl k) { st1 with bx := b' } | _ => .stuck) Q := ok1
        revert ok1
        cases F [.box] (i1, i2, i3) with
        | stuck => exact fun ok1 => ok1.elim
        | err _ _ => exact fun ok1 => ok1.elim
        | okF _ _ => exact fun ok1 => ok1.elim
        | ok d bb =>
          cases d with
          | bl k =>
            intro ok1 G2 H2 v a2 r2
            cases r2
            refine ok1 G1 H2 (.bl k) (Same.refl _) (hd1.after (b := b') ⟨Same.refl _, fun x o z => ?_, fun x z w => absurd z w, fun x o z w => ?_, fun x z => ?_⟩) (.bl k)
            · have z1 := hd1.sub _ _ z
              have nx : some pb ≠ some x := fun y => by cases y; rw [nn] at z1; cases z1
              refine a2.frame x o ?_ nx
              exact a.sub _ _ (a.sG _ _ z)
            · have nx : some pb ≠ some x := fun y => by cases y; rw [nn] at z; cases z
              exact a2.frame x o (a.frame x o z w) nx
            · obtain ⟨z1, z2⟩ := a.box x z
              have nx : some pb ≠ some x := fun y => by
                cases y
                have := (hd1.box _ z).1
                rw [nn] at this; cases this
              exact ⟨a2.frame x _ z1 nx, (hd1.box x z).2⟩
          | _ => exact fun ok1 => ok1.elim
  · rw [if_neg q] at ok1; exact ok1.elim
end
end DL

/-! DLj: errors of own classes: made, raised, caught, read, asked for their class. -/
namespace DL
open PySem PySem.Spec PyProof.Rows L2
section
variable {X : Cx} {pins : List (Addr × Obj)} {σ : SV} {H : Hp} {s : Shared} {a : Addr} {o : HO}
theorem trk_ne {b : Addr} {u : HO} (hx : H a = none ∨ ∃ φ, H a = some (.ext φ)) (e : H b = some u) (d : ∀ φ, u ≠ .ext φ) : b ≠ a := fun z => by
  subst z
  rcases hx with q | ⟨φ, q⟩
  · rw [e] at q; cases q
  · rw [e] at q; exact d φ (Option.some.inj q)
/-- an object that stands is known from now on (anew) -/
theorem inv_track (I : Inv X pins σ H s) (h0 : H a = none → X.s_0.heap.get? a = none) (hx : H a = none ∨ ∃ φ, H a = some (.ext φ)) (nL : a ≠ X.env.locals) (nC : ∀ x c, X.env.cells.lookup x = some c → c ≠ a) (nP : ∀ p ∈ X.pn ++ pins, p.1 ≠ a)
    (new : ObjOk X.prog X.w (upd H a o) s.heap a o) : Inv X pins σ (upd H a o) s where
  ok := I.ok
  os := I.os
  bare := I.bare
  base := {
    keep := I.base.keep
    slot := I.base.slot
    free := fun b u e n hb => by
      have q := I.base.free b u e n hb
      rw [upd_ne (show b ≠ a from fun z => by subst z; rw [h0 q] at e; cases e)]
      exact q
    there := I.base.there
    tups := fun b xs e => by
      have q := I.base.tups b xs e
      rw [upd_ne (trk_ne hx q fun φ z => nomatch z)]; exact q
    frzs := fun b u v e => by
      have q := I.base.frzs b u v e
      rw [upd_ne (trk_ne hx q fun φ z => nomatch z)]; exact q
    tbls := fun b ps e => by
      obtain ⟨m, q⟩ := I.base.tbls b ps e
      exact ⟨m, by rw [upd_ne (trk_ne hx q fun φ z => nomatch z)]; exact q⟩ }
  loc := I.loc
  cell := I.cell
  free := by rw [upd_ne (Ne.symm nL)]; exact I.free
  freeC := fun x c e => by rw [upd_ne (nC x c e)]; exact I.freeC x c e
  pin := fun p hp => by
    obtain ⟨e, n, r⟩ := I.pin p hp
    exact ⟨e, by rw [upd_ne (nP p hp)]; exact n, r⟩
  hok := fun b u q => by
    by_cases hb : b = a
    · subst hb; rw [upd_same] at q; cases q; exact new
    · rw [upd_ne hb] at q
      refine (I.hok b u q).stay (fun c v _ z => z) (fun c z => ?_) fun c xs z => ?_
      · rw [upd_ne (trk_ne hx z fun φ y => nomatch y)]; exact z
      · rw [upd_ne (trk_ne hx z fun φ y => nomatch y)]; exact z
  len := I.len
theorem exV_ok {P : Program} {w : World} {h : Heap} {C : Addr} {d : Option Addr} {oe : Obj} {vs : Array Value} (e : h.get? a = some oe) (c : oe.cls = .ref C) (dd : oe.dict = d) (f : oe.data = .fields vs) : ObjOk P w H h a (exV a C d) :=
  ⟨⟨oe, vs, e, c, dd, f⟩, ⟨oe, e⟩, fun _ _ ⟨o, v, q, r⟩ k => ⟨o, v, k o q, r⟩⟩
theorem exV_at {P : Program} {w : World} {h : Heap} {C : Addr} {d : Option Addr} (hok : HOk P w H h) (e : H a = some (exV a C d)) : ∃ (oe : Obj) (vs : Array Value), h.get? a = some oe ∧ oe.cls = .ref C ∧ oe.dict = d ∧ oe.data = .fields vs := (hok a _ e).1
end
/-- what the written part says of an own error class -/
structure ErC (K : PySem.W.Frag) (C : Addr) : Prop where
  x : ExcC K C
  tyC : PySem.W.typeIn K (.ref C) = some (.type "type")
  kC : PySem.W.keepIn K (.ref C) = true
/-- .. of one without an __init__, by its name -/
structure Er0At (K : PySem.W.Frag) (mg : Str → Option Value) (T : Tab) (x : Str) (c : Nat) : Prop where
  e : ErC K (T.C c)
  g : mg x = some (.ref (T.C c))
  n : T.fld c = []
  q : PySem.W.excIn K (T.C c) [.type "ValueError", .type "Exception", .type "BaseException", .type "object"] "ValueError.__new__" = true
/-- .. of one with the one field nm -/
structure Er1At (P : Program) (w : World) (K : PySem.W.Frag) (mg : Str → Option Value) (base : Heap) (T : Tab) (x nm : Str) (c : Nat) : Prop where
  e : ErC K (T.C c)
  g : mg x = some (.ref (T.C c))
  n : T.fld c = [nm]
  o : OexC K (T.C c)
  no : PySem.W.findIn K (.ref (T.C c)) nm = some none
  init : ∃ (fI : Addr) (fd : FuncData), PySem.W.findIn K (.ref (T.C c)) "__init__" = some (some (.ref fI)) ∧ PySem.W.typeIn K (.ref fI) = some (.type "function") ∧
    FnOk P w K mg base CX0 1 fI fd ["self", nm] (fun vs H Q _ => ∃ (a : Addr) (y : V), vs = [.ref a, y] ∧ H a = some (exo a (T.C c) none) ∧ ∀ dx, H dx = none → dx ≠ a → Q .non (upd (upd H dx (exd dx [(nm, y)])) a (exo a (T.C c) (some dx)))) ∧ Binds K fd ["self", nm] [] ∧ ∀ (s : Shared) (u v : Value), BindsTo s fd ⟨[u], [(nm, v)]⟩ [("self", u), (nm, v)]
/-- the promise of such an __init__ -/
abbrev spEr (C : Addr) (nm : Str) : Sp := fun vs H Q _ => ∃ (a : Addr) (y : V), vs = [.ref a, y] ∧ H a = some (exo a C none) ∧ ∀ dx, H dx = none → dx ≠ a → Q .non (upd (upd H dx (exd dx [(nm, y)])) a (exo a C (some dx)))
theorem er_read {K : PySem.W.Frag} {C : Addr} {nm : Str} (o : OexC K C) (no : PySem.W.findIn K (.ref C) nm = some none) {vs : List V} {H : Hp} {Q : VK} {E : XK} (h : spEr C nm vs H Q E) :
    tOst K nm (tVar 0) (tVar 1) { nx := fun _ H' => Q .non H', rt := Q } (L2.start ["self", nm] vs) H := by
  obtain ⟨a, y, rfl, ea, q⟩ := h
  exact ⟨y, rfl, .ref a, rfl, a, C, rfl, o, no, .inl ⟨ea, fun dx n ne => q dx n ne⟩⟩
theorem er_len {C : Addr} {nm : Str} : ∀ vs H Q E, spEr C nm vs H Q E → vs.length = (["self", nm] : List Str).length := fun vs H Q E ⟨a, y, e, _⟩ => by rw [e]; rfl
section
variable {X : Cx} {T : Tab} {W : WX}
/-! ### an error as a value -/
def dMk (c : Nat) (f : S → R D) : S → R D := fun st => (f st).bind fun d st => .ok (.er c [d]) st
theorem de_mk1 {x nm : Str} {c j : Nat} {p pos : Pos} {e : Expr} {f : S → R D} (h : Er1At X.prog X.w X.K X.mg X.base T x nm c) (hr : Room (j + 2) X.A) (he : DE X T W e f) (hg : Gl X x := by rfl) (hdb : (x == ("__debug__" : Str)) = false := by decide)
    (hs : starEach [e] X.env = (false, eval e X.env) :: starEach [] X.env := by rfl) (hpl : (backTo pos (starEach [] X.env)).any (·.1) = false := by rfl) : DE X T W (.Call (.Name x p) [e] [] pos) (dMk c f) := by
  refine ⟨fun pins s σ H Q I ⟨c0, G, st, hd, ok⟩ => ?_⟩
  obtain ⟨fI, fd, iC, tI, F1, hb, hkb⟩ := h.init
  obtain ⟨nm', q, N, bs, bm, sn, sub, ab, col, dd, k0, k1, k2, k3, k5, hC, hbm⟩ := h.o.cls
  have ha : PA X [e] (tCons (gD X.K T W (relD X.K T) f) tNil) := pa_cons he pa_nil hs
  refine wpAny_Call_Name_kw (ld_glob I hg h.g ?_ hdb)
  obtain ⟨c1, G1, st1, hd1, ok1⟩ := step (rel := relD X.K T) hd ok
  refine PySem.W.callWith_K (h₀ := X.base) I.ok.mod.kin h.e.kC (thn (ha.run pos pins s σ H (fun vs H1 => ∃ v, vs = [v] ∧ ∃ G1 st1 a, Same G G1 ∧ Holds X.K T c0 G1 H1 σ st1 ∧ relD X.K T c0 G1 H1 σ st1 v a ∧ GOk X.K T W (relD X.K T) c0 G1 σ (.ok (.er c [a]) st1) Q) I ⟨c1, G1, st1, hd1, ok1.imp fun v H1 z => ⟨v, rfl, z⟩⟩) fun us s1 ⟨vs, H1, I1, r1, v, ev, G2, st2, d, s2, hd2, r2, ok2⟩ => ⟨I1.kIn, ?_⟩) hs hpl
  subst ev
  show wpAny _ _ (call (.ref (T.C c)) us) _ _ _
  obtain ⟨hp, g, dr, tk, os⟩ := s1
  have hsz : hp.objs.size ≤ hp.objs.size + 1 := Nat.le_succ _
  have hn : H1 (hp.objs.size + 1) = none := I1.hok.fresh hsz
  have kk : ∀ b o, hp.get? b = some o → ((hp.push (PySem.W.kdv_tup us)).push (PySem.HandSPX.excO (T.C c) hp.objs.size)).get? b = some o := fun b o e => Heap.get?_push_of_some _ (Heap.get?_push_of_some _ e)
  have hget : ((hp.push (PySem.W.kdv_tup us)).push (PySem.HandSPX.excO (T.C c) hp.objs.size)).get? (hp.objs.size + 1) = some (PySem.HandSPX.excO (T.C c) hp.objs.size) := by heap_get
  have I2 : Inv X pins σ (upd H1 (hp.objs.size + 1) (exo (hp.objs.size + 1) (T.C c) none)) ⟨(hp.push (PySem.W.kdv_tup us)).push (PySem.HandSPX.excO (T.C c) hp.objs.size), g, dr, tk, os⟩ :=
    I1.laid (t' := tk) (a := hp.objs.size + 1) (o := exo (hp.objs.size + 1) (T.C c) none) (h' := (hp.push (PySem.W.kdv_tup us)).push (PySem.HandSPX.excO (T.C c) hp.objs.size)) kk hsz (exo_ok hget)
  have rr : Vals [V.ref (hp.objs.size + 1), v] (Value.ref (hp.objs.size + 1) :: us) := .cons rfl r1
  have hus : us.length ≤ sizeLine := by
    rw [← Paired.length r1, sizeLine_eq]
    exact (by decide : 1 ≤ 16777216)
  have hul : (Value.ref (hp.objs.size + 1) :: us).length = 2 := by rw [← rr.length]; rfl
  have nL : hp.objs.size + 1 ≠ X.env.locals := fun z => by
    have := I1.lt
    rw [← z] at this
    exact absurd (Nat.lt_of_lt_of_le this hsz) (Nat.lt_irrefl _)
  refine wpAny_call (PySem.HandSPX.call_own F.excBase_ValueError (fun Y => PySem.HandSPX.refsVE_contains Y bm hbm) (I1.kIn _ _ hC) (PySem.W.looks_findIn I1.kIn iC) (fun self => PySem.W.bind_fn I1.kIn self tI) hus
    (codeAny_mono (F1.run _ X.stack _ _ ⟨Value.ref (hp.objs.size + 1) :: us, []⟩ (Value.ref (hp.objs.size + 1) :: us) _ (fun u H2 => u = .non ∧ ∃ dx, H1 dx = none ∧ dx ≠ hp.objs.size + 1 ∧ H2 = upd (upd (upd H1 (hp.objs.size + 1) (exo (hp.objs.size + 1) (T.C c) none)) dx (exd dx [(nm, v)])) (hp.objs.size + 1) (exo (hp.objs.size + 1) (T.C c) (some dx))) (fun _ _ _ => False) ((hr.mono (by omega)).make (T.C c) us []) (I2.env0.make (T.C c) us [])
      (by simpa using hb _ (Value.ref (hp.objs.size + 1) :: us) I2.kIn (by simpa using hul)) rr ⟨_, v, rfl, upd_same, fun dx n ne => ⟨rfl, dx, by rw [upd_ne ne] at n; exact n, ne, rfl⟩⟩) fun r s' hq' => ?_))
  cases r with
  | error er => exact hq'.elim
  | ok fl =>
    cases fl with
    | ret u =>
      obtain ⟨u2, H2, os2, bare2, un2, hok2, rv, eu, dx, n1, ne, eH⟩ := hq'
      subst eu
      refine ⟨rv, ?_⟩
      obtain ⟨h2, g2, d2, t2, os'⟩ := s'
      have I3 : Inv X pins σ H2 ⟨h2, g2, d2, t2, os'⟩ := I2.call' (ch := []) os2 un2 hok2 bare2 (fun b z => absurd z (by simp))
      have ea : H2 (hp.objs.size + 1) = some (exo (hp.objs.size + 1) (T.C c) (some dx)) := by rw [eH, upd_same]
      have ed : H2 dx = some (exd dx [(nm, v)]) := by rw [eH, upd_ne ne, upd_same]
      obtain ⟨t0, hoe⟩ := exo_at hok2 ea
      obtain ⟨mA, hns, rel⟩ := exd_at hok2 ed
      have free : ∀ {b : Addr} {φ : Heap → Prop}, H2 b = some (.ext φ) → (∀ x c', X.env.cells.lookup x = some c' → c' ≠ b) ∧ (∀ p ∈ X.pn ++ pins, p.1 ≠ b) ∧ b ≠ X.env.locals := fun {b φ} eb => by
        refine ⟨fun x c' z y => ?_, fun p hp' y => ?_, fun y => ?_⟩
        · have := I3.freeC x c' z
          rw [y, eb] at this; cases this
        · have := (I3.pin p hp').2.1
          rw [y, eb] at this; cases this
        · have := I3.free
          rw [← y, eb] at this; cases this
      obtain ⟨nC, nP, nL2⟩ := free ea
      have I4 := inv_track (o := exV (hp.objs.size + 1) (T.C c) (some dx)) I3 (fun z => by rw [ea] at z; cases z) (.inr ⟨_, ea⟩) nL2 nC nP (exV_ok hoe rfl rfl rfl)
      have ed4 : (upd H2 (hp.objs.size + 1) (exV (hp.objs.size + 1) (T.C c) (some dx))) dx = some (exd dx [(nm, v)]) := by rw [upd_ne ne]; exact ed
      obtain ⟨nC', nP', nL'⟩ := free ed
      have I5 := inv_track (o := .xd [(nm, v)]) I4 (fun z => by rw [ed4] at z; cases z) (.inr ⟨_, ed4⟩) nL' nC' nP' ⟨mA, hns, rel⟩
      -- what is known now
      have eH5 : upd (upd H2 (hp.objs.size + 1) (exV (hp.objs.size + 1) (T.C c) (some dx))) dx (.xd [(nm, v)]) = upd (upd H1 dx (.xd [(nm, v)])) (hp.objs.size + 1) (exV (hp.objs.size + 1) (T.C c) (some dx)) := by
        rw [eH]
        funext b
        by_cases b1 : b = dx
        · subst b1; rw [upd_same, upd_ne ne, upd_same]
        · by_cases b2 : b = hp.objs.size + 1
          · subst b2; rw [upd_ne b1, upd_same, upd_same]
          · rw [upd_ne b1, upd_ne b2, upd_ne b2, upd_ne b1, upd_ne b2, upd_ne b2, upd_ne b1]
      rw [eH5] at I5
      have hd5 := hd2.lay (.xd [(nm, v)]) n1
      have n2 : (upd H1 dx (.xd [(nm, v)])) (hp.objs.size + 1) = none := by rw [upd_ne (Ne.symm ne)]; exact hn
      have hd6 := hd5.lay (exV (hp.objs.size + 1) (T.C c) (some dx)) n2
      have sA := same_upd (o := .xd [(nm, v)]) (hd2.gnone n1)
      have sB := same_upd (o := exV (hp.objs.size + 1) (T.C c) (some dx)) (hd5.gnone n2)
      exact ⟨.ref (hp.objs.size + 1), _, I5, rfl, ok2 _ _ _ (sA.trans sB) hd6 (.er1 upd_same h.n (by rw [upd_ne ne, upd_same]) ((r2.mono sA).mono sB))⟩
    | next => exact False.elim hq'
    | brk => exact False.elim hq'
    | cont => exact False.elim hq'

/-! ### raised -/
def dRaise (c : Nat) (f : S → R D) : S → R Out := fun st => (f st).bind fun d st => .err ⟨c, [d]⟩ st
theorem ds_raise1 {x nm : Str} {c j : Nat} {p pos pos2 : Pos} {e : Expr} {f : S → R D} (h : Er1At X.prog X.w X.K X.mg X.base T x nm c) (hc : X.calm = true) (hr : Room (j + 2) X.A) (tk : Takes X W) (he : DE X T W e f) (hg : Gl X x := by rfl) (hdb : (x == ("__debug__" : Str)) = false := by decide)
    (hs : starEach [e] X.env = (false, eval e X.env) :: starEach [] X.env := by rfl) (hpl : (backTo pos (starEach [] X.env)).any (·.1) = false := by rfl) : DS X T W (.Raise (some (.Call (.Name x p) [e] [] pos)) none pos2) (dRaise c f) := by
  obtain ⟨fI, fd, iC, tI, F1, hb, hkb⟩ := h.init
  refine impS (ps_raise hc tk (pmk_oex h.o iC tI F1 (hr.mono (by omega)) hb .nil pass0 hg h.g (pa_cons he pa_nil hs) hdb hs hpl)) fun E σ H ⟨c0, G, st, hd, ok⟩ => ?_
  obtain ⟨c1, G1, st1, hd1, ok1⟩ := stepS (rel := relD X.K T) hd ok
  refine ⟨c1, G1, st1, hd1, ok1.imp fun v H1 ⟨G2, st2, d, s2, hd2, r2, ok2⟩ => ⟨by show 1 ≤ 1000; decide, fun a hn => ⟨a, v, rfl, upd_same, fun dx n ne => ?_⟩⟩⟩
  have n1 : H1 dx = none := by rw [upd_ne ne] at n; exact n
  refine ⟨rfl, dx, [(nm, v)], upd_same, by rw [upd_ne ne, upd_same], n1, ?_⟩
  have eH : upd (del (upd (upd (upd H1 a (exo a (T.C c) none)) dx (exd dx [(nm, v)])) a (exo a (T.C c) (some dx))) a) dx (.xd [(nm, v)]) = upd H1 dx (.xd [(nm, v)]) := by
    funext b
    by_cases b1 : b = dx
    · subst b1; rw [upd_same, upd_same]
    · by_cases b2 : b = a
      · subst b2; rw [upd_ne b1, upd_ne b1, del_same, hn]
      · rw [upd_ne b1, upd_ne b1, del_ne b2, upd_ne b2, upd_ne b1, upd_ne b2]
  rw [eH]
  have sA := same_upd (o := .xd [(nm, v)]) (hd2.gnone n1)
  exact ok2 _ _ _ _ _ sA (hd2.lay (.xd [(nm, v)]) n1) ⟨rfl, rfl, dx, nm, v, rfl, h.n, upd_same, r2.mono sA⟩
/-- a class without an __init__, called without arguments -/
theorem own0_run {x : Str} {c : Nat} {p pos : Pos} {pins : List (Addr × Obj)} {s : Shared} {σ : SV} {H : Hp} {Q : Value → Shared → Prop} (h : Er0At X.K X.mg T x c) (I : Inv X pins σ H s) (hg : Gl X x) (hdb : (x == ("__debug__" : Str)) = false)
    (q : ∀ h' e, Heap.MadeExcOf s.heap h' e (.ref (T.C c)) [] → Q (.ref e) { s with heap := h' }) : wpAny (model X.prog X.w) X.A (eval (.Call (.Name x p) [] [] pos) X.env) Q X.xe s := by
  refine wpAny_Call_Name_kw (ld_glob I hg h.g ?_ hdb)
  refine PySem.W.callWith_K0 I.kIn h.e.kC ?_
  show wpAny _ _ (call (.ref (T.C c)) []) _ _ _
  obtain ⟨bm, N, nm, qn, bs, hdct, sn, sub, ab, col, dd, k0, k1, k2, k3, k5, mN, hC, hN, hni, tl⟩ := exc_obj I.kIn h.q
  obtain ⟨hp, g, dr, tk, os⟩ := s
  exact wpAny_call_exc_subT PySem.F.excBase_ValueError tl hC hN hni (fun h' e hm => q h' e hm) (by show 0 ≤ sizeLine; exact Nat.zero_le _)
def dMk0 (c : Nat) : S → R D := fun st => .ok (.er c []) st
theorem de_mk0 {x : Str} {c : Nat} {p pos : Pos} (h : Er0At X.K X.mg T x c) (hg : Gl X x := by rfl) (hdb : (x == ("__debug__" : Str)) = false := by decide) : DE X T W (.Call (.Name x p) [] [] pos) (dMk0 c) := by
  refine ⟨fun pins s σ H Q I ⟨c0, G, st, hd, ok⟩ => own0_run h I hg hdb fun h' e hm => ?_⟩
  obtain ⟨t, he, _, _⟩ := hm.there
  have hn : H e = none := I.hok.gone hm.new
  have I1 := I.laidN (t' := s.toks) (o := exV e (T.C c) none) hm.keeps hm.new hn (exV_ok he rfl rfl rfl)
  have sA := same_upd (o := exV e (T.C c) none) (hd.gnone hn)
  exact ⟨.ref e, _, I1, rfl, ok _ _ _ sA (hd.lay _ hn) (.er0 upd_same h.n)⟩
def dRaise0 (c : Nat) : S → R Out := fun st => .err ⟨c, []⟩ st
theorem ds_raise0 {x : Str} {c : Nat} {p pos pos2 : Pos} (h : Er0At X.K X.mg T x c) (hc : X.calm = true) (tk : Takes X W) (hg : Gl X x := by rfl) (hdb : (x == ("__debug__" : Str)) = false := by decide) : DS X T W (.Raise (some (.Call (.Name x p) [] [] pos)) none pos2) (dRaise0 c) := by
  have hm : PMk X (.Call (.Name x p) [] [] pos) (fun _ H Q => Q (.ref (T.C c)) none H) := fun pins s σ H Q I q => own0_run h I hg hdb fun h' e hm => mk_of I hm (raises_own h.e.x.hs h.e.tyC) q (I.hok.gone hm.new)
  exact impS (ps_raise hc tk hm) fun E σ H ⟨c0, G, st, hd, ok⟩ => ok _ _ _ _ _ (Same.refl _) hd ⟨rfl, rfl, h.n⟩
/-! ### a field read -/
def dAttrE (c : Nat) (f : S → R D) : S → R D := fun st => (f st).bind fun d st => match d with
  | .er c' [v] => if c' = c then .ok v st else .stuck
  | _ => .stuck
theorem de_attrE {x nm : Str} {c : Nat} {e : Expr} {pos : Pos} {f : S → R D} (h : Er1At X.prog X.w X.K X.mg X.base T x nm c) (he : DE X T W e f) (hb : attributeBase e nm X.env (eval e X.env) = eval e X.env := by rfl) : DE X T W (.Attribute e nm pos) (dAttrE c f) := by
  refine ⟨fun pins s σ H Q I ⟨c0, G, st, hd, ok⟩ => attr_of hb ?_⟩
  obtain ⟨c1, G1, st1, hd1, ok1⟩ := step (rel := relD X.K T) hd ok
  refine thn (he.run pins s σ H _ I ⟨c1, G1, st1, hd1, ok1⟩) fun u s1 ⟨v, H1, I1, rv, G2, st2, d, s2, hd2, r2, ok2⟩ => ?_
  cases r2 with
  | @er1 a dd c' nm' v2 f2 h1 hn hdd r =>
    replace ok2 : GOk X.K T W (relD X.K T) c0 G2 σ (if c' = c then .ok f2 st2 else .stuck) Q := ok2
    by_cases ec : c' = c
    · rw [if_pos ec] at ok2
      subst ec
      rw [h.n] at hn
      cases hn
      obtain rfl : u = Value.ref a := rv
      obtain ⟨oe, vs, g1, g2, g3, g4⟩ := exV_at I1.hok (hd2.sub _ _ h1)
      obtain ⟨mA, hns, hr⟩ := (show ObjOk X.prog X.w H1 s1.heap dd (.xd [(nm, v2)]) from I1.hok dd _ (hd2.sub _ _ hdd))
      obtain ⟨od, ho, hl⟩ := lookIn_ns hns
      have l : List.lookup nm [(nm, v2)] = some v2 := by simp [List.lookup]
      obtain ⟨u2, hu, ru⟩ := RelO.some_of (v := v2) (o := mA nm) (by rw [← l]; exact hr nm)
      have J : PySem.W.InstAt s1.heap a oe (T.C c') (some od) := ⟨g1, g2, by unfold PySem.W.notCls; rw [g4] <;> rfl, by rw [g3]; exact ho⟩
      exact HandSPX.exc_get I1.kIn J h.e.x.hg h.e.x.hk h.e.x.hs (PySem.W.findObj_own h.e.x.hd h.no rfl (by rw [hl, hu])) (handed_of ru) ⟨v2, H1, I1.tok _, ru, ok2 _ _ _ (Same.refl _) hd2 r⟩
    · rw [if_neg ec] at ok2; exact ok2.elim
  | _ => exact ok2.elim
/-! ### isinstance of an error -/
/-- what isinstance tells of the error classes, asked for u -/
structure IsTab (K : PySem.W.Frag) (T : Tab) (n : Nat) (u : Value) (tbl : Nat → Bool) : Prop where
  t : ∀ c, c < n → PySem.W.kitOne K (.ref (T.C c)) u = some (tbl c)
  e : ∀ c, c < n → ErC K (T.C c)
def dIsE (n : Nat) (tbl : Nat → Bool) (f : S → R D) : S → R D := fun st => (f st).bind fun d st => match d with
  | .er c _ => if c < n then .ok (.bl (tbl c)) st else .stuck
  | _ => .stuck
theorem kit_exc {K : PySem.W.Frag} {C a : Addr} (E : ExcC K C) {ox : Obj} {od : Option Obj} : PySem.W.KitX K (.ref a) (.ref C) (fun h => PySem.W.InstAt h a ox C od) where
  ty := fun _ _ _ I => I.type
  it := fun _ _ X _ => by
    obtain ⟨cdD, hcD, _⟩ := PySem.W.any_some E.hd
    unfold PySem.W.clsIn at hcD
    split at hcD
    · rename_i c' d' cd' sl' ho
      intro A' Q' E' s' k q
      unfold isType loadHead
      exact wpAny_bind (wpAny_loadPart (k _ _ (X _ _ ho)) (wpAny_pure q))
    · cases hcD
  ne := fun h tp dd its n sl X htp => by
    obtain ⟨cdD, hcD, _⟩ := PySem.W.any_some E.hd
    refine Bool.eq_false_iff.mpr fun q => ?_
    have e : C = tp := Value.ref.inj (beq_iff_eq.mp q)
    subst e
    unfold PySem.W.clsIn at hcD
    split at hcD
    · rename_i c' d' cd' sl' ho
      have z := (X _ _ ho).symm.trans htp
      cases z
    · cases hcD
  ca := fun X I k => PySem.W.kx_classE X I E.hg E.hk E.hs (PySem.W.findObj_dataE (by obtain ⟨cd, hc, _⟩ := PySem.W.any_some E.hd; rw [hc]; rfl) E.ha E.hn E.ht) E.hm k
theorem call_isV {cv : Value} {c : V} (hcv : ∀ u, RelV c u → u = cv) : CallR X (.builtin "isinstance") (fun xs H Q => ∃ (a C : Addr) (d : Option Addr) (b : Bool), xs = [.ref a, c] ∧ H a = some (exV a C d) ∧ (∀ dd, d = some dd → ∃ fs, H dd = some (.xd fs)) ∧ ExcC X.K C ∧ PySem.W.kitOne X.K (.ref C) cv = some b ∧ Q (.bl b) H) := by
  intro pins s σ H xs us Q I r h
  obtain ⟨a, C, d, b, rfl, ha, hdd, E, k, q⟩ := h
  cases r with
  | cons rx rr =>
    cases rr with
    | cons rt rr =>
      cases rr
      cases rx
      have ec := hcv _ rt
      subst ec
      obtain ⟨oe, vs, g1, g2, g3, g4⟩ := exV_at I.hok ha
      have J : ∃ od, PySem.W.InstAt s.heap a oe C od := by
        cases d with
        | none => exact ⟨none, g1, g2, by unfold PySem.W.notCls; rw [g4] <;> rfl, by rw [g3]; trivial⟩
        | some dd =>
          obtain ⟨fs, hf⟩ := hdd dd rfl
          obtain ⟨mA, hns, _⟩ := (show ObjOk X.prog X.w H s.heap dd (.xd fs) from I.hok dd _ hf)
          obtain ⟨od, ho, _⟩ := lookIn_ns hns
          exact ⟨some od, g1, g2, by unfold PySem.W.notCls; rw [g4] <;> rfl, by rw [g3]; exact ho⟩
      obtain ⟨od, J⟩ := J
      exact PySem.W.kia_one (kit_exc E) I.kIn J k (fun z => nomatch z) fun tk => ⟨.bl b, H, I.kept (t' := tk) fun _ _ z => z, rfl, q⟩
theorem de_isE {n : Nat} {u : Value} {cv : V} {tbl : Nat → Bool} {e e2 : Expr} {f : S → R D} {p pos : Pos} (h : IsTab X.K T n u tbl) (hu : ∀ v, RelV cv v → v = u) (hg : Gl X "isinstance") (hm : X.mg "isinstance" = none) (he : DE X T W e f) (hc : PE X e2 (tC cv))
    (h1 : starEach [e, e2] X.env = (false, eval e X.env) :: starEach [e2] X.env := by rfl) (h2 : starEach [e2] X.env = (false, eval e2 X.env) :: starEach [] X.env := by rfl) (hpl : (backTo pos (starEach [e2] X.env)).any (·.1) = false := by rfl) :
    DE X T W (.Call (.Name "isinstance" p) [e, e2] [] pos) (dIsE n tbl f) := impE (pe_callB (call_isV hu) hg hm boot_isi (pa_cons he (pa_cons hc pa_nil h2) h1) (hpl := hpl) (he := h1)) fun σ H Q ⟨c, G, st, hd, ok⟩ => by
  obtain ⟨c0, G0, st0, hd0, ok0⟩ := step (rel := relD X.K T) hd ok
  refine ⟨c0, G0, st0, hd0, ok0.imp fun v H1 ⟨G1, st1, a, s1, hd1, r1, ok1⟩ => ?_⟩
  cases r1 with
  | @er0 ad cc h0 hn =>
    replace ok1 : GOk X.K T W (relD X.K T) c G1 σ (if cc < n then .ok (.bl (tbl cc)) st1 else .stuck) Q := ok1
    by_cases q : cc < n
    · rw [if_pos q] at ok1
      exact ⟨ad, _, none, tbl cc, rfl, hd1.sub _ _ h0, (fun dd z => nomatch z), (h.e cc q).x, h.t cc q, ok1 _ _ _ (Same.refl _) hd1 (.bl _)⟩
    · rw [if_neg q] at ok1; exact ok1.elim
  | @er1 ad dd cc nm v2 f2 h0 hn hdd r =>
    replace ok1 : GOk X.K T W (relD X.K T) c G1 σ (if cc < n then .ok (.bl (tbl cc)) st1 else .stuck) Q := ok1
    by_cases q : cc < n
    · rw [if_pos q] at ok1
      exact ⟨ad, _, some dd, tbl cc, rfl, hd1.sub _ _ h0, (fun dd' z => by cases z; exact ⟨_, hd1.sub _ _ hdd⟩), (h.e cc q).x, h.t cc q, ok1 _ _ _ (Same.refl _) hd1 (.bl _)⟩
    · rw [if_neg q] at ok1; exact ok1.elim
  | _ => exact ok1.elim
end
end DL

/-! DLk: own errors made with their field by name. -/
namespace PySem
namespace DLX
open HandSPX
open Builtin Builtin.ObjectAttr
section
variable {M : Model} {A : Around} {E : Value → Shared → Prop} {h : Heap} {g : Array GenState} {d : Drawn} {t : Nat} {os : OsState}
variable {nm q : Str} {C N : Addr} {bs bm bmB : List Value} {hdct : Bool} {sn : List Str} {sub : List Value} {ab : Bool} {col : Option Bool} {dd : Option Addr} {k0 k1 k2 k3 k5 : Option Value} {B newId initId : String}
theorem check_new_kw (F : ExcBaseFacts B newId initId bmB) (hT : ∀ X : String, bm.contains (.type X) = bmB.contains (.type X)) {kw : List (Str × Value)} {Q : Unit → Shared → Prop}
    (hC : h.get? C = some (excClassObj nm q C N bs bm hdct sn sub ab col dd k0 k1 k2 k3 k5 newId)) (hq : Q () ⟨h, g, d, t, os⟩) : wpAny M A (checkBuiltinCall newId ⟨[.ref C], kw⟩) Q E ⟨h, g, d, t, os⟩ := by
  have hcont : (Value.ref C :: bm).contains (.type B) = true := by rw [List.contains_cons, hT, F.hasB, Bool.or_true]
  have hstar := F.noStar
  simp only [checkBuiltinCall, F.newKind, F.newSplit, F.newRow]
  repeat (first | refine wpAny_loadPart_at hC ?_ | (refine wpAny_isSubtype_exc hC ?_; rw [hcont]) | refine wpAny_staticBase_exc hC ?_ | refine wpAny_madeBy_exc hC ?_ | simp only [bne_self_eq_false, Bool.false_eq_true, if_false] | wp_step)
  exact hq
end
section
variable {prog : Program} {w : World} {A : Around} {E : Value → Shared → Prop} {R : Result → Shared → Prop} {h : Heap} {g : Array GenState} {d : Drawn} {t : Nat} {os : OsState}
variable {nm q : Str} {C N : Addr} {bs bm bmB : List Value} {hdct : Bool} {sn : List Str} {sub : List Value} {ab : Bool} {col : Option Bool} {dd : Option Addr} {k0 k1 k2 k3 k5 : Option Value} {B newId initId : String}
theorem new_kw (F : ExcBaseFacts B newId initId bmB) (hT : ∀ X : String, bm.contains (.type X) = bmB.contains (.type X)) {kw : List (Str × Value)}
    (hC : h.get? C = some (excClassObj nm q C N bs bm hdct sn sub ab col dd k0 k1 k2 k3 k5 newId))
    (hq : R (.ok (.ret (.ref (h.objs.size + 1)))) ⟨(h.push { cls := .type "tuple", data := .seq ([] : List Value).toArray }).push
      { cls := .ref C, data := .fields #[.ref h.objs.size, .none, .none, .none, .bool false, .none] }, g, d, t, os⟩) :
    codeAny (model prog w) A (.builtin newId ⟨[.ref C], kw⟩) R ⟨h, g, d, t, os⟩ := by
  have hends := F.ends
  have hcB : (Value.ref C :: bm).contains (.type B) = true := by rw [List.contains_cons, hT, F.hasB, Bool.or_true]
  have hcA : (Value.ref C :: bm).contains (.type "AttributeError") = false := by rw [List.contains_cons, hT, F.noAttr]; rfl
  have hcN : (Value.ref C :: bm).contains (.type "NameError") = false := by rw [List.contains_cons, hT, F.noName]; rfl
  refine codeAny_builtinAt F.entry ?_
  unfold Builtin.«BaseException.__new__»
  refine wpAt_bind ?_
  show wpAt _ _ _ (stack >>= _) _ _ _
  refine wpAt_bind (wpAt_stack fun p below => wpAt_of_wpAny ?_)
  wp_walk
  refine wpAt_of_wpAny ?_
  rw [F.owner]
  repeat (first | with_reducible refine wpAny_madeHere_exc F.canon hC ?_ | with_reducible refine wpAny_loadPart_at hC ?_ | (with_reducible refine wpAny_isSubtype_exc hC ?_; first | rw [hcB] | rw [hcA] | rw [hcN]) | wp_step)
  show R _ _
  rw [Heap.size_push]
  exact hq
theorem type_call_kw (F : ExcBaseFacts B newId initId bmB) (hT : ∀ X : String, bm.contains (.type X) = bmB.contains (.type X)) {kw : List (Str × Value)} {fI : Addr} {Q : Fin → Shared → Prop}
    (hC : h.get? C = some (excClassObj nm q C N bs bm hdct sn sub ab col dd k0 k1 k2 k3 k5 newId))
    (hi : W.Looks (model prog w) h (typeLookup (.ref C) "__init__") (some (.ref fI))) (hb : ∀ self, W.Looks (model prog w) h (bindSpecial (.ref fI) self) (.ref fI, [self])) (hk : kw ≠ [])
    (hq : codeAny (model prog w) A (.call (.ref fI) ⟨[.ref (h.objs.size + 1)], kw⟩)
      (fun r s' => match r with | .ok (.ret v) => v = .none ∧ Q (.done (.ret (.ref (h.objs.size + 1)))) s' | .ok _ => False | .error e => E e s')
      ⟨(h.push (W.kdv_tup [])).push (excO C h.objs.size), g, d, t, os⟩) :
    wpAny (model prog w) A (Builtin.«type.__call__» ⟨[.ref C], kw⟩) Q E ⟨h, g, d, t, os⟩ := by
  repeat (first | with_reducible refine wpAny_loadPart_at hC ?_ | with_reducible refine wpAny_madeBy_exc hC ?_ | wp_step)
  refine codeAny_call_builtin_code (Code.quiet_builtin _ F.quiet) (check_new_kw F hT hC ?_)
  refine new_kw F hT hC ?_
  show wpAny _ _ _ _ _ _
  have k : ∀ b o, h.get? b = some o → ((h.push (W.kdv_tup [])).push (excO C h.objs.size)).get? b = some o := fun b o e => Heap.get?_push_of_some _ (Heap.get?_push_of_some _ e)
  have hC₁ := k _ _ hC
  have hget : ((h.push (W.kdv_tup [])).push (excO C h.objs.size)).get? (h.objs.size + 1) = some (excO C h.objs.size) := by heap_get
  have hcC : (Value.ref C :: bm).contains (.ref C) = true := by simp
  have i1 := hi.keeps k
  have b1 := (hb (.ref (h.objs.size + 1))).keeps k
  unfold isInstance
  repeat (first | with_reducible refine wpAny_loadPart_at hget ?_ | (with_reducible refine wpAny_isSubtype_exc hC₁ ?_; rw [hcC]) | wp_step)
  show wpAny _ _ (typeLookup (.ref C) _) _ _ _
  refine i1.at ?_
  refine wpAny_holding (wpAny_bind (b1.at ?_))
  refine wpAny_bind (wpAny_call (codeAny_mono hq fun r s' z => ?_))
  rcases r with e | (v | _ | _ | _) <;> first | exact z | exact z.elim | skip
  obtain ⟨rfl, z⟩ := z
  first
    | exact wpAny_pure (wpAny_pure z)
    | (wp_walk; exact z)
theorem check_type_call_kw {kw : List (Str × Value)} {Q : Unit → Shared → Prop} (hC : h.get? C = some (excClassObj nm q C N bs bm hdct sn sub ab col dd k0 k1 k2 k3 k5 newId))
    (hq : Q () ⟨h, g, d, t, os⟩) : wpAny (model prog w) A (checkBuiltinCall "type.__call__" ⟨[.ref C], kw⟩) Q E ⟨h, g, d, t, os⟩ := by
  have f3 := tc_sub
  have hT : (⟨h, g, d, t, os⟩ : Shared).TypeIs (.ref C) "type" := ⟨_, hC, rfl⟩
  simp only [checkBuiltinCall, tc_kind, tc_split]
  repeat (any_goals (first | assumption | with_reducible refine wpAny_loadPart_at hC ?_ | with_reducible refine wpAny_onRaise ?_ | with_reducible refine wpAny_map ?_ | wp_step))
theorem call_kw (F : ExcBaseFacts B newId initId bmB) (hT : ∀ X : String, bm.contains (.type X) = bmB.contains (.type X)) {kw : List (Str × Value)} {fI : Addr}
    (hC : h.get? C = some (excClassObj nm q C N bs bm hdct sn sub ab col dd k0 k1 k2 k3 k5 newId))
    (hi : W.Looks (model prog w) h (typeLookup (.ref C) "__init__") (some (.ref fI))) (hb : ∀ self, W.Looks (model prog w) h (bindSpecial (.ref fI) self) (.ref fI, [self])) (hk : kw ≠ [])
    (hq : codeAny (model prog w) (A.under (.builtin "type.__call__" ⟨[.ref C], kw⟩)) (.call (.ref fI) ⟨[.ref (h.objs.size + 1)], kw⟩) (W.InitBack (h.objs.size + 1) R)
      ⟨(h.push (W.kdv_tup [])).push (excO C h.objs.size), g, d, t, os⟩) :
    codeAny (model prog w) A (.call (.ref C) ⟨[], kw⟩) R ⟨h, g, d, t, os⟩ := by
  have f1 := tc_lookup
  have f2 := tc_bind (.ref C)
  have hTy : (⟨h, g, d, t, os⟩ : Shared).TypeIs (.ref C) "type" := ⟨_, hC, rfl⟩
  refine codeAny_of_tree ?_
  show wpAny _ _ (callAny (.ref C) _) _ _ _
  repeat (any_goals (first | assumption | with_reducible refine wpAny_loadPart_at hC ?_ | wp_step))
  refine ⟨rfl, ?_⟩
  refine codeAny_call_builtin_at (Code.quiet_builtin _ (by decide +kernel)) entry_typeCall (check_type_call_kw hC (type_call_kw F hT hC hi hb hk ?_))
  refine codeAny_mono hq fun r s' z => ?_
  rcases r with e | (v | _ | _ | _) <;> exact z
end
end DLX
end PySem

namespace DL
open PySem PySem.Spec PyProof.Rows L2
section
variable {X : Cx} {T : Tab} {W : WX}
theorem de_mk1k {x nm : Str} {c j : Nat} {p pos : Pos} {e : Expr} {kp : Pos} {f : S → R D} (h : Er1At X.prog X.w X.K X.mg X.base T x nm c) (hr : Room (j + 2) X.A) (he : DE X T W e f) (hg : Gl X x := by rfl) (hdb : (x == ("__debug__" : Str)) = false := by decide)
    (hall : (backToKw pos (keywordEach [⟨some nm, e, kp⟩] X.env)).all (·.1.isSome) = true := by rfl) (hks : (backToKw pos (keywordEach [⟨some nm, e, kp⟩] X.env)).filterMap (·.1) = [nm] := by rfl)
    (hpl : ((backTo pos (starEach [] X.env)).any (·.1) || (backToKw pos (keywordEach [⟨some nm, e, kp⟩] X.env)).any (·.1.isNone)) = false := by rfl) : DE X T W (.Call (.Name x p) [] [⟨some nm, e, kp⟩] pos) (dMk c f) := by
  refine ⟨fun pins s σ H Q I ⟨c0, G, st, hd, ok⟩ => ?_⟩
  obtain ⟨fI, fd, iC, tI, F1, hb, hkb⟩ := h.init
  obtain ⟨nm', q, N, bs, bm, sn, sub, ab, col, dd, k0, k1, k2, k3, k5, hC, hbm⟩ := h.o.cls
  have ha : PK X [⟨some nm, e, kp⟩] (tCons (gD X.K T W (relD X.K T) f) tNil) := pk_cons he pk_nil
  refine wpAny_Call_Name_kw (ld_glob I hg h.g ?_ hdb)
  obtain ⟨c1, G1, st1, hd1, ok1⟩ := step (rel := relD X.K T) hd ok
  refine PySem.W.callWith_KW0 (h₀ := X.base) I.ok.mod.kin h.e.kC hall (thn (ha.run pos pins s σ H (fun vs H1 => ∃ v, vs = [v] ∧ ∃ G1 st1 a, Same G G1 ∧ Holds X.K T c0 G1 H1 σ st1 ∧ relD X.K T c0 G1 H1 σ st1 v a ∧ GOk X.K T W (relD X.K T) c0 G1 σ (.ok (.er c [a]) st1) Q) I ⟨c1, G1, st1, hd1, ok1.imp fun v H1 z => ⟨v, rfl, z⟩⟩) fun us s1 ⟨vs, H1, I1, r1, v, ev, G2, st2, d, s2, hd2, r2, ok2⟩ => ⟨I1.kIn, ?_⟩) hpl
  subst ev
  rw [hks]
  obtain ⟨u1, rfl⟩ : ∃ u1, us = [u1] := by
    cases r1 with
    | cons _ rn => cases rn; exact ⟨_, rfl⟩
  show wpAny _ _ (call (.ref (T.C c)) [] [(nm, u1)]) _ _ _
  obtain ⟨hp, g, dr, tk, os⟩ := s1
  have hsz : hp.objs.size ≤ hp.objs.size + 1 := Nat.le_succ _
  have hn : H1 (hp.objs.size + 1) = none := I1.hok.fresh hsz
  have kk : ∀ b o, hp.get? b = some o → ((hp.push (PySem.W.kdv_tup [])).push (PySem.HandSPX.excO (T.C c) hp.objs.size)).get? b = some o := fun b o e => Heap.get?_push_of_some _ (Heap.get?_push_of_some _ e)
  have hget : ((hp.push (PySem.W.kdv_tup [])).push (PySem.HandSPX.excO (T.C c) hp.objs.size)).get? (hp.objs.size + 1) = some (PySem.HandSPX.excO (T.C c) hp.objs.size) := by heap_get
  have I2 : Inv X pins σ (upd H1 (hp.objs.size + 1) (exo (hp.objs.size + 1) (T.C c) none)) ⟨(hp.push (PySem.W.kdv_tup [])).push (PySem.HandSPX.excO (T.C c) hp.objs.size), g, dr, tk, os⟩ :=
    I1.laid (t' := tk) (a := hp.objs.size + 1) (o := exo (hp.objs.size + 1) (T.C c) none) (h' := (hp.push (PySem.W.kdv_tup [])).push (PySem.HandSPX.excO (T.C c) hp.objs.size)) kk hsz (exo_ok hget)
  have rr : Vals [V.ref (hp.objs.size + 1), v] [Value.ref (hp.objs.size + 1), u1] := .cons rfl r1
  have nL : hp.objs.size + 1 ≠ X.env.locals := fun z => by
    have := I1.lt
    rw [← z] at this
    exact absurd (Nat.lt_of_lt_of_le this hsz) (Nat.lt_irrefl _)
  refine wpAny_call (PySem.DLX.call_kw F.excBase_ValueError (fun Y => PySem.HandSPX.refsVE_contains Y bm hbm) (I1.kIn _ _ hC) (PySem.W.looks_findIn I1.kIn iC) (fun self => PySem.W.bind_fn I1.kIn self tI) (by simp)
    (codeAny_mono (F1.run _ X.stack _ _ ⟨[Value.ref (hp.objs.size + 1)], [(nm, u1)]⟩ [Value.ref (hp.objs.size + 1), u1] _ (fun u H2 => u = .non ∧ ∃ dx, H1 dx = none ∧ dx ≠ hp.objs.size + 1 ∧ H2 = upd (upd (upd H1 (hp.objs.size + 1) (exo (hp.objs.size + 1) (T.C c) none)) dx (exd dx [(nm, v)])) (hp.objs.size + 1) (exo (hp.objs.size + 1) (T.C c) (some dx))) (fun _ _ _ => False) ((hr.mono (by omega)).make (T.C c) [] [(nm, u1)]) (I2.env0.make (T.C c) [] [(nm, u1)])
      (hkb _ _ _) rr ⟨_, v, rfl, upd_same, fun dx n ne => ⟨rfl, dx, by rw [upd_ne ne] at n; exact n, ne, rfl⟩⟩) fun r s' hq' => ?_))
  cases r with
  | error er => exact hq'.elim
  | ok fl =>
    cases fl with
    | ret u =>
      obtain ⟨u2, H2, os2, bare2, un2, hok2, rv, eu, dx, n1, ne, eH⟩ := hq'
      subst eu
      refine ⟨rv, ?_⟩
      obtain ⟨h2, g2, d2, t2, os'⟩ := s'
      have I3 : Inv X pins σ H2 ⟨h2, g2, d2, t2, os'⟩ := I2.call' (ch := []) os2 un2 hok2 bare2 (fun b z => absurd z (by simp))
      have ea : H2 (hp.objs.size + 1) = some (exo (hp.objs.size + 1) (T.C c) (some dx)) := by rw [eH, upd_same]
      have ed : H2 dx = some (exd dx [(nm, v)]) := by rw [eH, upd_ne ne, upd_same]
      obtain ⟨t0, hoe⟩ := exo_at hok2 ea
      obtain ⟨mA, hns, rel⟩ := exd_at hok2 ed
      have free : ∀ {b : Addr} {φ : Heap → Prop}, H2 b = some (.ext φ) → (∀ x c', X.env.cells.lookup x = some c' → c' ≠ b) ∧ (∀ p ∈ X.pn ++ pins, p.1 ≠ b) ∧ b ≠ X.env.locals := fun {b φ} eb => by
        refine ⟨fun x c' z y => ?_, fun p hp' y => ?_, fun y => ?_⟩
        · have := I3.freeC x c' z
          rw [y, eb] at this; cases this
        · have := (I3.pin p hp').2.1
          rw [y, eb] at this; cases this
        · have := I3.free
          rw [← y, eb] at this; cases this
      obtain ⟨nC, nP, nL2⟩ := free ea
      have I4 := inv_track (o := exV (hp.objs.size + 1) (T.C c) (some dx)) I3 (fun z => by rw [ea] at z; cases z) (.inr ⟨_, ea⟩) nL2 nC nP (exV_ok hoe rfl rfl rfl)
      have ed4 : (upd H2 (hp.objs.size + 1) (exV (hp.objs.size + 1) (T.C c) (some dx))) dx = some (exd dx [(nm, v)]) := by rw [upd_ne ne]; exact ed
      obtain ⟨nC', nP', nL'⟩ := free ed
      have I5 := inv_track (o := .xd [(nm, v)]) I4 (fun z => by rw [ed4] at z; cases z) (.inr ⟨_, ed4⟩) nL' nC' nP' ⟨mA, hns, rel⟩
      -- what is known now
      have eH5 : upd (upd H2 (hp.objs.size + 1) (exV (hp.objs.size + 1) (T.C c) (some dx))) dx (.xd [(nm, v)]) = upd (upd H1 dx (.xd [(nm, v)])) (hp.objs.size + 1) (exV (hp.objs.size + 1) (T.C c) (some dx)) := by
        rw [eH]
        funext b
        by_cases b1 : b = dx
        · subst b1; rw [upd_same, upd_ne ne, upd_same]
        · by_cases b2 : b = hp.objs.size + 1
          · subst b2; rw [upd_ne b1, upd_same, upd_same]
          · rw [upd_ne b1, upd_ne b2, upd_ne b2, upd_ne b1, upd_ne b2, upd_ne b2, upd_ne b1]
      rw [eH5] at I5
      have hd5 := hd2.lay (.xd [(nm, v)]) n1
      have n2 : (upd H1 dx (.xd [(nm, v)])) (hp.objs.size + 1) = none := by rw [upd_ne (Ne.symm ne)]; exact hn
      have hd6 := hd5.lay (exV (hp.objs.size + 1) (T.C c) (some dx)) n2
      have sA := same_upd (o := .xd [(nm, v)]) (hd2.gnone n1)
      have sB := same_upd (o := exV (hp.objs.size + 1) (T.C c) (some dx)) (hd5.gnone n2)
      exact ⟨.ref (hp.objs.size + 1), _, I5, rfl, ok2 _ _ _ (sA.trans sB) hd6 (.er1 upd_same h.n (by rw [upd_ne ne, upd_same]) ((r2.mono sA).mono sB))⟩
    | next => exact False.elim hq'
    | brk => exact False.elim hq'
    | cont => exact False.elim hq'
end
end DL

/-! DLl: fields of errors of several classes; facts of the written part as truth values; the end. -/
namespace DL
open PySem PySem.Spec PyProof.Rows L2
section
variable {X : Cx} {T : Tab} {W : WX}
def dAttrEs (cs : List Nat) (f : S → R D) : S → R D := fun st => (f st).bind fun d st => match d with
  | .er c' [v] => if c' ∈ cs then .ok v st else .stuck
  | _ => .stuck
theorem de_attrEs {nm : Str} {cs : List Nat} {e : Expr} {pos : Pos} {f : S → R D} (h : ∀ c ∈ cs, ∃ x, Er1At X.prog X.w X.K X.mg X.base T x nm c) (he : DE X T W e f) (hb : attributeBase e nm X.env (eval e X.env) = eval e X.env := by rfl) : DE X T W (.Attribute e nm pos) (dAttrEs cs f) := by
  refine ⟨fun pins s σ H Q I ⟨c0, G, st, hd, ok⟩ => attr_of hb ?_⟩
  obtain ⟨c1, G1, st1, hd1, ok1⟩ := step (rel := relD X.K T) hd ok
  refine thn (he.run pins s σ H _ I ⟨c1, G1, st1, hd1, ok1⟩) fun u s1 ⟨v, H1, I1, rv, G2, st2, d, s2, hd2, r2, ok2⟩ => ?_
  cases r2 with
  | @er1 a dd c' nm' v2 f2 h1 hn hdd r =>
    replace ok2 : GOk X.K T W (relD X.K T) c0 G2 σ (if c' ∈ cs then .ok f2 st2 else .stuck) Q := ok2
    by_cases ec : c' ∈ cs
    · rw [if_pos ec] at ok2
      obtain ⟨x, h⟩ := h c' ec
      rw [h.n] at hn
      cases hn
      obtain rfl : u = Value.ref a := rv
      obtain ⟨oe, vs, g1, g2, g3, g4⟩ := exV_at I1.hok (hd2.sub _ _ h1)
      obtain ⟨mA, hns, hr⟩ := (show ObjOk X.prog X.w H1 s1.heap dd (.xd [(nm, v2)]) from I1.hok dd _ (hd2.sub _ _ hdd))
      obtain ⟨od, ho, hl⟩ := lookIn_ns hns
      have l : List.lookup nm [(nm, v2)] = some v2 := by simp [List.lookup]
      obtain ⟨u2, hu, ru⟩ := RelO.some_of (v := v2) (o := mA nm) (by rw [← l]; exact hr nm)
      have J : PySem.W.InstAt s1.heap a oe (T.C c') (some od) := ⟨g1, g2, by unfold PySem.W.notCls; rw [g4] <;> rfl, by rw [g3]; exact ho⟩
      exact HandSPX.exc_get I1.kIn J h.e.x.hg h.e.x.hk h.e.x.hs (PySem.W.findObj_own h.e.x.hd h.no rfl (by rw [hl, hu])) (handed_of ru) ⟨v2, H1, I1.tok _, ru, ok2 _ _ _ (Same.refl _) hd2 r⟩
    · rw [if_neg ec] at ok2; exact ok2.elim
  | _ => exact ok2.elim
/-- the class x as the second argument of isinstance -/
structure IsAt (K : PySem.W.Frag) (mg : Str → Option Value) (T : Tab) (n : Nat) (x : Str) (tbl : Nat → Bool) : Prop where
  ex : ∃ a, mg x = some (.ref a) ∧ IsTab K T n (.ref a) tbl
theorem de_isOwn {n : Nat} {tbl : Nat → Bool} {e : Expr} {x : Str} {f : S → R D} {p p2 pos : Pos} (h : IsAt X.K X.mg T n x tbl) (hg : Gl X "isinstance") (hm : X.mg "isinstance" = none) (he : DE X T W e f) (hgx : Gl X x := by rfl) (hdb : (x == ("__debug__" : Str)) = false := by decide)
    (h1 : starEach [e, .Name x p2] X.env = (false, eval e X.env) :: starEach [.Name x p2] X.env := by rfl) (h2 : starEach [.Name x p2] X.env = (false, eval (.Name x p2) X.env) :: starEach [] X.env := by rfl) (hpl : (backTo pos (starEach [.Name x p2] X.env)).any (·.1) = false := by rfl) :
    DE X T W (.Call (.Name "isinstance" p) [e, .Name x p2] [] pos) (dIsE n tbl f) := by
  obtain ⟨a, g, t⟩ := h.ex
  exact de_isE (cv := .ref a) t (fun v r => r) hg hm he (pe_glob hgx g rfl hdb) h1 h2 hpl
theorem de_isBi {n : Nat} {tbl : Nat → Bool} {e : Expr} {x : Str} {ty : String} {f : S → R D} {p p2 pos : Pos} (h : IsTab X.K T n (.type ty) tbl) (hv : bootBuiltins x = some (.type ty)) (hmx : X.mg x = none) (hg : Gl X "isinstance") (hm : X.mg "isinstance" = none) (he : DE X T W e f) (hgx : Gl X x := by rfl) (hn : x ≠ "__name__" := by decide) (hdb : (x == ("__debug__" : Str)) = false := by decide)
    (h1 : starEach [e, .Name x p2] X.env = (false, eval e X.env) :: starEach [.Name x p2] X.env := by rfl) (h2 : starEach [.Name x p2] X.env = (false, eval (.Name x p2) X.env) :: starEach [] X.env := by rfl) (hpl : (backTo pos (starEach [.Name x p2] X.env)).any (·.1) = false := by rfl) :
    DE X T W (.Call (.Name "isinstance" p) [e, .Name x p2] [] pos) (dIsE n tbl f) :=
  de_isE (cv := .ty ty) h (fun v r => r) hg hm he (pe_bltn hgx hmx hv rfl hn hdb) h1 h2 hpl
end
/-! ### facts as truth values -/
def erCB (K : PySem.W.Frag) (D : Addr) : Bool :=
  decide (PySem.W.findIn K (.ref D) "__getattribute__" = some (some (.builtin "BaseException.__getattribute__"))) && (decide (PySem.W.findIn K (.ref D) "__getattr__" = some none) && (decide (PySem.W.subIn K (.ref D) (.type "BaseException") = some true) && (PySem.W.hasDictIn K D &&
  (decide (PySem.W.findIn K (.ref D) "__class__" = some (some (.builtin "object.__class__"))) && (decide (PySem.W.specialIn K (.builtin "object.__class__") "__get__" = some (some (.builtin "getset_descriptor.__get__"))) && (decide (PySem.W.takesIn K (.builtin "object.__class__") = some true) &&
  (decide (PySem.W.mroIn K D (.type "object") = some true) && (decide (PySem.W.typeIn K (.ref D) = some (.type "type")) && PySem.W.keepIn K (.ref D)))))))))
theorem erCB_ok {K : PySem.W.Frag} {D : Addr} (h : erCB K D = true) : ErC K D := by
  unfold erCB at h
  simp only [Bool.and_eq_true, decide_eq_true_eq] at h
  obtain ⟨h1, h2, h3, h4, h5, h6, h7, h8, h9, h10⟩ := h
  exact ⟨⟨h1, h2, h3, h4, h5, h6, h7, h8⟩, h9, h10⟩
def allErB (K : PySem.W.Frag) (cs : List Addr) : Bool := cs.all (erCB K)
def tabOf (cs : List Addr) (fl : List (List Str)) : Tab := ⟨fun c => cs.getD c 0, fun c => fl.getD c []⟩
theorem allErB_ok {K : PySem.W.Frag} {cs : List Addr} {fl : List (List Str)} (h : allErB K cs = true) : ∀ c, c < cs.length → ErC K ((tabOf cs fl).C c) := fun c hc => by
  have := List.all_eq_true.mp h (cs.getD c 0) (by rw [List.getD_eq_getElem?_getD, List.getElem?_eq_getElem hc]; exact List.getElem_mem hc)
  exact erCB_ok this
def isTabB (K : PySem.W.Frag) (cs : List Addr) (u : Value) (tbl : List Bool) : Bool := (List.range cs.length).all fun c => decide (PySem.W.kitOne K (.ref (cs.getD c 0)) u = some (tbl.getD c false))
theorem isTabB_ok {K : PySem.W.Frag} {cs : List Addr} {fl : List (List Str)} {u : Value} {tbl : List Bool} (he : allErB K cs = true) (h : isTabB K cs u tbl = true) : IsTab K (tabOf cs fl) cs.length u (fun c => tbl.getD c false) where
  t := fun c hc => of_decide_eq_true (List.all_eq_true.mp h c (List.mem_range.mpr hc))
  e := allErB_ok he
/-! ### the end: the law over the script -/
def spLaw (K : PySem.W.Frag) : Sp := fun vs H Q _ => ∃ (a : Addr) (ns : List Int), vs = [.ref a] ∧ SqL K H a (ns.map V.int) ∧ ns.length ≤ 63 ∧ ∀ H', Q (.bl true) H'
theorem law_ok {P : Program} {w : World} {K : PySem.W.Frag} {mg : Str → Option Value} {base : Heap} {T : Tab} {k : Nat} {f : Addr} {fd : FuncData} {x : Str} {F : Fn} (h : FnOk P w K mg base (L2.CX P w) k f fd [x] (spD K T 1 F))
    (hF : ∀ ns : List Int, ns.length ≤ 63 → ∃ b', F [.ro ns] (0, 0, 0) = .ok (.bl true) b') : FnOk P w K mg base (L2.CX P w) k f fd [x] (spLaw K) := h.imp fun vs H Q E ⟨a, ns, e, hs, hl, q⟩ => by
  subst e
  obtain ⟨b', e⟩ := hF ns hl
  refine ⟨rfl, none, fun b => if b = a then H a else none, [.ro ns], (0, 0, 0), fun b o z => ?_, (fun p z => nomatch z), .cons (.ro ?_) .nil, ?_⟩
  · by_cases hb : b = a
    · subst hb; replace z : (if b = b then H b else none) = some o := z; rw [if_pos rfl] at z; exact z
    · replace z : (if b = a then H a else none) = some o := z; rw [if_neg hb] at z; cases z
  · rcases hs with (z | ⟨o, z⟩) | z
    · exact .inl (.inl (by show (if a = a then H a else none) = _; rw [if_pos rfl]; exact z))
    · exact .inl (.inr ⟨o, by show (if a = a then H a else none) = _; rw [if_pos rfl]; exact z⟩)
    · exact .inr z
  · rw [e]
    intro G' H' v _ r
    cases r
    exact q H'
end DL

/-! DLm: rules for reckoning with what the layer says. -/
namespace DL
open PySem PySem.Spec PyProof.Rows L2
section
variable {α β : Type}
theorem bind_ok {a : α} {s : S} {g : α → S → R β} : (R.ok a s).bind g = g a s := rfl
theorem bind_err {e : Er} {s : S} {g : α → S → R β} : (R.err e s : R α).bind g = .err e s := rfl
theorem bind_stuck {g : α → S → R β} : (R.stuck : R α).bind g = .stuck := rfl
theorem oBind_nx {s : S} {g : S → R Out} : oBind (.ok .nx s) g = g s := rfl
theorem oBind_rt {d : D} {s : S} {g : S → R Out} : oBind (.ok (.rt d) s) g = .ok (.rt d) s := rfl
theorem oBind_rtF {d : List D} {s : S} {g : S → R Out} : oBind (.ok (.rtF d) s) g = .ok (.rtF d) s := rfl
theorem oBind_bk {s : S} {g : S → R Out} : oBind (.ok .bk s) g = .ok .bk s := rfl
theorem oBind_ct {s : S} {g : S → R Out} : oBind (.ok .ct s) g = .ok .ct s := rfl
theorem oBind_err {e : Er} {s : S} {g : S → R Out} : oBind (.err e s) g = .err e s := rfl
theorem fromF_ok {d : D} {b : Bx} {st : S} : fromF (.ok d b) st = .ok d { st with bx := b } := rfl
theorem fromF_okF {d : List D} {b : Bx} {st : S} : fromF (.okF d b) st = .ok (.ls d) { st with bx := b } := rfl
theorem fromF_err {e : Er} {b : Bx} {st : S} : fromF (.err e b) st = .err e { st with bx := b } := rfl
theorem hMulI_l {i j : Int} {st : S} (h : -18446744073709551616 < i ∧ i < 18446744073709551616) : hMulI i j st = .ok (.int (i * j)) st := if_pos (.inl h)
theorem hMulI_r {i j : Int} {st : S} (h : -18446744073709551616 < j ∧ j < 18446744073709551616) : hMulI i j st = .ok (.int (i * j)) st := if_pos (.inr h)
end
theorem run_rt {n N : Nat} {f : S → R Out} {ds : List D} {b : Bx} {d : D} {s : S} (hl : ds.length = n) (h : f ⟨ds.map Sl.val ++ List.replicate (N - n) Sl.un, b⟩ = .ok (.rt d) s) : runFn n N f ds b = .ok d s.bx := by
  unfold runFn; rw [if_pos hl, h]
theorem run_rtF {n N : Nat} {f : S → R Out} {ds es : List D} {b : Bx} {s : S} (hl : ds.length = n) (h : f ⟨ds.map Sl.val ++ List.replicate (N - n) Sl.un, b⟩ = .ok (.rtF es) s) : runFn n N f ds b = .okF es s.bx := by
  unfold runFn; rw [if_pos hl, h]
theorem run_nx {n N : Nat} {f : S → R Out} {ds : List D} {b : Bx} {s : S} (hl : ds.length = n) (h : f ⟨ds.map Sl.val ++ List.replicate (N - n) Sl.un, b⟩ = .ok .nx s) : runFn n N f ds b = .ok .non s.bx := by
  unfold runFn; rw [if_pos hl, h]
theorem run_err {n N : Nat} {f : S → R Out} {ds : List D} {b : Bx} {e : Er} {s : S} (hl : ds.length = n) (h : f ⟨ds.map Sl.val ++ List.replicate (N - n) Sl.un, b⟩ = .err e s) : runFn n N f ds b = .err e s.bx := by
  unfold runFn; rw [if_pos hl, h]
theorem seq_nx {f g : S → R Out} {st st1 : S} (h : f st = .ok .nx st1) : dSeq f g st = g st1 := by unfold dSeq; rw [h, oBind_nx]
theorem seq_rt {f g : S → R Out} {st st1 : S} {d : D} (h : f st = .ok (.rt d) st1) : dSeq f g st = .ok (.rt d) st1 := by unfold dSeq; rw [h, oBind_rt]
theorem seq_err {f g : S → R Out} {st st1 : S} {e : Er} (h : f st = .err e st1) : dSeq f g st = .err e st1 := by unfold dSeq; rw [h, oBind_err]
/-! ### loops -/
theorem forD_nil {k : Tg} {b : S → R Out} {st : S} : forD k b [] st = .ok .nx st := rfl
theorem forD_nx {k : Tg} {b : S → R Out} {d : D} {ds : List D} {st st1 st2 : S} (h1 : tgD k d st = .ok () st1) (h2 : b st1 = .ok .nx st2) : forD k b (d :: ds) st = forD k b ds st2 := by
  show (tgD k d st).bind _ = _
  rw [h1, bind_ok, h2]
theorem forD_ct {k : Tg} {b : S → R Out} {d : D} {ds : List D} {st st1 st2 : S} (h1 : tgD k d st = .ok () st1) (h2 : b st1 = .ok .ct st2) : forD k b (d :: ds) st = forD k b ds st2 := by
  show (tgD k d st).bind _ = _
  rw [h1, bind_ok, h2]
theorem forD_bk {k : Tg} {b : S → R Out} {d : D} {ds : List D} {st st1 st2 : S} (h1 : tgD k d st = .ok () st1) (h2 : b st1 = .ok .bk st2) : forD k b (d :: ds) st = .ok .nx st2 := by
  show (tgD k d st).bind _ = _
  rw [h1, bind_ok, h2]
theorem forD_rt {k : Tg} {b : S → R Out} {d v : D} {ds : List D} {st st1 st2 : S} (h1 : tgD k d st = .ok () st1) (h2 : b st1 = .ok (.rt v) st2) : forD k b (d :: ds) st = .ok (.rt v) st2 := by
  show (tgD k d st).bind _ = _
  rw [h1, bind_ok, h2]
theorem forD_err {k : Tg} {b : S → R Out} {d : D} {e : Er} {ds : List D} {st st1 st2 : S} (h1 : tgD k d st = .ok () st1) (h2 : b st1 = .err e st2) : forD k b (d :: ds) st = .err e st2 := by
  show (tgD k d st).bind _ = _
  rw [h1, bind_ok, h2]
/-! ### comprehensions -/
theorem compD_map {k : Tg} {vs : List Nat} {t : S → R Bool} {e : S → R D} {f : D → D} {st : S} : ∀ {ds acc : List D}, (∀ d ∈ ds, ∃ env', turnD k vs t e d st = .ok (some (f d)) ⟨env', st.bx⟩) → acc.length + ds.length ≤ 16777216 → compD k vs t e ds acc st = .ok (acc ++ ds.map f) st
  | [], acc, _, _ => by simp [compD]
  | d :: ds, acc, h, l => by
    obtain ⟨env', e1⟩ := h d List.mem_cons_self
    have l1 : acc.length < 16777216 := by simp at l; omega
    unfold compD
    rw [e1]
    show (if acc.length < 16777216 then compD k vs t e ds (acc ++ [f d]) st else .stuck) = _
    rw [if_pos l1, compD_map (fun d' h' => h d' (List.mem_cons_of_mem _ h')) (by simp at l ⊢; omega)]
    simp
/-- by places -/
theorem compD_mapI {k : Tg} {vs : List Nat} {t : S → R Bool} {e : S → R D} {st : S} {gs : List D} : ∀ {ds acc : List D}, ds.length = gs.length → (∀ (i : Nat) (d g : D), ds[i]? = some d → gs[i]? = some g → ∃ env', turnD k vs t e d st = .ok (some g) ⟨env', st.bx⟩) → acc.length + ds.length ≤ 16777216 → compD k vs t e ds acc st = .ok (acc ++ gs) st := by
  induction gs with
  | nil =>
    intro ds acc hl h l
    have : ds = [] := List.length_eq_zero_iff.mp hl
    subst this
    simp [compD]
  | cons g gs ih =>
    intro ds acc hl h l
    cases ds with
    | nil => simp at hl
    | cons d ds =>
      obtain ⟨env', e1⟩ := h 0 d g rfl rfl
      have l1 : acc.length < 16777216 := by simp at l; omega
      unfold compD
      rw [e1]
      show (if acc.length < 16777216 then compD k vs t e ds (acc ++ [g]) st else .stuck) = _
      rw [if_pos l1, ih (by simpa using hl) (fun i d' g' h1 h2 => h (i + 1) d' g' h1 h2) (by simp at l ⊢; omega)]
      simp
theorem blDs_true : ∀ {ds : List D}, (∀ d ∈ ds, d = .bl true) → blDs ds = some (List.replicate ds.length true)
  | [], _ => rfl
  | d :: ds, h => by
    have e := h d List.mem_cons_self
    subst e
    show (blD (.bl true)).bind (fun b => (blDs ds).map fun bs => b :: bs) = _
    rw [blDs_true fun d' h' => h d' (List.mem_cons_of_mem _ h')]
    rfl
theorem all_rep (n : Nat) : (List.replicate n true).all id = true := by induction n with
  | zero => rfl
  | succ n ih => rw [List.replicate_succ, List.all_cons, ih]; rfl
/-- all of a list of nothing but True -/
theorem hAll_true {ds : List D} {st : S} (h : ∀ d ∈ ds, d = .bl true) : hAll [.ls ds] st = .ok (.bl true) st := by
  show (match blDs ds with | some bs => R.ok (D.bl (bs.all id)) st | none => .stuck) = _
  rw [blDs_true h]
  show R.ok (D.bl ((List.replicate ds.length true).all id)) st = _
  rw [all_rep]
/-! ### the box -/
/-- so many draws are left -/
def Gd (m : Nat) (b : Bx) : Prop := 0 ≤ b.1 ∧ 0 ≤ b.2.1 ∧ b.2.1 < 4611686018427387904 ∧ 0 ≤ b.2.2 ∧ b.2.2 + m ≤ 1000000
theorem Gd.less {m n : Nat} {b : Bx} (h : Gd m b) (l : n ≤ m) : Gd n b := ⟨h.1, h.2.1, h.2.2.1, h.2.2.2.1, by have := h.2.2.2.2; omega⟩
/-- a draw below n -/
def Takes1 (F : Fn) : Prop := ∀ (n : Int) (m : Nat) (b : Bx), 0 < n → n < 18446744073709551616 → Gd (m + 1) b → ∃ k b', F [.box, .int n] b = .ok (.int k) b' ∧ 0 ≤ k ∧ k < n ∧ Gd m b'
theorem log_small {n : Int} (h0 : 0 < n) (h : n < 18446744073709551616) : n.natAbs.log2 < 9000 := by
  have : n.natAbs.log2 < 64 := by
    rw [Nat.log2_lt (by omega)]
    omega
  omega
theorem hDiv_ok {i j : Int} {st : S} (h0 : 0 < j) (h : j < 18446744073709551616) : hDiv (.int i) (.int j) st = .ok (.int (i / j)) st := if_pos ⟨h0, log_small h0 h⟩
theorem hMod_ok {i j : Int} {st : S} (h0 : 0 < j) : hMod (.int i) (.int j) st = .ok (.int (i % j)) st := if_pos h0
end DL

/-! DLn: one rule for each piece, to reckon without unfolding what it is made of. -/
namespace DL
open PySem PySem.Spec PyProof.Rows L2
section
variable {st st1 st2 st3 : S} {x y z d : D} {xs ys ds : List D} {f g fa fb fc : S → R D} {fs gs : S → R (List D)} {t u : S → R Bool}
theorem dV_ok {i : Nat} (h : st.env[i]? = some (.val d)) : dV i st = .ok d st := by unfold dV; rw [h]
theorem dC_ok : dC d st = .ok d st := rfl
theorem dBin_ok {h : D → D → S → R D} {r : R D} (h1 : fa st = .ok x st1) (h2 : fb st1 = .ok y st2) (h3 : h x y st2 = r) : dBin h fa fb st = r := by unfold dBin; rw [h1, bind_ok, h2, bind_ok, h3]
theorem dBinB_ok {h : D → D → S → R Bool} {r : R Bool} (h1 : fa st = .ok x st1) (h2 : fb st1 = .ok y st2) (h3 : h x y st2 = r) : dBinB h fa fb st = r := by unfold dBinB; rw [h1, bind_ok, h2, bind_ok, h3]
theorem dOfB_ok {k : Bool} (h1 : t st = .ok k st1) : dOfB t st = .ok (.bl k) st1 := by unfold dOfB; rw [h1]; rfl
theorem dUn_ok {h : D → S → R D} {r : R D} (h1 : fa st = .ok x st1) (h3 : h x st1 = r) : dUn h fa st = r := by unfold dUn; rw [h1, bind_ok, h3]
theorem dTru_ok {r : R Bool} (h1 : f st = .ok x st1) (h2 : hTru x st1 = r) : dTru f st = r := by unfold dTru; rw [h1, bind_ok, h2]
theorem dTru_bl {k : Bool} (h1 : f st = .ok (.bl k) st1) : dTru f st = .ok k st1 := dTru_ok h1 rfl
theorem dNot_ok {k : Bool} (h1 : t st = .ok k st1) : dNot t st = .ok (!k) st1 := by unfold dNot; rw [h1, bind_ok]
theorem dAnd_t {r : R Bool} (h1 : t st = .ok true st1) (h2 : u st1 = r) : dAnd t u st = r := by unfold dAnd; rw [h1, bind_ok, if_pos rfl, h2]
theorem dAnd_f (h1 : t st = .ok false st1) : dAnd t u st = .ok false st1 := by unfold dAnd; rw [h1, bind_ok, if_neg Bool.false_ne_true]
theorem dOr_t (h1 : t st = .ok true st1) : dOr t u st = .ok true st1 := by unfold dOr; rw [h1, bind_ok, if_pos rfl]
theorem dOr_f {r : R Bool} (h1 : t st = .ok false st1) (h2 : u st1 = r) : dOr t u st = r := by unfold dOr; rw [h1, bind_ok, if_neg Bool.false_ne_true, h2]
theorem dAndV_t {r : R D} (h1 : f st = .ok x st1) (h0 : hTru x st1 = .ok true st1) (h2 : g st1 = r) : dAndV f g st = r := by unfold dAndV; rw [h1, bind_ok, h0, bind_ok, if_pos rfl, h2]
theorem dAndV_f (h1 : f st = .ok x st1) (h0 : hTru x st1 = .ok false st1) : dAndV f g st = .ok x st1 := by unfold dAndV; rw [h1, bind_ok, h0, bind_ok, if_neg Bool.false_ne_true]
theorem dOrV_t (h1 : f st = .ok x st1) (h0 : hTru x st1 = .ok true st1) : dOrV f g st = .ok x st1 := by unfold dOrV; rw [h1, bind_ok, h0, bind_ok, if_pos rfl]
theorem dOrV_f {r : R D} (h1 : f st = .ok x st1) (h0 : hTru x st1 = .ok false st1) (h2 : g st1 = r) : dOrV f g st = r := by unfold dOrV; rw [h1, bind_ok, h0, bind_ok, if_neg Bool.false_ne_true, h2]
theorem dNotV_ok {k : Bool} (h1 : f st = .ok x st1) (h0 : hTru x st1 = .ok k st1) : dNotV f st = .ok (.bl (!k)) st1 := by unfold dNotV; rw [h1, bind_ok, h0, bind_ok]
theorem dIfE_t {r : R D} (h1 : t st = .ok true st1) (h2 : f st1 = r) : dIfE t f g st = r := by unfold dIfE; rw [h1, bind_ok, if_pos rfl, h2]
theorem dIfE_f {r : R D} (h1 : t st = .ok false st1) (h2 : g st1 = r) : dIfE t f g st = r := by unfold dIfE; rw [h1, bind_ok, if_neg Bool.false_ne_true, h2]
theorem dNil_ok : dNil st = .ok [] st := rfl
theorem dCons_ok (h1 : f st = .ok x st1) (h2 : fs st1 = .ok xs st2) : dCons f fs st = .ok (x :: xs) st2 := by unfold dCons; rw [h1, bind_ok, h2, bind_ok]
theorem dTup_ok (h1 : fs st = .ok xs st1) (h2 : xs.length ≤ 16777216) : dTup fs st = .ok (.tu xs) st1 := by
  unfold dTup; rw [h1, bind_ok]; exact if_pos h2
theorem dLst_ok (h1 : fs st = .ok xs st1) (h2 : xs.length ≤ 16777216) : dLst fs st = .ok xs st1 := by
  unfold dLst; rw [h1, bind_ok]; exact if_pos h2
theorem dClose_ok (h1 : fs st = .ok xs st1) : dClose fs st = .ok (.ls xs) st1 := by unfold dClose; rw [h1, bind_ok]
theorem dCat_ok {r : R (List D)} (h1 : fa st = .ok x st1) (h2 : fb st1 = .ok y st2) (h3 : hCat x y st2 = r) : dCat fa fb st = r := by unfold dCat; rw [h1, bind_ok, h2, bind_ok, h3]
theorem dNoP_ok : dNoP st = .ok none st := rfl
theorem dPart_ok {i : Int} (h1 : f st = .ok (.int i) st1) : dPart f st = .ok (some i) st1 := by unfold dPart; rw [h1, bind_ok]
theorem dSlice_ok {lo hi : S → R (Option Int)} {l h : Option Int} (h1 : f st = .ok x st1) (h2 : lo st1 = .ok l st2) (h3 : hi st2 = .ok h st3) (h4 : sliceD x l h = some y) : dSlice f lo hi st = .ok y st3 := by
  unfold dSlice; rw [h1, bind_ok, h2, bind_ok, h3, bind_ok, h4]
theorem dCall_ok {n : Nat} {F : Fn} {b : Bx} (h1 : fs st = .ok xs st1) (hn : xs.length = n) (h2 : F xs st1.bx = .ok d b) : dCall n F [] fs st = .ok d { st1 with bx := b } := by
  unfold dCall; rw [h1, bind_ok, List.append_nil, if_pos hn, h2]; rfl
theorem dCall_okF {n : Nat} {F : Fn} {b : Bx} (h1 : fs st = .ok xs st1) (hn : xs.length = n) (h2 : F xs st1.bx = .okF ds b) : dCall n F [] fs st = .ok (.ls ds) { st1 with bx := b } := by
  unfold dCall; rw [h1, bind_ok, List.append_nil, if_pos hn, h2]; rfl
theorem dCall_err {n : Nat} {F : Fn} {b : Bx} {e : Er} (h1 : fs st = .ok xs st1) (hn : xs.length = n) (h2 : F xs st1.bx = .err e b) : dCall n F [] fs st = .err e { st1 with bx := b } := by
  unfold dCall; rw [h1, bind_ok, List.append_nil, if_pos hn, h2]; rfl
theorem dCB_ok {h : List D → S → R D} {r : R D} (h1 : fs st = .ok xs st1) (h2 : h xs st1 = r) : dCB h fs st = r := by unfold dCB; rw [h1, bind_ok, h2]
theorem dCBF_ok {h : List D → S → R (List D)} {r : R (List D)} (h1 : fs st = .ok xs st1) (h2 : h xs st1 = r) : dCBF h fs st = r := by unfold dCBF; rw [h1, bind_ok, h2]
theorem dSeqI_ok {r : R (List D)} (h1 : f st = .ok x st1) (h2 : hSeq x st1 = r) : dSeqI f st = r := by unfold dSeqI; rw [h1, bind_ok, h2]
theorem dRet_ok (h1 : f st = .ok d st1) : dRet f st = .ok (.rt d) st1 := by unfold dRet; rw [h1, bind_ok]
theorem dRetF_ok (h1 : fs st = .ok ds st1) : dRetF fs st = .ok (.rtF ds) st1 := by unfold dRetF; rw [h1, bind_ok]
theorem dIf_t {a c : S → R Out} {r : R Out} (h1 : t st = .ok true st1) (h2 : a st1 = r) : dIf t a c st = r := by unfold dIf; rw [h1, bind_ok, if_pos rfl, h2]
theorem dIf_f {a c : S → R Out} {r : R Out} (h1 : t st = .ok false st1) (h2 : c st1 = r) : dIf t a c st = r := by unfold dIf; rw [h1, bind_ok, if_neg Bool.false_ne_true, h2]
theorem dSet_ok {i : Nat} (h1 : f st = .ok d st1) : dSet i f st = .ok .nx (st1.put i (.val d)) := by unfold dSet; rw [h1, bind_ok]
theorem dOwn_ok {i : Nat} (h1 : fs st = .ok ds st1) : dOwn i fs st = .ok .nx (st1.put i (.own ds)) := by unfold dOwn; rw [h1, bind_ok]
theorem dUnpack_ok {k : Tg} (h1 : f st = .ok d st1) (h2 : tgD k d st1 = .ok () st2) : dUnpack k f st = .ok .nx st2 := by unfold dUnpack; rw [h1, bind_ok, h2, bind_ok]
theorem dFor_ok {k : Tg} {b : S → R Out} {r : R Out} (h1 : fs st = .ok ds st1) (h2 : forD k b ds st1 = r) : dFor k fs b st = r := by unfold dFor; rw [h1, bind_ok, h2]
theorem dComp_ok {k : Tg} {vs : List Nat} {e : S → R D} {r : R (List D)} (h1 : fs st = .ok ds st1) (h2 : compD k vs t e ds [] st1 = r) : dComp k vs fs t e st = r := by unfold dComp; rw [h1, bind_ok, h2]
theorem dPar_ok {α β : Type} {i j : Nat} {sa : α → Sl} {sb : β → Sl} {p : S → R α} {q : S → R β} {a : α} {b : β} (h1 : p st = .ok a st1) (h2 : q st1 = .ok b st2) : dPar i j sa sb p q st = .ok .nx ((st2.put i (sa a)).put j (sb b)) := by unfold dPar; rw [h1, bind_ok, h2, bind_ok]
theorem dMk_ok {c : Nat} (h1 : f st = .ok d st1) : dMk c f st = .ok (.er c [d]) st1 := by unfold dMk; rw [h1, bind_ok]
theorem dRaise_ok {c : Nat} (h1 : f st = .ok d st1) : dRaise c f st = .err ⟨c, [d]⟩ st1 := by unfold dRaise; rw [h1, bind_ok]
theorem dIsE_ok {n c : Nat} {tbl : Nat → Bool} (h1 : f st = .ok (.er c ds) st1) (h2 : c < n) : dIsE n tbl f st = .ok (.bl (tbl c)) st1 := by
  unfold dIsE; rw [h1, bind_ok]; exact if_pos h2
theorem dAttrEs_ok {c : Nat} {cs : List Nat} (h1 : f st = .ok (.er c [d]) st1) (h2 : c ∈ cs) : dAttrEs cs f st = .ok d st1 := by
  unfold dAttrEs; rw [h1, bind_ok]; exact if_pos h2
theorem hAdd_ls (h : xs.length + ys.length ≤ 16777216) : hAdd (.ls xs) (.ls ys) st = .ok (.ls (xs ++ ys)) st := if_pos h
theorem hAdd_int {i j : Int} : hAdd (.int i) (.int j) st = .ok (.int (i + j)) st := rfl
theorem hPow_ok {i j : Int} (h : 0 ≤ j) (h2 : j ≤ 1000000) (h3 : i.natAbs < 18446744073709551616) : hPow (.int i) (.int j) st = .ok (.int (i ^ j.toNat)) st := if_pos ⟨h, h2, h3⟩
theorem hRange1_eq (j : Int) (st : S) : hRange1 [.int j] st = if -4611686018427387904 ≤ j ∧ j < 4611686018427387904 then .ok (rangeD 0 j.toNat) st else .stuck := rfl
theorem hRange1_ok {j : Int} (h : 0 ≤ j) (h2 : j ≤ 16777216) : hRange1 [.int j] st = .ok (rangeD 0 j.toNat) st := by
  rw [hRange1_eq, if_pos ⟨by omega, by omega⟩]
theorem hRange1_nat {n : Nat} (h : n ≤ 16777216) : hRange1 [.int (n : Nat)] st = .ok (rangeD 0 n) st := by
  rw [hRange1_ok (by omega) (by omega), Int.toNat_natCast]
end
end DL

/-! DLp: a suite that keeps the error: from here on the error is known as a value. -/
namespace DL
open PySem PySem.Spec PyProof.Rows L2
/-- what is wished of an error of the body where the suite keeps it; the name's slot is i -/
def wKeep (K : PySem.W.Frag) (c : Value) (i : Nat) (ts : Addr → Value → Option Addr → TS) (Wo : WX) (D : Ends) : WX := fun cls d σ H =>
  ∃ C yes, cls = .ref C ∧ PySem.W.exmOne K cls c = some yes ∧ (yes = false → Wo cls d σ H) ∧
    (yes = true → ∀ q, H q = none → ts q cls d
      { nx := fun σ1 H1 => D.nx (σ1.set i none) (upd H1 q (exV q C d)), rt := fun _ _ => False, bk := fun _ _ => False, ct := fun _ _ => False } (σ.set i (some (.ref q))) H)
section
variable {X : Cx} {x n : Str} {c : Value} {C0 : Addr} {i : Nat} {body suite : List Stmt} {st0 : Stmt} {np p1 p2 : Pos} {tb : WX → TS} {ts : Addr → Value → Option Addr → TS} {Wo : WX}
/-- behind the suite: the error is tracked, the name is gone -/
theorem kept {pins : List (Addr × Obj)} {σ : SV} {H : Hp} {s sI : Shared} {q C : Addr} {oe : Obj} {d : Option Addr} {vs : Array Value} {Q : Shared → Prop}
    (J0 : ∃ σ0 H0, Inv X pins σ0 H0 sI) (hex : X.ex = []) (new : sI.heap.get? q = none) (I : Inv (X.suite q ((q, oe) :: (X.pn ++ pins))) [] σ H s) (ok : X.Ok) (hz : Zc (.ref C) d oe) (hd : oe.data = .fields vs)
    (hN : X.N.Nodup) (hi : X.N[i]? = some n) (hl : X.env.kindOf n = some .local) (h : ∀ s2, Inv X pins (σ.set i none) (upd H q (exV q C d)) s2 → Q s2) :
    wpAny (model X.prog X.w) X.A (do bindName X.env n .none; unbindBehindTheSuite X.env n p2) (fun _ s2 => Q s2) X.xe s := by
  obtain ⟨σ0, H0, J⟩ := J0
  obtain ⟨e1, e2, e3, e4, e5⟩ := I.pin (q, oe) (by simp)
  have I0 := I.unsuite ok
  have tr := inv_track (o := exV q C d) (a := q) I0 (fun _ => by
    cases z : X.s_0.heap.get? q with
    | none => rfl
    | some o =>
      obtain ⟨o2, z2⟩ := J.base.there q o z (by rw [hex]; exact List.not_mem_nil)
      rw [new] at z2; cases z2) (.inl e2) e3 (fun y cc hy ec => by
      obtain ⟨v, oc, hc1, hc2⟩ := I0.cell y cc hy
      rw [ec] at hc1
      rw [e1] at hc1; cases hc1
      exact e5 _ hc2) (fun p hp ep => by
      have := (J.pin p hp).1
      rw [ep, new] at this; cases this) (exV_ok e1 hz.1 hz.2 hd)
  exact gone_ok tr hN hi hl h
/-- what stands behind an error of the body: it is noted, it lands, the handler is asked -/
abbrev landsAt (X : Cx) (pins : List (Addr × Obj)) (D : Ends) (hd : ExceptHandler) : Value → Shared → Prop := fun e sA =>
  wpAny (model X.prog X.w) X.A (noteFrame e X.env)
    (fun _ sB => wpAny (model X.prog X.w) X.A (setFlight e none)
      (fun _ sC => wpAny (model X.prog X.w) X.A (handleBy e X.env [hd]) (SP X pins D) X.xe sC) X.xe sB) X.xe sA
/-- no frame of the stack is an error -/
theorem no_frame {B h : Heap} {l : List Env} {q : Addr} {o : Obj} {vs : Array Value} (ff : h.FunFrames B l) (e : h.get? q = some o) (d : o.data = .fields vs) : q ∉ frs l := fun hm => by
  obtain ⟨_, o2, e2, nf⟩ := ff.mem hm
  rw [e] at e2
  cases e2
  exact nf _ d
theorem ps_keep (stk : X.stack = X.env :: X.outer) (fr : X.env.frame = some X.env.locals) (hex : X.ex = []) (nd : X.N.Nodup) (hi : X.N[i]? = some n) (hl : X.env.kindOf n = some .local) (hc : Names X x c) (tk : Takes X Wo)
    (hb : ∀ (W : WX) (pn : List (Addr × Obj)) (xe : Value → Shared → Prop), Takes (X.tr pn xe) W → PassesOwn (model X.prog X.w) X.A X.env xe → PSs (X.tr pn xe) body (tb W))
    (hk : ∀ (q : Addr) (oe : Obj) (cls : Value) (d : Option Addr) (pn : List (Addr × Obj)), Zc cls d oe → (∃ vs, oe.data = .fields vs) → PSs (X.suite q ((q, oe) :: pn)) (st0 :: suite) (ts q cls d)) :
    PS X (.Try body [.ExceptHandler (some (.Name x np)) (some n) (st0 :: suite) p2] [] [] p1) (fun D σ H => tb (wKeep X.K c i ts Wo D) D σ H) := by
  refine ⟨fun pins s σ H D I h => wpAny_Try_except ?_⟩
  have ok := I.ok
  have frA : X.A.frames = some (X.env :: X.outer) := by rw [ok.frames, stk]
  have lo : Loc X.env.scope n := .inl hl
  refine wpAny_mono ((hb (wKeep X.K c i ts Wo D) (X.pn ++ pins) (landsAt X pins D (.ExceptHandler (some (.Name x np)) (some n) (st0 :: suite) p2)) (fun u s2 err => ?_) PassesOwn.looking).run [] s σ H D (I.toTry _) h) (fun f s2 z => ?_) (fun _ _ z => z)
  · obtain ⟨q, B, sI, pn2, σ2, H2, cls, d, rfl, Jt, nb, up, sky, na, os, ag, C, yes, rfl, ey, hno, hyes⟩ := err
    have J : Inv X pins σ2 H2 sI := Jt.ofTry ok
    replace sky : Sky B (X.env :: X.outer) q (Zc (.ref C) d) X.env.locals s2.heap := by rw [← stk]; exact sky
    show wpAny (model X.prog X.w) X.A (noteFrame (.ref q) X.env) _ _ _
    refine Sky.land Zc.steady frA fr sky fun hA flA upA => ?_
    have JA : Inv X pins σ2 H2 { s2 with heap := hA } := J.landed nb flA.1 (up.trans upA) os ag
    obtain ⟨oA, vA, gA, zA, dA⟩ := flA.there
    have nf := no_frame flA.2.2.1 gA dA
    have nL : q ≠ X.env.locals := fun z => nf (List.mem_filterMap.mpr ⟨X.env, List.mem_cons_self, by rw [fr, z]⟩)
    have nF : q ∉ X.fs := fun hm => by
      obtain ⟨en, he, z⟩ := List.mem_filterMap.mp hm
      exact nf (List.mem_filterMap.mpr ⟨en, List.mem_cons_of_mem _ he, z⟩)
    have new : sI.heap.get? q = none := by
      cases z : sI.heap.get? q with
      | none => rfl
      | some o =>
        have z2 := nb q o z (by rw [stk]; exact nf)
        rw [flA.2.1] at z2; cases z2
    have SA := JA.suite gA dA na nL nF
    refine wpAny_handleBy_cons (codeAny_handlers_test ?_) (by intro z; cases z)
    have ty : PySem.W.Looks (model X.prog X.w) hA (typeOf (.ref q)) (.ref C) := fun A Q E s k z => wpAny_typeOf_ref (k _ _ gA) (by rw [zA.1]; exact z)
    have mt := PySem.W.exm_one (M := model X.prog X.w) JA.kIn ty ey
    have named : ∀ {Q : Value → Shared → Prop} {E : Value → Shared → Prop}, Q c { s2 with heap := hA } → wpAny (model X.prog X.w) (X.A.mark (some (.ref q))) (eval (.Name x np) X.env) Q E { s2 with heap := hA } := fun {Q E} z => by
      obtain ⟨hg, hdb, hm | ⟨hm, hv, hnn⟩⟩ := hc
      · exact ld_glob (X := X.suite q ((q, oA) :: (X.pn ++ pins))) SA hg hm z hdb
      · exact ld_blt (X := X.suite q ((q, oA) :: (X.pn ++ pins))) SA hg hm hv z hnn hdb
    refine named (mt.here ?_)
    cases yes with
    | true =>
      refine codeAny_handlers_suite_as (HandSPX.lands_againZ flA fun hB flB upB => ?_)
      have JB : Inv X pins σ2 H2 { s2 with heap := hB } := J.landed nb flB.1 ((up.trans upA).trans upB) os ag
      obtain ⟨oB, vB, gB, zB, dB⟩ := flB.there
      refine store_ok (X := X.suite q ((q, oB) :: (X.pn ++ pins))) (v := .ref q) (JB.suite gB dB na nL nF) nd hi lo rfl (fun s5 S5 => ?_) (.inr hl)
      refine wpAny_mono ((hk q oB (.ref C) d (X.pn ++ pins) zB ⟨_, dB⟩).run [] s5 _ H2 _ S5 (hyes rfl q na)) (fun f s6 z => ?_) (fun _ _ z => False.elim z)
      cases f with
      | next =>
        obtain ⟨σ6, H6, S6, z⟩ := z
        exact kept ⟨_, _, J⟩ hex new S6 ok zB dB nd hi hl fun s7 J7 => ⟨_, _, J7, z⟩
      | brk => obtain ⟨_, _, _, z⟩ := z; exact z.elim
      | cont => obtain ⟨_, _, _, z⟩ := z; exact z.elim
      | ret u => obtain ⟨_, _, _, _, _, z⟩ := z; exact z.elim
    | false =>
      show wpAny _ X.A (handleBy (.ref q) X.env []) _ _ _
      refine wpAny_handleBy_nil ?_
      obtain ⟨_, _, _, oe, vs, tb1, _, _, g1, _, d1, at1, _⟩ := id flA
      unfold PySem.passOn
      refine wpAny_bind (wpAny_field g1 d1 at1 ?_)
      rw [if_neg (show ¬ ((Value.ref tb1 == Value.none) = true) from by simp)]
      have onward : wpAny (model X.prog X.w) X.A (setFlight (.ref q) X.env.frame) (fun _ s4 => wpAny (model X.prog X.w) X.A (throw (.ref q) : Sem Flow) (SP X pins D) X.xe s4) X.xe { s2 with heap := hA } := by
        rw [fr]
        exact HandSPX.setFlight_upZ flA fun hC heldC upC => wpAny_throw (tk _ _ ⟨q, B, sI, pins, σ2, H2, .ref C, d, rfl, J, nb, (up.trans upA).trans upC, .inr (.inr (by rw [stk]; exact heldC)), na, os, ag, hno rfl⟩)
      first
        | exact wpAny_bind (wpAny_pure (wpAny_bind onward))
        | exact wpAny_bind onward
  · cases f with
    | next => obtain ⟨σ2, H2, J, z⟩ := z; exact wpAny_execs_nil ⟨σ2, H2, J.ofTry ok, z⟩
    | brk => obtain ⟨σ2, H2, J, z⟩ := z; exact ⟨σ2, H2, J.ofTry ok, z⟩
    | cont => obtain ⟨σ2, H2, J, z⟩ := z; exact ⟨σ2, H2, J.ofTry ok, z⟩
    | ret u => obtain ⟨v, σ2, H2, J, r, z⟩ := z; exact ⟨v, σ2, H2, J.ofTry ok, r, z⟩
end
section
variable {K : PySem.W.Frag} {T : Tab} {c : Ctx} {G H : Hp} {σ : SV} {st : S}
theorem Holds.putUn (h : Holds K T c G H σ st) (i : Nat) (x : Option V) : Holds K T c G H (σ.set i x) (st.put i .un) where
  sub0 := h.sub0
  sub := h.sub
  new := h.new
  frame := h.frame
  len := by show (σ.set i _).length = (st.env.set i _).length; rw [List.length_set, List.length_set]; exact h.len
  slot := fun j s q => by
    have q' : (st.env.set i .un)[j]? = some s := q
    by_cases w : i = j
    · subst w
      by_cases hi : i < st.env.length
      · rw [List.getElem?_set_self hi] at q'
        cases q'
        trivial
      · rw [List.getElem?_eq_none (by rw [List.length_set]; omega)] at q'; cases q'
    · rw [List.getElem?_set_ne w] at q'
      rw [List.getElem?_set_ne w]
      exact h.slot j s q'
  dist := fun j k p ds es q1 q2 e1 e2 => by
    have q1' : (st.env.set i .un)[j]? = _ := q1
    have q2' : (st.env.set i .un)[k]? = _ := q2
    have nj : i ≠ j := fun w => by
      subst w
      by_cases hi : i < st.env.length
      · rw [List.getElem?_set_self hi] at q1'; cases q1'
      · rw [List.getElem?_eq_none (by rw [List.length_set]; omega)] at q1'; cases q1'
    have nk : i ≠ k := fun w => by
      subst w
      by_cases hi : i < st.env.length
      · rw [List.getElem?_set_self hi] at q2'; cases q2'
      · rw [List.getElem?_eq_none (by rw [List.length_set]; omega)] at q2'; cases q2'
    rw [List.getElem?_set_ne nj] at q1' e1
    rw [List.getElem?_set_ne nk] at q2' e2
    exact h.dist j k p ds es q1' q2' e1 e2
  box := h.box
  box0 := h.box0
/-- an error as a value, once its object is known -/
theorem rep_of_err {e : Er} {cls : Value} {d : Option Addr} {q : Addr} (h : ErrAt K T c.B G H e cls d) (n : G q = none) : cls = .ref (T.C e.c) ∧ Rep K T c.B (upd G q (exV q (T.C e.c) d)) (.ref q) (.er e.c e.fs) := by
  obtain ⟨ec, h⟩ := h
  refine ⟨ec, ?_⟩
  have s1 : Same G (upd G q (exV q (T.C e.c) d)) := same_upd n
  obtain ⟨k, fs⟩ := e
  cases fs with
  | nil =>
    obtain ⟨rfl, h2⟩ := h
    exact .er0 upd_same h2
  | cons f r =>
    obtain ⟨rfl, dd, nm, v, rfl, h3, h4, h5⟩ := h
    exact .er1 upd_same h3 (s1 _ _ h4) (h5.mono s1)
end
/-- the class of a handler: which classes it takes -/
structure XTab (K : PySem.W.Frag) (T : Tab) (m : Nat) (u : Value) (tbl : Nat → Bool) : Prop where
  t : ∀ c, c < m → PySem.W.exmOne K (.ref (T.C c)) u = some (tbl c)
/-- try: .. / except X as n: y = n -/
def dTry (tbl : Nat → Bool) (m iy iN : Nat) (f : S → R Out) : S → R Out := fun st => match f st with
  | .err e st1 => if e.c < m ∧ iN < st1.env.length then (if tbl e.c = true then .ok .nx ((st1.put iy (.val (.er e.c e.fs))).put iN .un) else .err e st1) else .stuck
  | .ok o st1 => .ok o st1
  | .stuck => .stuck
section
variable {X : Cx} {T : Tab} {W : WX}
theorem ds_keep {x n y : Str} {u : Value} {m iy iN : Nat} {tbl : Nat → Bool} {body : List Stmt} {f : S → R Out} {np p1 p2 py pn p3 : Pos} (stk : X.stack = X.env :: X.outer) (fr : X.env.frame = some X.env.locals) (hex : X.ex = []) (nd : X.N.Nodup)
    (hi : X.N[iN]? = some n) (hl : X.env.kindOf n = some .local) (hc : Names X x u) (tk : Takes X W) (xt : XTab X.K T m u tbl)
    (hb : ∀ (W : WX) (pn : List (Addr × Obj)) (xe : Value → Shared → Prop), Takes (X.tr pn xe) W → PassesOwn (model X.prog X.w) X.A X.env xe → DSs (X.tr pn xe) T W body f)
    (hiy : X.N[iy]? = some y) (hly : Loc X.env.scope y) (ne : iy ≠ iN) (hv : Vis X.env.scope n) (hd : (n == ("__debug__" : Str)) = false := by decide) (hcd : (n == ("__classdict__" : Str)) = false := by decide)
    (hsw : swapsWith (.Name n pn) (some (.Name y py)) p3.line X.env = pure false := by rfl) (hf : X.fn y = true ∨ X.env.scope.names.lookup y = some .local := by first | exact .inl rfl | exact .inr rfl | assumption) :
    DS X T W (.Try body [.ExceptHandler (some (.Name x np)) (some n) [.Assign [.Name y py] (.Name n pn) p3] p2] [] [] p1) (dTry tbl m iy iN f) := by
  refine impS (ps_keep (c := u) (i := iN) (Wo := W) (tb := fun W => tD X.K T W f) (ts := fun _ _ _ => tAsg (tVar iN) (gName iy)) stk fr hex nd hi hl hc tk hb (fun q oe cls d pn _ _ => pss_one (ps_set (X := X.suite q ((q, oe) :: pn)) nd hiy hly (pe_var (X := X.suite q ((q, oe) :: pn)) hi hv hd hcd) hsw hf))) fun E σ H ⟨c, G, st, h, ok⟩ => ⟨c, G, st, h, ?_⟩
  unfold dTry at ok
  cases z : f st with
  | stuck => rw [z] at ok; exact ok
  | ok o st1 => rw [z] at ok; cases o <;> exact ok
  | err e st1 =>
    rw [z] at ok
    replace ok : SOk X.K T W c G (if e.c < m ∧ iN < st1.env.length then (if tbl e.c = true then .ok .nx ((st1.put iy (.val (.er e.c e.fs))).put iN .un) else .err e st1) else .stuck) E := ok
    intro G1 H1 σ1 cls d s1 hd1 er
    by_cases lt : e.c < m ∧ iN < st1.env.length
    · rw [if_pos lt] at ok
      obtain ⟨ec, rest⟩ := id er
      subst ec
      refine ⟨_, tbl e.c, rfl, xt.t _ lt.1, fun no => ?_, fun yes q hq => ?_⟩
      · rw [no, if_neg Bool.false_ne_true] at ok
        exact ok G1 H1 σ1 _ d s1 hd1 er
      · rw [yes, if_pos rfl] at ok
        have gn := hd1.gnone hq
        obtain ⟨_, rp⟩ := rep_of_err (c := c) er gn
        have hd2 := hd1.lay (exV q (T.C e.c) d) hq
        have hd3 := (hd2.putVal rp iy).putUn iN none
        have li : iN < σ1.length := by rw [hd1.len]; exact lt.2
        refine ⟨.ref q, List.getElem?_set_self li, ?_⟩
        show E.nx (((σ1.set iN (some (.ref q))).set iy (some (.ref q))).set iN none) _
        rw [List.set_comm _ _ (Ne.symm ne), List.set_set]
        exact ok _ _ _ (s1.trans (same_upd gn)) hd3
    · rw [if_neg lt] at ok
      exact ok.elim
end
end DL

/-! DLq: texts: join, split, upper, a number as a text, f-strings. -/
namespace DL
open PySem PySem.Spec PyProof.Rows L2
/-- a list of nothing but texts -/
def strsD : List D → Option (List Str)
  | [] => some []
  | .str a :: ds => (strsD ds).map (a :: ·)
  | _ :: _ => none
theorem strsD_map : ∀ (ys : List Str), strsD (ys.map .str) = some ys
  | [] => rfl
  | a :: ys => by show (strsD (ys.map .str)).map (a :: ·) = _; rw [strsD_map ys]; rfl
theorem reps_strs {K : PySem.W.Frag} {T : Tab} {B : Option Addr} {G : Hp} : ∀ {vs : List V} {ds : List D} {ys : List Str}, Reps K T B G vs ds → strsD ds = some ys → vs = ys.map V.str
  | _, _, _, .nil, h => by cases h; rfl
  | _, _, ys, .cons (ds := ds) r1 r, h => by
    cases r1 with
    | str a =>
      replace h : (strsD ds).map (a :: ·) = some ys := h
      cases e : strsD ds with
      | none => rw [e] at h; cases h
      | some zs =>
        rw [e] at h
        cases h
        rw [reps_strs r e]; rfl
    | _ => cases h
theorem Reps.strs {K : PySem.W.Frag} {T : Tab} {B : Option Addr} {G : Hp} : ∀ (ys : List Str), Reps K T B G (ys.map V.str) (ys.map D.str)
  | [] => .nil
  | a :: ys => .cons (.str a) (Reps.strs ys)
/-- a method of a text with one argument -/
def dM1 {α : Type} (h : Str → D → S → R α) (fa fb : S → R D) : S → R α := fun st => (fa st).bind fun x st => match x with
  | .str a => (fb st).bind fun y st => h a y st
  | _ => .stuck
def dM0 {α : Type} (h : Str → S → R α) (fa : S → R D) : S → R α := fun st => (fa st).bind fun x st => match x with
  | .str a => h a st
  | _ => .stuck
section
variable {X : Cx} {T : Tab} {W : WX} {α β : Type} {rel : Rel α V}
theorem m1_read {r : V → List V → Hp → VK → Prop} {h : Str → D → S → R α} {fa fb : S → R D}
    (sd : ∀ (c : Ctx) (G H : Hp) (σ : SV) (st : S) (a : Str) (y : V) (b : D) (Q : VK), Holds X.K T c G H σ st → Rep X.K T c.B G y b → GOk X.K T W rel c G σ (h a b st) Q → r (.str a) [y] H Q) :
    ∀ σ H Q, gD X.K T W rel (dM1 h fa fb) σ H Q → tM1 r (gD X.K T W (relD X.K T) fa) (gD X.K T W (relD X.K T) fb) σ H Q := by
  intro σ H Q ⟨c, G, st, hd, ok⟩
  obtain ⟨c0, G0, st0, hd0, ok0⟩ := step (rel := relD X.K T) hd ok
  refine ⟨c0, G0, st0, hd0, ok0.imp fun x H1 ⟨G1, st1, a, s1, hd1, r1, ok1⟩ => ?_⟩
  cases r1 with
  | str a =>
    replace ok1 : GOk X.K T W rel c G1 σ ((fb st1).bind fun y st => h a y st) Q := ok1
    obtain ⟨c2, G2, st2, hd2, ok2⟩ := step (rel := relD X.K T) hd1 ok1
    exact ⟨⟨a, rfl⟩, c2, G2, st2, hd2, ok2.imp fun y H2 ⟨G3, st3, b, s3, hd3, r3, ok3⟩ => sd c G3 H2 σ st3 a y b Q hd3 r3 ok3⟩
  | _ => exact ok1.elim
theorem m0_read {r : V → List V → Hp → VK → Prop} {h : Str → S → R α} {fa : S → R D}
    (sd : ∀ (c : Ctx) (G H : Hp) (σ : SV) (st : S) (a : Str) (Q : VK), Holds X.K T c G H σ st → GOk X.K T W rel c G σ (h a st) Q → r (.str a) [] H Q) :
    ∀ σ H Q, gD X.K T W rel (dM0 h fa) σ H Q → tM0 r (gD X.K T W (relD X.K T) fa) σ H Q := by
  intro σ H Q ⟨c, G, st, hd, ok⟩
  obtain ⟨c0, G0, st0, hd0, ok0⟩ := step (rel := relD X.K T) hd ok
  refine ⟨c0, G0, st0, hd0, ok0.imp fun x H1 ⟨G1, st1, a, s1, hd1, r1, ok1⟩ => ?_⟩
  cases r1 with
  | str a => exact ⟨⟨a, rfl⟩, sd c G1 H1 σ st1 a Q hd1 ok1⟩
  | _ => exact ok1.elim
/-- sep.join(xs) -/
def hJoinL (a : Str) (ds : List D) (st : S) : R D := match strsD ds with
  | some ys => if (ys.map (·.length)).sum + ys.length * a.length ≤ 16777216 then .ok (.str (Txt.join a ys)) st else .stuck
  | none => .stuck
def hJoin (a : Str) : D → S → R D
  | .ls ds, st => hJoinL a ds st
  | .tu ds, st => hJoinL a ds st
  | _, _ => .stuck
theorem joinL_ok {c : Ctx} {G : Hp} {σ : SV} {st : S} {a : Str} {vs : List V} {ds : List D} {Q : VK} (h : GOk X.K T W (relD X.K T) c G σ (hJoinL a ds st) Q) (r : Reps X.K T c.B G vs ds) {H : Hp} (hd : Holds X.K T c G H σ st) :
    ∃ ys : List Str, vs = ys.map V.str ∧ (ys.map (·.length)).sum + ys.length * a.length ≤ 16777216 ∧ Q (.str (Txt.join a ys)) H := by
  unfold hJoinL at h
  cases e : strsD ds with
  | none => rw [e] at h; exact h.elim
  | some ys =>
    rw [e] at h
    replace h : GOk X.K T W (relD X.K T) c G σ (if (ys.map (·.length)).sum + ys.length * a.length ≤ 16777216 then .ok (.str (Txt.join a ys)) st else .stuck) Q := h
    by_cases z : (ys.map (·.length)).sum + ys.length * a.length ≤ 16777216
    · rw [if_pos z] at h
      exact ⟨ys, reps_strs r e, z, h _ _ _ (Same.refl _) hd (.str _)⟩
    · rw [if_neg z] at h; exact h.elim
theorem de_join {o e : Expr} {fa fb : S → R D} {apos pos : Pos} (ho : DE X T W o fa) (he : DE X T W e fb) (hs : starEach [e] X.env = [(false, eval e X.env)] := by rfl) (hbase : attributeBase o "join" X.env (eval o X.env) = eval o X.env := by rfl) (hline : (apos.endLine == pos.line) = true := by rfl) :
    DE X T W (.Call (.Attribute o "join" apos) [e] [] pos) (dM1 hJoin fa fb) :=
  impE (pe_join ho he hs hbase hline) (m1_read fun c G H σ st a y b Q hd rb ok => by
    cases rb with
    | @ls p vs ds hp r =>
      obtain ⟨ys, rfl, h1, h2⟩ := joinL_ok ok r hd
      exact ⟨a, p, ys, rfl, rfl, .inl (SqL.of (hd.sub _ _ hp)), h1, h2⟩
    | @tu p vs ds hp r =>
      obtain ⟨ys, rfl, h1, h2⟩ := joinL_ok ok r hd
      exact ⟨a, p, ys, rfl, rfl, .inr (Same.sqt hd.sub hp), h1, h2⟩
    | _ => exact ok.elim)
/-- text.split(sep) -/
def hSplit (a : Str) : D → S → R (List D)
  | .str b, st => if (b.length == 0) = false ∧ a.length + 2 ≤ 16777216 then .ok ((Txt.split a b).map .str) st else .stuck
  | _, _ => .stuck
theorem df_split {o e : Expr} {fa fb : S → R D} {apos pos : Pos} (ho : DE X T W o fa) (he : DE X T W e fb) (hs : starEach [e] X.env = [(false, eval e X.env)] := by rfl) (hbase : attributeBase o "split" X.env (eval o X.env) = eval o X.env := by rfl) (hline : (apos.endLine == pos.line) = true := by rfl) :
    DF X T W (.Call (.Attribute o "split" apos) [e] [] pos) (dM1 hSplit fa fb) :=
  impE (pe_split ho he hs hbase hline) (m1_read fun c G H σ st a y b Q hd rb ok => by
    cases rb with
    | str b =>
      replace ok : GOk X.K T W (relF X.K T) c G σ (if (b.length == 0) = false ∧ a.length + 2 ≤ 16777216 then .ok ((Txt.split a b).map .str) st else .stuck) Q := ok
      by_cases z : (b.length == 0) = false ∧ a.length + 2 ≤ 16777216
      · rw [if_pos z] at ok
        refine ⟨a, b, rfl, rfl, z.1, by rw [sizeLine_eq]; exact z.2, fun p hp => ?_⟩
        obtain ⟨h4, r4⟩ := hd.fresh hp (Reps.strs (Txt.split a b))
        exact ok _ _ _ (Same.refl _) h4 r4
      · rw [if_neg z] at ok; exact ok.elim
    | _ => exact ok.elim)
/-- text.upper() -/
def hUpper (a : Str) (st : S) : R D := if a.length ≤ 5592405 then .ok (.str (Txt.upper a)) st else .stuck
theorem de_upper {o : Expr} {fa : S → R D} {apos pos : Pos} (ho : DE X T W o fa) (hbase : attributeBase o "upper" X.env (eval o X.env) = eval o X.env := by rfl) (hline : (apos.endLine == pos.line) = true := by rfl) :
    DE X T W (.Call (.Attribute o "upper" apos) [] [] pos) (dM0 hUpper fa) :=
  impE (pe_upper ho hbase hline) (m0_read fun c G H σ st a Q hd ok => by
    unfold hUpper at ok
    by_cases z : a.length ≤ 5592405
    · rw [if_pos z] at ok; exact ⟨a, rfl, rfl, z, ok _ _ _ (Same.refl _) hd (.str _)⟩
    · rw [if_neg z] at ok; exact ok.elim)
/-- str(n) -/
def hStr : List D → S → R D
  | [.int i], st => if i.natAbs.log2 < 1920 then .ok (.str (toString i)) st else .stuck
  | _, _ => .stuck
theorem snd_str : SndC X T W (fun xs H Q => ∃ i, xs = [.int i] ∧ i.natAbs.log2 < 1920 ∧ Q (.str (toString i)) H) hStr := fun c G H σ st vs ds Q hd r ok => by
  cases r with
  | nil => exact ok.elim
  | cons r1 r =>
    cases r with
    | cons _ _ => cases r1 <;> exact ok.elim
    | nil =>
      cases r1 with
      | int i =>
        replace ok : GOk X.K T W (relD X.K T) c G σ (if i.natAbs.log2 < 1920 then .ok (.str (toString i)) st else .stuck) Q := ok
        by_cases z : i.natAbs.log2 < 1920
        · rw [if_pos z] at ok; exact ⟨i, rfl, z, ok _ _ _ (Same.refl _) hd (.str _)⟩
        · rw [if_neg z] at ok; exact ok.elim
      | _ => exact ok.elim
theorem boot_str' : bootBuiltins "str" = some (.type "str") := by decide +kernel
theorem de_strc {p pos : Pos} {e : Expr} {fa : S → R (List D)} (hg : Gl X "str") (hm : X.mg "str" = none) (ha : DA X T W [e] fa) (he : starEach [e] X.env = (false, eval e X.env) :: starEach [] X.env := by rfl) :
    DE X T W (.Call (.Name "str" p) [e] [] pos) (dCB hStr fa) := de_callTy call_str_int snd_str hg hm boot_str' ha (he := he)
/-! ### f-strings: texts and numbers one behind the other -/
def hFmt : D → S → R D
  | .str y, st => if y.length ≤ 16777216 then .ok (.str y) st else .stuck
  | .int i, st => if i.natAbs.log2 < 1920 then .ok (.str (toString i)) st else .stuck
  | _, _ => .stuck
def dFmt (f : S → R D) : S → R D := fun st => (f st).bind hFmt
theorem dj_fmt {e : Expr} {f : S → R D} {pos : Pos} (he : DE X T W e f) : DE X T W (.FormattedValue e (-1) none pos) (dFmt f) :=
  impE (pe_fmt he) fun σ H Q ⟨c, G, st, hd, ok⟩ => by
    obtain ⟨c0, G0, st0, hd0, ok0⟩ := step (rel := relD X.K T) hd ok
    refine ⟨c0, G0, st0, hd0, ok0.imp fun x H1 ⟨G1, st1, a, s1, hd1, r1, ok1⟩ => ?_⟩
    cases r1 with
    | str y =>
      replace ok1 : GOk X.K T W (relD X.K T) c G1 σ (if y.length ≤ 16777216 then .ok (.str y) st1 else .stuck) Q := ok1
      by_cases z : y.length ≤ 16777216
      · rw [if_pos z] at ok1; exact .inl ⟨y, rfl, by rw [sizeLine_eq]; exact z, ok1 _ _ _ (Same.refl _) hd1 (.str _)⟩
      · rw [if_neg z] at ok1; exact ok1.elim
    | int i =>
      replace ok1 : GOk X.K T W (relD X.K T) c G1 σ (if i.natAbs.log2 < 1920 then .ok (.str (toString i)) st1 else .stuck) Q := ok1
      by_cases z : i.natAbs.log2 < 1920
      · rw [if_pos z] at ok1; exact .inr ⟨i, rfl, z, ok1 _ _ _ (Same.refl _) hd1 (.str _)⟩
      · rw [if_neg z] at ok1; exact ok1.elim
    | _ => exact ok1.elim
inductive DJ (X : Cx) (T : Tab) (W : WX) : List Expr → List (S → R D) → Prop where
  | nil : DJ X T W [] []
  | cons {e : Expr} {f : S → R D} {es : List Expr} {fs : List (S → R D)} (h : DE X T W e f) (r : DJ X T W es fs) : DJ X T W (e :: es) (f :: fs)
theorem DJ.pj {es : List Expr} {fs : List (S → R D)} (h : DJ X T W es fs) : PJ X es (fs.map fun f => gD X.K T W (relD X.K T) f) := by
  induction h with
  | nil => exact .nil
  | cons h r ih => exact .cons h ih
def joinedD : List (S → R D) → Str → S → R D
  | [], acc, st => .ok (.str acc) st
  | f :: fs, acc, st => (f st).bind fun x st => match x with
    | .str y => if (acc ++ y).length ≤ 16777216 then joinedD fs (acc ++ y) st else .stuck
    | _ => .stuck
def dJoined (fs : List (S → R D)) : S → R D := joinedD fs Str.empty
theorem joined_read : ∀ {fs : List (S → R D)} {acc : Str} {c : Ctx} {G H : Hp} {σ : SV} {st : S} {Q : VK}, Holds X.K T c G H σ st → GOk X.K T W (relD X.K T) c G σ (joinedD fs acc st) Q →
    tJs (fs.map fun f => gD X.K T W (relD X.K T) f) acc σ H fun out H1 => Q (.str out) H1
  | [], acc, c, G, H, σ, st, Q, hd, ok => ok _ _ _ (Same.refl _) hd (.str _)
  | f :: fs, acc, c, G, H, σ, st, Q, hd, ok => by
    obtain ⟨c0, G0, st0, hd0, ok0⟩ := step (rel := relD X.K T) hd ok
    refine ⟨c0, G0, st0, hd0, ok0.imp fun x H1 ⟨G1, st1, a, s1, hd1, r1, ok1⟩ => ?_⟩
    cases r1 with
    | str y =>
      replace ok1 : GOk X.K T W (relD X.K T) c G1 σ (if (acc ++ y).length ≤ 16777216 then joinedD fs (acc ++ y) st1 else .stuck) Q := ok1
      by_cases z : (acc ++ y).length ≤ 16777216
      · rw [if_pos z] at ok1; exact ⟨y, rfl, by rw [sizeLine_eq]; exact z, joined_read hd1 ok1⟩
      · rw [if_neg z] at ok1; exact ok1.elim
    | _ => exact ok1.elim
theorem de_joined {v1 v2 : Expr} {rest : List Expr} {fs : List (S → R D)} {pos : Pos} (h : DJ X T W (v1 :: v2 :: rest) fs) : DE X T W (.JoinedStr (v1 :: v2 :: rest) pos) (dJoined fs) :=
  impE (pe_joined h.pj) fun σ H Q ⟨c, G, st, hd, ok⟩ => joined_read hd ok
end
end DL

/-! DLr: calls by names; a try at a named class. -/
namespace DL
open PySem PySem.Spec PyProof.Rows L2
/-- those at these places -/
def pickL {α : Type} (idx : List Nat) (xs : List α) : List α := idx.filterMap (xs[·]?)
def pickK {α : Type} (np nk : Nat) (idx : List Nat) (us ws : List α) : List α := if us.length = np ∧ ws.length = nk then pickL idx (us ++ ws) else []
theorem vals_get : ∀ {vs : List V} {us : List Value} (i : Nat), Vals vs us → (vs[i]? = none ∧ us[i]? = none) ∨ ∃ v u, vs[i]? = some v ∧ us[i]? = some u ∧ RelV v u
  | _, _, _, .nil => .inl ⟨rfl, rfl⟩
  | _, _, 0, .cons h r => .inr ⟨_, _, rfl, rfl, h⟩
  | _, _, i + 1, .cons h r => by simpa using vals_get i r
theorem vals_pick {vs : List V} {us : List Value} (r : Vals vs us) : ∀ idx : List Nat, Vals (pickL idx vs) (pickL idx us)
  | [] => .nil
  | i :: idx => by
    unfold pickL
    rcases vals_get i r with ⟨h1, h2⟩ | ⟨v, u, h1, h2, h3⟩
    · rw [List.filterMap_cons_none h1, List.filterMap_cons_none h2]; exact vals_pick r idx
    · rw [List.filterMap_cons_some h1, List.filterMap_cons_some h2]; exact .cons h3 (vals_pick r idx)
theorem vals_app : ∀ {vs : List V} {us : List Value} {zs : List V} {ws : List Value}, Vals vs us → Vals zs ws → Vals (vs ++ zs) (us ++ ws)
  | _, _, _, _, .nil, h => h
  | _, _, _, _, .cons h r, h2 => .cons h (vals_app r h2)
theorem vals_pickK {np nk : Nat} {idx : List Nat} {vs : List V} {us : List Value} {zs : List V} {ws : List Value} (r : Vals vs us) (rz : Vals zs ws) : Vals (pickK np nk idx vs zs) (pickK np nk idx us ws) := by
  unfold pickK
  rw [r.length, rz.length]
  split
  · exact vals_pick (vals_app r rz) idx
  · exact .nil
section
variable {K : PySem.W.Frag} {T : Tab} {B : Option Addr} {G : Hp}
theorem reps_get : ∀ {vs : List V} {ds : List D} (i : Nat), Reps K T B G vs ds → (vs[i]? = none ∧ ds[i]? = none) ∨ ∃ v d, vs[i]? = some v ∧ ds[i]? = some d ∧ Rep K T B G v d
  | _, _, _, .nil => .inl ⟨rfl, rfl⟩
  | _, _, 0, .cons h r => .inr ⟨_, _, rfl, rfl, h⟩
  | _, _, i + 1, .cons h r => by simpa using reps_get i r
theorem reps_pick {vs : List V} {ds : List D} (r : Reps K T B G vs ds) : ∀ idx : List Nat, Reps K T B G (pickL idx vs) (pickL idx ds)
  | [] => .nil
  | i :: idx => by
    unfold pickL
    rcases reps_get i r with ⟨h1, h2⟩ | ⟨v, u, h1, h2, h3⟩
    · rw [List.filterMap_cons_none h1, List.filterMap_cons_none h2]; exact reps_pick r idx
    · rw [List.filterMap_cons_some h1, List.filterMap_cons_some h2]; exact .cons h3 (reps_pick r idx)
end
/-- a def as it is called with np arguments and the names ks -/
structure DefAtK (P : Program) (w : World) (K : PySem.W.Frag) (mg : Str → Option Value) (base : Heap) (T : Tab) (x : Str) (ps ks : List Str) (np : Nat) (idx : List Nat) (n k : Nat) (F : Fn) : Prop where
  ex : ∃ (f : Addr) (fd : FuncData), FnOk P w K mg base (L2.CX P w) k f fd ps (spD K T n F) ∧ mg x = some (.ref f) ∧ PySem.W.keepIn K (.ref f) = true ∧
    KBinds K fd ps ks (pickK np ks.length idx) (pickK np ks.length idx)
theorem DefAtK.of {P : Program} {w : World} {K : PySem.W.Frag} {mg : Str → Option Value} {base : Heap} {T : Tab} {x : Str} {ps ks : List Str} {np n k : Nat} {idx : List Nat} {F : Fn} {f : Addr} {fd : FuncData} (h : FnOk P w K mg base (L2.CX P w) k f fd ps (spD K T n F)) (hm : mg x = some (.ref f)) (kp : PySem.W.keepIn K (.ref f) = true)
    (b : ∀ (s : Shared) (us ws : List Value), us.length = np → ws.length = ks.length → BindsTo s fd ⟨us, ks.zip ws⟩ (ps.zip (pickL idx (us ++ ws)))) (h0 : ps ≠ []) : DefAtK P w K mg base T x ps ks np idx n k F :=
  ⟨f, fd, h, hm, kp, ⟨fun s us ws _ hl => by
    unfold pickK at hl ⊢
    by_cases z : us.length = np ∧ ws.length = ks.length
    · rw [if_pos z]; exact b s us ws z.1 z.2
    · rw [if_neg z] at hl
      exact absurd (List.length_eq_zero_iff.mp hl.symm) h0, vals_pickK⟩⟩
section
variable {X : Cx} {T : Tab} {W : WX}
/-- the values behind the names -/
def DK (X : Cx) (T : Tab) (W : WX) (kws : List Keyword) (g : S → R (List D)) : Prop := PK X kws (gD X.K T W (relA X.K T) g)
theorem impK {kws : List Keyword} {t t' : TA} (h : PK X kws t) (q : ∀ σ H Q, t' σ H Q → t σ H Q) : PK X kws t' := ⟨fun pos pins s σ H Q I k => h.run pos pins s σ H Q I (q σ H Q k)⟩
theorem dk_nil : DK X T W [] dNil := impK pk_nil fun σ H Q ⟨c, G, st, hd, ok⟩ => ok _ _ _ (Same.refl _) hd .nil
theorem dk_cons {nm : Option Str} {kp : Pos} {e : Expr} {kws : List Keyword} {f : S → R D} {g : S → R (List D)} (he : DE X T W e f) (hr : DK X T W kws g) : DK X T W (⟨nm, e, kp⟩ :: kws) (dCons f g) := by
  refine impK (pk_cons he hr) fun σ H Q ⟨c, G, st, hd, ok⟩ => ?_
  obtain ⟨c0, G0, st0, hd0, ok0⟩ := step (rel := relD X.K T) hd ok
  refine ⟨c0, G0, st0, hd0, ok0.imp fun x H1 ⟨G1, st1, a, s1, hd1, r1, ok1⟩ => ?_⟩
  obtain ⟨c2, G2, st2, hd2, ok2⟩ := step (rel := relA X.K T) hd1 ok1
  exact ⟨c2, G2, st2, hd2, ok2.imp fun y H2 ⟨G3, st3, b, s3, hd3, r3, ok3⟩ => ok3 _ _ _ (Same.refl _) hd3 (.cons (r1.mono s3) r3)⟩
/-- f(k = v, ..) -/
def dCallK (n : Nat) (F : Fn) (np nk : Nat) (idx : List Nat) (fa fk : S → R (List D)) : S → R D := fun st => (fa st).bind fun xs st => (fk st).bind fun ys st =>
  if xs.length = np ∧ ys.length = nk ∧ (pickL idx (xs ++ ys)).length = n then fromF (F (pickL idx (xs ++ ys)) st.bx) st else .stuck
theorem de_callK0 {k n j : Nat} {F : Fn} {ps ks : List Str} {idx : List Nat} {x : Str} {p pos : Pos} {kws : List Keyword} {fk : S → R (List D)} (h : DefAtK X.prog X.w X.K X.mg X.base T x ps ks 0 idx n k F) (hr : Room j X.A) (hj : k ≤ j) (tk : Takes X W) (hk : DK X T W kws fk) (hg : Gl X x := by rfl)
    (hdb : (x == ("__debug__" : Str)) = false := by decide) (hall : (backToKw pos (keywordEach kws X.env)).all (·.1.isSome) = true := by rfl) (hks : (backToKw pos (keywordEach kws X.env)).filterMap (·.1) = ks := by rfl)
    (hpl : ((backTo pos (starEach [] X.env)).any (·.1) || (backToKw pos (keywordEach kws X.env)).any (·.1.isNone)) = false := by rfl) :
    DE X T W (.Call (.Name x p) [] kws pos) (dCallK n F 0 ks.length idx dNil fk) := by
  obtain ⟨f, fd, ok1, hm, kp, kb⟩ := h.ex
  refine ⟨fun pins s σ H Q I ⟨c, G, st, hd, ok⟩ => ?_⟩
  refine wpAny_Call_Name_kw (ld_glob I hg hm ?_ hdb)
  replace ok : GOk X.K T W (relD X.K T) c G σ ((fk st).bind fun ys st => if ([] : List D).length = 0 ∧ ys.length = ks.length ∧ (pickL idx ([] ++ ys)).length = n then fromF (F (pickL idx ([] ++ ys)) st.bx) st else .stuck) Q := ok
  obtain ⟨c1, G1, st1, hd1, ok2⟩ := step (rel := relA X.K T) hd ok
  refine PySem.W.callWith_KW0 (h₀ := X.base) I.ok.mod.kin kp hall (thn (hk.run pos pins s σ H _ I ⟨c1, G1, st1, hd1, ok2⟩) fun ws s2 ⟨zs, H2, I2, rz, G3, st3, ys, s3, hd3, r3, ok3⟩ => ⟨I2.kIn, ?_⟩) hpl
  rw [hks]
  by_cases z : ([] : List D).length = 0 ∧ ys.length = ks.length ∧ (pickL idx ([] ++ ys)).length = n
  · rw [if_pos z] at ok3
    have r4 : Reps X.K T c.B G3 (pickL idx zs) (pickL idx ys) := reps_pick r3 idx
    have e1 : pickK 0 ks.length idx ([] : List V) zs = pickL idx zs := by unfold pickK; rw [if_pos ⟨rfl, by rw [r3.length]; exact z.2.1⟩]; rfl
    have sp : spD X.K T n F (pickK 0 ks.length idx ([] : List V) zs) H2 Q (WE W σ) := by rw [e1]; exact spD_use hd3 r4 (r4.length.trans z.2.2) ok3
    have vr := kb.rel .nil rz
    have lg : (pickK 0 ks.length idx ([] : List Value) ws).length = ps.length := by rw [← vr.length]; exact ok1.len _ _ _ _ sp
    refine wpAny_call (codeAny_mono (ok1.run X.A X.stack s2 H2 ⟨[], ks.zip ws⟩ _ _ Q (WE W σ) (hr.mono hj) I2.env0 (kb.to s2 [] ws I2.kIn lg) vr sp) fun r s4 hq => ?_)
    cases r with
    | error e => exact passAt tk σ pins H2 s2 e s4 I2 hq
    | ok fl =>
      cases fl with
      | ret u => exact I2.after hq
      | next => exact False.elim hq
      | brk => exact False.elim hq
      | cont => exact False.elim hq
  · rw [if_neg z] at ok3; exact ok3.elim
/-- a try at a class by its name -/
structure XAt (K : PySem.W.Frag) (mg : Str → Option Value) (T : Tab) (m : Nat) (x : Str) (tbl : Nat → Bool) : Prop where
  ex : ∃ a, mg x = some (.ref a) ∧ XTab K T m (.ref a) tbl
theorem ds_keepAt {x n y : Str} {m iy iN : Nat} {tbl : Nat → Bool} {body : List Stmt} {f : S → R Out} {np p1 p2 py pn p3 : Pos} (h : XAt X.K X.mg T m x tbl) (stk : X.stack = X.env :: X.outer) (fr : X.env.frame = some X.env.locals) (hex : X.ex = []) (nd : X.N.Nodup)
    (hi : X.N[iN]? = some n) (hl : X.env.kindOf n = some .local) (tk : Takes X W)
    (hb : ∀ (W : WX) (pn : List (Addr × Obj)) (xe : Value → Shared → Prop), Takes (X.tr pn xe) W → PassesOwn (model X.prog X.w) X.A X.env xe → DSs (X.tr pn xe) T W body f)
    (hiy : X.N[iy]? = some y) (hly : Loc X.env.scope y) (ne : iy ≠ iN) (hv : Vis X.env.scope n) (hg : Gl X x := by rfl) (hdb : (x == ("__debug__" : Str)) = false := by decide) (hd : (n == ("__debug__" : Str)) = false := by decide) (hcd : (n == ("__classdict__" : Str)) = false := by decide)
    (hsw : swapsWith (.Name n pn) (some (.Name y py)) p3.line X.env = pure false := by rfl) (hf : X.fn y = true ∨ X.env.scope.names.lookup y = some .local := by first | exact .inl rfl | exact .inr rfl | assumption) :
    DS X T W (.Try body [.ExceptHandler (some (.Name x np)) (some n) [.Assign [.Name y py] (.Name n pn) p3] p2] [] [] p1) (dTry tbl m iy iN f) := by
  obtain ⟨a, g, t⟩ := h.ex
  exact ds_keep stk fr hex nd hi hl ⟨hg, hdb, .inl g⟩ tk t hb hiy hly ne hv hd hcd hsw hf
end
/-- a text of the module by its name -/
structure CAt (mg : Str → Option Value) (x s : Str) : Prop where
  ex : ∃ t, mg x = some (.str s t)
section
variable {X : Cx} {T : Tab} {W : WX}
theorem de_constAt {x s : Str} {p : Pos} (h : CAt X.mg x s) (hg : Gl X x := by rfl) (hdb : (x == ("__debug__" : Str)) = false := by decide) : DE X T W (.Name x p) (dC (.str s)) := by
  obtain ⟨t, e⟩ := h.ex
  exact de_const (pe_glob (v := .str s) hg e ⟨t, rfl⟩ hdb) fun _ _ => .str s
end
def isXB (K : PySem.W.Frag) (cs : List Addr) (u : Value) (tbl : List Bool) : Bool := (List.range cs.length).all fun c => decide (PySem.W.exmOne K (.ref (cs.getD c 0)) u = some (tbl.getD c false))
theorem isXB_ok {K : PySem.W.Frag} {cs : List Addr} {fl : List (List Str)} {u : Value} {tbl : List Bool} (h : isXB K cs u tbl = true) : XTab K (tabOf cs fl) cs.length u (fun c => tbl.getD c false) where
  t := fun c hc => of_decide_eq_true (List.all_eq_true.mp h c (List.mem_range.mpr hc))
end DL

/-! DLs: what is written backwards; what is put in order. -/
namespace L2
open PySem PySem.Spec PyProof.Rows HT
section
variable {prog : Program} {w : World} {A : Around} {E : Value → Shared → Prop} {s : Shared}
theorem bk_adjust (n : Nat) : Builtin.Slice.sliceAdjust none none (-1) (n : Int) = ((n : Int) - 1, -1) := by
  unfold Builtin.Slice.sliceAdjust
  simp
theorem bk_places (n : Nat) : Builtin.Slice.slicePlaces ((n : Int) - 1) (-1) (-1) = n := by
  unfold Builtin.Slice.slicePlaces
  simp
  try (split <;> omega)
theorem bk_pick (xs : Array Value) : ((List.range xs.size).filterMap fun (m : Nat) => xs[(((xs.size : Int) - 1) + (m : Int) * (-1)).toNat]?).toArray = xs.toList.reverse.toArray := by
  congr 1
  apply List.ext_getElem?
  intro i
  have e : (fun (m : Nat) => xs[(((xs.size : Int) - 1) + (m : Int) * (-1)).toNat]?) = fun m => xs[xs.size - 1 - m]? := by
    funext m
    congr 1
    omega
  rw [e]
  have al : ∀ k, k ≤ xs.size → (List.range k).filterMap (fun m => xs[xs.size - 1 - m]?) = (xs.toList.reverse).take k := by
    intro k
    induction k with
    | zero => intro _; simp
    | succ k ih =>
      intro hk
      rw [List.range_succ, List.filterMap_append, ih (by omega), List.take_succ]
      congr 1
      have : xs.size - 1 - k < xs.size := by omega
      rw [List.getElem?_reverse (by rw [Array.length_toList]; omega)]
      simp [this]
  rw [al _ (Nat.le_refl _), List.take_of_length_le (by simp)]
theorem bk_applied {sl : Addr} {vl vu vs : Value} {n : Nat} {Q : Int × Int × Nat → Shared → Prop} (f : s.heap.IsSliceOf sl vl vu vs) (pl : IsPart vl none) (pu : IsPart vu none) (ps : IsPart vs (some (-1)))
    (q : Q ((n : Int) - 1, -1, n) s) : wpAny (model prog w) A (Builtin.Slice.sliceApplied (.ref sl) (pure (n : Int))) Q E s := by
  obtain ⟨o1, g1, _, d1⟩ := id f
  unfold Builtin.Slice.sliceApplied Builtin.Slice.sliceFields
  refine wpAny_bind (wpAny_bind (wpAny_field g1 d1 (x := vl) rfl (wpAny_bind (wpAny_field g1 d1 (x := vu) rfl (wpAny_bind (wpAny_field g1 d1 (x := vs) rfl (wpAny_pure ?_)))))))
  refine wpAny_bind (slicePart_ ps ?_)
  show wpAny _ _ (if ((-1 : Int) == 0) = true then _ else _) _ _ s
  rw [if_neg (show ¬ ((-1 : Int) == 0) = true by decide)]
  refine wpAny_bind (slicePart_ pl (wpAny_bind (slicePart_ pu (wpAny_bind (wpAny_pure ?_)))))
  show wpAny _ _ (match Builtin.Slice.sliceAdjust none none (-1) (n : Int) with | (l, h) => pure (l, (-1 : Int), Builtin.Slice.slicePlaces l h (-1))) _ _ s
  rw [bk_adjust n]
  show wpAny _ _ (pure ((n : Int) - 1, (-1 : Int), Builtin.Slice.slicePlaces ((n : Int) - 1) (-1) (-1))) _ _ s
  rw [bk_places]
  exact wpAny_pure q
theorem tup_bk {t sl : Addr} {items : Array Value} {vl vu vs : Value} {Q : Value → Shared → Prop} (ht : IsTup s.heap t items) (f : s.heap.IsSliceOf sl vl vu vs) (pl : IsPart vl none) (pu : IsPart vu none) (ps : IsPart vs (some (-1)))
    (q : Q (.ref s.heap.objs.size) { s with heap := s.heap.push { cls := .type "tuple", data := .seq items.toList.reverse.toArray } }) (hsz : items.size ≤ sizeLine) : wpAny (model prog w) A (getItem (.ref t) (.ref sl)) Q E s := by
  have fits : sizeOk (.seq items.toList.reverse.toArray) := by
    show items.toList.reverse.toArray.size ≤ sizeLine
    simpa using hsz
  obtain ⟨o1, g1, c1, d1⟩ := id f
  have tySl : s.TypeIs (.ref sl) "slice" := ⟨o1, g1, c1⟩
  unfold getItem
  try with_reducible refine wpAny_holding ?_
  first | (refine wpAny_bind (wpAny_pure ?_)) | skip
  refine wpAny_bind (wpAny_sequenceKey ht.typeIs (by decide) ?_)
  refine wpAny_bind (wpAny_callSpecial?_slot (name := Str.ofString "__getitem__") ht.typeIs PyProof.Rows.slot_tuple_getitem (wpAny_call_entry PyProof.Rows.slot_tuple_getitem ht.typeIs entry_tuple_getitem ?_ (args_tuple_getitem _ _)))
  show wpAny _ _ (Builtin.Tuple.tupleItemsOf (.ref t) >>= _) _ _ s
  refine wpAny_bind (tupleItemsOf_ ht (wpAny_bind (wpAny_typeOf tySl ?_)))
  rw [if_pos (show (Value.type "slice" == Value.type "slice") = true by decide)]
  refine wpAny_bind (bk_applied f pl pu ps ?_)
  have hno : ¬ ((((items.size : Int) - 1) == 0 && (-1 : Int) == 1 && items.size == items.size) = true) := by simp
  show wpAny _ _ (if (((items.size : Int) - 1) == 0 && (-1 : Int) == 1 && items.size == items.size) = true then _ else _) _ _ s
  rw [if_neg hno, bk_pick]
  first
    | (exact wpAny_bind (m := Builtin.Tuple.tupleExact _) (wpAny_newObj_type (wpAny_pure ⟨_, rfl, wpAny_pure q⟩) fits))
    | (exact wpAny_bind (m := Builtin.Tuple.tupleExact _) (wpAny_newObj_type (wpAny_bind (wpAny_pure (wpAny_pure ⟨_, rfl, wpAny_pure q⟩))) fits))
    | (exact wpAny_bind (wpAny_bind (m := Builtin.Tuple.tupleExact _) (wpAny_newObj_type (wpAny_pure (wpAny_pure ⟨_, rfl, wpAny_pure q⟩)) fits)))
    | (exact wpAny_bind (wpAny_bind (m := Builtin.Tuple.tupleExact _) (wpAny_newObj_type (wpAny_pure ⟨_, rfl, wpAny_pure q⟩) fits)))
end
end L2
namespace DL
open PySem PySem.Spec PyProof.Rows L2
section
variable {X : Cx} {T : Tab} {W : WX}
/-- what is asked of xs[::-1]: a list or a tuple -/
def tBack (K : PySem.W.Frag) (te : TE) : TE := fun σ H Q => te σ H fun x H1 => ∃ a xs, x = .ref a ∧
  ((SqL K H1 a xs ∧ ∀ p, H1 p = none → Q (.ref p) (upd H1 p (.lst xs.reverse))) ∨ (SqT K H1 a xs ∧ ∀ p, H1 p = none → Q (.ref p) (upd H1 p (.tup xs.reverse))))
theorem pe_back {e : Expr} {te : TE} {k : Nat} {p1 p2 p3 pos : Pos} (he : PE X e te) : PE X (.Subscript e (.Slice none none (some (.UnaryOp .USub (.Constant (.int 1) k p1) p2)) p3) pos) (tBack X.K te) := by
  refine ⟨fun pins s σ H Q I h => Subscript_ (thn (he.run pins s σ H _ I h) fun v sA ⟨x, HA, IA, rx, a, xs, ex, alt⟩ => ?_)⟩
  subst ex
  cases rx
  have minus : PO X (some (.UnaryOp .USub (.Constant (.int 1) k p1) p2)) (tPart (tUn (rU fun i => .int (-i)) (tC (.int 1)))) := po_some (pe_un un_neg pe_int)
  refine wpAny_Slice (thn (po_none.run pins sA σ HA (fun o Hb => o = none ∧ Hb = HA) IA ⟨rfl, rfl⟩) fun vl sB ⟨ol, HB, IB, pl, el, eB⟩ => ?_)
  subst el eB
  refine thn (po_none.run pins sB σ HB (fun o Hc => o = none ∧ Hc = HB) IB ⟨rfl, rfl⟩) fun vu sC ⟨ou, HC, IC, pu, eu, eC⟩ => ?_
  subst eu eC
  refine thn (minus.run pins sC σ HC (fun o Hd => o = some (-1) ∧ Hd = HC) IC ⟨1, rfl, -1, rfl, rfl, rfl⟩) fun vs sD ⟨os, HD, ID, ps, es, eD⟩ => ?_
  subst es eD
  have IE : Inv X pins σ HD { sD with heap := sD.heap.push { cls := .type "slice", data := .fields #[vl, vu, vs] } } := ID.kept (t' := sD.toks) fun b ob z => Heap.get?_push_of_some _ z
  show wpAny (model X.prog X.w) X.A (subscriptTail e (.Slice none none (some (.UnaryOp .USub (.Constant (.int 1) k p1) p2)) p3) (.ref a) (.ref sD.heap.objs.size)) (EP X pins σ Q) X.xe { sD with heap := sD.heap.push { cls := .type "slice", data := .fields #[vl, vu, vs] } }
  rcases alt with ⟨hx, q⟩ | ⟨hx, q⟩
  · obtain ⟨its, r, hl, hz⟩ := IE.list hx
    have len := r.length
    refine tail_any (ops := [.ref a, .ref sD.heap.objs.size]) hl.isList.typeIs (PySem.slot_list_getitem.lookup) ?_ (by with_unfolding_all rfl)
    refine wpAny_getItem_list_slice hl.isList (Heap.IsSliceOf.new _ vl vu vs) pl pu ps (by decide) ?_ (by rw [List.size_toArray]; omega)
    rw [PySem.W.krv_pick]
    exact ⟨.ref _, _, IE.laid (t' := sD.toks) (o := .lst xs.reverse) (fun b ob z => Heap.get?_push_of_some _ z) (Nat.le_refl _) ⟨by rw [List.length_reverse]; exact hz, _, 0, r.reverse, Heap.get?_push_size _ rfl⟩, rfl, q _ (IE.hok.fresh (Nat.le_refl _))⟩
  · obtain ⟨its, r, ht, hz⟩ := IE.tuple hx
    have len := r.length
    refine tail_any (ops := [.ref a, .ref sD.heap.objs.size]) ht.typeIs (PyProof.Rows.slot_tuple_getitem.lookup) ?_ (by with_unfolding_all rfl)
    refine tup_bk ht (Heap.IsSliceOf.new _ vl vu vs) pl pu ps ?_ (by rw [List.size_toArray]; omega)
    refine ⟨.ref _, _, IE.laid (t' := sD.toks) (o := .tup xs.reverse) (fun b ob z => Heap.get?_push_of_some _ z) (Nat.le_refl _) ?_, rfl, q _ (IE.hok.fresh (Nat.le_refl _))⟩
    first
      | exact ⟨by rw [List.length_reverse]; exact hz, _, r.reverse, ⟨_, Heap.get?_push_size _ rfl, rfl, 0, rfl⟩⟩
      | skip
def hBack : D → S → R D
  | .ls xs, st => .ok (.ls xs.reverse) st
  | .tu xs, st => .ok (.tu xs.reverse) st
  | _, _ => .stuck
theorem Reps.back {K : PySem.W.Frag} {B : Option Addr} {G : Hp} : ∀ {vs : List V} {ds : List D}, Reps K T B G vs ds → Reps K T B G vs.reverse ds.reverse
  | _, _, .nil => .nil
  | _, _, .cons h r => by
    rw [List.reverse_cons, List.reverse_cons]
    exact (Reps.back r).append (Reps.one h)
theorem de_back {e : Expr} {f : S → R D} {k : Nat} {p1 p2 p3 pos : Pos} (he : DE X T W e f) : DE X T W (.Subscript e (.Slice none none (some (.UnaryOp .USub (.Constant (.int 1) k p1) p2)) p3) pos) (dUn hBack f) :=
  impE (pe_back he) fun σ H Q ⟨c, G, st, hd, ok⟩ => by
    obtain ⟨c0, G0, st0, hd0, ok0⟩ := step (rel := relD X.K T) hd ok
    refine ⟨c0, G0, st0, hd0, ok0.imp fun x H1 ⟨G1, st1, a, s1, hd1, r1, ok1⟩ => ?_⟩
    cases r1 with
    | @ls p vs ds h r =>
      refine ⟨p, vs, rfl, .inl ⟨SqL.of (hd1.sub _ _ h), fun l hl => ?_⟩⟩
      have sg := same_upd (o := .lst vs.reverse) (hd1.gnone hl)
      exact ok1 _ _ _ sg (hd1.lay _ hl) (.ls upd_same (r.back.mono sg))
    | @tu p vs ds h r =>
      refine ⟨p, vs, rfl, .inr ⟨Same.sqt hd1.sub h, fun l hl => ?_⟩⟩
      have sg := same_upd (o := .tup vs.reverse) (hd1.gnone hl)
      exact ok1 _ _ _ sg (hd1.lay _ hl) (.tu (.inl (.inl upd_same)) (r.back.mono sg))
    | _ => exact ok1.elim
end
end DL

/-! DLt: objects of one field: how they are made, what is read of them. -/
namespace DL
open PySem PySem.Spec PyProof.Rows L2
section
variable {K : PySem.W.Frag} {T : Tab} {c : Ctx} {G H : Hp} {σ : SV} {st : S}
/-- one slot more ahead, of which nothing is known -/
theorem Holds.ahead (h : Holds K T c G H σ st) (x : Option V) : Holds K T c G H (x :: σ) ⟨.un :: st.env, st.bx⟩ where
  sub0 := h.sub0
  sub := h.sub
  new := h.new
  frame := h.frame
  len := by show σ.length + 1 = st.env.length + 1; rw [h.len]
  slot := fun i s q => by
    cases i with
    | zero =>
      cases q
      trivial
    | succ i => exact h.slot i s q
  dist := fun i j p ds es q1 q2 e1 e2 => by
    cases i with
    | zero => cases q1
    | succ i =>
      cases j with
      | zero => cases q2
      | succ j => rw [h.dist i j p ds es q1 q2 e1 e2]
  box := h.box
  box0 := h.box0
end
/-- the field's value, out of the arguments behind self -/
def initFn (n N : Nat) (fv : S → R D) : Fn := fun ds b => if ds.length = n then
    match fv ⟨.un :: (ds.map Sl.val ++ List.replicate (N - n) Sl.un), b⟩ with
    | .ok d st => .ok d st.bx
    | .err e st => .err e st.bx
    | .stuck => .stuck
  else .stuck
/-- what an __init__ of one field does: F tells the field -/
def InOk (K : PySem.W.Frag) (T : Tab) (B : Option Addr) (G H : Hp) (C a dx : Addr) (fld : Str) (r : FR) (Q : VK) (E : XK) : Prop := match r with
  | .ok d b => ∀ G' H' v, After K T B G H G' H' b → Rep K T B G' v d → Q .non (upd H' a (.ins C dx [(fld, v)]))
  | .okF _ _ => False
  | .err e b => ∀ G' H' cls dd, After K T B G H G' H' b → ErrAt K T B G' H' e cls dd → E cls dd H'
  | .stuck => False
def spIn (K : PySem.W.Frag) (T : Tab) (C : Addr) (fld : Str) (n : Nat) (F : Fn) : Sp := fun vs H Q E => ∃ (a dx : Addr) (us : List V) (B : Option Addr) (G : Hp) (ds : List D) (b : Bx), vs = .ref a :: us ∧ us.length = n ∧
  H a = some (.ins C dx []) ∧ G a = none ∧ B ≠ some a ∧ Same G H ∧ (∀ p, B = some p → H p = some (boxO b) ∧ G p = none) ∧ Reps K T B G us ds ∧ InOk K T B G H C a dx fld (F ds b) Q E
section
variable {P : Program} {w : World} {K : PySem.W.Frag} {mg : Str → Option Value} {base : Heap} {T : Tab}
/-- how an __init__ of one field ends, of its body's parts -/
theorem init_core {qual fld : Str} {sc : Scope} {f C : Addr} {N' ps : List Str} {k : Nat} {e : Expr} {fv : S → R D} {p1 p2 p3 : Pos} (cl : Cls K C) (na : NoAttr K C fld)
    (hb : ∀ (cdv : Value) (A : Around) (outer : List Env) (s : Shared) (H : Hp) (E : XK) (W : WX), Room k (A.deeper (envOfC qual sc s.heap.objs.size f cdv)) →
      PassesOwn (model P w) (cxOf (L2.CX P w) P w K mg base ("self" :: N') qual sc f cdv A outer s H E).A (cxOf (L2.CX P w) P w K mg base ("self" :: N') qual sc f cdv A outer s H E).env (cxOf (L2.CX P w) P w K mg base ("self" :: N') qual sc f cdv A outer s H E).xe →
      Takes (cxOf (L2.CX P w) P w K mg base ("self" :: N') qual sc f cdv A outer s H E) W →
      DE (cxOf (L2.CX P w) P w K mg base ("self" :: N') qual sc f cdv A outer s H E) T W e fv ∧
      PE (cxOf (L2.CX P w) P w K mg base ("self" :: N') qual sc f cdv A outer s H E) (.Name "self" p1) (tVar 0) ∧
      swapsWith e (some (.Attribute (.Name "self" p1) fld p2)) p3.line (cxOf (L2.CX P w) P w K mg base ("self" :: N') qual sc f cdv A outer s H E).env = pure false)
    (cdv : Value) (A : Around) (outer : List Env) (s : Shared) (H : Hp) (vs : List V) (Q : VK) (E : XK) (hr : Room k (A.deeper (envOfC qual sc s.heap.objs.size f cdv))) (h : spIn K T C fld ps.length (initFn ps.length N'.length fv) vs H Q E) :
    ∃ t, PSs (cxOf (L2.CX P w) P w K mg base ("self" :: N') qual sc f cdv A outer s H E) [.Assign [.Attribute (.Name "self" p1) fld p2] e p3] t ∧ t { nx := fun _ H' => Q .non H', rt := Q } (L2.start ("self" :: N') vs) H := by
  obtain ⟨a, dx, us, B, G, ds, b, rfl, hl, ha, ga, ba, sm, hbx, r, ok⟩ := h
  have tk : Takes (cxOf (L2.CX P w) P w K mg base ("self" :: N') qual sc f cdv A outer s H E) (wOf E) := takes_of rfl rfl rfl rfl
  obtain ⟨he, hs, hsw⟩ := hb cdv A outer s H E (wOf E) hr (passes_of rfl) tk
  refine ⟨_, pss_one (ps_fld hs he hsw), ?_⟩
  have start : Holds K T ⟨B, H, G⟩ G H (L2.start ("self" :: N') (.ref a :: us)) ⟨.un :: (ds.map Sl.val ++ List.replicate (N'.length - ps.length) Sl.un), b⟩ := by
    have z := (holds_start (N := N'.length - ps.length) sm hbx r).ahead (some (.ref a))
    unfold L2.start
    show Holds K T _ G H (some (.ref a) :: us.map some ++ List.replicate (N'.length + 1 - (us.length + 1)) none) _
    rw [Nat.add_sub_add_right, hl]
    exact z
  refine ⟨⟨B, H, G⟩, G, ⟨.un :: (ds.map Sl.val ++ List.replicate (N'.length - ps.length) Sl.un), b⟩, start, ?_⟩
  unfold initFn at ok
  rw [if_pos (r.length.symm.trans hl)] at ok
  have fin : ∀ {G' H' : Hp} {σ' : SV} {st' : S}, Holds K T ⟨B, H, G⟩ G' H' σ' st' → After K T B G H G' H' st'.bx := fun h' => ⟨h'.sub0, h'.sub, h'.new, h'.frame, h'.box⟩
  revert ok
  cases fv ⟨.un :: (ds.map Sl.val ++ List.replicate (N'.length - ps.length) Sl.un), b⟩ with
  | ok d st' =>
    intro ok G' H' v s' h' r'
    refine ⟨.ref a, rfl, a, C, dx, [], rfl, h'.frame a _ ha ba, cl, na, Nat.zero_lt_succ _, ?_⟩
    exact ok G' H' v (fin h') r'
  | err er st' => exact fun ok G' H' cls d s' h' e' => ok G' H' cls d (fin h') e'
  | stuck => exact fun ok => ok.elim
theorem sp_len {C : Addr} {fld : Str} {ps : List Str} {F : Fn} : ∀ vs H Q E, spIn K T C fld ps.length F vs H Q E → vs.length = (("self" : Str) :: ps).length := fun vs H Q E ⟨a, dx, us, B, G, ds, b, e1, e2, _⟩ => by
  rw [e1]; show us.length + 1 = ps.length + 1; rw [e2]
end
section
variable {K : PySem.W.Frag} {T : Tab} {c : Ctx} {G H : Hp} {σ : SV} {st : S}
/-- an object of one's own is finished: from now on it is known as it is -/
theorem Holds.renew (h : Holds K T c G H σ st) {p : Addr} (g : G p = none) (z : c.H0 p = none) (nl : ∀ vs, H p ≠ some (.lst vs)) (o : HO) : Holds K T c (upd G p o) (upd H p o) σ st where
  sub0 := h.sub0.trans (same_upd g)
  sub := fun a u q => by
    by_cases e : a = p
    · subst e; rw [upd_same] at q ⊢; exact q
    · rw [upd_ne e] at q ⊢; exact h.sub _ _ q
  new := fun a e n => by
    by_cases ep : a = p
    · subst ep; exact z
    · rw [upd_ne ep] at n; exact h.new a e n
  frame := fun a u e nb => by
    have ep : a ≠ p := fun y => by subst y; rw [z] at e; cases e
    rw [upd_ne ep]; exact h.frame a u e nb
  len := h.len
  slot := fun i s q => by
    have r := h.slot i s q
    cases s with
    | un => trivial
    | val d =>
      obtain ⟨v, e, r⟩ := r
      exact ⟨v, e, r.mono (same_upd g)⟩
    | own ds =>
      obtain ⟨p2, vs, e, h1, h2, h3, r⟩ := r
      have ep : p2 ≠ p := fun y => by subst y; exact nl vs h1
      exact ⟨p2, vs, e, by rw [upd_ne ep]; exact h1, by rw [upd_ne ep]; exact h2, h3, r.mono (same_upd g)⟩
  dist := h.dist
  box := fun p2 e => by
    have ep : p2 ≠ p := fun y => by subst y; exact h.box0 p2 e z
    rw [upd_ne ep, upd_ne ep]; exact h.box p2 e
  box0 := h.box0
end
/-- an own class of one field -/
structure Ob1 (K : PySem.W.Frag) (T : Tab) (fld : Str) (c : Nat) : Prop where
  cls : Cls K (T.C c)
  no : NoAttr K (T.C c) fld
  n : T.fld c = [fld]
def dOb (c : Nat) (F : Fn) (ds : List D) (st : S) : R D := match F ds st.bx with
  | .ok d b => .ok (.ob c [d]) { st with bx := b }
  | .err e b => .err e { st with bx := b }
  | _ => .stuck
section
variable {X : Cx} {T : Tab} {W : WX}
/-- what an __init__ is asked, where a call of the class is asked -/
theorem ob_use {c : Ctx} {G H : Hp} {σ : SV} {st : S} {i n : Nat} {fld : Str} {F : Fn} {vs : List V} {ds : List D} {Q : VK} (ob : Ob1 X.K T fld i) (hd : Holds X.K T c G H σ st) (r : Reps X.K T c.B G vs ds) (hl : vs.length = n)
    (ok : GOk X.K T W (relD X.K T) c G σ (dOb i F ds st) Q) {x dx : Addr} (hx : H x = none) (hdx : H dx = none) (ne : dx ≠ x) :
    spIn X.K T (T.C i) fld n F (.ref x :: vs) (upd (upd H dx (.own x)) x (.ins (T.C i) dx [])) (fun v H2 => v = .non ∧ Q (.ref x) H2) (WE W σ) := by
  have h1 : Holds X.K T c G (upd H dx (.own x)) σ st := hd.lose _ hdx
  have hx1 : (upd H dx (.own x)) x = none := by rw [upd_ne (Ne.symm ne)]; exact hx
  have h2 : Holds X.K T c G (upd (upd H dx (.own x)) x (.ins (T.C i) dx [])) σ st := h1.lose _ hx1
  have gx := hd.gnone hx
  have bx : c.B ≠ some x := fun e => by have := (hd.box x e).1; rw [hx] at this; cases this
  refine ⟨x, dx, vs, c.B, G, ds, st.bx, rfl, hl, upd_same, gx, bx, h2.sub, h2.box, r, ?_⟩
  unfold dOb at ok
  revert ok
  cases F ds st.bx with
  | ok d b =>
    intro ok G' H' v a rv
    refine ⟨rfl, ?_⟩
    have h3 : Holds X.K T c G' H' σ { st with bx := b } := h2.after a
    have hx3 : H' x = some (.ins (T.C i) dx []) := a.frame x _ upd_same bx
    have gx3 : G' x = none := by
      cases q : G' x with
      | none => rfl
      | some o =>
        have := a.new x gx (by rw [q]; exact fun z => nomatch z)
        rw [upd_same] at this; cases this
    have h4 := h3.renew gx3 (hd.h0 hx) (fun ws z => by rw [hx3] at z; cases z) (.ins (T.C i) dx [(fld, v)])
    have sg := same_upd (o := .ins (T.C i) dx [(fld, v)]) gx3
    exact ok _ _ _ (a.sG.trans sg) h4 (.ob (vs := [v]) (by rw [upd_same, ob.n]; rfl) (by rw [ob.n]; rfl) (.cons (rv.mono sg) .nil))
  | okF ds2 b => exact fun ok => ok.elim
  | err e b =>
    intro ok G' H' cls dd a er
    exact ok G' H' cls dd a.sG (h2.after a) er
  | stuck => exact fun ok => ok.elim
theorem make_use {k : Nat} {C f : Addr} {fd : FuncData} {ps : List Str} {sp : Sp} {pins : List (Addr × Obj)} {σ : SV} {H : Hp} {s : Shared} {Q : VK} {us0 us : List Value} {kw : List (Str × Value)} {vs : List V} (M : Mk X.K C f) (F : FnOk X.prog X.w X.K X.mg X.base (L2.CX X.prog X.w) k f fd (("self" : Str) :: ps) sp)
    (hr : Room (k + 1) X.A) (hb : ∀ (s : Shared) (q : Addr), X.K.In s.heap → BindsTo s fd ⟨.ref q :: us0, kw⟩ ((("self" : Str) :: ps).zip (.ref q :: us))) (tk : Takes X W) (I : Inv X pins σ H s) (r : Vals vs us)
    (h : ∀ x dx, H x = none → H dx = none → dx ≠ x → sp (.ref x :: vs) (upd (upd H dx (.own x)) x (.ins C dx [])) (fun v H2 => v = .non ∧ Q (.ref x) H2) (WE W σ)) :
    wpAny (model X.prog X.w) X.A (call (.ref C) us0 kw) (EP X pins σ Q) X.xe s := by
  have q1 := h (s.heap.objs.size + 1) s.heap.objs.size (I.hok.fresh (Nat.le_succ _)) (I.hok.fresh (Nat.le_refl _)) (Nat.ne_of_lt (Nat.lt_succ_self _))
  have J := Inv.made (C := C) I
  refine wpAny_call (make_map (f := f) I.kIn M.makes M.init (beq_iff_eq.mp M.fn) (codeAny_mono (F.run _ X.stack _ _ ⟨Value.ref (s.heap.objs.size + 1) :: us0, kw⟩ (Value.ref (s.heap.objs.size + 1) :: us) (V.ref (s.heap.objs.size + 1) :: vs) _ _ (hr.make C us0 kw)
    (J.env0.make C us0 kw) (hb _ _ J.kIn) (.cons rfl r) q1) fun res s2 z => ?_))
  cases res with
  | error er => exact passAt tk σ pins _ _ er s2 J z
  | ok fl =>
    cases fl with
    | ret u =>
      obtain ⟨v, H2, J2, rv, ev, q3⟩ := J.after z
      subst ev
      exact ⟨rv, ⟨V.ref (s.heap.objs.size + 1), H2, J2, rfl, q3⟩⟩
    | next => exact False.elim z
    | brk => exact False.elim z
    | cont => exact False.elim z
/-- e.fld -/
def dFld (c : Nat) (f : S → R D) : S → R D := fun st => (f st).bind fun d st => match d with
  | .ob c' [v] => if c' = c then .ok v st else .stuck
  | _ => .stuck
theorem de_fld {fld : Str} {c : Nat} {e : Expr} {pos : Pos} {f : S → R D} (ob : Ob1 X.K T fld c) (he : DE X T W e f) (hb : attributeBase e fld X.env (eval e X.env) = eval e X.env := by rfl) : DE X T W (.Attribute e fld pos) (dFld c f) :=
  impE (pe_fld he hb) fun σ H Q ⟨c0, G, st, hd, ok⟩ => by
    obtain ⟨c1, G1, st1, hd1, ok1⟩ := step (rel := relD X.K T) hd ok
    refine ⟨c1, G1, st1, hd1, ok1.imp fun x H1 ⟨G2, st2, d, s2, hd2, r2, ok2⟩ => ?_⟩
    cases r2 with
    | @ob a dx c' vs fs h1 hl r =>
      cases r with
      | nil => exact ok2.elim
      | cons r1 r =>
        cases r with
        | cons _ _ => exact ok2.elim
        | nil =>
          rename_i v2 f2
          replace ok2 : GOk X.K T W (relD X.K T) c0 G2 σ (if c' = c then .ok f2 st2 else .stuck) Q := ok2
          by_cases ec : c' = c
          · rw [if_pos ec] at ok2
            subst ec
            refine ⟨a, _, dx, _, v2, rfl, hd2.sub _ _ h1, ob.cls, ob.no, ?_, ok2 _ _ _ (Same.refl _) hd2 r1⟩
            rw [ob.n]
            simp [List.lookup]
          · rw [if_neg ec] at ok2; exact ok2.elim
    | _ => exact ok2.elim
end
section
variable {X : Cx} {T : Tab} {W : WX}
/-- an own class of one field under its name, by what its __init__ (self, p) tells: F; called without p it is as with dd -/
structure ObAt (P : Program) (w : World) (K : PySem.W.Frag) (mg : Str → Option Value) (base : Heap) (T : Tab) (x fld p : Str) (c k : Nat) (F : Fn) (dd : D) : Prop where
  ob : Ob1 K T fld c
  g : mg x = some (.ref (T.C c))
  init : ∃ (f : Addr) (fd : FuncData) (vd : V) (ud : Value), Mk K (T.C c) f ∧ FnOk P w K mg base (L2.CX P w) k f fd [("self" : Str), p] (spIn K T (T.C c) fld 1 F) ∧ RelV vd ud ∧ (∀ B G, Rep K T B G vd dd) ∧
    (∀ (s : Shared) (q u : Value), K.In s.heap → BindsTo s fd ⟨[q, u], []⟩ [("self", q), (p, u)]) ∧ (∀ (s : Shared) (q u : Value), K.In s.heap → BindsTo s fd ⟨[q], [(p, u)]⟩ [("self", q), (p, u)]) ∧
    (∀ (s : Shared) (q : Value), K.In s.heap → BindsTo s fd ⟨[q], []⟩ [("self", q), (p, ud)])
def dMkOb (c : Nat) (F : Fn) (f : S → R D) : S → R D := fun st => (f st).bind fun d st => dOb c F [d] st
theorem de_ob1 {x fld p : Str} {c k j : Nat} {F : Fn} {dd : D} {p1 pos : Pos} {e : Expr} {f : S → R D} (h : ObAt X.prog X.w X.K X.mg X.base T x fld p c k F dd) (hr : Room j X.A) (hj : k + 1 ≤ j) (tk : Takes X W) (he : DE X T W e f) (hg : Gl X x := by rfl) (hdb : (x == ("__debug__" : Str)) = false := by decide)
    (hs : starEach [e] X.env = (false, eval e X.env) :: starEach [] X.env := by rfl) (hpl : (backTo pos (starEach [] X.env)).any (·.1) = false := by rfl) : DE X T W (.Call (.Name x p1) [e] [] pos) (dMkOb c F f) := by
  obtain ⟨fa, fd, vd, ud, M, Fi, _, _, b1, _, _⟩ := h.init
  refine ⟨fun pins s σ H Q I ⟨c0, G, st, hd, ok⟩ => ?_⟩
  obtain ⟨c1, G1, st1, hd1, ok1⟩ := step (rel := relD X.K T) hd ok
  have ha : PA X [e] (tCons (gD X.K T W (relD X.K T) f) tNil) := pa_cons he pa_nil hs
  refine wpAny_Call_Name_kw (ld_glob I hg h.g ?_ hdb)
  refine PySem.W.callWith_K (h₀ := X.base) I.ok.mod.kin M.kp (thn (ha.run pos pins s σ H (fun vs H1 => ∃ v, vs = [v] ∧ ∃ G1 st1 a, Same G G1 ∧ Holds X.K T c0 G1 H1 σ st1 ∧ relD X.K T c0 G1 H1 σ st1 v a ∧ GOk X.K T W (relD X.K T) c0 G1 σ (dOb c F [a] st1) Q) I ⟨c1, G1, st1, hd1, ok1.imp fun v H1 z => ⟨v, rfl, z⟩⟩) fun us s1 ⟨vs, H1, I1, r1, v, ev, G2, st2, d, s2, hd2, r2, ok2⟩ => ⟨I1.kIn, ?_⟩) hs hpl
  subst ev
  obtain ⟨u1, rfl⟩ : ∃ u1, us = [u1] := by
    cases r1 with
    | cons _ rn => cases rn; exact ⟨_, rfl⟩
  exact make_use (us0 := [u1]) (us := [u1]) (kw := []) M Fi (hr.mono hj) (fun s q z => b1 s (.ref q) u1 z) tk I1 r1 fun x dx hx hdx ne => ob_use h.ob hd2 (.cons r2 .nil) rfl ok2 hx hdx ne
theorem de_ob0 {x fld p : Str} {c k j : Nat} {F : Fn} {dd : D} {p1 pos : Pos} (h : ObAt X.prog X.w X.K X.mg X.base T x fld p c k F dd) (hr : Room j X.A) (hj : k + 1 ≤ j) (tk : Takes X W) (hg : Gl X x := by rfl) (hdb : (x == ("__debug__" : Str)) = false := by decide) :
    DE X T W (.Call (.Name x p1) [] [] pos) (dMkOb c F (dC dd)) := by
  obtain ⟨fa, fd, vd, ud, M, Fi, rv, rd, _, _, b0⟩ := h.init
  refine ⟨fun pins s σ H Q I ⟨c0, G, st, hd, ok⟩ => ?_⟩
  refine wpAny_Call_Name_kw (ld_glob I hg h.g ?_ hdb)
  refine PySem.W.callWith_K0 I.kIn M.kp ?_
  exact make_use (us := [ud]) M Fi (hr.mono hj) (fun s q z => b0 s (.ref q) z) tk I (.cons rv .nil) fun x dx hx hdx ne => ob_use h.ob hd (.cons (rd c0.B G) .nil) rfl ok hx hdx ne
theorem de_obK {x fld p : Str} {c k j : Nat} {F : Fn} {dd : D} {p1 kp pos : Pos} {e : Expr} {f : S → R D} (h : ObAt X.prog X.w X.K X.mg X.base T x fld p c k F dd) (hr : Room j X.A) (hj : k + 1 ≤ j) (tk : Takes X W) (he : DE X T W e f) (hg : Gl X x := by rfl) (hdb : (x == ("__debug__" : Str)) = false := by decide)
    (hall : (backToKw pos (keywordEach [⟨some p, e, kp⟩] X.env)).all (·.1.isSome) = true := by rfl) (hks : (backToKw pos (keywordEach [⟨some p, e, kp⟩] X.env)).filterMap (·.1) = [p] := by rfl)
    (hpl : ((backTo pos (starEach [] X.env)).any (·.1) || (backToKw pos (keywordEach [⟨some p, e, kp⟩] X.env)).any (·.1.isNone)) = false := by rfl) : DE X T W (.Call (.Name x p1) [] [⟨some p, e, kp⟩] pos) (dMkOb c F f) := by
  obtain ⟨fa, fd, vd, ud, M, Fi, _, _, _, bk, _⟩ := h.init
  refine ⟨fun pins s σ H Q I ⟨c0, G, st, hd, ok⟩ => ?_⟩
  obtain ⟨c1, G1, st1, hd1, ok1⟩ := step (rel := relD X.K T) hd ok
  have ha : PK X [⟨some p, e, kp⟩] (tCons (gD X.K T W (relD X.K T) f) tNil) := pk_cons he pk_nil
  refine wpAny_Call_Name_kw (ld_glob I hg h.g ?_ hdb)
  refine PySem.W.callWith_KW0 (h₀ := X.base) I.ok.mod.kin M.kp hall (thn (ha.run pos pins s σ H (fun vs H1 => ∃ v, vs = [v] ∧ ∃ G1 st1 a, Same G G1 ∧ Holds X.K T c0 G1 H1 σ st1 ∧ relD X.K T c0 G1 H1 σ st1 v a ∧ GOk X.K T W (relD X.K T) c0 G1 σ (dOb c F [a] st1) Q) I ⟨c1, G1, st1, hd1, ok1.imp fun v H1 z => ⟨v, rfl, z⟩⟩) fun us s1 ⟨vs, H1, I1, r1, v, ev, G2, st2, d, s2, hd2, r2, ok2⟩ => ⟨I1.kIn, ?_⟩) hpl
  subst ev
  rw [hks]
  obtain ⟨u1, rfl⟩ : ∃ u1, us = [u1] := by
    cases r1 with
    | cons _ rn => cases rn; exact ⟨_, rfl⟩
  exact make_use (us0 := []) (us := [u1]) (kw := [(p, u1)]) M Fi (hr.mono hj) (fun s q z => bk s (.ref q) u1 z) tk I1 r1 fun x dx hx hdx ne => ob_use h.ob hd2 (.cons r2 .nil) rfl ok2 hx hdx ne
end
end DL

/-! DLu: properties of an own class. -/
namespace DL
open PySem PySem.Spec PyProof.Rows L2
/-- a property of the class by what its getter tells -/
structure PropAt (P : Program) (w : World) (K : PySem.W.Frag) (mg : Str → Option Value) (base : Heap) (T : Tab) (c : Nat) (nm : Str) (k : Nat) (F : Fn) : Prop where
  cls : Cls K (T.C c)
  ex : ∃ (p g : Addr) (fd : FuncData), PropOf K (T.C c) nm p g ∧ FnOk P w K mg base (L2.CX P w) k g fd [("self" : Str)] (spD K T 1 F) ∧ Binds K fd [("self" : Str)] []
/-- what is told without an error -/
def fromN (r : FR) (st : S) : R D := match r with
  | .ok d b => .ok d { st with bx := b }
  | .okF ds b => .ok (.ls ds) { st with bx := b }
  | _ => .stuck
def dProp (c : Nat) (F : Fn) (f : S → R D) : S → R D := fun st => (f st).bind fun d st => match d with
  | .ob c' fs => if c' = c then fromN (F [.ob c' fs] st.bx) st else .stuck
  | _ => .stuck
section
variable {X : Cx} {T : Tab} {W : WX}
theorem never_passes {P : Program} {w : World} : Passes (L2.CX P w) X.nox (fun _ _ _ => False) := fun _ _ _ _ _ _ _ h => by
  obtain ⟨_, _, _, _, _, _, _, _, _, _, _, _, h⟩ := h
  exact h.elim
theorem spD_useN {c : Ctx} {G H : Hp} {σ : SV} {st : S} {n : Nat} {F : Fn} {vs : List V} {ds : List D} {Q : VK} (h : Holds X.K T c G H σ st) (r : Reps X.K T c.B G vs ds) (l : vs.length = n) (ok : GOk X.K T W (relD X.K T) c G σ (fromN (F ds st.bx) st) Q) :
    spD X.K T n F vs H Q (fun _ _ _ => False) := by
  refine ⟨l, c.B, G, ds, st.bx, h.sub, h.box, r, ?_⟩
  revert ok
  cases F ds st.bx with
  | ok d b => exact fun ok G' H' v a r => ok G' H' v a.sG (h.after a) r
  | okF ds b =>
    intro ok G' H' p vs a hp g n r
    obtain ⟨G2, s2, h2, r2⟩ := (h.handed a hp g n r).close (h.after a)
    exact ok G2 H' (.ref p) (a.sG.trans s2) h2 r2
  | err e b => exact fun ok => ok.elim
  | stuck => exact fun ok => ok.elim
theorem de_prop {nm : Str} {c k j : Nat} {F : Fn} {e : Expr} {pos : Pos} {f : S → R D} (h : PropAt X.prog X.w X.K X.mg X.base T c nm k F) (hr : Room j X.A) (hj : k + 1 ≤ j) (he : DE X T W e f) (hb : attributeBase e nm X.env (eval e X.env) = eval e X.env := by rfl) :
    DE X T W (.Attribute e nm pos) (dProp c F f) := by
  obtain ⟨p, g, fd, hp, ok, bn⟩ := h.ex
  refine impE (pe_prop (dvs := []) (ds := []) he h.cls hp ok (hr.mono hj) bn .nil never_passes hb) fun σ H Q ⟨c0, G, st, hd, ok⟩ => ?_
  obtain ⟨c1, G1, st1, hd1, ok1⟩ := step (rel := relD X.K T) hd ok
  refine ⟨c1, G1, st1, hd1, ok1.imp fun x H1 ⟨G2, st2, d, s2, hd2, r2, ok2⟩ => ?_⟩
  cases r2 with
  | @ob a dx c' vs fs h1 hl r =>
    replace ok2 : GOk X.K T W (relD X.K T) c0 G2 σ (if c' = c then fromN (F [.ob c' fs] st2.bx) st2 else .stuck) Q := ok2
    by_cases ec : c' = c
    · rw [if_pos ec] at ok2
      subst ec
      exact ⟨a, dx, _, rfl, hd2.sub _ _ h1, spD_useN hd2 (.cons (.ob h1 hl r) .nil) rfl ok2⟩
    · rw [if_neg ec] at ok2; exact ok2.elim
  | _ => exact ok2.elim
end
end DL

/-! DLv: len of an object of an own class. -/
namespace DL
open PySem PySem.Spec PyProof.Rows L2
section
variable {X : Cx} {T : Tab} {W : WX}
theorem call_lenOb {C f : Addr} {fd : FuncData} {k : Nat} {sp : Sp} {σ0 : SV} (F : FnOk X.prog X.w X.K X.mg X.base (L2.CX X.prog X.w) k f fd [("self" : Str)] sp) (hs : PySem.W.findIn X.K (.ref C) "__len__" = some (some (.ref f))) (hf : PySem.W.isFn X.K (.ref f) = true) (hb : Binds X.K fd [("self" : Str)] []) (hr : Room (k + 1) X.A) :
    CallR X (.builtin "len") (fun xs H Q => ∃ a dx fs, xs = [.ref a] ∧ H a = some (.ins C dx fs) ∧ sp [.ref a] H (fun v H2 => ∃ n : Int, v = .int n ∧ 0 ≤ n ∧ n < 2 ^ 63 ∧ Q (.int n) H2) (fun _ _ _ => False)) := by
  intro pins s σ H xs us Q I r h
  obtain ⟨a, dx, fs, rfl, ha, hsp⟩ := h
  rw [Vals.ref1 r]
  obtain ⟨mA, J, _⟩ := ins_get I.hok ha
  obtain ⟨od, J, _⟩ := J.look
  obtain ⟨m, hF⟩ := I.fr
  have l := F.len _ _ _ _ hsp
  refine PySem.W.len_K hF I.ok.mod.kin J hs hf (wpAny_call (codeAny_mono (F.run X.A.in1 X.stack s H ⟨[.ref a], []⟩ [.ref a] [.ref a] _ _ hr.in1 I.env0.in1 (by simpa using hb s [.ref a] I.kIn rfl) (.cons rfl .nil) hsp) fun res s2 z => ?_))
  cases res with
  | error er => exact (never_passes (X := X) pins σ H s er s2 (I.wish _) z).elim
  | ok fl =>
    cases fl with
    | ret u =>
      obtain ⟨v, H2, I2, rv, n, ev, h0, h1, q⟩ := I.after z
      subst ev
      obtain ⟨t, rfl⟩ := rv
      exact ⟨⟨h0, h1⟩, .int n, H2, I2.tok _, ⟨_, rfl⟩, q⟩
    | next => exact False.elim z
    | brk => exact False.elim z
    | cont => exact False.elim z
/-- what may stand on the right -/
def RightOf (K : PySem.W.Frag) (C : Addr) (H : Hp) (y : V) : Prop := (∃ b dy gs, y = .ref b ∧ H b = some (.ins C dy gs)) ∨ (∃ b ys, y = .ref b ∧ SqT K H b ys) ∨ y = .non
theorem op_eqOb {C f : Addr} {fd : FuncData} {k : Nat} {sp : Sp} (F : FnOk X.prog X.w X.K X.mg X.base (L2.CX X.prog X.w) k f fd [("self" : Str), "other"] sp) (hs : PySem.W.findIn X.K (.ref C) "__eq__" = some (some (.ref f))) (hf : PySem.W.isFn X.K (.ref f) = true)
    (hb : Binds X.K fd [("self" : Str), "other"] []) (hr : Room k X.A) (n1 : PySem.W.notFirst X.K C (.type "tuple") = true) (n2 : PySem.W.notFirst X.K C (.type "NoneType") = true) :
    OpR X (compareOp .Eq) (fun x y H Q => ∃ a dx fs, x = .ref a ∧ H a = some (.ins C dx fs) ∧ RightOf X.K C H y ∧ sp [.ref a, y] H (fun v H2 => ∃ b : Bool, v = .bl b ∧ Q (.bl b) H2) (fun _ _ _ => False)) := by
  intro pins s σ H x y v u Q I rx ry h
  obtain ⟨a, dx, fs, rfl, ha, hy, hsp⟩ := h
  obtain rfl : v = Value.ref a := rx
  obtain ⟨mA, J, _⟩ := ins_get I.hok ha
  obtain ⟨od, J, _⟩ := J.look
  obtain ⟨m, hF⟩ := I.fr
  have l := F.len _ _ _ _ hsp
  have ty : ∃ tb, PySem.W.Looks (model X.prog X.w) s.heap (typeOf u) tb ∧ PySem.W.notFirst X.K C tb = true := by
    rcases hy with ⟨b, dy, gs, rfl, hb2⟩ | ⟨b, ys, rfl, hb2⟩ | rfl
    · obtain rfl : u = Value.ref b := ry
      obtain ⟨mB, J2, _⟩ := ins_get I.hok hb2
      obtain ⟨od2, J2, _⟩ := J2.look
      exact ⟨_, J2.type, by simp [PySem.W.notFirst]⟩
    · obtain rfl : u = Value.ref b := ry
      obtain ⟨its, r, ht, hz⟩ := I.tuple hb2
      obtain ⟨o, ho, hc, _⟩ := ht
      exact ⟨.type "tuple", fun A Q E s k z => wpAny_typeOf_ref (k _ _ ho) (by rw [hc]; exact z), n1⟩
    · obtain rfl : u = Value.none := ry
      exact ⟨.type "NoneType", PySem.W.Looks.of_pure rfl, n2⟩
  obtain ⟨tb, t1, t2⟩ := ty
  show wpAny (model X.prog X.w) X.A (richCompare .Eq (.ref a) u) (EP X pins σ Q) X.xe s
  refine PySem.W.cmp_K (op := .Eq) (tb := tb) hr.units0 hF I.ok.mod.kin J t1 t2 hs hf (wpAny_call (codeAny_mono (F.run X.A X.stack s H ⟨[.ref a, u], []⟩ [.ref a, u] [.ref a, y] _ _ hr I.env0 (by simpa using hb s [.ref a, u] I.kIn rfl) (.cons rfl (.cons ry .nil)) hsp) fun res s2 z => ?_))
  cases res with
  | error er => exact (never_passes (X := X) pins σ H s er s2 (I.wish _) z).elim
  | ok fl =>
    cases fl with
    | ret w =>
      obtain ⟨v2, H2, I2, rv, b, ev, q⟩ := I.after z
      subst ev
      obtain rfl : w = Value.bool b := rv
      exact ⟨.bl b, H2, I2, rfl, q⟩
    | next => exact False.elim z
    | brk => exact False.elim z
    | cont => exact False.elim z
/-- x + y, both of the class, by its own __add__ -/
theorem op_addOb {C f : Addr} {fd : FuncData} {k : Nat} {sp : Sp} (F : FnOk X.prog X.w X.K X.mg X.base (L2.CX X.prog X.w) k f fd [("self" : Str), "other"] sp) (hs : PySem.W.findIn X.K (.ref C) "__add__" = some (some (.ref f))) (hf : PySem.W.isFn X.K (.ref f) = true) (sf : PySem.W.selfFirst X.K C = true)
    (hb : Binds X.K fd [("self" : Str), "other"] []) (hr : Room k X.A) :
    OpR X (binaryOp .Add) (fun x y H Q => ∃ a dx fs b dy gs, x = .ref a ∧ H a = some (.ins C dx fs) ∧ y = .ref b ∧ H b = some (.ins C dy gs) ∧ sp [.ref a, .ref b] H (fun v H2 => ∃ z : Addr, v = .ref z ∧ Q (.ref z) H2) (fun _ _ _ => False)) := by
  intro pins s σ H x y v u Q I rx ry h
  obtain ⟨a, dx, fs, b, dy, gs, rfl, ha, rfl, hb2, hsp⟩ := h
  obtain rfl : v = Value.ref a := rx
  obtain rfl : u = Value.ref b := ry
  obtain ⟨mA, J, _⟩ := ins_get I.hok ha
  obtain ⟨od, J, _⟩ := J.look
  obtain ⟨mB, J2, _⟩ := ins_get I.hok hb2
  obtain ⟨od2, J2, _⟩ := J2.look
  obtain ⟨m, hF⟩ := I.fr
  have l := F.len _ _ _ _ hsp
  refine PySem.W.binop_K (op := .Add) hF I.ok.mod.kin J J2.type sf hs hf (wpAny_call (codeAny_mono (F.run X.A X.stack s H ⟨[.ref a, .ref b], []⟩ [.ref a, .ref b] [.ref a, .ref b] _ _ hr I.env0 (by simpa using hb s [.ref a, .ref b] I.kIn rfl) (.cons rfl (.cons rfl .nil)) hsp) fun res s2 z => ?_))
  cases res with
  | error er => exact (never_passes (X := X) pins σ H s er s2 (I.wish _) z).elim
  | ok fl =>
    cases fl with
    | ret w =>
      obtain ⟨v2, H2, I2, rv, t, ev, q⟩ := I.after z
      subst ev
      obtain rfl : w = Value.ref t := rv
      exact ⟨.ref t, H2, I2, rfl, q⟩
    | next => exact False.elim z
    | brk => exact False.elim z
    | cont => exact False.elim z
end
end DL

/-! DLw: len and == where an object of the own class may stand. -/
namespace DL
open PySem PySem.Spec PyProof.Rows L2
/-- a method of the class by what it tells -/
structure MethAt (P : Program) (w : World) (K : PySem.W.Frag) (mg : Str → Option Value) (base : Heap) (T : Tab) (c : Nat) (nm : Str) (ps : List Str) (n k : Nat) (F : Fn) : Prop where
  ex : ∃ (f : Addr) (fd : FuncData), FnOk P w K mg base (L2.CX P w) k f fd ps (spD K T n F) ∧ PySem.W.findIn K (.ref (T.C c)) nm = some (some (.ref f)) ∧ PySem.W.isFn K (.ref f) = true ∧ Binds K fd ps []
/-- it told a number that a len may be -/
def asLen : R D → R D
  | .ok (.int n) st => if 0 ≤ n ∧ n < 9223372036854775808 then .ok (.int n) st else .stuck
  | _ => .stuck
def asBool : R D → R D
  | .ok (.bl b) st => .ok (.bl b) st
  | _ => .stuck
def hLenO (c : Nat) (F : Fn) : List D → S → R D
  | [.ob c' fs], st => if c' = c then asLen (fromN (F [.ob c' fs] st.bx) st) else .stuck
  | xs, st => hLen xs st
def rightD (c : Nat) : D → Bool
  | .ob c' _ => c' == c
  | .tu _ => true
  | .non => true
  | _ => false
def hEqO (c : Nat) (F : Fn) : D → D → S → R D
  | .ob c' fs, y, st => if c' = c ∧ rightD c y = true then asBool (fromN (F [.ob c' fs, y] st.bx) st) else .stuck
  | x, y, st => toD (hEq x y st)
def asOb : R D → R D
  | .ok (.ob c fs) st => .ok (.ob c fs) st
  | _ => .stuck
def hAddO (c : Nat) (F : Fn) : D → D → S → R D
  | .ob c1 f1, y, st => match y with
    | .ob c2 f2 => if c1 = c ∧ c2 = c then asOb (fromN (F [.ob c1 f1, .ob c2 f2] st.bx) st) else .stuck
    | _ => .stuck
  | x, y, st => hAdd x y st
section
variable {X : Cx} {T : Tab} {W : WX}
theorem gok_len {c : Ctx} {G : Hp} {σ : SV} {r : R D} {Q : VK} (h : GOk X.K T W (relD X.K T) c G σ (asLen r) Q) : GOk X.K T W (relD X.K T) c G σ r (fun v H2 => ∃ n : Int, v = .int n ∧ 0 ≤ n ∧ n < 2 ^ 63 ∧ Q (.int n) H2) := by
  cases r with
  | stuck => exact h
  | err e s => exact h.elim
  | ok d s =>
    cases d with
    | int n =>
      replace h : GOk X.K T W (relD X.K T) c G σ (if 0 ≤ n ∧ n < 9223372036854775808 then .ok (.int n) s else .stuck) Q := h
      by_cases z : 0 ≤ n ∧ n < 9223372036854775808
      · rw [if_pos z] at h
        intro G' H' v s1 hd rv
        cases rv
        exact ⟨n, rfl, z.1, by omega, h G' H' _ s1 hd (.int n)⟩
      · rw [if_neg z] at h; exact h.elim
    | _ => exact h.elim
theorem gok_bool {c : Ctx} {G : Hp} {σ : SV} {r : R D} {Q : VK} (h : GOk X.K T W (relD X.K T) c G σ (asBool r) Q) : GOk X.K T W (relD X.K T) c G σ r (fun v H2 => ∃ b : Bool, v = .bl b ∧ Q (.bl b) H2) := by
  cases r with
  | stuck => exact h
  | err e s => exact h.elim
  | ok d s =>
    cases d with
    | bl b =>
      intro G' H' v s1 hd rv
      cases rv
      exact ⟨b, rfl, h G' H' _ s1 hd (.bl b)⟩
    | _ => exact h.elim
theorem de_lenO {c k j : Nat} {F : Fn} {p pos : Pos} {e : Expr} {fa : S → R (List D)} (m : MethAt X.prog X.w X.K X.mg X.base T c "__len__" [("self" : Str)] 1 k F) (hr : Room j X.A) (hj : k + 1 ≤ j) (hg : Gl X "len") (hm : X.mg "len" = none) (ha : DA X T W [e] fa) (he : starEach [e] X.env = (false, eval e X.env) :: starEach [] X.env := by rfl) :
    DE X T W (.Call (.Name "len" p) [e] [] pos) (dCB (hLenO c F) fa) := by
  obtain ⟨f, fd, ok, hs, hf, bn⟩ := m.ex
  refine de_callB ((call_len_seq.or call_len_str).or (call_lenOb (σ0 := []) ok hs hf bn (hr.mono hj))) (fun c0 G H σ st vs ds Q hd r q => ?_) hg hm PySem.boot_len ha (he := he)
  cases r with
  | nil => exact .inl (snd_len c0 G H σ st _ _ Q hd .nil q)
  | cons r1 r =>
    cases r with
    | cons r2 r => cases r1 <;> exact q.elim
    | nil =>
      cases r1 with
      | @ob a dx c' us fs h1 hl rr =>
        replace q : GOk X.K T W (relD X.K T) c0 G σ (if c' = c then asLen (fromN (F [.ob c' fs] st.bx) st) else .stuck) Q := q
        by_cases ec : c' = c
        · rw [if_pos ec] at q
          subst ec
          exact .inr ⟨a, dx, _, rfl, hd.sub _ _ h1, spD_useN hd (.cons (.ob h1 hl rr) .nil) rfl (gok_len q)⟩
        · rw [if_neg ec] at q; exact q.elim
      | non => exact .inl (snd_len c0 G H σ st _ _ Q hd (.cons .non .nil) q)
      | bl b => exact .inl (snd_len c0 G H σ st _ _ Q hd (.cons (.bl b) .nil) q)
      | int i => exact .inl (snd_len c0 G H σ st _ _ Q hd (.cons (.int i) .nil) q)
      | str x => exact .inl (snd_len c0 G H σ st _ _ Q hd (.cons (.str x) .nil) q)
      | ls h r => exact .inl (snd_len c0 G H σ st _ _ Q hd (.cons (.ls h r) .nil) q)
      | tu h r => exact .inl (snd_len c0 G H σ st _ _ Q hd (.cons (.tu h r) .nil) q)
      | ro h => exact .inl (snd_len c0 G H σ st _ _ Q hd (.cons (.ro h) .nil) q)
      | box h => exact .inl (snd_len c0 G H σ st _ _ Q hd (.cons (.box h) .nil) q)
      | er0 h n => exact .inl (snd_len c0 G H σ st _ _ Q hd (.cons (.er0 h n) .nil) q)
      | er1 h n d r => exact .inl (snd_len c0 G H σ st _ _ Q hd (.cons (.er1 h n d r) .nil) q)
theorem snd_eqO {c k j : Nat} {F : Fn} (m : MethAt X.prog X.w X.K X.mg X.base T c "__eq__" [("self" : Str), "other"] 2 k F) (n1 : PySem.W.notFirst X.K (T.C c) (.type "tuple") = true) (n2 : PySem.W.notFirst X.K (T.C c) (.type "NoneType") = true) (hr : Room j X.A) (hj : k ≤ j) (hu : X.A.units + 64 < cLine) :
    ∃ r : R2, OpR X (compareOp .Eq) r ∧ Snd2 X T W r (hEqO c F) := by
  obtain ⟨f, fd, ok, hs, hf, bn⟩ := m.ex
  refine ⟨_, (op_eqD hu).or (op_eqOb ok hs hf bn (hr.mono hj) n1 n2), fun c0 G H σ st x y a b Q hd r1 r2 q => ?_⟩
  cases r1 with
  | @ob p dx c' us fs h1 hl rr =>
    replace q : GOk X.K T W (relD X.K T) c0 G σ (if c' = c ∧ rightD c b = true then asBool (fromN (F [.ob c' fs, b] st.bx) st) else .stuck) Q := q
    by_cases ec : c' = c ∧ rightD c b = true
    · rw [if_pos ec] at q
      obtain ⟨e1, e2⟩ := ec
      subst e1
      refine .inr ⟨p, dx, _, rfl, hd.sub _ _ h1, ?_, spD_useN hd (.cons (.ob h1 hl rr) (.cons r2 .nil)) rfl (gok_bool q)⟩
      cases r2 with
      | @ob p2 dx2 c2 us2 fs2 h2 hl2 rr2 =>
        have : c2 = c' := by simpa [rightD] using e2
        subst this
        exact .inl ⟨p2, dx2, _, rfl, hd.sub _ _ h2⟩
      | @tu p2 xs ds h r => exact .inr (.inl ⟨p2, xs, rfl, Same.sqt hd.sub h⟩)
      | non => exact .inr (.inr rfl)
      | _ => exact absurd e2 (by simp [rightD])
    · rw [if_neg ec] at q; exact q.elim
  | non => exact .inl (snd_eq hu c0 G H σ st _ _ _ _ Q hd .non r2 q)
  | bl k => exact .inl (snd_eq hu c0 G H σ st _ _ _ _ Q hd (.bl k) r2 q)
  | int i => exact .inl (snd_eq hu c0 G H σ st _ _ _ _ Q hd (.int i) r2 q)
  | str z => exact .inl (snd_eq hu c0 G H σ st _ _ _ _ Q hd (.str z) r2 q)
  | ls h r => exact .inl (snd_eq hu c0 G H σ st _ _ _ _ Q hd (.ls h r) r2 q)
  | tu h r => exact .inl (snd_eq hu c0 G H σ st _ _ _ _ Q hd (.tu h r) r2 q)
  | ro h => exact .inl (snd_eq hu c0 G H σ st _ _ _ _ Q hd (.ro h) r2 q)
  | box h => exact .inl (snd_eq hu c0 G H σ st _ _ _ _ Q hd (.box h) r2 q)
  | er0 h n => exact .inl (snd_eq hu c0 G H σ st _ _ _ _ Q hd (.er0 h n) r2 q)
  | er1 h n d r => exact .inl (snd_eq hu c0 G H σ st _ _ _ _ Q hd (.er1 h n d r) r2 q)
theorem de_eqO {c k j : Nat} {F : Fn} {a b : Expr} {fa fb : S → R D} {pos : Pos} (m : MethAt X.prog X.w X.K X.mg X.base T c "__eq__" [("self" : Str), "other"] 2 k F) (n1 : PySem.W.notFirst X.K (T.C c) (.type "tuple") = true) (n2 : PySem.W.notFirst X.K (T.C c) (.type "NoneType") = true) (hr : Room j X.A) (hj : k ≤ j)
    (ha : DE X T W a fa) (hb : DE X T W b fb) : DE X T W (.Compare a [.Eq] [b] pos) (dBin (hEqO c F) fa fb) := by
  obtain ⟨r, o, sd⟩ := snd_eqO (W := W) m n1 n2 hr hj hr.units
  exact impE (pe_cmpR o ha hb (nomark _)) (bin_read (a := a) (b := b) sd)
theorem gok_ob {c : Ctx} {G : Hp} {σ : SV} {r : R D} {Q : VK} (h : GOk X.K T W (relD X.K T) c G σ (asOb r) Q) : GOk X.K T W (relD X.K T) c G σ r (fun v H2 => ∃ z : Addr, v = .ref z ∧ Q (.ref z) H2) := by
  cases r with
  | stuck => exact h
  | err e s => exact h.elim
  | ok d s =>
    cases d with
    | ob k fs =>
      intro G' H' v s1 hd rv
      cases rv with
      | ob h1 hl rr => exact ⟨_, rfl, h G' H' _ s1 hd (.ob h1 hl rr)⟩
    | _ => exact h.elim
theorem de_addO {c k j : Nat} {F : Fn} {a b : Expr} {fa fb : S → R D} {pos : Pos} (m : MethAt X.prog X.w X.K X.mg X.base T c "__add__" [("self" : Str), "other"] 2 k F) (sf : PySem.W.selfFirst X.K (T.C c) = true) (hr : Room j X.A) (hj : k ≤ j)
    (ha : DE X T W a fa) (hb : DE X T W b fb) : DE X T W (.BinOp a .Add b pos) (dBin (hAddO c F) fa fb) := by
  obtain ⟨f, fd, ok, hs, hf, bn⟩ := m.ex
  obtain ⟨r, o, sd⟩ := add_rule (X := X) (T := T) (W := W)
  refine de_bin (o.or (op_addOb ok hs hf sf bn (hr.mono hj))) (fun c0 G H σ st x y a b Q hd r1 r2 q => ?_) ha hb
  cases r1 with
  | @ob p dx c1 us fs h1 hl rr =>
    cases r2 with
    | @ob p2 dx2 c2 us2 fs2 h2 hl2 rr2 =>
      replace q : GOk X.K T W (relD X.K T) c0 G σ (if c1 = c ∧ c2 = c then asOb (fromN (F [.ob c1 fs, .ob c2 fs2] st.bx) st) else .stuck) Q := q
      by_cases ec : c1 = c ∧ c2 = c
      · rw [if_pos ec] at q
        obtain ⟨e1, e2⟩ := ec
        subst e1 e2
        exact .inr ⟨p, dx, _, p2, dx2, _, rfl, hd.sub _ _ h1, rfl, hd.sub _ _ h2, spD_useN hd (.cons (.ob h1 hl rr) (.cons (.ob h2 hl2 rr2) .nil)) rfl (gok_ob q)⟩
      · rw [if_neg ec] at q; exact q.elim
    | _ => exact q.elim
  | non => exact .inl (sd c0 G H σ st _ _ _ _ Q hd .non r2 q)
  | bl k => exact .inl (sd c0 G H σ st _ _ _ _ Q hd (.bl k) r2 q)
  | int i => exact .inl (sd c0 G H σ st _ _ _ _ Q hd (.int i) r2 q)
  | str z => exact .inl (sd c0 G H σ st _ _ _ _ Q hd (.str z) r2 q)
  | ls h r => exact .inl (sd c0 G H σ st _ _ _ _ Q hd (.ls h r) r2 q)
  | tu h r => exact .inl (sd c0 G H σ st _ _ _ _ Q hd (.tu h r) r2 q)
  | ro h => exact .inl (sd c0 G H σ st _ _ _ _ Q hd (.ro h) r2 q)
  | box h => exact .inl (sd c0 G H σ st _ _ _ _ Q hd (.box h) r2 q)
  | er0 h n => exact .inl (sd c0 G H σ st _ _ _ _ Q hd (.er0 h n) r2 q)
  | er1 h n d r => exact .inl (sd c0 G H σ st _ _ _ _ Q hd (.er1 h n d r) r2 q)
end
end DL

/-! DLx: isinstance of an own class that is no error. -/
namespace DL
open PySem PySem.Spec PyProof.Rows L2
structure IsO (K : PySem.W.Frag) (mg : Str → Option Value) (T : Tab) (c : Nat) (x : Str) : Prop where
  g : mg x = some (.ref (T.C c))
  own : PySem.W.kitOne K (.ref (T.C c)) (.ref (T.C c)) = some true
  cls : Cls K (T.C c)
  ha : PySem.W.findIn K (.ref (T.C c)) "__class__" = some (some (.builtin "object.__class__"))
  hn : PySem.W.specialIn K (.builtin "object.__class__") "__get__" = some (some (.builtin "getset_descriptor.__get__"))
  ht : PySem.W.takesIn K (.builtin "object.__class__") = some true
  hm : PySem.W.mroIn K (T.C c) (.type "object") = some true
  kinds : ∀ k, k < 6 → PySem.W.kitOne K (.type (tyName k)) (.ref (T.C c)) = some false
def hIsiO (c : Nat) (d : D) (st : S) : R D := match d with
  | .ob c' _ => if c' = c then .ok (.bl true) st else .stuck
  | d => match kindD d with
    | some _ => .ok (.bl false) st
    | none => .stuck
def dIsiO (c : Nat) (f : S → R D) : S → R D := fun st => (f st).bind fun d st => hIsiO c d st
section
variable {X : Cx} {T : Tab} {W : WX}
theorem isi_no {c : Nat} {x : Str} {c0 : Ctx} {G H : Hp} {σ : SV} {st : S} {v : V} {d : D} {Q : VK} (h : IsO X.K X.mg T c x) (hd : Holds X.K T c0 G H σ st) (r : Rep X.K T c0.B G v d) (nd : ∀ k fs, d ≠ .ob k fs) (ok : GOk X.K T W (relD X.K T) c0 G σ (hIsiO c d st) Q) :
    ∃ (t u : Value) (b : Bool), ClsV (.ref (T.C c)) u ∧ TyX X.K H v t ∧ PySem.W.kitOne X.K t u = some b ∧ Q (.bl b) H := by
  have ok2 : GOk X.K T W (relD X.K T) c0 G σ (match kindD d with | some _ => .ok (.bl false) st | none => .stuck) Q := by
    cases d with
    | ob k fs => exact absurd rfl (nd k fs)
    | _ => exact ok
  cases q : kindD d with
  | none => rw [q] at ok2; exact ok2.elim
  | some k =>
    rw [q] at ok2
    exact ⟨_, _, false, .own _, kindD_ty hd r q, h.kinds k (kindD_lt q), ok2 _ _ _ (Same.refl _) hd (.bl _)⟩
theorem de_isO {c : Nat} {x : Str} {e : Expr} {f : S → R D} {p p2 pos : Pos} (h : IsO X.K X.mg T c x) (hg : Gl X "isinstance") (hm : X.mg "isinstance" = none) (he : DE X T W e f) (hgx : Gl X x := by rfl) (hdb : (x == ("__debug__" : Str)) = false := by decide)
    (h1 : starEach [e, .Name x p2] X.env = (false, eval e X.env) :: starEach [.Name x p2] X.env := by rfl) (h2 : starEach [.Name x p2] X.env = (false, eval (.Name x p2) X.env) :: starEach [] X.env := by rfl) (hpl : (backTo pos (starEach [.Name x p2] X.env)).any (·.1) = false := by rfl) :
    DE X T W (.Call (.Name "isinstance" p) [e, .Name x p2] [] pos) (dIsiO c f) :=
  impE (pe_callB call_isi hg hm boot_isi (pa_cons he (pa_cons (pe_glob (v := .ref (T.C c)) hgx h.g rfl hdb) pa_nil h2) h1) (hpl := hpl) (he := h1)) fun σ H Q ⟨c0, G, st, hd, ok⟩ => by
    obtain ⟨c1, G1, st1, hd1, ok1⟩ := step (rel := relD X.K T) hd ok
    refine ⟨c1, G1, st1, hd1, ok1.imp fun v H1 ⟨G2, st2, d, s2, hd2, r2, ok2⟩ => ?_⟩
    by_cases ob : ∃ k fs, d = .ob k fs
    · obtain ⟨k, fs, rfl⟩ := ob
      cases r2 with
      | @ob a dx c' vs fs h1 hl rr =>
        replace ok2 : GOk X.K T W (relD X.K T) c0 G2 σ (if k = c then .ok (.bl true) st2 else .stuck) Q := ok2
        by_cases ec : k = c
        · rw [if_pos ec] at ok2
          subst ec
          exact ⟨.ref a, .ref (T.C k), .ref (T.C k), _, true, rfl, .own _, .base (.ins (hd2.sub _ _ h1) h.cls h.ha h.hn h.ht h.hm), h.own, ok2 _ _ _ (Same.refl _) hd2 (.bl _)⟩
        · rw [if_neg ec] at ok2; exact ok2.elim
    · obtain ⟨t, u, b, hc, ty, hk, q⟩ := isi_no h hd2 r2 (fun k fs z => ob ⟨k, fs, z⟩) ok2
      exact ⟨v, .ref (T.C c), t, u, b, rfl, hc, ty, hk, q⟩
end
end DL

/-! DLy: != by an own __eq__. -/
namespace DL
open PySem PySem.Spec PyProof.Rows L2
section
variable {M : Model} {prog : Program} {w : World} {A : Around} {E : Value → Shared → Prop} {s : Shared} {K : PySem.W.Frag} {x C f : Addr} {ox : Obj} {od : Option Obj}
theorem ne_bound {args : List Value} {Q : Option Value → Shared → Prop} (X : K.In s.heap) (I : PySem.W.InstAt s.heap x ox C od) (hs : PySem.W.findIn K (.ref C) "__ne__" = some (some (.builtin "object.__ne__")))
    (h : wpAny M A (call (.builtin "object.__ne__") (.ref x :: args)) (fun v => Q (some v)) E s) : wpAny M A (callSpecialIfBound? (.ref x) "__ne__" args) Q E s := by
  have call2 : wpAny M A (call (.builtin "object.__ne__") ([.ref x] ++ args) >>= fun v => pure (some v)) Q E s := wpAny_bind (wpAny_mono h (fun _ _ z => wpAny_pure z) fun _ _ z => z)
  simp only [callSpecialIfBound?, bindSpecialIfBound?]
  refine wpAny_holding (wpAny_bind (wpAny_bind (wpAny_bind (I.type.here ((PySem.W.looks_findIn X hs).here (wpAny_bind (wpAny_askSetting (wpAny_ite ?_))))))))
  split
  · exact wpAny_bind (wpAny_of_eq (F.cmp_object.ne.bind _) (wpAny_pure (by exact call2)))
  · exact wpAny_tryCatch (wpAny_bind (wpAny_of_eq (F.cmp_object.ne.bind _) (wpAny_pure (by exact call2))))
theorem ne_call {b : Value} {Q : Value → Shared → Prop} (hu : A.in1.units < cLine) (X : K.In s.heap) (I : PySem.W.InstAt s.heap x ox C od) (hm : PySem.W.mroIn K C (.type "object") = some true) (hs : PySem.W.findIn K (.ref C) "__eq__" = some (some (.ref f))) (hf : PySem.W.isFn K (.ref f) = true)
    (h : wpAny (model prog w) A.in1 (call (.ref f) [.ref x, b]) (fun v s2 => ∃ r, v = .bool r ∧ Q (.bool (!r)) s2) E s) : wpAny (model prog w) A (call (.builtin "object.__ne__") [.ref x, b]) Q E s := by
  refine wpAny_call (codeAny_call_builtin F.cmp_object.ne.plain F.cmpEntry_ne (PySem.W.check_slot F.cmpKind_ne F.cmpSplit_ne (I.type.andThen (PySem.W.looks_mroIn X hm)) (F.cmpArgs_ne _ _) ?_))
  unfold Builtin.«object.__ne__»
  refine wpAny_bind (wpAny_pure ?_)
  refine wpAny_bind (wpAny_cRoomFor hu ?_)
  refine wpAny_bind (PySem.W.ifBound_K X I hs hf (wpAny_mono h (fun v s2 z => ?_) fun _ _ z => z))
  obtain ⟨r, rfl, z⟩ := z
  exact wpAny_bind (wpAny_truthy_bool (wpAny_pure z))
end
section
variable {X : Cx} {T : Tab} {W : WX}
/-- x != y by x's own __eq__ -/
theorem op_neOb {C f : Addr} {fd : FuncData} {k : Nat} {sp : Sp} (F : FnOk X.prog X.w X.K X.mg X.base (L2.CX X.prog X.w) k f fd [("self" : Str), "other"] sp) (hn : PySem.W.findIn X.K (.ref C) "__ne__" = some (some (.builtin "object.__ne__"))) (hm : PySem.W.mroIn X.K C (.type "object") = some true)
    (hs : PySem.W.findIn X.K (.ref C) "__eq__" = some (some (.ref f))) (hf : PySem.W.isFn X.K (.ref f) = true) (hb : Binds X.K fd [("self" : Str), "other"] []) (hr : Room (k + 1) X.A) (n1 : PySem.W.notFirst X.K C (.type "tuple") = true) (n2 : PySem.W.notFirst X.K C (.type "NoneType") = true) :
    OpR X (compareOp .NotEq) (fun x y H Q => ∃ a dx fs, x = .ref a ∧ H a = some (.ins C dx fs) ∧ RightOf X.K C H y ∧ sp [.ref a, y] H (fun v H2 => ∃ b : Bool, v = .bl b ∧ Q (.bl (!b)) H2) (fun _ _ _ => False)) := by
  intro pins s σ H x y v u Q I rx ry h
  obtain ⟨a, dx, fs, rfl, ha, hy, hsp⟩ := h
  obtain rfl : v = Value.ref a := rx
  obtain ⟨mA, J, _⟩ := ins_get I.hok ha
  obtain ⟨od, J, _⟩ := J.look
  have ty : ∃ tb, PySem.W.Looks (model X.prog X.w) s.heap (typeOf u) tb ∧ PySem.W.notFirst X.K C tb = true := by
    rcases hy with ⟨b, dy, gs, rfl, hb2⟩ | ⟨b, ys, rfl, hb2⟩ | rfl
    · obtain rfl : u = Value.ref b := ry
      obtain ⟨mB, J2, _⟩ := ins_get I.hok hb2
      obtain ⟨od2, J2, _⟩ := J2.look
      exact ⟨_, J2.type, by simp [PySem.W.notFirst]⟩
    · obtain rfl : u = Value.ref b := ry
      obtain ⟨its, r, ht, hz⟩ := I.tuple hb2
      obtain ⟨o, ho, hc, _⟩ := ht
      exact ⟨.type "tuple", fun A Q E s k z => wpAny_typeOf_ref (k _ _ ho) (by rw [hc]; exact z), n1⟩
    · obtain rfl : u = Value.none := ry
      exact ⟨.type "NoneType", PySem.W.Looks.of_pure rfl, n2⟩
  obtain ⟨tb, t1, t2⟩ := ty
  have l := F.len _ _ _ _ hsp
  have one : wpAny (model X.prog X.w) X.A (tryCompare (.ref a) "__ne__" u) (fun r s2 => ∃ w, r = some w ∧ EP X pins σ Q w s2) X.xe s := by
    unfold tryCompare
    refine wpAny_bind (ne_bound I.kIn J hn (ne_call (hr.in1.units0) I.kIn J hm hs hf (wpAny_call (codeAny_mono (F.run X.A.in1 X.stack s H ⟨[.ref a, u], []⟩ [.ref a, u] [.ref a, y] _ _ hr.in1 I.env0.in1 (by simpa using hb s [.ref a, u] I.kIn rfl) (.cons rfl (.cons ry .nil)) hsp) fun res s2 z => ?_))))
    cases res with
    | error er => exact (never_passes (X := X) pins σ H s er s2 (I.wish _) z).elim
    | ok fl =>
      cases fl with
      | ret w =>
        obtain ⟨v2, H2, I2, rv, b, ev, q⟩ := I.after z
        subst ev
        obtain rfl : w = Value.bool b := rv
        exact ⟨b, rfl, wpAny_pure ⟨_, rfl, .bl (!b), H2, I2, rfl, q⟩⟩
      | next => exact False.elim z
      | brk => exact False.elim z
      | cont => exact False.elim z
  show wpAny (model X.prog X.w) X.A (richCompare .NotEq (.ref a) u) (EP X pins σ Q) X.xe s
  unfold richCompare
  simp only [oneThing_ref]
  refine wpAny_holding (wpAny_bind (wpAny_cRoomFor (Nat.lt_of_le_of_lt (Nat.le_add_right _ _) hr.units) ?_))
  refine wpAny_bind (J.type.here (wpAny_bind (t1.here ?_)))
  split
  · rename_i q
    have e : PySem.W.subIn X.K tb (.ref C) = some false := by
      rcases Bool.or_eq_true_iff.mp t2 with e | e
      · rw [beq_iff_eq.mp e] at q; simp at q
      · exact beq_iff_eq.mp e
    refine wpAny_bind ((PySem.W.looks_subIn I.kIn e).here ?_)
    simp only [Bool.false_eq_true, if_false]
    refine wpAny_bind (wpAny_mono one (fun r s2 z => ?_) fun _ _ z => z)
    obtain ⟨w, rfl, z⟩ := z
    exact wpAny_pure z
  · refine wpAny_bind (wpAny_pure ?_)
    simp only [Bool.false_eq_true, if_false]
    refine wpAny_bind (wpAny_mono one (fun r s2 z => ?_) fun _ _ z => z)
    obtain ⟨w, rfl, z⟩ := z
    exact wpAny_pure z
end
end DL

/-! DLza: try with two suites that keep the error, each for its own class. -/
namespace DL
open PySem PySem.Spec PyProof.Rows L2
section
variable {X : Cx} {x n y z : Str} {c u : Value} {C0 : Addr} {i j : Nat} {body suite suite2 : List Stmt} {st0 st1 : Stmt} {np p1 p2 np2 p3 : Pos} {tb : WX → TS} {ts ts2 : Addr → Value → Option Addr → TS} {Wo : WX}
abbrev landsAll (X : Cx) (pins : List (Addr × Obj)) (D : Ends) (hs : List ExceptHandler) : Value → Shared → Prop := fun e sA =>
  wpAny (model X.prog X.w) X.A (noteFrame e X.env)
    (fun _ sB => wpAny (model X.prog X.w) X.A (setFlight e none)
      (fun _ sC => wpAny (model X.prog X.w) X.A (handleBy e X.env hs) (SP X pins D) X.xe sC) X.xe sB) X.xe sA
theorem ps_keep2 (stk : X.stack = X.env :: X.outer) (fr : X.env.frame = some X.env.locals) (hex : X.ex = []) (nd : X.N.Nodup) (hi : X.N[i]? = some n) (hl : X.env.kindOf n = some .local) (hc : Names X x c)
    (hj : X.N[j]? = some y) (hl2 : X.env.kindOf y = some .local) (hc2 : Names X z u) (tk : Takes X Wo)
    (hb : ∀ (W : WX) (pn : List (Addr × Obj)) (xe : Value → Shared → Prop), Takes (X.tr pn xe) W → PassesOwn (model X.prog X.w) X.A X.env xe → PSs (X.tr pn xe) body (tb W))
    (hk : ∀ (q : Addr) (oe : Obj) (cls : Value) (d : Option Addr) (pn : List (Addr × Obj)), Zc cls d oe → (∃ vs, oe.data = .fields vs) → PSs (X.suite q ((q, oe) :: pn)) (st0 :: suite) (ts q cls d))
    (hk2 : ∀ (q : Addr) (oe : Obj) (cls : Value) (d : Option Addr) (pn : List (Addr × Obj)), Zc cls d oe → (∃ vs, oe.data = .fields vs) → PSs (X.suite q ((q, oe) :: pn)) (st1 :: suite2) (ts2 q cls d)) :
    PS X (.Try body [.ExceptHandler (some (.Name x np)) (some n) (st0 :: suite) p2, .ExceptHandler (some (.Name z np2)) (some y) (st1 :: suite2) p3] [] [] p1)
      (fun D σ H => tb (wKeep X.K c i ts (wKeep X.K u j ts2 Wo D) D) D σ H) := by
  refine ⟨fun pins s σ H D I h => wpAny_Try_except ?_⟩
  have ok := I.ok
  have frA : X.A.frames = some (X.env :: X.outer) := by rw [ok.frames, stk]
  refine wpAny_mono ((hb (wKeep X.K c i ts (wKeep X.K u j ts2 Wo D) D) (X.pn ++ pins)
      (landsAll X pins D [.ExceptHandler (some (.Name x np)) (some n) (st0 :: suite) p2, .ExceptHandler (some (.Name z np2)) (some y) (st1 :: suite2) p3]) (fun v s2 err => ?_) PassesOwn.looking).run [] s σ H D (I.toTry _) h) (fun f s2 z => ?_) (fun _ _ z => z)
  · obtain ⟨q, B, sI, pn2, σ2, H2, cls, d, rfl, Jt, nb, up, sky, na, os, ag, C, yes, rfl, ey, hno, hyes⟩ := err
    have J : Inv X pins σ2 H2 sI := Jt.ofTry ok
    replace sky : Sky B (X.env :: X.outer) q (Zc (.ref C) d) X.env.locals s2.heap := by rw [← stk]; exact sky
    show wpAny (model X.prog X.w) X.A (noteFrame (.ref q) X.env) _ _ _
    refine Sky.land Zc.steady frA fr sky fun hA flA upA => ?_
    have JA : Inv X pins σ2 H2 { s2 with heap := hA } := J.landed nb flA.1 (up.trans upA) os ag
    obtain ⟨oA, vA, gA, zA, dA⟩ := flA.there
    have nf := no_frame flA.2.2.1 gA dA
    have nL : q ≠ X.env.locals := fun z => nf (List.mem_filterMap.mpr ⟨X.env, List.mem_cons_self, by rw [fr, z]⟩)
    have nF : q ∉ X.fs := fun hm => by
      obtain ⟨en, he, z⟩ := List.mem_filterMap.mp hm
      exact nf (List.mem_filterMap.mpr ⟨en, List.mem_cons_of_mem _ he, z⟩)
    have new : sI.heap.get? q = none := by
      cases z : sI.heap.get? q with
      | none => rfl
      | some o =>
        have z2 := nb q o z (by rw [stk]; exact nf)
        rw [flA.2.1] at z2; cases z2
    have SA := JA.suite gA dA na nL nF
    -- one handler; what is behind it
    have one : ∀ {x n : Str} {c : Value} {i : Nat} {st0 : Stmt} {suite : List Stmt} {np p2 : Pos} {ts : Addr → Value → Option Addr → TS} {Wn : WX} {yes : Bool} {rest : List ExceptHandler},
        X.N[i]? = some n → X.env.kindOf n = some .local → Names X x c →
        (∀ (q : Addr) (oe : Obj) (cls : Value) (d : Option Addr) (pn : List (Addr × Obj)), Zc cls d oe → (∃ vs, oe.data = .fields vs) → PSs (X.suite q ((q, oe) :: pn)) (st0 :: suite) (ts q cls d)) →
        PySem.W.exmOne X.K (.ref C) c = some yes →
        (yes = true → ∀ q, H2 q = none → ts q (.ref C) d { nx := fun σ1 H1 => D.nx (σ1.set i none) (upd H1 q (exV q C d)), rt := fun _ _ => False, bk := fun _ _ => False, ct := fun _ _ => False } (σ2.set i (some (.ref q))) H2) →
        (yes = false → wpAny (model X.prog X.w) X.A (handleBy (.ref q) X.env rest) (SP X pins D) X.xe { s2 with heap := hA }) →
        wpAny (model X.prog X.w) X.A (handleBy (.ref q) X.env (.ExceptHandler (some (.Name x np)) (some n) (st0 :: suite) p2 :: rest)) (SP X pins D) X.xe { s2 with heap := hA } := by
      intro x n c i st0 suite np p2 ts Wn yes rest hi hl hc hk ey hyes hrest
      have lo : Loc X.env.scope n := .inl hl
      refine wpAny_handleBy_cons (codeAny_handlers_test ?_) (by intro z; cases z)
      have ty : PySem.W.Looks (model X.prog X.w) hA (typeOf (.ref q)) (.ref C) := fun A Q E s k z => wpAny_typeOf_ref (k _ _ gA) (by rw [zA.1]; exact z)
      have mt := PySem.W.exm_one (M := model X.prog X.w) JA.kIn ty ey
      have named : ∀ {Q : Value → Shared → Prop} {E : Value → Shared → Prop}, Q c { s2 with heap := hA } → wpAny (model X.prog X.w) (X.A.mark (some (.ref q))) (eval (.Name x np) X.env) Q E { s2 with heap := hA } := fun {Q E} z => by
        obtain ⟨hg, hdb, hm | ⟨hm, hv, hnn⟩⟩ := hc
        · exact ld_glob (X := X.suite q ((q, oA) :: (X.pn ++ pins))) SA hg hm z hdb
        · exact ld_blt (X := X.suite q ((q, oA) :: (X.pn ++ pins))) SA hg hm hv z hnn hdb
      refine named (mt.here ?_)
      cases yes with
      | true =>
        refine codeAny_handlers_suite_as (HandSPX.lands_againZ flA fun hB flB upB => ?_)
        have JB : Inv X pins σ2 H2 { s2 with heap := hB } := J.landed nb flB.1 ((up.trans upA).trans upB) os ag
        obtain ⟨oB, vB, gB, zB, dB⟩ := flB.there
        refine store_ok (X := X.suite q ((q, oB) :: (X.pn ++ pins))) (v := .ref q) (JB.suite gB dB na nL nF) nd hi lo rfl (fun s5 S5 => ?_) (.inr hl)
        refine wpAny_mono ((hk q oB (.ref C) d (X.pn ++ pins) zB ⟨_, dB⟩).run [] s5 _ H2 _ S5 (hyes rfl q na)) (fun f s6 z => ?_) (fun _ _ z => False.elim z)
        cases f with
        | next =>
          obtain ⟨σ6, H6, S6, z⟩ := z
          exact kept ⟨_, _, J⟩ hex new S6 ok zB dB nd hi hl fun s7 J7 => ⟨_, _, J7, z⟩
        | brk => obtain ⟨_, _, _, z⟩ := z; exact z.elim
        | cont => obtain ⟨_, _, _, z⟩ := z; exact z.elim
        | ret u => obtain ⟨_, _, _, _, _, z⟩ := z; exact z.elim
      | false => exact hrest rfl
    refine one (Wn := Wo) hi hl hc hk ey hyes fun no => ?_
    obtain ⟨C', yes2, e2, ey2, hno2, hyes2⟩ := hno no
    cases e2
    refine one (Wn := Wo) hj hl2 hc2 hk2 ey2 hyes2 fun no2 => ?_
    refine wpAny_handleBy_nil ?_
    obtain ⟨_, _, _, oe, vs, tb1, _, _, g1, _, d1, at1, _⟩ := id flA
    unfold PySem.passOn
    refine wpAny_bind (wpAny_field g1 d1 at1 ?_)
    rw [if_neg (show ¬ ((Value.ref tb1 == Value.none) = true) from by simp)]
    have onward : wpAny (model X.prog X.w) X.A (setFlight (.ref q) X.env.frame) (fun _ s4 => wpAny (model X.prog X.w) X.A (throw (.ref q) : Sem Flow) (SP X pins D) X.xe s4) X.xe { s2 with heap := hA } := by
      rw [fr]
      exact HandSPX.setFlight_upZ flA fun hC heldC upC => wpAny_throw (tk _ _ ⟨q, B, sI, pins, σ2, H2, .ref C, d, rfl, J, nb, (up.trans upA).trans upC, .inr (.inr (by rw [stk]; exact heldC)), na, os, ag, hno2 no2⟩)
    first
      | exact wpAny_bind (wpAny_pure (wpAny_bind onward))
      | exact wpAny_bind onward
  · cases f with
    | next => obtain ⟨σ2, H2, J, z⟩ := z; exact wpAny_execs_nil ⟨σ2, H2, J.ofTry ok, z⟩
    | brk => obtain ⟨σ2, H2, J, z⟩ := z; exact ⟨σ2, H2, J.ofTry ok, z⟩
    | cont => obtain ⟨σ2, H2, J, z⟩ := z; exact ⟨σ2, H2, J.ofTry ok, z⟩
    | ret u => obtain ⟨v, σ2, H2, J, r, z⟩ := z; exact ⟨v, σ2, H2, J.ofTry ok, r, z⟩
end
section
variable {X : Cx} {T : Tab} {W : WX}
/-- one suite's wish, from what is wished of the whole: said of the error as data -/
theorem keep_wish {K : PySem.W.Frag} {c : Ctx} {G G1 H1 : Hp} {σ1 : SV} {st1 : S} {e : Er} {d : Option Addr} {u : Value} {m iy iN : Nat} {tbl : Nat → Bool} {E : Ends} {Wo : WX}
    (xt : XTab K T m u tbl) (ne : iy ≠ iN) (lt : e.c < m ∧ iN < st1.env.length) (s1 : Same G G1) (hd1 : Holds K T c G1 H1 σ1 st1) (er : ErrAt K T c.B G1 H1 e (.ref (T.C e.c)) d)
    (hno : tbl e.c = false → Wo (.ref (T.C e.c)) d σ1 H1)
    (hyes : tbl e.c = true → ∀ G' H' σ', Same G G' → Holds K T c G' H' σ' ((st1.put iy (.val (.er e.c e.fs))).put iN .un) → E.nx σ' H') :
    wKeep K u iN (fun _ _ _ => tAsg (tVar iN) (gName iy)) Wo E (.ref (T.C e.c)) d σ1 H1 := by
  refine ⟨_, tbl e.c, rfl, xt.t _ lt.1, hno, fun yes q hq => ?_⟩
  have gn := hd1.gnone hq
  obtain ⟨_, rp⟩ := rep_of_err (c := c) er gn
  have hd2 := hd1.lay (exV q (T.C e.c) d) hq
  have hd3 := (hd2.putVal rp iy).putUn iN none
  have li : iN < σ1.length := by rw [hd1.len]; exact lt.2
  refine ⟨.ref q, List.getElem?_set_self li, ?_⟩
  show E.nx (((σ1.set iN (some (.ref q))).set iy (some (.ref q))).set iN none) _
  rw [List.set_comm _ _ (Ne.symm ne), List.set_set]
  exact hyes yes _ _ _ (s1.trans (same_upd gn)) hd3
theorem ds_keep2At {x n y x2 n2 y2 : Str} {m iy iN iy2 iN2 : Nat} {tbl tbl2 : Nat → Bool} {body : List Stmt} {f : S → R Out} {np p1 p2 py pn p3 np2 q2 py2 pn2 q3 : Pos}
    (h : XAt X.K X.mg T m x tbl) (h2 : XAt X.K X.mg T m x2 tbl2) (stk : X.stack = X.env :: X.outer) (fr : X.env.frame = some X.env.locals) (hex : X.ex = []) (nd : X.N.Nodup)
    (hi : X.N[iN]? = some n) (hl : X.env.kindOf n = some .local) (hi2 : X.N[iN2]? = some n2) (hl2 : X.env.kindOf n2 = some .local) (tk : Takes X W)
    (hb : ∀ (W : WX) (pn : List (Addr × Obj)) (xe : Value → Shared → Prop), Takes (X.tr pn xe) W → PassesOwn (model X.prog X.w) X.A X.env xe → DSs (X.tr pn xe) T W body f)
    (hiy : X.N[iy]? = some y) (hly : Loc X.env.scope y) (ne : iy ≠ iN) (hv : Vis X.env.scope n)
    (hiy2 : X.N[iy2]? = some y2) (hly2 : Loc X.env.scope y2) (ne2 : iy2 ≠ iN2) (hv2 : Vis X.env.scope n2)
    (hg : Gl X x := by rfl) (hdb : (x == ("__debug__" : Str)) = false := by decide) (hg2 : Gl X x2 := by rfl) (hdb2 : (x2 == ("__debug__" : Str)) = false := by decide)
    (hd : (n == ("__debug__" : Str)) = false := by decide) (hcd : (n == ("__classdict__" : Str)) = false := by decide) (hd2 : (n2 == ("__debug__" : Str)) = false := by decide) (hcd2 : (n2 == ("__classdict__" : Str)) = false := by decide)
    (hsw : swapsWith (.Name n pn) (some (.Name y py)) p3.line X.env = pure false := by rfl) (hf : X.fn y = true ∨ X.env.scope.names.lookup y = some .local := by first | exact .inl rfl | exact .inr rfl | assumption)
    (hsw2 : swapsWith (.Name n2 pn2) (some (.Name y2 py2)) q3.line X.env = pure false := by rfl) (hf2 : X.fn y2 = true ∨ X.env.scope.names.lookup y2 = some .local := by first | exact .inl rfl | exact .inr rfl | assumption) :
    DS X T W (.Try body [.ExceptHandler (some (.Name x np)) (some n) [.Assign [.Name y py] (.Name n pn) p3] p2, .ExceptHandler (some (.Name x2 np2)) (some n2) [.Assign [.Name y2 py2] (.Name n2 pn2) q3] q2] [] [] p1)
      (dTry tbl2 m iy2 iN2 (dTry tbl m iy iN f)) := by
  obtain ⟨a, ga, ta⟩ := h.ex
  obtain ⟨b, gb, t2⟩ := h2.ex
  refine impS (ps_keep2 (c := .ref a) (u := .ref b) (i := iN) (j := iN2) (Wo := W) (tb := fun W => tD X.K T W f) (ts := fun _ _ _ => tAsg (tVar iN) (gName iy)) (ts2 := fun _ _ _ => tAsg (tVar iN2) (gName iy2)) stk fr hex nd hi hl ⟨hg, hdb, .inl ga⟩ hi2 hl2 ⟨hg2, hdb2, .inl gb⟩ tk hb
    (fun q oe cls d pn _ _ => pss_one (ps_set (X := X.suite q ((q, oe) :: pn)) nd hiy hly (pe_var (X := X.suite q ((q, oe) :: pn)) hi hv hd hcd) hsw hf))
    (fun q oe cls d pn _ _ => pss_one (ps_set (X := X.suite q ((q, oe) :: pn)) nd hiy2 hly2 (pe_var (X := X.suite q ((q, oe) :: pn)) hi2 hv2 hd2 hcd2) hsw2 hf2))) fun E σ H ⟨c, G, st, h, ok⟩ => ⟨c, G, st, h, ?_⟩
  have e2 : dTry tbl2 m iy2 iN2 (dTry tbl m iy iN f) st = match dTry tbl m iy iN f st with
    | .err e st1 => if e.c < m ∧ iN2 < st1.env.length then (if tbl2 e.c = true then .ok .nx ((st1.put iy2 (.val (.er e.c e.fs))).put iN2 .un) else .err e st1) else .stuck
    | .ok o st1 => .ok o st1
    | .stuck => .stuck := rfl
  rw [e2] at ok
  have e1 : dTry tbl m iy iN f st = match f st with
    | .err e st1 => if e.c < m ∧ iN < st1.env.length then (if tbl e.c = true then .ok .nx ((st1.put iy (.val (.er e.c e.fs))).put iN .un) else .err e st1) else .stuck
    | .ok o st1 => .ok o st1
    | .stuck => .stuck := rfl
  rw [e1] at ok
  cases z : f st with
  | stuck => rw [z] at ok; exact ok
  | ok o st1 => rw [z] at ok; cases o <;> exact ok
  | err e st1 =>
    rw [z] at ok
    dsimp only at ok
    intro G1 H1 σ1 cls d s1 hd1 er
    by_cases lt : e.c < m ∧ iN < st1.env.length
    · rw [if_pos lt] at ok
      obtain ⟨ec, rest⟩ := id er
      subst ec
      refine keep_wish ta ne lt s1 hd1 er (fun no => ?_) (fun yes => ?_)
      · rw [no, if_neg Bool.false_ne_true] at ok
        dsimp only at ok
        by_cases lt2 : e.c < m ∧ iN2 < st1.env.length
        · rw [if_pos lt2] at ok
          refine keep_wish t2 ne2 lt2 s1 hd1 er (fun no2 => ?_) (fun yes2 => ?_)
          · rw [no2, if_neg Bool.false_ne_true] at ok
            exact ok G1 H1 σ1 _ d s1 hd1 er
          · rw [yes2, if_pos rfl] at ok
            exact fun G' H' σ' s' h' => ok _ _ _ s' h'
        · rw [if_neg lt2] at ok; exact ok.elim
      · rw [yes, if_pos rfl] at ok
        exact fun G' H' σ' s' h' => ok _ _ _ s' h'
    · rw [if_neg lt] at ok
      exact ok.elim
end
end DL

/-! DLzb: sorted(texts), of a list or a tuple; len(set(texts)), of a tuple. -/
namespace DL
open PySem PySem.Spec PyProof.Rows L2
/-! ### in order by code points -/
def leS (a b : Str) : Bool := !ltCps b.cps.toList a.cps.toList
def insS (x : Str) : List Str → List Str
  | [] => [x]
  | y :: ys => if leS x y = true then x :: y :: ys else y :: insS x ys
def sortS : List Str → List Str
  | [] => []
  | x :: xs => insS x (sortS xs)
theorem leS_iff (a b : Str) : leS a b = true ↔ a.cps.toList ≤ b.cps.toList := by
  unfold leS
  rw [ltCps_eq, Bool.not_eq_true', decide_eq_false_iff_not, List.not_lt]
theorem leS_total (a b : Str) : leS a b = true ∨ leS b a = true := by
  rw [leS_iff, leS_iff]; exact List.le_total ..
theorem leS_trans {a b c : Str} (h : leS a b = true) (k : leS b c = true) : leS a c = true := by
  rw [leS_iff] at *; exact List.le_trans h k
theorem leS_anti {a b : Str} (h : leS a b = true) (k : leS b a = true) : a = b := by
  rw [leS_iff] at *
  have e := List.le_antisymm h k
  cases a; cases b
  simpa using congrArg List.toArray e
theorem leS_refl (a : Str) : leS a a = true := (leS_total a a).elim id id
theorem insS_perm (x : Str) : ∀ ys, (insS x ys).Perm (x :: ys)
  | [] => .refl _
  | y :: ys => by
    unfold insS
    split
    · exact .refl _
    · exact ((insS_perm x ys).cons y).trans (.swap x y ys)
theorem sortS_perm : ∀ xs, (sortS xs).Perm xs
  | [] => .refl _
  | x :: xs => (insS_perm x _).trans ((sortS_perm xs).cons x)
def RiseS (xs : List Str) : Prop := xs.Pairwise fun a b => leS a b = true
theorem insS_rise (x : Str) : ∀ {ys}, RiseS ys → RiseS (insS x ys)
  | [], _ => List.pairwise_singleton _ _
  | y :: ys, h => by
    obtain ⟨h1, h2⟩ := List.pairwise_cons.mp h
    unfold insS
    split
    · rename_i q
      exact List.pairwise_cons.mpr ⟨fun z hz => by
        rcases List.mem_cons.mp hz with e | e
        · rw [e]; exact q
        · exact leS_trans q (h1 z e), h⟩
    · rename_i q
      refine List.pairwise_cons.mpr ⟨fun z hz => ?_, insS_rise x h2⟩
      rcases List.mem_cons.mp ((insS_perm x ys).mem_iff.mp hz) with e | e
      · rw [e]; exact (leS_total x y).elim (fun r => absurd r q) id
      · exact h1 z e
theorem sortS_rise : ∀ xs, RiseS (sortS xs)
  | [] => .nil
  | x :: xs => insS_rise x (sortS_rise xs)
theorem rise_unique : ∀ {xs ys : List Str}, xs.Perm ys → RiseS xs → RiseS ys → xs = ys
  | [], ys, p, _, _ => (List.Perm.nil_eq p)
  | x :: xs, [], p, _, _ => (List.Perm.eq_nil p)
  | x :: xs, y :: ys, p, h, k => by
    obtain ⟨h1, h2⟩ := List.pairwise_cons.mp h
    obtain ⟨k1, k2⟩ := List.pairwise_cons.mp k
    have e : x = y := by
      have a : leS x y = true := by
        rcases List.mem_cons.mp (p.mem_iff.mpr (List.mem_cons_self (a := y) (l := ys))) with e | e
        · rw [e]; exact leS_refl _
        · exact h1 y e
      have b : leS y x = true := by
        rcases List.mem_cons.mp (p.mem_iff.mp (List.mem_cons_self (a := x) (l := xs))) with e | e
        · rw [e]; exact leS_refl _
        · exact k1 x e
      exact leS_anti a b
    subst e
    rw [rise_unique (List.Perm.cons_inv p) h2 k2]
theorem rising_pair : ∀ {xs : List Str} {p : Str}, risingS p xs = true → RiseS (p :: xs)
  | [], p, _ => List.pairwise_singleton _ _
  | x :: xs, p, h => by
    obtain ⟨h1, h2⟩ := Bool.and_eq_true_iff.mp (show (leS p x && risingS x xs) = true from h)
    have r := rising_pair h2
    refine List.pairwise_cons.mpr ⟨fun z hz => ?_, r⟩
    rcases List.mem_cons.mp hz with e | e
    · rw [e]; exact h1
    · exact leS_trans h1 ((List.pairwise_cons.mp r).1 z e)
theorem rise_of : ∀ {xs : List Str}, sortedS xs = true → RiseS xs
  | [], _ => .nil
  | _ :: _, h => rising_pair h
theorem sortS_is {xs ys : List Str} (p : ys.Perm xs) (h : sortedS ys = true) : ys = sortS xs := rise_unique (p.trans (sortS_perm xs).symm) (rise_of h) (sortS_rise xs)

/-! ### sorted(t) of a tuple of texts -/
section
variable {P : Program} {w : World} {A : Around} {E : Value → Shared → Prop} {s : Shared}
theorem call_sortTS {l : Addr} {items : Array Value} {xs : List Str} {Q : Value → Shared → Prop} (hl : s.heap.IsTuple l items) (hS : StrsAre items.toList xs) (h64 : items.toList.length < 64)
    (h : ∀ (h' : Heap) (p : Addr) (out : Array Value) (k : Nat) (ys : List Str), (∀ b o, s.heap.get? b = some o → h'.get? b = some o) → s.heap.get? p = none → h'.get? p = some (seqObj "list" out k) → StrsAre out.toList ys → ys.Perm xs → sortedS ys = true → Q (.ref p) { s with heap := h' }) :
    wpAny (model P w) A (call (.builtin "sorted") [.ref l]) Q E s := by
  obtain ⟨o, ho, hc, n, hd⟩ := hl
  refine Calls.call_function_entry kind_sorted plain_sorted entry_sorted (args_sorted1 _) (show wpAny _ _ (Builtin.«sorted» _) _ _ _ from ?_)
  unfold Builtin.«sorted»
  refine wpAny_bind (m := checkCount "sorted" 1 1 _) (wpAny_pure (wpAny_bind (wpAny_collect_seq l (.inr rfl) ho hc hd (fun h1 k1 => ?_) ?_)))
  · refine wpAny_bind (wpAny_newList ?_ (by rw [sizeLine_eq]; omega))
    have here : (h1.push (seqObj "list" items.toList.toArray 0)).get? h1.objs.size = some (seqObj "list" items.toList.toArray 0) := Heap.get?_push_size _ rfl
    have up : s.heap.get? h1.objs.size = none := by
      cases e : s.heap.get? h1.objs.size with
      | none => rfl
      | some u => exact absurd (Heap.lt_size (k1 _ _ e)) (Nat.lt_irrefl _)
    refine wpAny_bind (wpAny_holding (wpAny_call_entry slot_list_sort ⟨_, here, rfl⟩ entry_list_sort
      (list_sort_treeK strKind_oneLt here hS.keysOf (fun v1 v2 rest e => keyKind_strs (show StrsAre (v1 :: v2 :: rest) xs by rw [← e]; exact hS)) h64 fun st' a1 a2 => ⟨_, rfl, ?_⟩) (args_list_sort _)))
    obtain ⟨ys, y1, y2, y3⟩ := sorted_out_str hS a1 a2
    obtain ⟨k, hk⟩ := sortedHeap_at (vs := items.toList) (out := (arrOf st').map (·.2)) here
    refine wpAny_pure ⟨_, rfl, h _ _ _ k ys (fun b u e => ?_) up hk y1 y2 y3⟩
    have lt := Heap.lt_size (k1 b u e)
    rw [sortedHeap_old (Nat.ne_of_lt lt) (by rw [size_push']; exact Nat.lt_succ_of_lt lt)]
    exact Heap.get?_push_of_some _ (k1 b u e)
  · rw [sizeLine_eq]
    rw [Array.length_toList] at h64
    omega
end
section
variable {X : Cx} {T : Tab} {W : WX}
theorem objOk_there {P : Program} {w : World} {H : Hp} {h : Heap} {a : Addr} {o : HO} (x : ObjOk P w H h a o) : ∃ u, h.get? a = some u := by
  induction o with
  | lst xs => obtain ⟨_, _, _, _, e⟩ := x; exact ⟨_, e⟩
  | tup xs => obtain ⟨_, _, _, _, e, _⟩ := x; exact ⟨_, e⟩
  | dK kvs => obtain ⟨_, _, _, _, _, _, _, e, _⟩ := x; exact ⟨_, e⟩
  | dT kvs => obtain ⟨_, _, _, _, _, _, _, e, _⟩ := x; exact ⟨_, e⟩
  | set S n => obtain ⟨_, _, _, _, e, _⟩ := x; exact ⟨_, e⟩
  | ins C dx fs => obtain ⟨_, _, _, e, _⟩ := x; exact ⟨_, e⟩
  | own y => obtain ⟨_, e⟩ := x; exact ⟨_, e⟩
  | xd fs => obtain ⟨_, ⟨_, _, _, e, _⟩, _⟩ := x; exact ⟨_, e⟩
  | rng lo hi => obtain ⟨_, _, _, e⟩ := x; exact ⟨_, e⟩
  | frz ob u ih => obtain ⟨e, _⟩ := x; exact ⟨_, e⟩
  | tbl ps => exact ⟨_, x⟩
  | met f y => exact ⟨_, x⟩
  | ext φ => obtain ⟨_, e, _⟩ := x; exact e
/-- a new object where nothing lives -/
theorem inv_laid {pins : List (Addr × Obj)} {σ : L2.St} {H : Hp} {s : Shared} {h' : Heap} {a : Addr} {o : HO} {t' : Nat} (I : Inv X pins σ H s) (k : ∀ b u, s.heap.get? b = some u → h'.get? b = some u) (hf : s.heap.get? a = none)
    (new : ObjOk X.prog X.w (upd H a o) h' a o) : H a = none ∧ Inv X pins σ (upd H a o) { s with heap := h', toks := t' } := by
  have hn : H a = none := by
    cases q : H a with
    | none => rfl
    | some u =>
      obtain ⟨v, z⟩ := objOk_there (I.hok a u q)
      rw [hf] at z; cases z
  refine ⟨hn, I.un (H' := upd H a o) ⟨fun b u q _ _ _ => k b u q, fun b u q _ _ _ => ⟨u.slots, k b u q⟩, fun b u q n _ => ?_, fun b u q _ => ⟨u, k b u q⟩, fun b xs q => by rw [upd_ne (ne_of_none q hn)]; exact q,
    fun b u xs q => by rw [upd_ne (ne_of_none q hn)]; exact q, fun b ps q => ⟨#[], by rw [upd_ne (ne_of_none q hn), q]; simp⟩⟩ fun b u e => ?_⟩
  · rw [upd_ne (fun z => by subst z; rw [hf] at q; cases q)]; exact n
  · by_cases hb : b = a
    · subst hb; rw [upd_same] at e; cases e; exact new
    · rw [upd_ne hb] at e
      exact (I.hok b u e).stay (fun c v _ q => k c v q) (fun c q => by rw [upd_ne (ne_of_none q hn)]; exact q) fun c xs q => by rw [upd_ne (ne_of_none q hn)]; exact q
def rSortTS (K : PySem.W.Frag) : List V → Hp → VK → Prop := fun vs H Q => ∃ (a : Addr) (xs : List Str), vs = [V.ref a] ∧ (SqL K H a (xs.map V.str) ∨ SqT K H a (xs.map V.str)) ∧ xs.length < 64 ∧
  ∀ p : Addr, H p = none → Q (.ref p) (upd H p (.lst ((sortS xs).map V.str)))
theorem strs_of_vals : ∀ {ys : List Str} {us : List Value}, StrsAre us ys → Vals (ys.map V.str) us
  | _, _, .nil => .nil
  | _, _, .cons _ t r => .cons ⟨t, rfl⟩ (strs_of_vals r)
theorem cr_sortTS : CallR X (.builtin "sorted") (rSortTS X.K) := by
  intro pins s σ H vs us Q I r h
  obtain ⟨a, xs, e, hs, h64, q⟩ := h
  rcases hs with hs | hs
  · exact cr_sortedS pins s σ H vs us Q I r ⟨a, xs, e, hs, h64, fun ys p pm sd hn => by rw [sortS_is pm sd]; exact q p hn⟩
  · subst e
    obtain ⟨its, rv, ht, _⟩ := I.tuple hs
    rw [Vals.ref1 r]
    have len : its.length = xs.length := by rw [← rv.length, List.length_map]
    refine call_sortTS ht (by simpa using rv.strs) (by simpa [len] using h64) fun h' p out k ys keep lp hp y1 y2 y3 => ?_
    have few : (ys.map V.str).length ≤ sizeLine := by rw [List.length_map, y2.length_eq, sizeLine_eq]; omega
    obtain ⟨hn, J⟩ := inv_laid (o := .lst (ys.map V.str)) (t' := s.toks) I keep lp ⟨few, out.toList, k, strs_of_vals y1, by simpa using hp⟩
    refine ⟨.ref p, upd H p (.lst (ys.map V.str)), J, rfl, ?_⟩
    rw [sortS_is y2 y3]
    exact q p hn
def hSorted : List D → S → R (List D)
  | [.ls ds], st => match strsD ds with
    | some xs => if xs.length < 64 then .ok ((sortS xs).map .str) st else .stuck
    | none => .stuck
  | [.tu ds], st => match strsD ds with
    | some xs => if xs.length < 64 then .ok ((sortS xs).map .str) st else .stuck
    | none => .stuck
  | _, _ => .stuck
theorem boot_sorted' : bootBuiltins "sorted" = some (.builtin "sorted") := by decide +kernel
theorem df_sorted {p pos : Pos} {e : Expr} {fa : S → R (List D)} (hg : Gl X "sorted") (hm : X.mg "sorted" = none) (ha : DA X T W [e] fa) (he : starEach [e] X.env = (false, eval e X.env) :: starEach [] X.env := by rfl) :
    DF X T W (.Call (.Name "sorted" p) [e] [] pos) (dCBF hSorted fa) := by
  refine impE (pe_callB cr_sortTS hg hm boot_sorted' ha (he := he)) fun σ H Q ⟨c, G, st, hd, ok⟩ => ?_
  obtain ⟨c0, G0, st0, hd0, ok0⟩ := step (rel := relA X.K T) hd ok
  refine ⟨c0, G0, st0, hd0, ok0.imp fun vs H1 ⟨G1, st1, a, s1, hd1, r, ok1⟩ => ?_⟩
  have key : ∀ {p : Addr} {vs : List V} {ds : List D}, (SqL X.K H1 p vs ∨ SqT X.K H1 p vs) → Reps X.K T c.B G1 vs ds →
      GOk X.K T W (relF X.K T) c G1 σ (match strsD ds with | some xs => if xs.length < 64 then .ok ((sortS xs).map .str) st1 else .stuck | none => .stuck) Q → rSortTS X.K [.ref p] H1 Q := fun {p vs ds} hs r ok1 => by
    cases z : strsD ds with
    | none => rw [z] at ok1; exact ok1.elim
    | some xs =>
      rw [z] at ok1
      dsimp only at ok1
      have ev := reps_strs r z
      subst ev
      by_cases q : xs.length < 64
      · rw [if_pos q] at ok1
        refine ⟨p, xs, rfl, hs, q, fun l hl => ?_⟩
        obtain ⟨h4, r4⟩ := hd1.fresh hl (Reps.strs (sortS xs))
        exact ok1 _ _ _ (Same.refl _) h4 r4
      · rw [if_neg q] at ok1; exact ok1.elim
  cases r with
  | nil => exact ok1.elim
  | cons r1 r =>
    cases r with
    | cons _ _ => cases r1 <;> exact ok1.elim
    | nil =>
      cases r1 with
      | @ls p vs ds h r => exact key (.inl (SqL.of (hd1.sub _ _ h))) r ok1
      | @tu p vs ds h r => exact key (.inr (Same.sqt hd1.sub h)) r ok1
      | _ => exact ok1.elim
end
end DL

/-! DLzc: len(set(t)), t a tuple of texts. -/
namespace DL
open PySem PySem.Spec PyProof.Rows L2
/-- the texts without repetition, in the order in which they are met -/
def metS (acc : List Str) (x : Str) : List Str := if acc.any (· == x) = true then acc else acc ++ [x]
def unlike (xs : List Str) : List Str := xs.foldl metS []
theorem unlike_snoc (xs : List Str) (x : Str) : unlike (xs ++ [x]) = metS (unlike xs) x := by unfold unlike; rw [List.foldl_append]; rfl
theorem metS_any (acc : List Str) (x k : Str) : (metS acc x).any (· == k) = (acc.any (· == k) || decide (k = x)) := by
  unfold metS
  split
  · rename_i q
    by_cases e : k = x
    · subst e; rw [q]; rfl
    · rw [decide_eq_false e, Bool.or_false]
  · rw [List.any_append]
    congr 1
    rw [List.any_cons, List.any_nil, Bool.or_false]
    by_cases e : k = x
    · subst e; simp
    · rw [decide_eq_false e]; exact beq_eq_false_iff_ne.mpr fun z => e z.symm
theorem metS_len (acc : List Str) (x : Str) : (metS acc x).length = if acc.any (· == x) = true then acc.length else acc.length + 1 := by
  unfold metS; split <;> simp
theorem unlike_le : ∀ n (xs : List Str), xs.length = n → (unlike xs).length ≤ n
  | 0, xs, h => by rw [List.length_eq_zero_iff.mp h]; exact Nat.le_refl _
  | n + 1, xs, h => by
    have ne : xs ≠ [] := fun e => by rw [e] at h; cases h
    have e := List.dropLast_concat_getLast ne
    have l := unlike_le n xs.dropLast (by rw [List.length_dropLast, h]; rfl)
    rw [← e, unlike_snoc, metS_len]
    split <;> omega
section
variable {P : Program} {w : World} {A : Around} {E : Value → Shared → Prop} {s : Shared}
abbrev HasS (P : Program) (w : World) (h : Heap) (p : Addr) (xs : List Str) : Prop := h.SetOf (strKind P w) p (fun k => (unlike xs).any (· == k)) (unlike xs).length
theorem HasS.keep {h h' : Heap} {p : Addr} {xs : List Str} (x : HasS P w h p xs) (k : ∀ o, h.get? p = some o → h'.get? p = some o) : HasS P w h' p xs := by
  obtain ⟨o, es, ep, t, ho, r⟩ := x
  exact ⟨o, es, ep, t, k o ho, r⟩
theorem set_turns {I : Addr} {fp wr : List Addr} {Gn : Array GenState → Array GenState → Prop} {n : Nat} {Pv : Nat → Value → Prop} {St : Nat → Shared → Prop} {R : Result → Shared → Prop}
    (V : WalksS P w A.in1 I fp wr Gn n Pv St) (p : Addr) (np : p ∉ fp) (xs : List Str) (hn : n = xs.length) (hb : n + 1 < scanBound) (hv : ∀ i v, Pv i v → ∃ x t, xs[i]? = some x ∧ v = .str x t) :
    ∀ (m i : Nat) (s : Shared), n - i = m → i ≤ n → St i s → HasS P w s.heap p (xs.take i) → (∀ s', Moved (p :: wr) Gn s s' → HasS P w s'.heap p xs → R (.ok (.ret .none)) s') →
      codeAny (model P w) A (.builtin "set.update.loop" ⟨[.ref p, .ref I], []⟩) R s := by
  have pw : p ∉ wr := fun h => np (V.sub _ h)
  have up : ∀ b ∈ wr, b ∈ p :: wr := fun b h => List.mem_cons_of_mem _ h
  intro m
  induction m with
  | zero =>
    intro i s e le st hs hR
    have e2 : i = n := by omega
    subst e2
    refine codeAny_builtin F.entry_set_update_loop (by
      rw [Around.under_plainId F.plain_set_update_loop _]
      show wpAny _ A.in1 (pyNext (.ref I) >>= _) _ _ s
      refine wpAny_bind (V.done s _ _ st fun s' mv => (show wpAny _ A.in1 (ret Value.none) _ _ s' from wpAny_pure (hR s' (mv.mono up) ?_)))
      rw [List.take_of_length_le (by omega)] at hs
      exact hs.keep fun o q => mv.heap p o pw q)
  | succ m ih =>
    intro i s e le st hs hR
    have lt : i < n := by omega
    refine codeAny_builtin F.entry_set_update_loop (by
      rw [Around.under_plainId F.plain_set_update_loop _]
      show wpAny _ A.in1 (pyNext (.ref I) >>= _) _ _ s
      refine wpAny_bind (V.item i s _ _ lt st fun v s' pv st2 mv => ?_)
      obtain ⟨x, t, hx, rfl⟩ := hv i v pv
      have hs2 : HasS P w s'.heap p (xs.take i) := hs.keep fun o q => mv.heap p o pw q
      show wpAny _ A.in1 (holding [Value.str x t] (setAdd p (.str x t)) >>= _) _ _ s'
      refine wpAny_bind (wpAny_holding (by
        unfold setAdd
        refine wpAny_holding (wpAny_bind ((strKind P w).pyHash (k := x) (strKind_is _ _ _ _) ?_))
        have few := unlike_le _ (xs.take i) rfl
        rw [List.length_take] at few
        refine wpAny_setAddHashed_of (knd := strKind P w) (s := { s' with toks := s'.toks + 1 }) (strKind_is _ _ _ _) rfl hs2 (by omega) fun h' but hs3 => ?_
        have tk : xs.take (i + 1) = xs.take i ++ [x] := by rw [List.take_add_one, hx]; rfl
        have hs4 : HasS P w h' p (xs.take (i + 1)) := SetOf_congr hs3 (fun k => by rw [tk, unlike_snoc, metS_any]) (by rw [tk, unlike_snoc, metS_len])
        refine wpAny_pure ⟨plainId_quiet F.plain_set_update_loop _, ih (i + 1) _ (by omega) lt (V.frame _ s' _ _ st2 (Nat.le_succ _) fun b hb o q => ?_) hs4 fun s2 mv2 hs5 => ?_⟩
        · rw [but.2 b fun z => np (z ▸ hb)]; exact q
        · refine hR s2 (Moved.trans V.gtrans ((mv.mono up).then_heap (Nat.le_succ _) fun b o hb q => ?_) mv2) hs5
          rw [but.2 b fun z => hb (z ▸ List.mem_cons_self)]; exact q)))
end
end DL
namespace DL
open PySem PySem.Spec PyProof.Rows L2
theorem strs_nth : ∀ {us : List Value} {xs : List Str}, StrsAre us xs → ∀ (i : Nat) (v : Value), us[i]? = some v → ∃ x t, xs[i]? = some x ∧ v = .str x t
  | _, _, .nil, i, v, h => by simp at h
  | _, _, .cons n t hr, 0, v, h => ⟨n, t, rfl, (Option.some.inj (by simpa using h)).symm⟩
  | _, _, .cons n t hr, i + 1, v, h => by
    obtain ⟨x, t', a, b⟩ := strs_nth hr i v (by simpa using h)
    exact ⟨x, t', by simpa using a, b⟩
abbrev bareSet (led : Bool) : Obj := { cls := .type "set", dict := none, data := .set #[] 0 (.fresh 0 0 led) }
section
variable {P : Program} {w : World} {A : Around} {E : Value → Shared → Prop} {s : Shared}
set_option maxHeartbeats 3200000 in
theorem call_setTS {l : Addr} {items : Array Value} {xs : List Str} {Q : Value → Shared → Prop} (hh : A.handled = none) (hl : s.heap.IsTuple l items) (hi : StrsAre items.toList xs) (hb : items.size + 1 < scanBound)
    (h : ∀ (h' : Heap) (tk : Nat), HasS P w h' s.heap.objs.size xs → (∀ b o, s.heap.get? b = some o → h'.get? b = some o) → Q (.ref s.heap.objs.size) { s with heap := h', toks := tk }) :
    wpAny (model P w) A (call (.type "set") [.ref l]) Q E s := by
  obtain ⟨cM, tlM, hmro⟩ := F.called_set.mro
  have hmade := F.called_set.made
  have hsub := F.called_set.sub
  have h1 := F.called_set.notType
  have h2 := F.called_set.canCreate
  have hct := F.typeCall_set_1 (.ref l)
  refine wpAny_call (codeAny_of_tree (show wpAny _ _ (callAny (.type "set") _) _ _ _ from wpAny_pure ⟨Code.quiet_builtin _ (by decide +kernel), codeAny_builtin F.entry_type_call ?_⟩))
  rw [Around.under_plain (weight_type_call_type "set" [.ref l] []) rfl]
  repeat (any_goals (first | assumption | wp_step))
  refine codeAny_mono (code_set_new_1 (.ref l) (E := E) (Q₁ := fun ob s1 => ∃ led, ob = .ref s.heap.objs.size ∧ s1 = { s with heap := s.heap.push (bareSet led) }) fun led => ⟨led, rfl, rfl⟩) fun r s1 hr => ?_
  cases r with
  | error e => exact hr
  | ok fl =>
    cases fl with
    | ret ob =>
      obtain ⟨led, rfl, rfl⟩ := hr
      have at0 : (s.heap.push (bareSet led)).get? s.heap.objs.size = some (bareSet led) := Heap.get?_push_size _ rfl
      have hT : Shared.TypeIs { s with heap := s.heap.push (bareSet led) } (.ref s.heap.objs.size) "set" := ⟨_, at0, rfl⟩
      have hli := F.called_set.init.lookup
      have hbi := F.called_set.init.bind (.ref s.heap.objs.size)
      repeat (any_goals (first | assumption | wp_step))
      refine codeAny_mono (codeAny_call_builtin (R := wants (fun r s2 => r = .none ∧ ∃ h' tk, s2 = { s with heap := h', toks := tk } ∧ HasS P w h' s.heap.objs.size xs ∧ (∀ b o, s.heap.get? b = some o → h'.get? b = some o)) E)
        F.called_set.init.plain F.entry_set_init (check_set_init_1 hT ?_)) fun r2 s2 hr2 => ?_
      · obtain ⟨⟨ocls, odict, odata, oslots⟩, hol, hcl, nl, hdl⟩ := hl
        simp only at hcl hdl
        subst hcl; subst hdl
        have hol' : (s.heap.push (bareSet led)).get? l = some { cls := .type "tuple", dict := odict, data := .seq items nl, slots := oslots } := Heap.get?_push_of_some _ hol
        have hsls := F.sub_tuple_set
        have hslf := F.sub_tuple_frozenset
        have hne : (Value.type "tuple" == Value.type "dict") = false := by decide
        have hl1 : (s.heap.push (bareSet led)).IsTuple l items := ⟨_, hol', rfl, nl, rfl⟩
        unfold Builtin.«set.__init__» noKeywords Builtin.Frozenset.updateFrom
        generalize hPI : pyIter = PI
        wp_walk
        subst hPI
        have lt : l < s.heap.objs.size := Heap.lt_size hol
        have sz : (s.heap.push (bareSet led)).objs.size = s.heap.objs.size + 1 := Heap.size_push ..
        refine wpAny_pyIter_tuple hl1 (wpAny_bind (wpAny_runValue ?_))
        have ne1 : l ≠ (s.heap.push (bareSet led)).objs.size := by rw [sz]; exact Nat.ne_of_lt (Nat.lt_succ_of_lt lt)
        have out : s.heap.objs.size ∉ [(s.heap.push (bareSet led)).objs.size, l] := by
          rw [sz]
          intro m
          rcases List.mem_cons.mp m with e | m
          · exact absurd e (Nat.ne_of_lt (Nat.lt_succ_self _))
          · exact absurd (List.mem_singleton.mp m) (Nat.ne_of_gt lt)
        refine set_turns ((Walks.tuple (show A.in1.in1.in1.handled = none by simp [hh]) _ l ne1 items).toS) s.heap.objs.size out xs (by rw [← Array.length_toList, StrsAre.len_eq hi]) hb
          (fun i v hv => strs_nth hi i v (by rw [Array.getElem?_toList]; exact hv)) (items.size - 0) 0 _ (by omega) (Nat.zero_le _) ⟨⟨_, Heap.get?_push_size _ rfl, rfl, rfl⟩, (hl1.push _)⟩ ?S0 ?Rr
        case S0 =>
          exact SetOf_congr ((setObjOf_fresh (knd := strKind P w) led).setOf (Heap.get?_push_of_some _ at0) (by unfold scanBound; omega)) (fun _ => rfl) rfl
        case Rr =>
          intro s3 mv hs3
          obtain ⟨h3, g3, d3, tk3, os3⟩ := s3
          obtain rfl : g3 = s.gens := mv.gens
          obtain rfl : d3 = s.drawn := mv.drawn
          obtain rfl : os3 = s.os := mv.os
          refine (show wpAny _ _ _ _ _ _ from wpAny_pure (show wpAny _ _ (ret Value.none) _ _ _ from wpAny_pure ⟨rfl, h3, tk3, rfl, hs3, fun b o e => ?_⟩))
          have hb0 : b < s.heap.objs.size := Heap.lt_size e
          refine mv.heap b o (fun m => ?_) (Heap.get?_push_of_some _ (Heap.get?_push_of_some _ e))
          rcases List.mem_cons.mp m with e1 | m
          · exact absurd e1 (Nat.ne_of_lt hb0)
          · have := List.mem_singleton.mp m
            rw [sz] at this
            exact absurd this (Nat.ne_of_lt (Nat.lt_succ_of_lt hb0))
      · cases r2 with
        | error e => exact hr2
        | ok fl2 =>
          cases fl2 with
          | ret r =>
            obtain ⟨rfl, h', tk, rfl, hs', hk'⟩ := hr2
            repeat (any_goals (first | assumption | wp_step))
            exact h _ _ hs' hk'
          | _ => exact hr2.elim
    | _ => exact hr.elim
end
section
variable {X : Cx} {T : Tab} {W : WX}
def tLenSetTS (K : PySem.W.Frag) (ta : TE) : TE := fun σ H Q => ta σ H fun x H1 => ∃ (l : Addr) (xs : List Str), x = V.ref l ∧ SqT K H1 l (xs.map V.str) ∧ xs.length < 1000 ∧ Q (.int ((unlike xs).length : Nat)) H1
theorem pe_lenSetTS {a : Expr} {ta : TE} {p p2 q pos : Pos} (hc : X.calm = true) (hg : Gl X "len") (hm : X.mg "len" = none) (hg2 : Gl X "set") (hm2 : X.mg "set" = none) (ha : PE X a ta)
    (na : starEach [a] X.env = (false, eval a X.env) :: starEach [] X.env := by rfl) : PE X (.Call (.Name "len" p) [.Call (.Name "set" p2) [a] [] q] [] pos) (tLenSetTS X.K ta) := by
  refine ⟨fun pins s σ H Q I h => Call_ (ld_blt I hg hm boot_len (callWith_builtin1 (args_cons ?_ rfl) rfl rfl))⟩
  refine Call_ (ld_blt I hg2 hm2 boot_set (callWith_type1 (args_cons (thn (ha.run pins s σ H _ I h) fun v s1 ⟨x, H1, I1, r1, q1⟩ => args_nil ?_) na) na rfl))
  obtain ⟨l, xs, rfl, hq, few, q1⟩ := q1
  cases r1
  obtain ⟨its, r, pl, hz⟩ := I1.tuple hq
  have hl : its.toArray.size = xs.length := by rw [List.size_toArray, ← r.length, List.length_map]
  refine call_setTS (I1.ok.hd hc) pl (by simpa using r.strs) (by rw [hl]; unfold scanBound; omega) fun h' tk hS hk => args_nil ?_
  obtain ⟨o, es, ep, t, ho, hex, hd, _, _, _, hf, hn⟩ := hS
  have I2 : Inv X pins σ H1 { s1 with heap := h', toks := tk } := I1.kept hk
  have small := unlike_le _ xs rfl
  exact call_len_set ho hex hd hf (by rw [hn]; omega) ⟨.int ((unlike xs).length : Nat), H1, I2.tok _, ⟨_, by rw [hn]⟩, q1⟩
def hLenSet : D → S → R D
  | .tu ds, st => match strsD ds with
    | some xs => if xs.length < 1000 then .ok (.int ((unlike xs).length : Nat)) st else .stuck
    | none => .stuck
  | _, _ => .stuck
theorem de_lenSet {a : Expr} {f : S → R D} {p p2 q pos : Pos} (hc : X.calm = true) (hg : Gl X "len") (hm : X.mg "len" = none) (hg2 : Gl X "set") (hm2 : X.mg "set" = none) (ha : DE X T W a f)
    (na : starEach [a] X.env = (false, eval a X.env) :: starEach [] X.env := by rfl) : DE X T W (.Call (.Name "len" p) [.Call (.Name "set" p2) [a] [] q] [] pos) (dUn hLenSet f) := by
  refine impE (pe_lenSetTS hc hg hm hg2 hm2 ha na) fun σ H Q ⟨c, G, st, hd, ok⟩ => ?_
  obtain ⟨c0, G0, st0, hd0, ok0⟩ := step (rel := relD X.K T) hd ok
  refine ⟨c0, G0, st0, hd0, ok0.imp fun x H1 ⟨G1, st1, d, s1, hd1, r, ok1⟩ => ?_⟩
  cases r with
  | @tu p vs ds h r =>
    replace ok1 : GOk X.K T W (relD X.K T) c G1 σ (match strsD ds with | some xs => if xs.length < 1000 then .ok (.int ((unlike xs).length : Nat)) st1 else .stuck | none => .stuck) Q := ok1
    cases z : strsD ds with
    | none => rw [z] at ok1; exact ok1.elim
    | some xs =>
      rw [z] at ok1
      dsimp only at ok1
      have ev := reps_strs r z
      subst ev
      by_cases q : xs.length < 1000
      · rw [if_pos q] at ok1
        exact ⟨p, xs, rfl, Same.sqt hd1.sub h, q, ok1 _ _ _ (Same.refl _) hd1 (.int _)⟩
      · rw [if_neg q] at ok1; exact ok1.elim
  | _ => exact ok1.elim
end
end DL

/-! DLzd: in, where a list or a tuple stands on the left and flat items on the right: never. -/
namespace DL
open PySem PySem.Spec PyProof.Rows L2
theorem eqAt_flat_list {A : Around} {s : Shared} {y : V} {u : Value} {l : Addr} {items : Array Value} (r : RelV y u) (f : flatV y = true) (hl : s.heap.IsList l items) (hu : A.units < cLine) : SeqAt.EqAt A s u (.ref l) false := by
  cases y with
  | non => cases r; exact SeqAt.EqAt.none_list hl hu
  | bl b => cases r; exact SeqAt.EqAt.bool_list b hl hu
  | int i => obtain ⟨t, rfl⟩ := r; exact SeqAt.EqAt.int_list i t hl hu
  | str z => obtain ⟨t, rfl⟩ := r; exact SeqAt.EqAt.str_list z t hl hu
  | _ => exact absurd (show false = true from f) Bool.false_ne_true
theorem eqAt_flat_tup {A : Around} {s : Shared} {y : V} {u : Value} {l : Addr} {items : Array Value} (r : RelV y u) (f : flatV y = true) (hl : s.heap.IsTuple l items) (hu : A.units < cLine) : SeqAt.EqAt A s u (.ref l) false := by
  cases y with
  | non => cases r; exact SeqAt.EqAt.none_tuple hl hu
  | bl b => cases r; exact SeqAt.EqAt.bool_tuple b hl hu
  | int i => obtain ⟨t, rfl⟩ := r; exact SeqAt.EqAt.int_tuple i t hl hu
  | str z => obtain ⟨t, rfl⟩ := r; exact SeqAt.EqAt.str_tuple z t hl hu
  | _ => exact absurd (show false = true from f) Bool.false_ne_true
theorem all_unlike {A : Around} {s : Shared} {v : Value} (one : ∀ {y : V} {u : Value}, RelV y u → flatV y = true → SeqAt.EqAt A s u v false) : ∀ {xs : List V} {us : List Value}, Vals xs us → xs.all flatV = true → ∀ u ∈ us, SeqAt.EqAt A s u v false
  | _, _, .nil, _ => fun u hu => by cases hu
  | y :: xs, u :: us, .cons r t, f => fun u' hu => by
    rw [List.all_cons, Bool.and_eq_true] at f
    rcases List.mem_cons.mp hu with e | e
    · subst e; exact one r f.1
    · exact all_unlike one t f.2 u' e
def rInRef (K : PySem.W.Frag) (neg : Bool) : R2 := fun x y H Q => ∃ a ys p xs, x = V.ref a ∧ (SqL K H a ys ∨ SqT K H a ys) ∧ y = V.ref p ∧ (SqL K H p xs ∨ SqT K H p xs) ∧ xs.all flatV = true ∧ Q (.bl neg) H
section
variable {X : Cx} {T : Tab} {W : WX}
theorem unlike_ref {A : Around} {pins : List (Addr × Obj)} {σ : L2.St} {H : Hp} {s : Shared} {a : Addr} {ys xs : List V} {us : List Value} (hu : A.units < cLine) (I : Inv X pins σ H s) (h : SqL X.K H a ys ∨ SqT X.K H a ys) (r : Vals xs us) (f : xs.all flatV = true) :
    ∀ w ∈ us.toArray, SeqAt.EqAt A s w (.ref a) false := fun w hw => by
  have hw' : w ∈ us := by simpa using hw
  rcases h with h | h
  · obtain ⟨_, _, pl, _⟩ := I.list h
    exact all_unlike (fun r f => eqAt_flat_list r f pl.isList hu) r f w hw'
  · obtain ⟨_, _, pl, _⟩ := I.tuple h
    exact all_unlike (fun r f => eqAt_flat_tup r f pl hu) r f w hw'
theorem any_none {us : Array Value} : us.any (fun _ => false) = false := by simp
theorem op_inRef (hu : X.A.in1.units < cLine) : OpR X (compareOp .In) (rInRef X.K false) := by
  intro pins s σ H x y v u Q I rx ry h
  obtain ⟨a, ys, p, xs, rfl, ha, rfl, hp, f, q⟩ := h
  cases rx; cases ry
  rcases hp with hp | hp
  · obtain ⟨us, r, pl, _⟩ := I.list hp
    exact SeqAt.in_listAt (fun _ => false) pl.isList (unlike_ref hu I ha r f) ⟨.bl _, H, I, rfl, by rw [any_none]; exact q⟩
  · obtain ⟨us, r, pl, _⟩ := I.tuple hp
    exact SeqAt.in_tupleAt (fun _ => false) pl (unlike_ref hu I ha r f) ⟨.bl _, H, I, rfl, by rw [any_none]; exact q⟩
theorem op_notInRef (hu : X.A.in1.units < cLine) : OpR X (compareOp .NotIn) (rInRef X.K true) := by
  intro pins s σ H x y v u Q I rx ry h
  obtain ⟨a, ys, p, xs, rfl, ha, rfl, hp, f, q⟩ := h
  cases rx; cases ry
  rcases hp with hp | hp
  · obtain ⟨us, r, pl, _⟩ := I.list hp
    exact SeqAt.notIn_listAt (fun _ => false) pl.isList (unlike_ref hu I ha r f) ⟨.bl _, H, I, rfl, by rw [any_none]; exact q⟩
  · obtain ⟨us, r, pl, _⟩ := I.tuple hp
    exact SeqAt.notIn_tupleAt (fun _ => false) pl (unlike_ref hu I ha r f) ⟨.bl _, H, I, rfl, by rw [any_none]; exact q⟩
def itemsD : D → Option (List D)
  | .ls ds => some ds
  | .tu ds => some ds
  | _ => none
def hInR (a b : D) (st : S) : R Bool := match itemsD a, itemsD b with
  | some _, some ds => if (flatDs ds).isSome = true then .ok false st else .stuck
  | _, _ => hIn a b st
def hNotInR (a b : D) (st : S) : R Bool := match itemsD a, itemsD b with
  | some _, some ds => if (flatDs ds).isSome = true then .ok true st else .stuck
  | _, _ => hNotIn a b st
theorem items_sq {c : Ctx} {G H : Hp} {σ : SV} {st : S} (hd : Holds X.K T c G H σ st) {v : V} {d : D} {ds : List D} (r : Rep X.K T c.B G v d) (e : itemsD d = some ds) : ∃ a vs, v = .ref a ∧ (SqL X.K H a vs ∨ SqT X.K H a vs) ∧ Reps X.K T c.B G vs ds := by
  cases r with
  | ls h r => cases e; exact ⟨_, _, rfl, .inl (SqL.of (hd.sub _ _ h)), r⟩
  | tu h r => cases e; exact ⟨_, _, rfl, .inr (Same.sqt hd.sub h), r⟩
  | _ => cases e
theorem ref_use {c : Ctx} {G H : Hp} {σ : SV} {st : S} {x y : V} {a b : D} {as bs : List D} {neg k : Bool} {Q : VK} (hk : neg = k) (hd : Holds X.K T c G H σ st) (r1 : Rep X.K T c.B G x a) (r2 : Rep X.K T c.B G y b) (e1 : itemsD a = some as) (e2 : itemsD b = some bs)
    (ok : GOk X.K T W (relD X.K T) c G σ (toD (if (flatDs bs).isSome = true then .ok k st else .stuck)) Q) : rInRef X.K neg x y H Q := by
  subst hk
  obtain ⟨p, vs, rfl, hp, _⟩ := items_sq hd r1 e1
  obtain ⟨q, ws, rfl, hq, rw⟩ := items_sq hd r2 e2
  cases z : flatDs bs with
  | none => rw [z] at ok; exact ok.elim
  | some fs =>
    rw [z] at ok
    obtain ⟨rfl, f⟩ := flatDs_rep rw z
    exact ⟨p, vs, q, ws, rfl, hp, rfl, hq, f, ok _ _ _ (Same.refl _) hd (.bl _)⟩
theorem snd_inR : Snd2 X T W (fun x y H Q => (rIn X.K false x y H Q ∨ ∃ i j, x = .str i ∧ y = .str j ∧ Q (.bl (!(Builtin.Str.occurrences j i 0 j.length 1).isEmpty)) H) ∨ rInRef X.K false x y H Q) fun a b st => toD (hInR a b st) := fun c G H σ st x y a b Q hd r1 r2 ok => by
  have plain : (hInR a b st = hIn a b st) ∨ ∃ as bs, itemsD a = some as ∧ itemsD b = some bs ∧ hInR a b st = if (flatDs bs).isSome = true then .ok false st else .stuck := by
    unfold hInR
    cases itemsD a <;> cases itemsD b <;> first | exact .inl rfl | exact .inr ⟨_, _, rfl, rfl, rfl⟩
  rcases plain with e | ⟨as, bs, e1, e2, e⟩
  · exact .inl (snd_in c G H σ st x y a b Q hd r1 r2 (by dsimp only at ok; rw [e] at ok; exact ok))
  · exact .inr (ref_use rfl hd r1 r2 e1 e2 (by dsimp only at ok; rw [e] at ok; exact ok))
theorem snd_notInR : Snd2 X T W (fun x y H Q => (rIn X.K true x y H Q ∨ ∃ i j, x = .str i ∧ y = .str j ∧ Q (.bl (!(!(Builtin.Str.occurrences j i 0 j.length 1).isEmpty))) H) ∨ rInRef X.K true x y H Q) fun a b st => toD (hNotInR a b st) := fun c G H σ st x y a b Q hd r1 r2 ok => by
  have plain : (hNotInR a b st = hNotIn a b st) ∨ ∃ as bs, itemsD a = some as ∧ itemsD b = some bs ∧ hNotInR a b st = if (flatDs bs).isSome = true then .ok true st else .stuck := by
    unfold hNotInR
    cases itemsD a <;> cases itemsD b <;> first | exact .inl rfl | exact .inr ⟨_, _, rfl, rfl, rfl⟩
  rcases plain with e | ⟨as, bs, e1, e2, e⟩
  · exact .inl (snd_notIn c G H σ st x y a b Q hd r1 r2 (by dsimp only at ok; rw [e] at ok; exact ok))
  · exact .inr (ref_use rfl hd r1 r2 e1 e2 (by dsimp only at ok; rw [e] at ok; exact ok))
variable {a b : Expr} {fa fb : S → R D} {pos : Pos}
theorem in1_few (hu : X.A.units + 64 < cLine) : X.A.in1.units < cLine := by
  show X.A.in1.units < cLine
  have : X.A.in1.units ≤ X.A.units + 1 := by unfold Around.in1; first | exact Nat.le_refl _ | (simp [Around.units]; done) | (simp [Around.units]; omega)
  omega
theorem op_inB (hu : X.A.units + 64 < cLine) : OpR X (compareOp .In) (fun x y H Q => (rIn X.K false x y H Q ∨ ∃ i j, x = .str i ∧ y = .str j ∧ Q (.bl (!(Builtin.Str.occurrences j i 0 j.length 1).isEmpty)) H) ∨ rInRef X.K false x y H Q) := (op_in_seq.or op_in_str).or (op_inRef (in1_few hu))
theorem op_notInB (hu : X.A.units + 64 < cLine) : OpR X (compareOp .NotIn) (fun x y H Q => (rIn X.K true x y H Q ∨ ∃ i j, x = .str i ∧ y = .str j ∧ Q (.bl (!(!(Builtin.Str.occurrences j i 0 j.length 1).isEmpty))) H) ∨ rInRef X.K true x y H Q) := (op_notIn_seq.or op_notIn_str).or (op_notInRef (in1_few hu))
theorem de_inR (hu : X.A.units + 64 < cLine) (ha : DE X T W a fa) (hb : DE X T W b fb) (hm : behindInMarks .In b = false := by rfl) : DE X T W (.Compare a [.In] [b] pos) (dOfB (dBinB hInR fa fb)) := de_cmp (op_inB hu) snd_inR ha hb hm
theorem dt_inR (hu : X.A.units + 64 < cLine) (ha : DE X T W a fa) (hb : DE X T W b fb) (hm : behindInMarks .In b = false := by rfl) : DT X T W (.Compare a [.In] [b] pos) (dBinB hInR fa fb) := dt_cmp (op_inB hu) snd_inR ha hb hm
theorem de_notInR (hu : X.A.units + 64 < cLine) (ha : DE X T W a fa) (hb : DE X T W b fb) (hm : behindInMarks .NotIn b = false := by rfl) : DE X T W (.Compare a [.NotIn] [b] pos) (dOfB (dBinB hNotInR fa fb)) := de_cmp (op_notInB hu) snd_notInR ha hb hm
theorem dt_notInR (hu : X.A.units + 64 < cLine) (ha : DE X T W a fa) (hb : DE X T W b fb) (hm : behindInMarks .NotIn b = false := by rfl) : DT X T W (.Compare a [.NotIn] [b] pos) (dBinB hNotInR fa fb) := dt_cmp (op_notInB hu) snd_notInR ha hb hm
end
end DL

/-! DLze: reckoning with rows of texts. -/
namespace DL
open PySem PySem.Spec PyProof.Rows L2
abbrev tuS (xs : List Str) : D := .tu (xs.map .str)
abbrev lsS (xs : List Str) : D := .ls (xs.map .str)
def IsSeq (d : D) (xs : List Str) : Prop := d = tuS xs ∨ d = lsS xs
theorem flatDs_strs : ∀ xs : List Str, flatDs (xs.map .str) = some (xs.map V.str)
  | [] => rfl
  | x :: xs => by
    show (flatD (.str x)).bind (fun v => (flatDs (xs.map .str)).map fun vs => v :: vs) = _
    rw [flatDs_strs xs]; rfl
theorem inV_strs (x : Str) : ∀ xs : List Str, inV (.str x) (xs.map V.str) = decide (x ∈ xs)
  | [] => by simp [inV]
  | y :: ys => by
    have ih := inV_strs x ys
    unfold inV at ih ⊢
    rw [List.map_cons, List.any_cons, ih]
    show ((y == x) || decide (x ∈ ys)) = _
    by_cases e : x = y
    · subst e; simp
    · have : (y == x) = false := beq_eq_false_iff_ne.mpr fun z => e z.symm
      simp [this, e]
section
variable {st : S} {b : Bx}
theorem hIn_ok {d : D} {xs : List Str} {x : Str} (h : IsSeq d xs) : hInR (.str x) d st = .ok (decide (x ∈ xs)) st := by
  have e : dIn (.str x) d = some (decide (x ∈ xs)) := by
    rcases h with rfl | rfl
    · show (match flatD (.str x), flatDs (xs.map .str) with | some v, some vs => some (inV v vs) | _, _ => none) = _
      rw [flatDs_strs, ← inV_strs]; rfl
    · show (match flatD (.str x), flatDs (xs.map .str) with | some v, some vs => some (inV v vs) | _, _ => none) = _
      rw [flatDs_strs, ← inV_strs]; rfl
  show hIn (.str x) d st = _
  unfold hIn
  rw [e]
theorem hNotIn_ok {d : D} {xs : List Str} {x : Str} (h : IsSeq d xs) : hNotInR (.str x) d st = .ok (!decide (x ∈ xs)) st := by
  have e : dIn (.str x) d = some (decide (x ∈ xs)) := by
    rcases h with rfl | rfl
    · show (match flatD (.str x), flatDs (xs.map .str) with | some v, some vs => some (inV v vs) | _, _ => none) = _
      rw [flatDs_strs, ← inV_strs]; rfl
    · show (match flatD (.str x), flatDs (xs.map .str) with | some v, some vs => some (inV v vs) | _, _ => none) = _
      rw [flatDs_strs, ← inV_strs]; rfl
  show hNotIn (.str x) d st = _
  unfold hNotIn
  rw [e]
theorem hSeq_ok {d : D} {xs : List Str} (h : IsSeq d xs) : hSeq d st = .ok (xs.map .str) st := by rcases h with rfl | rfl <;> rfl
theorem hLen_seq {d : D} {xs : List Str} (h : IsSeq d xs) : hLen [d] st = .ok (.int (xs.length : Nat)) st := by
  rcases h with rfl | rfl
  · show R.ok (D.int ((xs.map D.str).length : Nat)) st = _; rw [List.length_map]
  · show R.ok (D.int ((xs.map D.str).length : Nat)) st = _; rw [List.length_map]
theorem hListOf_seq {d : D} {xs : List Str} (h : IsSeq d xs) : hListOf [d] st = .ok (xs.map .str) st := by rcases h with rfl | rfl <;> rfl
theorem hSorted_seq {d : D} {xs : List Str} (h : IsSeq d xs) (l : xs.length < 64) : hSorted [d] st = .ok ((sortS xs).map .str) st := by
  rcases h with rfl | rfl
  · show (match strsD (xs.map .str) with | some xs => if xs.length < 64 then R.ok ((sortS xs).map D.str) st else .stuck | none => .stuck) = _
    rw [strsD_map]; exact if_pos l
  · show (match strsD (xs.map .str) with | some xs => if xs.length < 64 then R.ok ((sortS xs).map D.str) st else .stuck | none => .stuck) = _
    rw [strsD_map]; exact if_pos l
theorem hIx_seq {d : D} {xs : List Str} {i : Nat} {x : Str} (h : IsSeq d xs) (e : xs[i]? = some x) : hIx d (.int (i : Nat)) st = .ok (.str x) st := by
  have q : (xs.map D.str)[i]? = some (.str x) := by rw [List.getElem?_map, e]; rfl
  rcases h with rfl | rfl
  · simp [hIx, ixD, atI_nat q]
  · simp [hIx, ixD, atI_nat q]
/-- comprehensions that leave the box alone -/
theorem compD_fm {k : Tg} {vs : List Nat} {t : S → R Bool} {e : S → R D} {f : D → Option D} {st : S} : ∀ {ds acc : List D}, (∀ d ∈ ds, ∃ env', turnD k vs t e d st = .ok (f d) ⟨env', st.bx⟩) → acc.length + ds.length ≤ 16777216 → compD k vs t e ds acc st = .ok (acc ++ ds.filterMap f) st
  | [], acc, _, _ => by simp [compD]
  | d :: ds, acc, h, l => by
    obtain ⟨env', e1⟩ := h d List.mem_cons_self
    unfold compD
    rw [e1]
    cases q : f d with
    | none =>
      show compD k vs t e ds acc st = _
      rw [compD_fm (fun d' h' => h d' (List.mem_cons_of_mem _ h')) (by simp at l ⊢; omega), List.filterMap_cons_none q]
    | some y =>
      have l1 : acc.length < 16777216 := by simp at l; omega
      show (if acc.length < 16777216 then compD k vs t e ds (acc ++ [y]) st else .stuck) = _
      rw [if_pos l1, compD_fm (fun d' h' => h d' (List.mem_cons_of_mem _ h')) (by simp at l ⊢; omega), List.filterMap_cons_some q]
      simp
theorem enumD_range : ∀ (k : Nat) (ds : List D), enumD k ds = (List.range ds.length).map fun i => .tu [.int ((k + i : Nat) : Int), ds.getD i .non]
  | k, [] => rfl
  | k, d :: ds => by
    show D.tu [.int (k : Nat), d] :: enumD (k + 1) ds = _
    rw [enumD_range (k + 1) ds, List.length_cons, List.range_succ_eq_map, List.map_cons, List.map_map]
    congr 1
    apply List.map_congr_left
    intro i _
    show D.tu [.int ((k + 1 + i : Nat) : Int), ds.getD i .non] = D.tu [.int ((k + (i + 1) : Nat) : Int), (d :: ds).getD (i + 1) .non]
    rw [show k + 1 + i = k + (i + 1) by omega, List.getD_cons_succ]
end
/-! ### equal texts -/
def okS (x : Str) : Bool := PyData.canLay0 (.str x)
theorem toPs_strs : ∀ xs : List Str, toPs (xs.map .str) = some (xs.map .str)
  | [] => rfl
  | x :: xs => by
    show (toP (.str x)).bind (fun p => (toPs (xs.map .str)).map fun ps => p :: ps) = _
    rw [toPs_strs xs]; rfl
theorem canAll_strs : ∀ {xs : List Str}, (∀ x ∈ xs, okS x = true) → PyData.canLayAll0 (xs.map .str) = true
  | [], _ => by simp [PyData.canLayAll0]
  | x :: xs, h => by
    rw [List.map_cons, PyData.canLayAll0, canAll_strs fun y hy => h y (List.mem_cons_of_mem _ hy)]
    rw [Bool.and_true]; exact h x List.mem_cons_self
theorem depth_strs : ∀ xs : List Str, PyData.depthAll (xs.map .str) = 0
  | [] => by simp [PyData.depthAll]
  | x :: xs => by rw [List.map_cons, PyData.depthAll, depth_strs xs]; simp [PyData.depth]
theorem eqvAll_strs : ∀ xs ys : List Str, PyData.eqvAll (xs.map .str) (ys.map .str) = decide (xs = ys)
  | [], [] => by simp [PyData.eqvAll]
  | [], y :: ys => by simp [PyData.eqvAll]
  | x :: xs, [] => by simp [PyData.eqvAll]
  | x :: xs, y :: ys => by
    rw [List.map_cons, List.map_cons, PyData.eqvAll, eqvAll_strs xs ys]
    rw [PyData.eqv]
    by_cases e : x = y
    · subst e; simp
    · rw [beq_eq_false_iff_ne.mpr e, Bool.false_and]; exact (decide_eq_false fun z => e (List.cons.inj z).1).symm
theorem deq_tuS {xs ys : List Str} (hx : ∀ x ∈ xs, okS x = true) (hy : ∀ x ∈ ys, okS x = true) : deq (tuS xs) (tuS ys) = some (decide (xs = ys)) := by
  have sh : ∀ {zs : List Str}, (∀ x ∈ zs, okS x = true) → SeqAt.shaped (.tuple (zs.map .str)) = true := fun {zs} h => by
    unfold SeqAt.shaped
    rw [PyData.canLay0, canAll_strs h, PyData.depth, depth_strs]
    rfl
  unfold deq
  simp only [toP, toPs_strs, Option.map_some, sh hx, sh hy, Bool.and_self, if_true]
  rw [PyData.eqv, eqvAll_strs]
/-! ### no text twice -/
theorem unlike_nodup {xs : List Str} (h : xs.Nodup) : unlike xs = xs := by
  have key : ∀ (ys acc : List Str), (acc ++ ys).Nodup → ys.foldl metS acc = acc ++ ys := by
    intro ys
    induction ys with
    | nil => intro acc _; simp
    | cons y ys ih =>
      intro acc h
      have n : ¬ acc.any (· == y) = true := fun q => by
        obtain ⟨z, hz, e⟩ := List.any_eq_true.mp q
        have e := beq_iff_eq.mp e
        subst e
        exact (List.nodup_append.mp h).2.2 z hz z List.mem_cons_self rfl
      rw [List.foldl_cons]
      have m : metS acc y = acc ++ [y] := by unfold metS; rw [if_neg n]
      rw [m, ih (acc ++ [y]) (by simpa using h)]
      simp
  have := key xs [] (by simpa using h)
  rw [List.nil_append] at this
  exact this
theorem metS_sub (acc : List Str) (x : Str) : ∀ y ∈ metS acc x, y ∈ acc ∨ y = x := by
  intro y hy
  unfold metS at hy
  split at hy
  · exact .inl hy
  · simpa using hy
theorem unlike_again {xs : List Str} {x : Str} (h : x ∈ unlike xs) : unlike (xs ++ [x]) = unlike xs := by
  rw [unlike_snoc]
  unfold metS
  rw [if_pos (List.any_eq_true.mpr ⟨x, h, by simp⟩)]
/-- in order, and no text twice: each is below the next -/
def StrictS (xs : List Str) : Prop := xs.Pairwise fun a b => decide (a.cps.toList < b.cps.toList) = true
theorem strict_of {xs : List Str} (h : RiseS xs) (n : xs.Nodup) : StrictS xs := by
  induction xs with
  | nil => exact .nil
  | cons x xs ih =>
    obtain ⟨h1, h2⟩ := List.pairwise_cons.mp h
    obtain ⟨n1, n2⟩ := List.nodup_cons.mp n
    refine List.pairwise_cons.mpr ⟨fun y hy => ?_, ih h2 n2⟩
    have l := (leS_iff x y).mp (h1 y hy)
    rw [decide_eq_true_eq]
    rcases Classical.em (x.cps.toList < y.cps.toList) with q | q
    · exact q
    · have e : leS y x = true := (leS_iff y x).mpr (List.not_lt.mp q)
      have := leS_anti (h1 y hy) e
      subst this
      exact absurd hy n1
theorem rise_of_strict {xs : List Str} (h : StrictS xs) : RiseS xs := h.imp fun {a b} q => by
  rw [decide_eq_true_eq] at q
  exact (leS_iff a b).mpr (List.not_lt.mp fun z => List.lt_irrefl _ (List.lt_trans q z))
end DL

/-! DLzf: a < b < c as a test. -/
namespace DL
open PySem PySem.Spec PyProof.Rows L2
def dChainT (h h' : D → D → S → R Bool) (fa fb fc : S → R D) : S → R Bool := fun st => (fa st).bind fun x st => (fb st).bind fun y st => (h x y st).bind fun k st => if k = true then (fc st).bind fun z st => h' y z st else .ok false st
theorem dOfB_chain {h h' : D → D → S → R Bool} {fa fb fc : S → R D} : dOfB (dChainT h h' fa fb fc) = dChain h h' fa fb fc := by
  funext st
  unfold dOfB dChainT dChain toD R.bind
  cases fa st with
  | err e s => rfl
  | stuck => rfl
  | ok a s =>
    dsimp only
    cases fb s with
    | err e s => rfl
    | stuck => rfl
    | ok y s =>
      dsimp only
      cases h a y s with
      | err e s => rfl
      | stuck => rfl
      | ok k s =>
        dsimp only
        cases k with
        | true => rw [if_pos rfl, if_pos rfl]; cases fc s <;> rfl
        | false => rfl
section
variable {X : Cx} {T : Tab} {W : WX}
theorem chain_read {r r' : R2} {h h' : D → D → S → R Bool} {fa fb fc : S → R D} (sd : Snd2 X T W r fun a b st => toD (h a b st)) (sd' : Snd2 X T W r' fun a b st => toD (h' a b st)) :
    ∀ σ H Q, gD X.K T W (relD X.K T) (dChain h h' fa fb fc) σ H Q → tChain r r' (gD X.K T W (relD X.K T) fa) (gD X.K T W (relD X.K T) fb) (gD X.K T W (relD X.K T) fc) σ H Q := fun σ H Q ⟨c, G, st, hd, ok⟩ => by
  obtain ⟨c0, G0, st0, hd0, ok0⟩ := step (rel := relD X.K T) hd ok
  refine ⟨c0, G0, st0, hd0, ok0.imp fun x H1 ⟨G1, st1, a, s1, hd1, r1, ok1⟩ => ?_⟩
  obtain ⟨c2, G2, st2, hd2, ok2⟩ := step (rel := relD X.K T) hd1 ok1
  refine ⟨c2, G2, st2, hd2, ok2.imp fun y H2 ⟨G3, st3, b, s3, hd3, r3, ok3⟩ => ?_⟩
  refine sd c G3 H2 σ st3 x y a b _ hd3 (r1.mono s3) r3 ?_
  have q : GOk X.K T W (relB) c G3 σ (h a b st3) (fun k H' => ∃ G4 st4, Same G3 G4 ∧ Holds X.K T c G4 H' σ st4 ∧ GOk X.K T W (relD X.K T) c G4 σ (if k = true then (fc st4).bind fun z st => toD (h' b z st) else .ok (.bl false) st4) Q) := by
    revert ok3
    cases h a b st3 with
    | ok k s4 => exact fun ok3 G' H' v s h e => by cases e; exact ⟨G', s4, s, h, GOk.mono s ok3⟩
    | err e s => exact fun ok3 => ok3
    | stuck => exact fun ok3 => ok3
  refine (GOk.ofB q).imp fun z H3 ⟨k, e, G4, st4, s4, hd4, ok4⟩ => ⟨k, e, ?_⟩
  cases k with
  | true =>
    rw [if_pos rfl] at ok4 ⊢
    obtain ⟨c5, G5, st5, hd5, ok5⟩ := step (rel := relD X.K T) hd4 ok4
    exact ⟨c5, G5, st5, hd5, ok5.imp fun z H4 ⟨G6, st6, d, s6, hd6, r6, ok6⟩ => sd' c G6 H4 σ st6 y z b d Q hd6 ((r3.mono s4).mono s6) r6 ok6⟩
  | false => rw [if_neg Bool.false_ne_true] at ok4 ⊢; exact ok4 _ _ _ (Same.refl _) hd4 (.bl _)
theorem dt_chain {op op' : CmpOp} {r r' : R2} {h h' : D → D → S → R Bool} {a b e : Expr} {fa fb fc : S → R D} {pos : Pos} (ho : OpR X (compareOp op) r) (ho' : OpR X (compareOp op') r')
    (sd : Snd2 X T W r fun a b st => toD (h a b st)) (sd' : Snd2 X T W r' fun a b st => toD (h' a b st))
    (ha : DE X T W a fa) (hb : DE X T W b fb) (hc : DE X T W e fc) (hm : lastMarks [op, op'] [b, e] = false := by with_unfolding_all rfl) : DT X T W (.Compare a [op, op'] [b, e] pos) (dChainT h h' fa fb fc) :=
  impT (pt_chain ho ho' ha hb hc hm) fun σ H Q ⟨c, G, st, hd, ok⟩ => chain_read sd sd' σ H _ ⟨c, G, st, hd, by
    have := GOk.ofB ok
    rw [show toD (dChainT h h' fa fb fc st) = dOfB (dChainT h h' fa fb fc) st from rfl, dOfB_chain] at this
    exact this⟩
end
end DL

/-! DLzg: enumerate of a tuple. -/
namespace DL
open PySem PySem.Spec PyProof.Rows L2
abbrev enumCell (it : Addr) : Obj := { cls := .type "enumerate", data := .fields #[.none, .bool false, .ref it, rawInt 0, .none, .none] }
theorem meets_enumOf {v : Value} {o : Obj} {Hh : Heap → Prop} (B : Begins v o Hh) :
    Meets (Builtin.«enumerate.__new__» ⟨[.type "enumerate", v], []⟩) (fun _ R s => Hh s.heap ∧ R (.ok (.ret (.ref (s.heap.push o).objs.size))) { s with heap := (s.heap.push o).push (enumCell s.heap.objs.size) }) :=
  .of_wp fun prog w A R ⟨hp, g, d, tk, os⟩ ⟨h1, h⟩ => by
    have hsub := sub_enumerate
    have q1 : ∀ {A' : Around} {E Q : Value → Shared → Prop}, Q (.ref hp.objs.size) ⟨hp.push o, g, d, tk, os⟩ → wpAny (model prog w) A' (pyIter v) Q E ⟨hp, g, d, tk, os⟩ := fun q => B.iter prog w _ _ ⟨hp, g, d, tk, os⟩ _ h1 q
    wp_walk
    refine wpAny_stack_any fun st => wpAny_pure ?_
    split
    · rename_i c _ _ _ _ _
      cases (c == Value.type "enumerate") <;> (wp_walk using q1; exact ⟨_, rfl, h⟩)
    · wp_walk using q1
      exact ⟨_, rfl, h⟩
section
variable {P : Program} {w : World} {A : Around} {E : Value → Shared → Prop} {s : Shared}
theorem call_enumOf {v : Value} {o : Obj} {Hh : Heap → Prop} {Q : Value → Shared → Prop} (B : Begins v o Hh) (h1 : Hh s.heap)
    (h : ∀ h', IsEnum h' (s.heap.objs.size + 1) s.heap.objs.size 0 .none → h'.get? s.heap.objs.size = some o → (∀ b u, s.heap.get? b = some u → h'.get? b = some u) → Q (.ref (s.heap.objs.size + 1)) { s with heap := h' }) :
    wpAny (model P w) A (call (.type "enumerate") [v]) Q E s := by
  refine callType_new F.called_enumerate (by decide) (F.typeCall_enumerate_1 _) (F.newCall_enumerate_1 _) (fun obj => F.args_object_init_2 obj _) F.entry_enumerate_new (meets_enumOf B) ⟨h1, ?_⟩
  have sz : (s.heap.push o).objs.size = s.heap.objs.size + 1 := Heap.size_push ..
  rw [sz]
  have he : IsEnum ((s.heap.push o).push (enumCell s.heap.objs.size)) (s.heap.objs.size + 1) s.heap.objs.size 0 .none := by
    have e := Heap.get?_push_size (s.heap.push o) (o := enumCell s.heap.objs.size) rfl
    rw [sz] at e
    exact e
  exact ⟨⟨_, he, rfl⟩, h _ he (Heap.get?_push_of_some _ (Heap.get?_push_size _ B.free)) fun b u x => Heap.get?_push_of_some _ (Heap.get?_push_of_some _ x)⟩
end
/-- the tuple at a, each item in a new pair -/
def IteT (K : PySem.W.Frag) (a : Addr) : It :=
  ⟨fun i H => ∃ (xs : List V) (x : V), SqT K H a xs ∧ xs[i]? = some x,
   fun i H v H' => ∃ t x, v = .ref t ∧ H t = none ∧ H' = upd H t (.tup [.int (i : Nat), x]) ∧ ∀ xs, SqT K H a xs → xs[i]? = some x,
   fun i H => ∃ xs : List V, SqT K H a xs ∧ xs.length = i⟩
theorem turn_enumT {P : Program} {w : World} {K : PySem.W.Frag} {elts : List Expr} {kk : Nat} {tpos : Pos} (a e it : Addr) :
    Turn P w K (.Tuple elts kk tpos) (IteT K a) [e, it] e (fun i h => (∃ old, IsEnum h e it ((i : Nat) : Int) old) ∧ h.IsTupleIter it a i ∧ e ≠ it ∧ e ≠ a ∧ a ≠ it) where
  mem := by simp
  obj := fun i h ⟨⟨old, he⟩, ⟨o, ho, hc, hd⟩, _⟩ b hb => by
    rcases List.mem_cons.mp hb with z | z
    · rw [z]; exact ⟨_, he, fun v q => nomatch q⟩
    · rw [List.mem_singleton.mp z]; exact ⟨o, ho, fun v q => by rw [hd] at q; cases q⟩
  keep := fun i h h' ⟨⟨old, he⟩, hi, hne⟩ k => ⟨⟨old, k e (by simp) _ he⟩, hi.at fun o q => k it (by simp) o q, hne⟩
  item := by
    intro X hP hw hK hc i pins s σ H E I hf ⟨⟨old, he⟩, hit, n1, n2, n3⟩ ⟨xs, x, hq, hx⟩
    subst hP hw hK
    obtain ⟨its, rv, p, hz⟩ := I.tuple hq
    obtain ⟨u, hu, ru⟩ := rv.get hx
    have le : e < s.heap.objs.size := Heap.lt_size he
    have li : it < s.heap.objs.size := by obtain ⟨_, q, _⟩ := hit; exact Heap.lt_size q
    have lt : i < its.toArray.size := by
      have := (List.getElem?_eq_some_iff.mp hu).1
      simpa using this
    have ee : e ∉ [it, a] := fun m => by
      rcases List.mem_cons.mp m with z | z
      · exact n1 z
      · exact n2 (List.mem_singleton.mp z)
    refine wpAny_pyNext_enum_itemD (Draws.tuple (A := X.A.in1) (show X.A.in1.handled = none from I.ok.hd hc) it a n3 its.toArray) he ⟨hit, p⟩ lt n1 ee fun y h' tk hy ho st2 hT hsz hk => ⟨_, rfl, ?_⟩
    have ey : y = u := by
      rw [List.getElem?_toArray] at hy
      rw [hu] at hy
      exact (Option.some.inj hy).symm
    subst ey
    refine wpAny_letOwnedTupleGo_enum (s := { s with heap := h', toks := tk + 1 }) ho fun h2 he2 sb => ?_
    have at2 : h2.get? s.heap.objs.size = some { cls := .type "tuple", data := .seq #[.int i tk, y] } := (sb.2 _ (Nat.ne_of_gt le)).trans hT
    have new : ObjOk X.prog X.w (upd H s.heap.objs.size (.tup [.int (i : Nat), x])) h2 s.heap.objs.size (.tup [.int (i : Nat), x]) :=
      ⟨by show 2 ≤ sizeLine; decide, [.int i tk, y], .cons ⟨_, rfl⟩ (.cons ru .nil), ⟨_, at2, rfl, _, rfl⟩⟩
    have J : Inv X pins σ (upd H s.heap.objs.size (.tup [.int (i : Nat), x])) { s with heap := h2, toks := tk + 1 } :=
      I.turnedNew (ch := [e, it]) (fun b ob hb q => (sb.2 b fun z => hb (by simp [z])).trans (hk b ob (fun z => hb (by simp [z])) (fun z => hb (by simp [z])) q)) hf (Nat.le_refl _) new
    refine ⟨.ref s.heap.objs.size, _, J, rfl, ⟨_, x, rfl, I.hok.fresh (Nat.le_refl _), rfl, fun ys hy => by rw [I.tuple_inj hy hq]; exact hx⟩, ⟨⟨y, ?_⟩, st2.1.at fun o q => (sb.2 it (Ne.symm n1)).trans q, n1, n2, n3⟩, fun b hb => ?_⟩
    · rw [show ((i + 1 : Nat) : Int) = (i : Int) + 1 by omega]; exact he2
    · have lb : b < s.heap.objs.size := by
        rcases List.mem_cons.mp hb with z | z
        · rw [z]; exact le
        · rw [List.mem_singleton.mp z]; exact li
      rw [upd_ne (Nat.ne_of_lt lb)]
      exact (hf b hb).1
  done := by
    intro X hP hw hK hc i pins s σ H E I hf ⟨⟨old, he⟩, hit, n1, n2, n3⟩ ⟨xs, hq, hx⟩
    subst hP hw hK
    obtain ⟨its, rv, p, hz⟩ := I.tuple hq
    obtain ⟨f0, f1, f2, f3, f4, f5⟩ := hf it (by simp)
    have hl : its.toArray.size = i := by rw [List.size_toArray, ← rv.length]; exact hx
    subst hl
    exact wpAny_pyNext_enum_endD (Draws.tuple (A := X.A.in1) (show X.A.in1.handled = none from I.ok.hd hc) it a n3 its.toArray) he ⟨hit, p⟩ fun h' eb => ⟨rfl, I.turned (t' := s.toks) (fun b o hb q => eb b o hb q) f0 f1 f3 f4 f5⟩
  self := fun A i s Q E ⟨⟨_, he⟩, _⟩ h => wpAny_pyIter_enum he h
def iEnumB (K : PySem.W.Frag) (ta : TA) : TI := fun σ H R => ta σ H fun vs H1 => ∃ a xs, vs = [.ref a] ∧ ((SqL K H1 a xs ∧ R (Ite K a) H1) ∨ (SqT K H1 a xs ∧ R (IteT K a) H1))
theorem pi_enumB {X : Cx} {e : Expr} {ta : TA} {p pos tpos : Pos} {elts : List Expr} {kk : Nat} (hg : Gl X "enumerate") (hm : X.mg "enumerate" = none) (ha : PA X [e] ta) (hs : starEach [e] X.env = [(false, eval e X.env)] := by rfl) :
    PI X (.Tuple elts kk tpos) (.Call (.Name "enumerate" p) [e] [] pos) (iEnumB X.K ta) := by
  refine ⟨fun pins s σ H R I h => Call_ (ld_blt I hg hm boot_enumerate (callWith_type1 (thn (ha.run pos pins s σ H _ I h) fun us s1 ⟨vs, H1, I1, r1, a, xs, ex, q⟩ => ?_) hs rfl))⟩
  subst ex
  cases r1 with
  | cons r rr =>
    cases rr
    cases r
    have ends : ∀ b ∈ [s1.heap.objs.size + 1, s1.heap.objs.size], FpOk X pins H1 b := fun b hb => by
      have le : s1.heap.objs.size ≤ b := by
        rcases List.mem_cons.mp hb with z | z
        · rw [z]; exact Nat.le_add_right _ _
        · rw [List.mem_singleton.mp z]; exact Nat.le_refl _
      exact I1.fpOk le (I1.hok.fresh le)
    rcases q with ⟨hq, q⟩ | ⟨hq, q⟩
    · obtain ⟨its, rv, p', hz⟩ := I1.list hq
      refine call_enumerate_list p'.isList fun h' he hit hsz hk => wpAny_pyIter_enum he ⟨s1.heap.objs.size + 1, [s1.heap.objs.size + 1, s1.heap.objs.size], _, _, H1, rfl, I1.kept (t' := s1.toks) hk, turn_enum a (s1.heap.objs.size + 1) s1.heap.objs.size, ⟨⟨.none, he⟩, hit, Nat.succ_ne_self _⟩, ends, q⟩
    · obtain ⟨its, rv, p', hz⟩ := I1.tuple hq
      have la : a < s1.heap.objs.size := by obtain ⟨o, ho, _⟩ := p'; exact Heap.lt_size ho
      refine call_enumOf (begins_tuple a its.toArray) p' fun h' he hit hk => wpAny_pyIter_enum he ⟨s1.heap.objs.size + 1, [s1.heap.objs.size + 1, s1.heap.objs.size], _, _, H1, rfl, I1.kept (t' := s1.toks) hk, turn_enumT a (s1.heap.objs.size + 1) s1.heap.objs.size,
        ⟨⟨.none, he⟩, ⟨_, hit, rfl, rfl⟩, Nat.succ_ne_self _, Nat.ne_of_gt (Nat.lt_succ_of_lt la), Nat.ne_of_lt la⟩, ends, q⟩
def hEnumB : List D → S → R (List D)
  | [.ls xs], st => .ok (enumD 0 xs) st
  | [.tu xs], st => .ok (enumD 0 xs) st
  | _, _ => .stuck
section
variable {X : Cx} {T : Tab} {W : WX}
theorem relI_enumT {K : PySem.W.Frag} {c : Ctx} {G H : Hp} {σ : SV} {st : S} {a : Addr} {xs : List V} {ds : List D} (h : SqT K G a xs) (r : Reps K T c.B G xs ds) : relI K T c G H σ st (IteT K a) (enumD 0 ds) := fun c' G' H' σ' st' eB s hd => by
  have hq : SqT K H' a xs := Same.sqt hd.sub (Same.sqt s h)
  refine ⟨⟨xs, hq, by rw [enumD_len, r.length]⟩, fun i d e => ?_⟩
  obtain ⟨d1, e1, rfl⟩ := enumD_get e
  obtain ⟨v1, f1, g1⟩ := r.get' e1
  refine ⟨⟨xs, v1, hq, f1⟩, fun x H2 ⟨t, x1, ex, nt, eH, y1⟩ => ?_⟩
  have z1 := y1 xs hq
  rw [f1] at z1; cases z1
  subst ex eH
  have sg := same_upd (o := .tup [.int (i : Nat), v1]) (hd.gnone nt)
  refine ⟨_, sg, same_upd nt, hd.lay _ nt, .tu (.inl (.inl upd_same)) (.cons ?_ (.cons ((g1.mono s).mono sg) .nil))⟩
  rw [Nat.zero_add]
  exact .int _
theorem di_enumB {e : Expr} {fa : S → R (List D)} {p pos tpos : Pos} {elts : List Expr} {kk : Nat} (hg : Gl X "enumerate") (hm : X.mg "enumerate" = none) (ha : DA X T W [e] fa) (hs : starEach [e] X.env = [(false, eval e X.env)] := by rfl) :
    DI X T W (.Tuple elts kk tpos) (.Call (.Name "enumerate" p) [e] [] pos) (dCBF hEnumB fa) := by
  refine impI (pi_enumB hg hm ha hs) fun σ H Q ⟨c, G, st, hd, ok⟩ => ?_
  obtain ⟨c0, G0, st0, hd0, ok0⟩ := step (rel := relA X.K T) hd ok
  refine ⟨c0, G0, st0, hd0, ok0.imp fun x H1 ⟨G1, st1, a, s1, hd1, r1, ok1⟩ => ?_⟩
  cases r1 with
  | nil => exact ok1.elim
  | cons r1 r =>
    cases r with
    | cons _ _ => cases r1 <;> exact ok1.elim
    | nil =>
      cases r1 with
      | @ls p vs ds h r => exact ⟨p, vs, rfl, .inl ⟨SqL.of (hd1.sub _ _ h), ok1 _ _ _ (Same.refl _) hd1 (relI_enum h r)⟩⟩
      | @tu p vs ds h r => exact ⟨p, vs, rfl, .inr ⟨Same.sqt hd1.sub h, ok1 _ _ _ (Same.refl _) hd1 (relI_enumT h r)⟩⟩
      | _ => exact ok1.elim
end
end DL

/-! DLzh: comprehensions that draw. -/
namespace DL
open PySem PySem.Spec PyProof.Rows L2
theorem compD_gd {k : Tg} {vs : List Nat} {t : S → R Bool} {e : S → R D} {f : D → D} {c : Nat} {env : List Sl} : ∀ {ds acc : List D} {m : Nat} {b : Bx}, (∀ d ∈ ds, ∀ (m : Nat) (b : Bx), Gd (m + c) b → ∃ env' b', turnD k vs t e d ⟨env, b⟩ = .ok (some (f d)) ⟨env', b'⟩ ∧ Gd m b') →
    acc.length + ds.length ≤ 16777216 → Gd (m + c * ds.length) b → ∃ b', compD k vs t e ds acc ⟨env, b⟩ = .ok (acc ++ ds.map f) ⟨env, b'⟩ ∧ Gd m b'
  | [], acc, m, b, _, _, g => ⟨b, by simp [compD], by simpa using g⟩
  | d :: ds, acc, m, b, h, l, g => by
    obtain ⟨env', b1, e1, g1⟩ := h d List.mem_cons_self (m + c * ds.length) b (by
      rw [List.length_cons, Nat.mul_add, Nat.mul_one] at g
      exact g.less (by omega))
    have l1 : acc.length < 16777216 := by simp at l; omega
    obtain ⟨b', e2, g2⟩ := compD_gd (ds := ds) (acc := acc ++ [f d]) (m := m) (b := b1) (fun d' h' => h d' (List.mem_cons_of_mem _ h')) (by simp at l ⊢; omega) g1
    refine ⟨b', ?_, g2⟩
    unfold compD
    rw [e1]
    show (if acc.length < 16777216 then compD k vs t e ds (acc ++ [f d]) ⟨env, b1⟩ else .stuck) = _
    rw [if_pos l1, e2]
    simp
end DL

/-! DLzi: a text times a number. -/
namespace DL
open PySem PySem.Spec PyProof.Rows L2
instance (x : Str) (n : Int) : Decidable (MulOk x n) := by unfold MulOk; infer_instance
def hMulS : D → D → S → R D
  | .str z, .int n, st => if MulOk z n then .ok (.str (Txt.mul z n)) st else .stuck
  | _, _, _ => .stuck
section
variable {X : Cx} {T : Tab} {W : WX}
theorem op_mulS : OpR X (binaryOp .Mult) (fun x y H Q => ∃ z n, x = V.str z ∧ y = V.int n ∧ MulOk z n ∧ Q (.str (Txt.mul z n)) H) := by
  intro pins s σ H x y v u Q I rx ry h
  obtain ⟨z, n, rfl, rfl, ok, q⟩ := h
  obtain ⟨t, rfl⟩ := rx
  obtain ⟨t', rfl⟩ := ry
  exact SB.mul ok fun t2 k => ⟨.str _, H, I.tok _, ⟨t2, rfl⟩, q⟩
theorem de_mulS {a b : Expr} {fa fb : S → R D} {pos : Pos} (ha : DE X T W a fa) (hb : DE X T W b fb) : DE X T W (.BinOp a .Mult b pos) (dBin hMulS fa fb) :=
  de_bin op_mulS (fun c G H σ st x y a b Q hd r1 r2 ok => by
    cases r1 <;> cases r2 <;> first | exact ok.elim | skip
    rename_i z n
    have ok' : GOk X.K T W (relD X.K T) c G σ (if MulOk z n then .ok (.str (Txt.mul z n)) st else .stuck) Q := ok
    by_cases q : MulOk z n
    · rw [if_pos q] at ok'
      exact ⟨_, _, rfl, rfl, q, ok' _ _ _ (Same.refl _) hd (.str _)⟩
    · rw [if_neg q] at ok'; exact ok'.elim) ha hb
end
end DL

/-! DLzj: reckoning with joined texts. -/
namespace DL
open PySem PySem.Spec PyProof.Rows L2 TL
theorem okS_iff (x : Str) : okS x = (tl x).all (· < 0x110000) := by
  show x.cps.all (· < 0x110000) = _
  simp [tl]
theorem deq_str2 {x y : Str} (hx : okS x = true) (hy : okS y = true) : deq (.str x) (.str y) = some (decide (x = y)) := by
  have sh : ∀ {z : Str}, okS z = true → SeqAt.shaped (.str z) = true := fun {z} h => by
    unfold SeqAt.shaped
    rw [show PyData.canLay0 (.str z) = true from h, PyData.depth]
    rfl
  unfold deq
  simp only [toP, sh hx, sh hy, Bool.and_self, if_true]
  rw [PyData.eqv]
  congr 1
theorem joinL_all {p : Nat → Bool} {S : List Nat} (hs : S.all p = true) : ∀ {ps : List (List Nat)}, (∀ q ∈ ps, q.all p = true) → (joinL S ps).all p = true
  | [], _ => rfl
  | [q], h => h q (List.mem_singleton.mpr rfl)
  | q :: r :: ps, h => by
    show (q ++ (S ++ joinL S (r :: ps))).all p = true
    rw [List.all_append, List.all_append, h q List.mem_cons_self, hs, joinL_all hs fun z hz => h z (List.mem_cons_of_mem _ hz)]
    rfl
theorem joinL_len (S : List Nat) : ∀ ps : List (List Nat), (joinL S ps).length ≤ (ps.map List.length).sum + ps.length * S.length
  | [] => by simp [joinL]
  | [q] => by simp [joinL]
  | q :: r :: ps => by
    have ih := joinL_len S (r :: ps)
    show (q ++ (S ++ joinL S (r :: ps))).length ≤ _
    rw [List.length_append, List.length_append, List.map_cons, List.sum_cons, List.length_cons, Nat.add_mul, Nat.one_mul]
    omega
theorem joinL_pos {S : List Nat} : ∀ {ps : List (List Nat)}, ps ≠ [] → (∀ q ∈ ps, 1 ≤ q.length) → 1 ≤ (joinL S ps).length
  | [], h, _ => absurd rfl h
  | [q], _, h => h q (List.mem_singleton.mpr rfl)
  | q :: r :: ps, _, h => by
    show 1 ≤ (q ++ (S ++ joinL S (r :: ps))).length
    have := h q List.mem_cons_self
    rw [List.length_append]
    omega
section
variable {y : Str} {ws : List Str}
theorem tl_joined : tl (Txt.join y ws) = joinL (tl y) (ws.map tl) := by rw [join_eq, tl_join]
theorem okS_join (hy : okS y = true) (h : ∀ w ∈ ws, okS w = true) : okS (Txt.join y ws) = true := by
  rw [okS_iff, tl_joined]
  exact joinL_all (by rw [← okS_iff]; exact hy) fun q hq => by
    obtain ⟨w, hw, rfl⟩ := List.mem_map.mp hq
    rw [← okS_iff]; exact h w hw
theorem sum_le {m : Nat} : ∀ {ws : List Str}, (∀ w ∈ ws, w.length ≤ m) → (ws.map (·.length)).sum ≤ ws.length * m
  | [], _ => by simp
  | w :: ws, h => by
    have ih := sum_le fun z hz => h z (List.mem_cons_of_mem w hz)
    have := h w List.mem_cons_self
    rw [List.map_cons, List.sum_cons, List.length_cons, Nat.add_mul, Nat.one_mul]
    omega
theorem join_len (m : Nat) (h : ∀ w ∈ ws, w.length ≤ m) : (Txt.join y ws).length ≤ ws.length * m + ws.length * y.length := by
  have e := joinL_len (tl y) (ws.map tl)
  rw [len_tl, tl_joined]
  have s := sum_le h
  have c : (ws.map tl).map List.length = ws.map (·.length) := by rw [List.map_map]; apply List.map_congr_left; intro w _; exact (len_tl w).symm
  rw [c, List.length_map, ← len_tl] at e
  omega
theorem join_pos (hne : ws ≠ []) (h : ∀ w ∈ ws, 1 ≤ w.length) : 1 ≤ (Txt.join y ws).length := by
  rw [len_tl, tl_joined]
  exact joinL_pos (fun e => hne (List.map_eq_nil_iff.mp e)) fun q hq => by
    obtain ⟨w, hw, rfl⟩ := List.mem_map.mp hq
    rw [← len_tl]; exact h w hw
end
theorem hTru_str {x : Str} {st : S} (h : 1 ≤ x.length) (l : x.length ≤ 16777216) : hTru (.str x) st = .ok true st := by
  show (match (if x.length ≤ 16777216 then some ((x.length : Int) != 0) else none) with | some k => R.ok k st | none => .stuck) = _
  rw [if_pos l]
  have : ((x.length : Int) != 0) = true := by
    rw [bne_iff_ne]; omega
  rw [this]
theorem hJoin_ok {d : D} {y : Str} {ws : List Str} {st : S} (h : IsSeq d ws) (l : (ws.map (·.length)).sum + ws.length * y.length ≤ 16777216) : hJoin y d st = .ok (.str (Txt.join y ws)) st := by
  have e : hJoinL y (ws.map .str) st = .ok (.str (Txt.join y ws)) st := by
    unfold hJoinL
    rw [strsD_map]
    exact if_pos l
  rcases h with rfl | rfl <;> exact e
theorem dApp_ok {i : Nat} {f : S → R D} {st st1 : S} {d : D} {ds ds1 : List D} (h0 : st.env[i]? = some (.own ds)) (h1 : f st = .ok d st1) (h2 : st1.env[i]? = some (.own ds1)) (l : ds1.length < 16777216) : dApp i f st = .ok .nx (st1.put i (.own (ds1 ++ [d]))) := by
  unfold dApp; rw [h0]; dsimp only; rw [h1, bind_ok, h2]; exact if_pos l
theorem dM1_ok {α : Type} {h : Str → D → S → R α} {fa fb : S → R D} {st st1 st2 : S} {x : Str} {d : D} {r : R α} (h1 : fa st = .ok (.str x) st1) (h2 : fb st1 = .ok d st2) (h3 : h x d st2 = r) : dM1 h fa fb st = r := by
  unfold dM1; rw [h1, bind_ok]; dsimp only; rw [h2, bind_ok, h3]
end DL

/-! DLzk: [i] of an object of the own class. -/
namespace DL
open PySem PySem.Spec PyProof.Rows L2
def hIxO (c : Nat) (F : Fn) : D → D → S → R D
  | .ob c' fs, y, st => if c' = c then fromF (F [.ob c' fs, y] st.bx) st else .stuck
  | x, y, st => hIx x y st
section
variable {X : Cx} {T : Tab} {W : WX}
theorem de_ixO {c k j : Nat} {F : Fn} {at_ : Str} {a b : Expr} {fa fb : S → R D} {pos : Pos} (m : MethAt X.prog X.w X.K X.mg X.base T c "__getitem__" [("self" : Str), at_] 2 k F) (fk : ∀ f, PySem.W.findIn X.K (.ref (T.C c)) "__getitem__" = some (some (.ref f)) → PySem.W.fnIn X.K f = true) (hr : Room j X.A) (hj : k + 1 ≤ j) (tk : Takes X W)
    (ha : DE X T W a fa) (hb : DE X T W b fb) (hs : PlainIx b := by exact fun _ _ => rfl) (hs2 : ∀ o i, PySem.subscripted b true o i = PySem.runValue (PySem.Code.builtin "lifetime.subscript" { pos := [o, i] }) := by exact fun _ _ => rfl) : DE X T W (.Subscript a b pos) (dBin (hIxO c F) fa fb) := by
  obtain ⟨f, fd, ok, hf, hfn, bn⟩ := m.ex
  refine ⟨fun pins s σ H Q I ⟨c0, G, st, hd, ok0⟩ => ?_⟩
  obtain ⟨c1, G1, st1, hd1, ok1⟩ := step (rel := relD X.K T) hd ok0
  refine Subscript_ (thn (ha.run pins s σ H _ I ⟨c1, G1, st1, hd1, ok1⟩) fun v sA ⟨x, HA, IA, rx, G2, st2, d, s2, hd2, r2, ok2⟩ => ?_)
  obtain ⟨c3, G3, st3, hd3, ok3⟩ := step (rel := relD X.K T) hd2 ok2
  refine thn (hb.run pins sA σ HA _ IA ⟨c3, G3, st3, hd3, ok3⟩) fun u sB ⟨y, HB, IB, ry, G4, st4, e, s4, hd4, r4, ok4⟩ => ?_
  have r2' := r2.mono s4
  show wpAny (model X.prog X.w) X.A (subscriptTail a b v u) (EP X pins σ Q) X.xe sB
  have plain : GOk X.K T W (relD X.K T) c0 G4 σ (hIx d e st4) Q → wpAny (model X.prog X.w) X.A (subscriptTail a b v u) (EP X pins σ Q) X.xe sB := fun q => ix_seq a b pins sB σ HB x y v u Q IB rx ry (snd_ix c0 G4 HB σ st4 x y d e Q hd4 r2' r4 q) (hs v u)
  cases r2' with
  | @ob p dx c' us fs h1 hl rr =>
    obtain rfl : v = Value.ref p := rx
    replace ok4 : GOk X.K T W (relD X.K T) c0 G4 σ (if c' = c then fromF (F [.ob c' fs, e] st4.bx) st4 else .stuck) Q := ok4
    by_cases ec : c' = c
    · rw [if_pos ec] at ok4
      subst ec
      obtain ⟨mA, J, _⟩ := ins_get IB.hok (hd4.sub _ _ h1)
      obtain ⟨od, J, _⟩ := J.look
      have hsp : spD X.K T 2 F [.ref p, y] HB Q (WE W σ) := spD_use hd4 (.cons (.ob h1 hl rr) (.cons r4 .nil)) rfl ok4
      obtain ⟨mF, hF⟩ := IB.fr
      refine PySem.W.sub_K hF IB.ok.mod.kin J hf (fk f hf) hfn (wpAny_call (codeAny_mono (ok.run X.A.in1 X.stack sB HB ⟨[.ref p, u], []⟩ [.ref p, u] [.ref p, y] _ _ ((hr.mono hj).in1) IB.env0.in1 (by simpa using bn sB [.ref p, u] IB.kIn rfl) (.cons rfl (.cons ry .nil)) hsp) fun res s2 z => ?_)) (hs2 _ _)
      cases res with
      | error er => exact passAt tk σ pins HB sB er s2 IB z
      | ok fl =>
        cases fl with
        | ret w =>
          exact IB.after z
        | next => exact False.elim z
        | brk => exact False.elim z
        | cont => exact False.elim z
    · rw [if_neg ec] at ok4; exact ok4.elim
  | non => exact plain ok4
  | bl _ => exact plain ok4
  | int _ => exact plain ok4
  | str _ => exact plain ok4
  | ls _ _ => exact plain ok4
  | tu _ _ => exact plain ok4
  | ro _ => exact plain ok4
  | box _ => exact plain ok4
  | er0 _ _ => exact plain ok4
  | er1 _ _ _ _ => exact plain ok4
end
end DL

/-! DLzl: calls of a static method by its class. -/
namespace DL
open PySem PySem.Spec PyProof.Rows L2
/-- a static method nm of the class that stands under the name x, by what it tells -/
structure StatAt (P : Program) (w : World) (K : PySem.W.Frag) (mg : Str → Option Value) (base : Heap) (T : Tab) (x nm : Str) (ps : List Str) (n k : Nat) (F : Fn) : Prop where
  ex : ∃ (C p f : Addr) (mc : Value) (rest : List Value) (fd : FuncData), mg x = some (.ref C) ∧ PySem.W.specialIn K (.ref C) "__getattribute__" = some (some (.builtin "type.__getattribute__")) ∧
    PySem.W.typeIn K (.ref C) = some mc ∧ PySem.W.readsIn K C mc = true ∧ PySem.W.findCls K (.ref C) mc nm = some (.get (.builtin "staticmethod.__get__") (.ref p) .none (.ref C)) ∧
    PySem.W.recIn K p "staticmethod" = some (.ref f :: rest) ∧ PySem.W.handedIn (.ref f) = true ∧ FnOk P w K mg base (L2.CX P w) k f fd ps (spD K T n F) ∧ PySem.W.keepIn K (.ref f) = true ∧ Binds K fd ps []
section
variable {X : Cx} {T : Tab} {W : WX}
theorem de_stat {x nm : Str} {ps : List Str} {n k j : Nat} {F : Fn} {p1 p2 pos : Pos} {e : Expr} {es : List Expr} {fa : S → R (List D)} {pl : Sem Bool} (h : StatAt X.prog X.w X.K X.mg X.base T x nm ps n k F) (hr : Room j X.A) (hj : k ≤ j) (tk : Takes X W) (ha : DA X T W (e :: es) fa)
    (hg : Gl X x := by rfl) (hdb : (x == ("__debug__" : Str)) = false := by decide) (he : starEach (e :: es) X.env = (false, eval e X.env) :: starEach es X.env := by rfl) (hpl : (backTo pos (starEach es X.env)).any (·.1) = false := by rfl)
    (hm : eval (.Call (.Attribute (.Name x p1) nm p2) (e :: es) [] pos) X.env = (do
      let ov ← eval (.Name x p1) X.env
      standAt p2.atName
      let (f, first) ← holding [ov] (getMethod ov nm pl)
      callWith pos f first (backTo pos (starEach (e :: es) X.env)) (backToKw pos (keywordEach [] X.env))) := by rfl) :
    DE X T W (.Call (.Attribute (.Name x p1) nm p2) (e :: es) [] pos) (dCall n F [] fa) := by
  obtain ⟨C, p, f, mc, rest, fd, g, h1, h2, h3, h4, h5, h6, ok, kp, bn⟩ := h.ex
  refine ⟨fun pins s σ H Q I ⟨c0, G, st, hd, okq⟩ => ?_⟩
  refine PySem.W.methodCall_KW (pl := pl) ?_ hm
  refine thn ((pe_glob (v := .ref C) hg g rfl hdb).run pins s σ H (fun v H1 => v = .ref C ∧ H1 = H) I ⟨rfl, rfl⟩) fun ov s1 ⟨v, H1, I1, r1, ev, eH⟩ => ?_
  subst ev eH
  obtain rfl : ov = Value.ref C := r1
  obtain ⟨mF, hF⟩ := I1.fr
  refine PySem.W.method_cls I1.kIn h1 (PySem.W.cls_sm hF I1.ok.mod.kin h2 h3 h4 h5 h6 ?_)
  have I2 : Inv X pins σ H1 { s1 with toks := s1.toks + 1 } := I1.kept (t' := s1.toks + 1) fun b o z => z
  obtain ⟨c1, G1, st1, hd1, ok1⟩ := step (rel := relA X.K T) hd okq
  refine PySem.W.callWith_K (h₀ := X.base) I2.ok.mod.kin kp (thn (ha.run pos pins _ σ H1 _ I2 ⟨c1, G1, st1, hd1, ok1⟩) fun us s2 ⟨vs, H2, I3, r2, G2, st2, ds, s3, hd2, rs, ok2⟩ => ⟨I3.kIn, ?_⟩) he hpl
  by_cases q : (ds ++ []).length = n
  · rw [if_pos q] at ok2
    rw [List.append_nil] at ok2 q
    exact run_fnSD (us := us) (E := WE W) ok (hr.mono hj) bn .nil (passAt tk σ) I3 r2 (by rw [List.append_nil]; exact spD_use hd2 rs (rs.length.trans q) ok2)
  · rw [if_neg q] at ok2; exact ok2.elim
end
end DL

/-! DLzm: an own class of one field by its facts: its __init__ has one default. -/
namespace DL
open PySem PySem.Spec PyProof.Rows L2
section
variable {P : Program} {w : World} {K : PySem.W.Frag} {mg : Str → Option Value} {base : Heap} {T : Tab}
/-- the bindings of a def of (self, p = default) -/
theorem ob_binds {qual p : Str} {params : Arguments} {body : List Stmt} {scope : Scope} {dT : Addr} {o : Obj} {n : Nat} {ud kV doc pm cdv ct : Value} {an : Option Addr} (l : K.lookup dT = some o) (hd : o.data = .seq #[ud] n)
    (h2 : ∀ q u, ∃ k, bindArgs (PySem.W.fnOf "__init__" qual params body scope (.ref dT) kV doc pm an cdv ct) ⟨[q, u], []⟩ = seqItems? (.ref dT) >>= k ∧ k (some #[ud]) = pure [(("self" : Str), q), (p, u)])
    (hk : ∀ q u, ∃ k, bindArgs (PySem.W.fnOf "__init__" qual params body scope (.ref dT) kV doc pm an cdv ct) ⟨[q], [(p, u)]⟩ = seqItems? (.ref dT) >>= k ∧ k (some #[ud]) = pure [(("self" : Str), q), (p, u)])
    (h1 : ∀ q, ∃ k, bindArgs (PySem.W.fnOf "__init__" qual params body scope (.ref dT) kV doc pm an cdv ct) ⟨[q], []⟩ = seqItems? (.ref dT) >>= k ∧ k (some #[ud]) = pure [(("self" : Str), q), (p, ud)]) :
    (∀ (s : Shared) (q u : Value), K.In s.heap → BindsTo s (PySem.W.fnOf "__init__" qual params body scope (.ref dT) kV doc pm an cdv ct) ⟨[q, u], []⟩ [(("self" : Str), q), (p, u)]) ∧
    (∀ (s : Shared) (q u : Value), K.In s.heap → BindsTo s (PySem.W.fnOf "__init__" qual params body scope (.ref dT) kV doc pm an cdv ct) ⟨[q], [(p, u)]⟩ [(("self" : Str), q), (p, u)]) ∧
    (∀ (s : Shared) (q : Value), K.In s.heap → BindsTo s (PySem.W.fnOf "__init__" qual params body scope (.ref dT) kV doc pm an cdv ct) ⟨[q], []⟩ [(("self" : Str), q), (p, ud)]) := by
  have go : ∀ (s : Shared) (args : Args) (bs : List (Str × Value)), K.In s.heap → (∃ k, bindArgs (PySem.W.fnOf "__init__" qual params body scope (.ref dT) kV doc pm an cdv ct) args = seqItems? (.ref dT) >>= k ∧ k (some #[ud]) = pure bs) → BindsTo s (PySem.W.fnOf "__init__" qual params body scope (.ref dT) kV doc pm an cdv ct) args bs := by
    intro s args bs hK ⟨k, e1, e2⟩
    refine L2.BindsTo.of_looks fun M => ?_
    rw [e1]
    exact looks_items hK l hd (by rw [e2]; exact PySem.W.Looks.of_pure rfl)
  exact ⟨fun s q u hK => go s _ _ hK (h2 q u), fun s q u hK => go s _ _ hK (hk q u), fun s q hK => go s _ _ hK (h1 q)⟩
/-- an empty tuple of the module -/
theorem rep_nil {eT : Addr} {o : Obj} {n : Nat} (l : K.lookup eT = some o) (hc : o.cls = .type "tuple") (hd : o.data = .seq #[] n) : ∀ B G, Rep K T B G (.ref eT) (.tu []) := fun B G =>
  .tu (.inr ⟨o, #[], n, l, hc, hd, by decide, .nil⟩) .nil
/-- the tables of the errors where own classes stand behind them -/
theorem tab_pre {cs os : List Addr} {fl fl' : List (List Str)} {c : Nat} (h : c < cs.length) : (tabOf (cs ++ os) fl').C c = (tabOf cs fl).C c := by
  show (cs ++ os).getD c 0 = cs.getD c 0
  rw [List.getD_eq_getElem?_getD, List.getD_eq_getElem?_getD, List.getElem?_append_left h]
theorem IsTab.more {cs os : List Addr} {fl fl' : List (List Str)} {u : Value} {tbl : Nat → Bool} (h : IsTab K (tabOf cs fl) cs.length u tbl) : IsTab K (tabOf (cs ++ os) fl') cs.length u tbl where
  t := fun c hc => by rw [tab_pre (fl := fl) hc]; exact h.t c hc
  e := fun c hc => by rw [tab_pre (fl := fl) hc]; exact h.e c hc
theorem XTab.more {cs os : List Addr} {fl fl' : List (List Str)} {u : Value} {tbl : Nat → Bool} (h : XTab K (tabOf cs fl) cs.length u tbl) : XTab K (tabOf (cs ++ os) fl') cs.length u tbl where
  t := fun c hc => by rw [tab_pre (fl := fl) hc]; exact h.t c hc
end
end DL

/-! DLzn: a, b, c = (x, y, z). -/
namespace DL
open PySem PySem.Spec PyProof.Rows L2
def dPar3 (i j l : Nat) (fa : S → R (List D)) : S → R Out := fun st => (fa st).bind fun ds st => match ds with
  | [a, b, c] => .ok .nx (((st.put i (.val a)).put j (.val b)).put l (.val c))
  | _ => .stuck
section
variable {X : Cx} {T : Tab} {W : WX}
theorem ds_par3 {i j l : Nat} {x y z : Str} {a b c : Expr} {fa : S → R (List D)} {px py pz pt pos : Pos} {kt k2 pt2} (hc : X.calm = true) (hN : X.N.Nodup) (hi : X.N[i]? = some x) (hj : X.N[j]? = some y) (hl : X.N[l]? = some z) (hij : i ≠ j) (hil : i ≠ l) (hjl : j ≠ l)
    (hx : X.env.scope.names.lookup x = some .local) (hy : X.env.scope.names.lookup y = some .local) (hz : X.env.scope.names.lookup z = some .local) (ha : DA X T W [a, b, c] fa)
    (hw : swappedStores [.Tuple [.Name x px, .Name y py, .Name z pz] kt pt] (.Tuple [a, b, c] k2 pt2) X.env = pure (some [x, y, z]))
    (hs : swapsWithSole [.Tuple [.Name x px, .Name y py, .Name z pz] kt pt] (.Tuple [a, b, c] k2 pt2) pos.line X.env = pure false := by rfl) :
    DS X T W (.Assign [.Tuple [.Name x px, .Name y py, .Name z pz] kt pt] (.Tuple [a, b, c] k2 pt2) pos) (dPar3 i j l fa) := impS (ps_par3 hc hN hi hj hl hij hil hjl hx hy hz ha hw hs) fun E σ H ⟨c0, G, st, hd, ok⟩ => by
  obtain ⟨c1, G1, st1, hd1, ok1⟩ := stepS (rel := relA X.K T) hd ok
  refine ⟨c1, G1, st1, hd1, ok1.imp fun vs H1 ⟨G2, st2, ds, s2, hd2, rs, ok2⟩ => ?_⟩
  cases rs with
  | nil => exact ok2.elim
  | cons r1 rs =>
    cases rs with
    | nil => exact ok2.elim
    | cons r2 rs =>
      cases rs with
      | nil => exact ok2.elim
      | cons r3 rs =>
        cases rs with
        | cons _ _ => exact ok2.elim
        | nil => exact ⟨_, _, _, rfl, ok2 _ _ _ (Same.refl _) (((hd2.putVal r1 i).putVal r2 j).putVal r3 l)⟩
end
end DL

/-! DLzo: != where an object of the own class may stand. -/
namespace DL
open PySem PySem.Spec PyProof.Rows L2
def asNot : R D → R D
  | .ok (.bl b) st => .ok (.bl (!b)) st
  | _ => .stuck
def hNeO (c : Nat) (F : Fn) : D → D → S → R D
  | .ob c' fs, y, st => if c' = c ∧ rightD c y = true then asNot (fromN (F [.ob c' fs, y] st.bx) st) else .stuck
  | x, y, st => toD (hNe x y st)
section
variable {X : Cx} {T : Tab} {W : WX}
theorem gok_not {c : Ctx} {G : Hp} {σ : SV} {r : R D} {Q : VK} (h : GOk X.K T W (relD X.K T) c G σ (asNot r) Q) : GOk X.K T W (relD X.K T) c G σ r (fun v H2 => ∃ b : Bool, v = .bl b ∧ Q (.bl (!b)) H2) := by
  cases r with
  | stuck => exact h
  | err e s => exact h.elim
  | ok d s =>
    cases d with
    | bl b =>
      intro G' H' v s1 hd rv
      cases rv
      exact ⟨b, rfl, h G' H' _ s1 hd (.bl (!b))⟩
    | _ => exact h.elim
theorem snd_neO {c k j : Nat} {F : Fn} (m : MethAt X.prog X.w X.K X.mg X.base T c "__eq__" [("self" : Str), "other"] 2 k F) (hn : PySem.W.findIn X.K (.ref (T.C c)) "__ne__" = some (some (.builtin "object.__ne__"))) (hm : PySem.W.mroIn X.K (T.C c) (.type "object") = some true)
    (n1 : PySem.W.notFirst X.K (T.C c) (.type "tuple") = true) (n2 : PySem.W.notFirst X.K (T.C c) (.type "NoneType") = true) (hr : Room j X.A) (hj : k + 1 ≤ j) (hu : X.A.units + 64 < cLine) :
    ∃ r : R2, OpR X (compareOp .NotEq) r ∧ Snd2 X T W r (hNeO c F) := by
  obtain ⟨f, fd, ok, hs, hf, bn⟩ := m.ex
  refine ⟨_, (op_neD hu).or (op_neOb ok hn hm hs hf bn (hr.mono hj) n1 n2), fun c0 G H σ st x y a b Q hd r1 r2 q => ?_⟩
  cases r1 with
  | @ob p dx c' us fs h1 hl rr =>
    replace q : GOk X.K T W (relD X.K T) c0 G σ (if c' = c ∧ rightD c b = true then asNot (fromN (F [.ob c' fs, b] st.bx) st) else .stuck) Q := q
    by_cases ec : c' = c ∧ rightD c b = true
    · rw [if_pos ec] at q
      obtain ⟨e1, e2⟩ := ec
      subst e1
      refine .inr ⟨p, dx, _, rfl, hd.sub _ _ h1, ?_, spD_useN hd (.cons (.ob h1 hl rr) (.cons r2 .nil)) rfl (gok_not q)⟩
      cases r2 with
      | @ob p2 dx2 c2 us2 fs2 h2 hl2 rr2 =>
        have : c2 = c' := by simpa [rightD] using e2
        subst this
        exact .inl ⟨p2, dx2, _, rfl, hd.sub _ _ h2⟩
      | @tu p2 xs ds h r => exact .inr (.inl ⟨p2, xs, rfl, Same.sqt hd.sub h⟩)
      | non => exact .inr (.inr rfl)
      | _ => exact absurd e2 (by simp [rightD])
    · rw [if_neg ec] at q; exact q.elim
  | non => exact .inl (snd_ne hu c0 G H σ st _ _ _ _ Q hd .non r2 q)
  | bl k => exact .inl (snd_ne hu c0 G H σ st _ _ _ _ Q hd (.bl k) r2 q)
  | int i => exact .inl (snd_ne hu c0 G H σ st _ _ _ _ Q hd (.int i) r2 q)
  | str z => exact .inl (snd_ne hu c0 G H σ st _ _ _ _ Q hd (.str z) r2 q)
  | ls h r => exact .inl (snd_ne hu c0 G H σ st _ _ _ _ Q hd (.ls h r) r2 q)
  | tu h r => exact .inl (snd_ne hu c0 G H σ st _ _ _ _ Q hd (.tu h r) r2 q)
  | ro h => exact .inl (snd_ne hu c0 G H σ st _ _ _ _ Q hd (.ro h) r2 q)
  | box h => exact .inl (snd_ne hu c0 G H σ st _ _ _ _ Q hd (.box h) r2 q)
  | er0 h n => exact .inl (snd_ne hu c0 G H σ st _ _ _ _ Q hd (.er0 h n) r2 q)
  | er1 h n d r => exact .inl (snd_ne hu c0 G H σ st _ _ _ _ Q hd (.er1 h n d r) r2 q)
theorem de_neO {c k j : Nat} {F : Fn} {a b : Expr} {fa fb : S → R D} {pos : Pos} (m : MethAt X.prog X.w X.K X.mg X.base T c "__eq__" [("self" : Str), "other"] 2 k F) (hn : PySem.W.findIn X.K (.ref (T.C c)) "__ne__" = some (some (.builtin "object.__ne__"))) (hm : PySem.W.mroIn X.K (T.C c) (.type "object") = some true)
    (n1 : PySem.W.notFirst X.K (T.C c) (.type "tuple") = true) (n2 : PySem.W.notFirst X.K (T.C c) (.type "NoneType") = true) (hr : Room j X.A) (hj : k + 1 ≤ j)
    (ha : DE X T W a fa) (hb : DE X T W b fb) : DE X T W (.Compare a [.NotEq] [b] pos) (dBin (hNeO c F) fa fb) := by
  obtain ⟨r, o, sd⟩ := snd_neO (W := W) m hn hm n1 n2 hr hj hr.units
  exact impE (pe_cmpR o ha hb (nomark _)) (bin_read (a := a) (b := b) sd)
end
end DL

/-! DLzp: max of a list of ints. -/
namespace DL
open PySem PySem.Spec PyProof.Rows L2
def maxI : Int → List Int → Int
  | m, [] => m
  | m, i :: is => maxI (if m < i then i else m) is
theorem maxI_top : ∀ (is : List Int) (m : Int), maxI m is ∈ m :: is ∧ ∀ y ∈ m :: is, y ≤ maxI m is
  | [], m => ⟨List.mem_cons_self, fun y hy => by simp at hy; rw [hy]; exact Int.le_refl _⟩
  | i :: is, m => by
    obtain ⟨h1, h2⟩ := maxI_top is (if m < i then i else m)
    refine ⟨?_, fun y hy => ?_⟩
    · show maxI (if m < i then i else m) is ∈ m :: i :: is
      rcases List.mem_cons.mp h1 with e | e
      · rw [e]; split <;> simp
      · simp [e]
    · show y ≤ maxI (if m < i then i else m) is
      have top := h2 _ List.mem_cons_self
      have l1 : m ≤ if m < i then i else m := by split <;> omega
      have l2 : i ≤ if m < i then i else m := by split <;> omega
      rcases List.mem_cons.mp hy with rfl | hy
      · exact Int.le_trans l1 top
      · rcases List.mem_cons.mp hy with rfl | hy
        · exact Int.le_trans l2 top
        · exact h2 y (List.mem_cons_of_mem _ hy)
def hMaxL : List D → S → R D
  | [.ls ds], st => match intDs ds with
    | some (i :: is) => .ok (.int (maxI i is)) st
    | _ => .stuck
  | _, _ => .stuck
section
variable {X : Cx} {T : Tab} {W : WX}
theorem snd_maxL : SndC X T W (rMax X.K) hMaxL := fun c G H σ st vs ds Q hd r ok => by
  cases r with
  | nil => exact ok.elim
  | cons r1 r =>
    cases r with
    | cons _ _ => cases r1 <;> exact ok.elim
    | nil =>
      cases r1 with
      | @ls p vs ds h r =>
        have ok' : GOk X.K T W (relD X.K T) c G σ (match intDs ds with | some (i :: is) => .ok (.int (maxI i is)) st | _ => .stuck) Q := ok
        cases e : intDs ds with
        | none => rw [e] at ok'; exact ok'.elim
        | some bs =>
          rw [e] at ok'
          cases bs with
          | nil => exact ok'.elim
          | cons i is =>
            refine ⟨p, i :: is, rfl, ?_, Nat.zero_lt_succ _, fun m hm top => ?_⟩
            · rw [← intDs_rep r e]
              exact SqL.of (hd.sub _ _ h)
            · obtain ⟨h1, h2⟩ := maxI_top is i
              obtain rfl : m = maxI i is := Int.le_antisymm (h2 m hm) (top _ h1)
              exact ok' _ _ _ (Same.refl _) hd (.int _)
      | _ => exact ok.elim
theorem de_maxL {p pos : Pos} {e : Expr} {fa : S → R (List D)} (hc : X.calm = true) (hg : Gl X "max") (hm : X.mg "max" = none) (ha : DA X T W [e] fa) (he : starEach [e] X.env = (false, eval e X.env) :: starEach [] X.env := by rfl) :
    DE X T W (.Call (.Name "max" p) [e] [] pos) (dCB hMaxL fa) := de_callB (cr_max hc) snd_maxL hg hm boot_max' ha (he := he)
end
end DL

/-! DLzq: list(range(a, b)). -/
namespace DL
open PySem PySem.Spec PyProof.Rows L2
section
variable {X : Cx}
def tLR (ta : TA) : TE := fun σ H Q => ta σ H fun vs H1 => ∃ i j : Int, vs = [.int i, .int j] ∧ (-(2 ^ 20) ≤ i ∧ i < 2 ^ 20 ∧ -(2 ^ 20) ≤ j ∧ j < 2 ^ 20) ∧ ∀ l, H1 l = none → Q (.ref l) (upd H1 l (.lst ((List.range (j - i).toNat).map fun k => V.int (i + (k : Nat)))))
theorem vals_range {i : Int} : ∀ {n m : Nat} {us : List Value}, us.length = n → (∀ (k : Nat) (v : Value), us[k]? = some v → ∃ t, v = .int (i + ((m + k : Nat) : Int)) t) → Vals ((List.range n).map fun k => V.int (i + ((m + k : Nat) : Int))) us
  | 0, m, us, hl, h => by rw [List.length_eq_zero_iff.mp hl]; exact .nil
  | n + 1, m, [], hl, h => by simp at hl
  | n + 1, m, u :: us, hl, h => by
    rw [List.range_succ_eq_map, List.map_cons, List.map_map]
    refine .cons ?_ ?_
    · obtain ⟨t, e⟩ := h 0 u rfl
      exact ⟨t, by rw [e]⟩
    · have e2 : ((fun k : Nat => V.int (i + ((m + k : Nat) : Int))) ∘ Nat.succ) = fun k : Nat => V.int (i + ((m + 1 + k : Nat) : Int)) := by
        funext k
        show V.int _ = V.int _
        congr 2
        omega
      rw [e2]
      exact vals_range (by simpa using hl) fun k v hk => by
        obtain ⟨t, e⟩ := h (k + 1) v (by simpa using hk)
        exact ⟨t, by rw [e]; congr 2; omega⟩
theorem pe_listRange2 {a b : Expr} {ta : TA} {p p2 q pos : Pos} (hc : X.calm = true) (hg : Gl X "list") (hm : X.mg "list" = none) (hg2 : Gl X "range") (hm2 : X.mg "range" = none) (ha : PA X [a, b] ta)
    (hs : starEach [a, b] X.env = [(false, eval a X.env), (false, eval b X.env)] := by rfl) (hs2 : starEach [b] X.env = [(false, eval b X.env)] := by rfl) : PE X (.Call (.Name "list" p) [.Call (.Name "range" p2) [a, b] [] q] [] pos) (tLR ta) := by
  refine ⟨fun pins s σ H Q I h => Call_ (ld_blt I hg hm boot_list' (callWith_type1 (args_cons ?_ rfl) rfl rfl))⟩
  refine Call_ (ld_blt I hg2 hm2 boot_range (PyProof.Rows.callWith_type1 (thn (ha.run q pins s σ H _ I h) fun us s1 ⟨vs, H1, I1, r1, q1⟩ => ?_) (by rw [hs, hs2]) (by rw [hs2]; rfl)))
  obtain ⟨i, j, e, ⟨q1, q2, q3, q4⟩, qq⟩ := q1
  subst e
  cases r1 with
  | cons r rr =>
    cases rr with
    | cons r' rr =>
      cases rr
      obtain ⟨t, rfl⟩ := r
      obtain ⟨t', rfl⟩ := r'
      refine call_range_2 (args_nil ?_)
      have I2 : Inv X pins σ H1 { s1 with heap := s1.heap.push { cls := .type "range", data := .fields #[.int i t, .int j t', .int 1 s1.toks] }, toks := s1.toks + 1 } := I1.kept fun b o e => Heap.get?_push_of_some _ e
      have hn : Builtin.Range.rangeSize i j 1 = (((j - i).toNat : Nat) : Int) := by rw [rangeSize_one]; split <;> omega
      refine call_list_range (I2.ok.hd hc) (IsRange.new ..) (small_one (by omega) (by omega) (by omega) (by omega)) hn (by omega) fun h' tk acc c' kp hS hacc => ?_
      have hv : Vals ((List.range (j - i).toNat).map fun k => V.int (i + (k : Nat))) acc.toList := by
        have := vals_range (i := i) (n := (j - i).toNat) (m := 0) (us := acc.toList) (by rw [Array.length_toList]; exact hacc.1) fun k v hk => by
          rw [Array.getElem?_toList] at hk
          obtain ⟨t, e⟩ := hacc.2 k v hk
          exact ⟨t, by rw [e]; simp⟩
        simpa using this
      refine ⟨.ref _, _, I2.laid (t' := tk) kp (Nat.le_refl _) (show ObjOk X.prog X.w _ h' _ (.lst _) from ⟨by rw [List.length_map, List.length_range]; unfold sizeLine; omega, acc.toList, c', hv, hS⟩), rfl, qq _ (I2.hok.fresh (Nat.le_refl _))⟩
end
section
variable {X : Cx} {T : Tab} {W : WX}
def hListRange2 : List D → S → R (List D)
  | [.int i, .int j], st => if -1048576 ≤ i ∧ i < 1048576 ∧ -1048576 ≤ j ∧ j < 1048576 then .ok (rangeD i (j - i).toNat) st else .stuck
  | _, _ => .stuck
theorem reps_range {K : PySem.W.Frag} {B : Option Addr} {G : Hp} (i : Int) : ∀ (ks : List Nat), Reps K T B G (ks.map fun k => V.int (i + (k : Nat))) (ks.map fun k => D.int (i + (k : Nat)))
  | [] => .nil
  | k :: ks => .cons (.int _) (reps_range i ks)
theorem df_listRange2 {a b : Expr} {fa : S → R (List D)} {p p2 q pos : Pos} (hc : X.calm = true) (hg : Gl X "list") (hm : X.mg "list" = none) (hg2 : Gl X "range") (hm2 : X.mg "range" = none) (ha : DA X T W [a, b] fa)
    (hs : starEach [a, b] X.env = [(false, eval a X.env), (false, eval b X.env)] := by rfl) (hs2 : starEach [b] X.env = [(false, eval b X.env)] := by rfl) : DF X T W (.Call (.Name "list" p) [.Call (.Name "range" p2) [a, b] [] q] [] pos) (dCBF hListRange2 fa) := by
  refine impE (pe_listRange2 hc hg hm hg2 hm2 ha hs hs2) fun σ H Q ⟨c, G, st, hd, ok⟩ => ?_
  obtain ⟨c0, G0, st0, hd0, ok0⟩ := step (rel := relA X.K T) hd ok
  refine ⟨c0, G0, st0, hd0, ok0.imp fun vs H1 ⟨G1, st1, a, s1, hd1, r, ok1⟩ => ?_⟩
  cases r with
  | nil => exact ok1.elim
  | cons r1 r =>
    cases r with
    | nil => cases r1 <;> exact ok1.elim
    | cons r2 r =>
      cases r with
      | cons _ _ => cases r1 <;> cases r2 <;> exact ok1.elim
      | nil =>
        cases r1 with
        | int i =>
          cases r2 with
          | int j =>
            replace ok1 : GOk X.K T W (relF X.K T) c G1 σ (if -1048576 ≤ i ∧ i < 1048576 ∧ -1048576 ≤ j ∧ j < 1048576 then .ok (rangeD i (j - i).toNat) st1 else .stuck) Q := ok1
            by_cases z : -1048576 ≤ i ∧ i < 1048576 ∧ -1048576 ≤ j ∧ j < 1048576
            · rw [if_pos z] at ok1
              refine ⟨i, j, rfl, ⟨by omega, by omega, by omega, by omega⟩, fun l hl => ?_⟩
              obtain ⟨h4, r4⟩ := hd1.fresh hl (reps_range (T := T) (K := X.K) (B := c.B) (G := G1) i (List.range (j - i).toNat))
              exact ok1 _ _ _ (Same.refl _) h4 r4
            · rw [if_neg z] at ok1; exact ok1.elim
          | _ => exact ok1.elim
        | _ => cases r2 <;> exact ok1.elim
end
end DL

/-! DLzr: try at a tuple of classes, whose suite keeps the error. -/
namespace DL
open PySem PySem.Spec PyProof.Rows L2
def wKeepT (K : PySem.W.Frag) (cs : List Value) (i : Nat) (ts : Addr → Value → Option Addr → TS) (Wo : WX) (D : Ends) : WX := fun cls d σ H =>
  ∃ C yes, cls = .ref C ∧ PySem.W.exmAny K cls cs = some yes ∧ (yes = false → Wo cls d σ H) ∧
    (yes = true → ∀ q, H q = none → ts q cls d
      { nx := fun σ1 H1 => D.nx (σ1.set i none) (upd H1 q (exV q C d)), rt := fun _ _ => False, bk := fun _ _ => False, ct := fun _ _ => False } (σ.set i (some (.ref q))) H)
theorem FlyingZ_keeps {base h h' : Heap} {l : List Env} {e : Addr} {Z : Obj → Prop} (x : HandSPX.FlyingZ base l e Z h) (k : ∀ b o, h.get? b = some o → h'.get? b = some o) : HandSPX.FlyingZ base l e Z h' := by
  obtain ⟨f1, f2, f3, oe, vs, T, oT, ts, a1, a2, a3, a4, a5, a6, a7, a8, a9⟩ := x
  exact ⟨fun b o e => k b o (f1 b o e), f2, Heap.FunFrames.of_keeps (fun b o e _ => ⟨o, k b o e, rfl⟩) f3, oe, vs, T, oT, ts, k _ _ a1, a2, a3, a4, a5, a6, k _ _ a7, a8, a9⟩
section
variable {X : Cx} {x1 x2 x3 n : Str} {c1 c2 c3 : Value} {i : Nat} {body suite : List Stmt} {st0 : Stmt} {np1 np2 np3 tp p1 p2 : Pos} {kk : Nat} {tb : WX → TS} {ts : Addr → Value → Option Addr → TS} {Wo : WX}
theorem ps_keepT3 (stk : X.stack = X.env :: X.outer) (fr : X.env.frame = some X.env.locals) (hex : X.ex = []) (nd : X.N.Nodup) (hi : X.N[i]? = some n) (hl : X.env.kindOf n = some .local) (hc1 : Names X x1 c1) (hc2 : Names X x2 c2) (hc3 : Names X x3 c3) (tk : Takes X Wo)
    (hb : ∀ (W : WX) (pn : List (Addr × Obj)) (xe : Value → Shared → Prop), Takes (X.tr pn xe) W → PassesOwn (model X.prog X.w) X.A X.env xe → PSs (X.tr pn xe) body (tb W))
    (hk : ∀ (q : Addr) (oe : Obj) (cls : Value) (d : Option Addr) (pn : List (Addr × Obj)), Zc cls d oe → (∃ vs, oe.data = .fields vs) → PSs (X.suite q ((q, oe) :: pn)) (st0 :: suite) (ts q cls d)) :
    PS X (.Try body [.ExceptHandler (some (.Tuple [.Name x1 np1, .Name x2 np2, .Name x3 np3] kk tp)) (some n) (st0 :: suite) p2] [] [] p1) (fun D σ H => tb (wKeepT X.K [c1, c2, c3] i ts Wo D) D σ H) := by
  refine ⟨fun pins s σ H D I h => wpAny_Try_except ?_⟩
  have ok := I.ok
  have frA : X.A.frames = some (X.env :: X.outer) := by rw [ok.frames, stk]
  have lo : Loc X.env.scope n := .inl hl
  refine wpAny_mono ((hb (wKeepT X.K [c1, c2, c3] i ts Wo D) (X.pn ++ pins) (landsAt X pins D (.ExceptHandler (some (.Tuple [.Name x1 np1, .Name x2 np2, .Name x3 np3] kk tp)) (some n) (st0 :: suite) p2)) (fun u s2 err => ?_) PassesOwn.looking).run [] s σ H D (I.toTry _) h) (fun f s2 z => ?_) (fun _ _ z => z)
  · obtain ⟨q, B, sI, pn2, σ2, H2, cls, d, rfl, Jt, nb, up, sky, na, os, ag, C, yes, rfl, ey, hno, hyes⟩ := err
    have J : Inv X pins σ2 H2 sI := Jt.ofTry ok
    replace sky : Sky B (X.env :: X.outer) q (Zc (.ref C) d) X.env.locals s2.heap := by rw [← stk]; exact sky
    show wpAny (model X.prog X.w) X.A (noteFrame (.ref q) X.env) _ _ _
    refine Sky.land Zc.steady frA fr sky fun hA flA upA => ?_
    have JA : Inv X pins σ2 H2 { s2 with heap := hA } := J.landed nb flA.1 (up.trans upA) os ag
    obtain ⟨oA, vA, gA, zA, dA⟩ := flA.there
    have nf := no_frame flA.2.2.1 gA dA
    have nL : q ≠ X.env.locals := fun z => nf (List.mem_filterMap.mpr ⟨X.env, List.mem_cons_self, by rw [fr, z]⟩)
    have nF : q ∉ X.fs := fun hm => by
      obtain ⟨en, he, z⟩ := List.mem_filterMap.mp hm
      exact nf (List.mem_filterMap.mpr ⟨en, List.mem_cons_of_mem _ he, z⟩)
    have new : sI.heap.get? q = none := by
      cases z : sI.heap.get? q with
      | none => rfl
      | some o =>
        have z2 := nb q o z (by rw [stk]; exact nf)
        rw [flA.2.1] at z2; cases z2
    have SA := JA.suite gA dA na nL nF
    refine wpAny_handleBy_cons (codeAny_handlers_test ?_) (by intro z; cases z)
    have ty : PySem.W.Looks (model X.prog X.w) hA (typeOf (.ref q)) (.ref C) := fun A Q E s k z => wpAny_typeOf_ref (k _ _ gA) (by rw [zA.1]; exact z)
    have named : ∀ {y : Str} {c : Value} {p : Pos}, Names X y c → ∀ {Q : Value → Shared → Prop} {E : Value → Shared → Prop}, Q c { s2 with heap := hA } → wpAny (model X.prog X.w) (X.A.mark (some (.ref q))) (eval (.Name y p) X.env) Q E { s2 with heap := hA } := fun {y c p} hc {Q E} z => by
      obtain ⟨hg, hdb, hm | ⟨hm, hv, hnn⟩⟩ := hc
      · exact ld_glob (X := X.suite q ((q, oA) :: (X.pn ++ pins))) SA hg hm z hdb
      · exact ld_blt (X := X.suite q ((q, oA) :: (X.pn ++ pins))) SA hg hm hv z hnn hdb
    refine wpAny_Tuple ?_
    refine wpAny_items_cons (named hc1 ?_)
    refine wpAny_items_cons (named hc2 ?_)
    refine wpAny_items_cons (named hc3 ?_)
    refine wpAny_items_nil ⟨by size_fits, ?_⟩
    have kp : ∀ b o, hA.get? b = some o → (hA.push { cls := .type "tuple", data := .seq [c1, c2, c3].toArray }).get? b = some o := fun _ _ z => Heap.get?_push_of_some _ z
    have mt := PySem.W.exm_tup3 (M := model X.prog X.w) (JA.kIn.keeps kp) (ty.keeps kp) (Heap.get?_push_size hA rfl) ey
    refine mt.here ?_
    replace flA := FlyingZ_keeps flA kp
    replace upA := upA.trans (Heap.UpToSlots.of_keeps kp)
    clear mt named SA JA gA
    generalize hA.push { cls := .type "tuple", data := .seq [c1, c2, c3].toArray } = hA at *
    cases yes with
    | true =>
      refine codeAny_handlers_suite_as (HandSPX.lands_againZ flA fun hB flB upB => ?_)
      have JB : Inv X pins σ2 H2 { s2 with heap := hB } := J.landed nb flB.1 ((up.trans upA).trans upB) os ag
      obtain ⟨oB, vB, gB, zB, dB⟩ := flB.there
      refine store_ok (X := X.suite q ((q, oB) :: (X.pn ++ pins))) (v := .ref q) (JB.suite gB dB na nL nF) nd hi lo rfl (fun s5 S5 => ?_) (.inr hl)
      refine wpAny_mono ((hk q oB (.ref C) d (X.pn ++ pins) zB ⟨_, dB⟩).run [] s5 _ H2 _ S5 (hyes rfl q na)) (fun f s6 z => ?_) (fun _ _ z => False.elim z)
      cases f with
      | next =>
        obtain ⟨σ6, H6, S6, z⟩ := z
        exact kept ⟨_, _, J⟩ hex new S6 ok zB dB nd hi hl fun s7 J7 => ⟨_, _, J7, z⟩
      | brk => obtain ⟨_, _, _, z⟩ := z; exact z.elim
      | cont => obtain ⟨_, _, _, z⟩ := z; exact z.elim
      | ret u => obtain ⟨_, _, _, _, _, z⟩ := z; exact z.elim
    | false =>
      show wpAny _ X.A (handleBy (.ref q) X.env []) _ _ _
      refine wpAny_handleBy_nil ?_
      obtain ⟨_, _, _, oe, vs, tb1, _, _, g1, _, d1, at1, _⟩ := id flA
      unfold PySem.passOn
      refine wpAny_bind (wpAny_field g1 d1 at1 ?_)
      rw [if_neg (show ¬ ((Value.ref tb1 == Value.none) = true) from by simp)]
      have onward : wpAny (model X.prog X.w) X.A (setFlight (.ref q) X.env.frame) (fun _ s4 => wpAny (model X.prog X.w) X.A (throw (.ref q) : Sem Flow) (SP X pins D) X.xe s4) X.xe { s2 with heap := hA } := by
        rw [fr]
        exact HandSPX.setFlight_upZ flA fun hC heldC upC => wpAny_throw (tk _ _ ⟨q, B, sI, pins, σ2, H2, .ref C, d, rfl, J, nb, (up.trans upA).trans upC, .inr (.inr (by rw [stk]; exact heldC)), na, os, ag, hno rfl⟩)
      first
        | exact wpAny_bind (wpAny_pure (wpAny_bind onward))
        | exact wpAny_bind onward
  · cases f with
    | next => obtain ⟨σ2, H2, J, z⟩ := z; exact wpAny_execs_nil ⟨σ2, H2, J.ofTry ok, z⟩
    | brk => obtain ⟨σ2, H2, J, z⟩ := z; exact ⟨σ2, H2, J.ofTry ok, z⟩
    | cont => obtain ⟨σ2, H2, J, z⟩ := z; exact ⟨σ2, H2, J.ofTry ok, z⟩
    | ret u => obtain ⟨v, σ2, H2, J, r, z⟩ := z; exact ⟨v, σ2, H2, J.ofTry ok, r, z⟩
end
theorem exm_or3 {K : PySem.W.Frag} {cls c1 c2 c3 : Value} {b1 b2 b3 : Bool} (h1 : PySem.W.exmOne K cls c1 = some b1) (h2 : PySem.W.exmOne K cls c2 = some b2) (h3 : PySem.W.exmOne K cls c3 = some b3) : PySem.W.exmAny K cls [c1, c2, c3] = some (b1 || b2 || b3) := by
  simp only [PySem.W.exmAny, h1, h2, h3]
  cases b1 <;> cases b2 <;> cases b3 <;> rfl
section
variable {X : Cx} {T : Tab} {W : WX}
theorem ds_keepT3At {x1 x2 x3 n y : Str} {m iy iN kk : Nat} {t1 t2 t3 : Nat → Bool} {body : List Stmt} {f : S → R Out} {np1 np2 np3 tp p1 p2 py pn p3 : Pos} (h1 : XAt X.K X.mg T m x1 t1) (h2 : XAt X.K X.mg T m x2 t2) (h3 : XAt X.K X.mg T m x3 t3) (stk : X.stack = X.env :: X.outer) (fr : X.env.frame = some X.env.locals) (hex : X.ex = []) (nd : X.N.Nodup)
    (hi : X.N[iN]? = some n) (hl : X.env.kindOf n = some .local) (tk : Takes X W)
    (hb : ∀ (W : WX) (pn : List (Addr × Obj)) (xe : Value → Shared → Prop), Takes (X.tr pn xe) W → PassesOwn (model X.prog X.w) X.A X.env xe → DSs (X.tr pn xe) T W body f)
    (hiy : X.N[iy]? = some y) (hly : Loc X.env.scope y) (ne : iy ≠ iN) (hv : Vis X.env.scope n) (hg1 : Gl X x1 := by rfl) (hg2 : Gl X x2 := by rfl) (hg3 : Gl X x3 := by rfl) (hd1 : (x1 == ("__debug__" : Str)) = false := by decide) (hd2 : (x2 == ("__debug__" : Str)) = false := by decide) (hd3 : (x3 == ("__debug__" : Str)) = false := by decide)
    (hd : (n == ("__debug__" : Str)) = false := by decide) (hcd : (n == ("__classdict__" : Str)) = false := by decide)
    (hsw : swapsWith (.Name n pn) (some (.Name y py)) p3.line X.env = pure false := by rfl) (hf : X.fn y = true ∨ X.env.scope.names.lookup y = some .local := by first | exact .inl rfl | exact .inr rfl | assumption) :
    DS X T W (.Try body [.ExceptHandler (some (.Tuple [.Name x1 np1, .Name x2 np2, .Name x3 np3] kk tp)) (some n) [.Assign [.Name y py] (.Name n pn) p3] p2] [] [] p1) (dTry (fun c => t1 c || t2 c || t3 c) m iy iN f) := by
  obtain ⟨a1, g1, u1⟩ := h1.ex
  obtain ⟨a2, g2, u2⟩ := h2.ex
  obtain ⟨a3, g3, u3⟩ := h3.ex
  refine impS (ps_keepT3 (c1 := .ref a1) (c2 := .ref a2) (c3 := .ref a3) (i := iN) (Wo := W) (tb := fun W => tD X.K T W f) (ts := fun _ _ _ => tAsg (tVar iN) (gName iy)) stk fr hex nd hi hl ⟨hg1, hd1, .inl g1⟩ ⟨hg2, hd2, .inl g2⟩ ⟨hg3, hd3, .inl g3⟩ tk hb (fun q oe cls d pn _ _ => pss_one (ps_set (X := X.suite q ((q, oe) :: pn)) nd hiy hly (pe_var (X := X.suite q ((q, oe) :: pn)) hi hv hd hcd) hsw hf))) fun E σ H ⟨c, G, st, h, ok⟩ => ⟨c, G, st, h, ?_⟩
  unfold dTry at ok
  cases z : f st with
  | stuck => rw [z] at ok; exact ok
  | ok o st1 => rw [z] at ok; cases o <;> exact ok
  | err e st1 =>
    rw [z] at ok
    replace ok : SOk X.K T W c G (if e.c < m ∧ iN < st1.env.length then (if (t1 e.c || t2 e.c || t3 e.c) = true then .ok .nx ((st1.put iy (.val (.er e.c e.fs))).put iN .un) else .err e st1) else .stuck) E := ok
    intro G1 H1 σ1 cls d s1 hd1 er
    by_cases lt : e.c < m ∧ iN < st1.env.length
    · rw [if_pos lt] at ok
      obtain ⟨ec, rest⟩ := id er
      subst ec
      refine ⟨_, _, rfl, exm_or3 (u1.t _ lt.1) (u2.t _ lt.1) (u3.t _ lt.1), fun no => ?_, fun yes q hq => ?_⟩
      · rw [no, if_neg Bool.false_ne_true] at ok
        exact ok G1 H1 σ1 _ d s1 hd1 er
      · rw [yes, if_pos rfl] at ok
        have gn := hd1.gnone hq
        obtain ⟨_, rp⟩ := rep_of_err (c := c) er gn
        have hd2 := hd1.lay (exV q (T.C e.c) d) hq
        have hd3 := (hd2.putVal rp iy).putUn iN none
        have li : iN < σ1.length := by rw [hd1.len]; exact lt.2
        refine ⟨.ref q, List.getElem?_set_self li, ?_⟩
        show E.nx (((σ1.set iN (some (.ref q))).set iy (some (.ref q))).set iN none) _
        rw [List.set_comm _ _ (Ne.symm ne), List.set_set]
        exact ok _ _ _ (s1.trans (same_upd gn)) hd3
    · rw [if_neg lt] at ok
      exact ok.elim
end
end DL

/-! EV: rules by which a def's run is reckoned step by step, by a tactic (get_elem_tactic_trivial is lent for it). -/
namespace DL
open PySem PySem.Spec PyProof.Rows L2
section
variable {σ τ ρ π : List Sl} {a b c e : Bx} {x y z d : D} {xs ys ds : List D} {f g fa fb fc : S → R D} {fs gs : S → R (List D)} {t u : S → R Bool}
/-! statements: the next state is given in full -/
theorem sq {p q : S → R Out} {st st1 st2 : S} {r : R Out} (h : p st = .ok .nx st1) (h0 : st1 = st2) (h2 : q st2 = r) : dSeq p q st = r := by rw [seq_nx h, h0, h2]
theorem s_set0 {i : Nat} (h1 : f ⟨σ, a⟩ = .ok d ⟨τ, b⟩) : dSet i f ⟨σ, a⟩ = .ok .nx ⟨τ.set i (.val d), b⟩ := dSet_ok h1
theorem s_set {st2 : S} {i : Nat} (h1 : f ⟨σ, a⟩ = .ok d ⟨τ, b⟩) (he : ⟨τ.set i (.val d), b⟩ = st2) : dSet i f ⟨σ, a⟩ = .ok .nx st2 := by
  rw [← he]; exact s_set0 h1
theorem s_own0 {i : Nat} (h1 : fs ⟨σ, a⟩ = .ok ds ⟨τ, b⟩) : dOwn i fs ⟨σ, a⟩ = .ok .nx ⟨τ.set i (.own ds), b⟩ := dOwn_ok h1
theorem s_own {st2 : S} {i : Nat} (h1 : fs ⟨σ, a⟩ = .ok ds ⟨τ, b⟩) (he : ⟨τ.set i (.own ds), b⟩ = st2) : dOwn i fs ⟨σ, a⟩ = .ok .nx st2 := by
  rw [← he]; exact s_own0 h1
theorem s_app0 {i : Nat} (h0 : σ[i]? = some (.own xs)) (h1 : f ⟨σ, a⟩ = .ok d ⟨τ, b⟩) (h2 : τ[i]? = some (.own ds)) (l : ds.length < 16777216) : dApp i f ⟨σ, a⟩ = .ok .nx ⟨τ.set i (.own (ds ++ [d])), b⟩ := dApp_ok h0 h1 h2 l
theorem s_app {st2 : S} {i : Nat} (h0 : σ[i]? = some (.own xs)) (h1 : f ⟨σ, a⟩ = .ok d ⟨τ, b⟩) (h2 : τ[i]? = some (.own ds)) (l : ds.length < 16777216) (he : ⟨τ.set i (.own (ds ++ [d])), b⟩ = st2) : dApp i f ⟨σ, a⟩ = .ok .nx st2 := by
  rw [← he]; exact s_app0 h0 h1 h2 l
theorem s_setIx0 {i : Nat} {k : Int} {j : Nat} (h1 : f ⟨σ, a⟩ = .ok d ⟨τ, b⟩) (h0 : τ[i]? = some (.own xs)) (h2 : g ⟨τ, b⟩ = .ok (.int k) ⟨ρ, c⟩) (h3 : ρ[i]? = some (.own ds)) (h4 : ixN ds.length k = some j) : dSetIx i f g ⟨σ, a⟩ = .ok .nx ⟨ρ.set i (.own (ds.set j d)), c⟩ := by
  unfold dSetIx
  rw [h1, bind_ok]
  dsimp only
  rw [h0]
  dsimp only
  rw [h2, bind_ok]
  dsimp only
  rw [h3]
  dsimp only
  rw [h4]
  rfl
theorem s_setIx {st2 : S} {i : Nat} {k : Int} {j : Nat} (h1 : f ⟨σ, a⟩ = .ok d ⟨τ, b⟩) (h0 : τ[i]? = some (.own xs)) (h2 : g ⟨τ, b⟩ = .ok (.int k) ⟨ρ, c⟩) (h3 : ρ[i]? = some (.own ds)) (h4 : ixN ds.length k = some j) (he : ⟨ρ.set i (.own (ds.set j d)), c⟩ = st2) : dSetIx i f g ⟨σ, a⟩ = .ok .nx st2 := by
  rw [← he]; exact s_setIx0 h1 h0 h2 h3 h4
theorem s_par0 {α β : Type} {i j : Nat} {sa : α → Sl} {sb : β → Sl} {p : S → R α} {q : S → R β} {v : α} {w : β} (h1 : p ⟨σ, a⟩ = .ok v ⟨τ, b⟩) (h2 : q ⟨τ, b⟩ = .ok w ⟨ρ, c⟩) : dPar i j sa sb p q ⟨σ, a⟩ = .ok .nx ⟨(ρ.set i (sa v)).set j (sb w), c⟩ := dPar_ok h1 h2
theorem s_par {st2 : S} {α β : Type} {i j : Nat} {sa : α → Sl} {sb : β → Sl} {p : S → R α} {q : S → R β} {v : α} {w : β} (h1 : p ⟨σ, a⟩ = .ok v ⟨τ, b⟩) (h2 : q ⟨τ, b⟩ = .ok w ⟨ρ, c⟩) (he : ⟨(ρ.set i (sa v)).set j (sb w), c⟩ = st2) : dPar i j sa sb p q ⟨σ, a⟩ = .ok .nx st2 := by
  rw [← he]; exact s_par0 h1 h2
theorem s_par30 {i j l : Nat} {v w q : D} (h1 : fs ⟨σ, a⟩ = .ok [v, w, q] ⟨ρ, c⟩) : dPar3 i j l fs ⟨σ, a⟩ = .ok .nx ⟨((ρ.set i (.val v)).set j (.val w)).set l (.val q), c⟩ := by unfold dPar3; rw [h1, bind_ok]; rfl
theorem s_par3 {st2 : S} {i j l : Nat} {v w q : D} (h1 : fs ⟨σ, a⟩ = .ok [v, w, q] ⟨ρ, c⟩) (he : ⟨((ρ.set i (.val v)).set j (.val w)).set l (.val q), c⟩ = st2) : dPar3 i j l fs ⟨σ, a⟩ = .ok .nx st2 := by
  rw [← he]; exact s_par30 h1
theorem s_unp0 {is : List Nat} (h1 : f ⟨σ, a⟩ = .ok (.tu ds) ⟨τ, b⟩) (h2 : ds.length = is.length) : dUnpack (.tp is) f ⟨σ, a⟩ = .ok .nx (DL.putAll is ds ⟨τ, b⟩) := by
  unfold dUnpack
  rw [h1, bind_ok]
  show (R.bind (if ds.length = is.length then R.ok () (DL.putAll is ds ⟨τ, b⟩) else .stuck) _) = _
  rw [if_pos h2]; rfl
theorem s_unp {st2 : S} {is : List Nat} (h1 : f ⟨σ, a⟩ = .ok (.tu ds) ⟨τ, b⟩) (h2 : ds.length = is.length) (he : (DL.putAll is ds ⟨τ, b⟩) = st2) : dUnpack (.tp is) f ⟨σ, a⟩ = .ok .nx st2 := by
  rw [← he]; exact s_unp0 h1 h2
theorem s_if_t {p q : S → R Out} {st st1 : S} {r : R Out} (h1 : t st = .ok true st1) (h2 : p st1 = r) : dIf t p q st = r := dIf_t h1 h2
theorem s_if_f {p q : S → R Out} {st st1 : S} {r : R Out} (h1 : t st = .ok false st1) (h2 : q st1 = r) : dIf t p q st = r := dIf_f h1 h2
theorem s_next {st : S} : dNext st = .ok .nx st := rfl
/-! lending -/
theorem e_lend {i : Nat} {v : V} (h0 : σ[i]? = some (.own ds)) (h1 : f ⟨(σ.set i (.val (.ls ds))).map Sl.hide, a⟩ = .ok d ⟨ρ, c⟩) (h2 : flatD d = some v) : dLend i f ⟨σ, a⟩ = .ok d ⟨σ, c⟩ := by
  unfold dLend
  dsimp only
  rw [h0]
  dsimp only
  show (match f ⟨(σ.set i (.val (.ls ds))).map Sl.hide, a⟩ with | .ok d s => if (flatD d).isSome then R.ok d _ else .stuck | _ => .stuck) = _
  rw [h1]
  dsimp only
  rw [h2]; rfl
theorem t_lend {i : Nat} {k : Bool} (h0 : σ[i]? = some (.own ds)) (h1 : t ⟨(σ.set i (.val (.ls ds))).map Sl.hide, a⟩ = .ok k ⟨ρ, c⟩) : dLendB i t ⟨σ, a⟩ = .ok k ⟨σ, c⟩ := by
  unfold dLendB
  dsimp only
  rw [h0]
  dsimp only
  show (match t ⟨(σ.set i (.val (.ls ds))).map Sl.hide, a⟩ with | .ok k s => R.ok k _ | _ => .stuck) = _
  rw [h1]
/-! tests of a known outcome -/
variable {st st1 st2 st3 : S} {i j k : Int}
theorem o_ltt (h : i < j) : hLt (.int i) (.int j) st = .ok true st := by show R.ok (decide (i < j)) st = _; rw [decide_eq_true h]
theorem o_ltf (h : j ≤ i) : hLt (.int i) (.int j) st = .ok false st := by show R.ok (decide (i < j)) st = _; rw [decide_eq_false (by omega)]
theorem o_let (h : i ≤ j) : hLe (.int i) (.int j) st = .ok true st := by show R.ok (decide (i ≤ j)) st = _; rw [decide_eq_true h]
theorem o_lef (h : j < i) : hLe (.int i) (.int j) st = .ok false st := by show R.ok (decide (i ≤ j)) st = _; rw [decide_eq_false (by omega)]
theorem o_gtt (h : j < i) : hGt (.int i) (.int j) st = .ok true st := by show R.ok (decide (j < i)) st = _; rw [decide_eq_true h]
theorem o_gtf (h : i ≤ j) : hGt (.int i) (.int j) st = .ok false st := by show R.ok (decide (j < i)) st = _; rw [decide_eq_false (by omega)]
theorem o_get (h : j ≤ i) : hGe (.int i) (.int j) st = .ok true st := by show R.ok (decide (j ≤ i)) st = _; rw [decide_eq_true h]
theorem o_gef (h : i < j) : hGe (.int i) (.int j) st = .ok false st := by show R.ok (decide (j ≤ i)) st = _; rw [decide_eq_false (by omega)]
theorem o_chain_t {h h' : D → D → S → R Bool} {k : Bool} {st4 st5 : S} (h1 : fa st = .ok x st1) (h2 : fb st1 = .ok y st2) (h3 : h x y st2 = .ok true st3) (h4 : fc st3 = .ok z st4) (h5 : h' y z st4 = .ok k st5) : dChainT h h' fa fb fc st = .ok k st5 := by
  unfold dChainT; rw [h1, bind_ok, h2, bind_ok, h3, bind_ok, if_pos rfl, h4, bind_ok, h5]
theorem o_chain_f {h h' : D → D → S → R Bool} (h1 : fa st = .ok x st1) (h2 : fb st1 = .ok y st2) (h3 : h x y st2 = .ok false st3) : dChainT h h' fa fb fc st = .ok false st3 := by
  unfold dChainT; rw [h1, bind_ok, h2, bind_ok, h3, bind_ok, if_neg Bool.false_ne_true]
theorem o_not_t (h1 : t st = .ok false st1) : dNot t st = .ok true st1 := dNot_ok h1
theorem o_not_f (h1 : t st = .ok true st1) : dNot t st = .ok false st1 := dNot_ok h1
theorem e_call {n : Nat} {F : Fn} (h1 : fs ⟨σ, a⟩ = .ok xs ⟨τ, b⟩) (hn : xs.length = n) (h2 : F xs b = .ok d c) : dCall n F [] fs ⟨σ, a⟩ = .ok d ⟨τ, c⟩ := dCall_ok h1 hn h2
theorem e_callF {n : Nat} {F : Fn} (h1 : fs ⟨σ, a⟩ = .ok xs ⟨τ, b⟩) (hn : xs.length = n) (h2 : F xs b = .okF ds c) : dCall n F [] fs ⟨σ, a⟩ = .ok (.ls ds) ⟨τ, c⟩ := dCall_okF h1 hn h2
/-! objects -/
theorem e_prop {k : Nat} {F : Fn} (h1 : f ⟨σ, a⟩ = .ok (.ob k xs) ⟨τ, b⟩) (h2 : F [.ob k xs] b = .ok d c) : dProp k F f ⟨σ, a⟩ = .ok d ⟨τ, c⟩ := by
  unfold dProp
  rw [h1, bind_ok]
  show (if k = k then fromN (F [.ob k xs] b) ⟨τ, b⟩ else .stuck) = _
  rw [if_pos rfl, h2]; rfl
theorem e_mulr (h : -18446744073709551616 < j ∧ j < 18446744073709551616) : hMul (.int i) (.int j) st = .ok (.int (i * j)) st := hMulI_r h
theorem e_mull (h : -18446744073709551616 < i ∧ i < 18446744073709551616) : hMul (.int i) (.int j) st = .ok (.int (i * j)) st := hMulI_l h
theorem e_div (h : 0 < j ∧ j < 340282366920938463463374607431768211456) : hDiv (.int i) (.int j) st = .ok (.int (i / j)) st := by
  have : j.natAbs.log2 < 128 := by rw [Nat.log2_lt (by omega)]; omega
  exact if_pos ⟨h.1, by omega⟩
theorem e_mod (h : 0 < j) : hMod (.int i) (.int j) st = .ok (.int (i % j)) st := if_pos h
theorem e_add_ls (l : xs.length + ys.length ≤ 16777216) : hAdd (.ls xs) (.ls ys) st = .ok (.ls (xs ++ ys)) st := if_pos l
theorem e_add_tu (l : xs.length + ys.length ≤ 16777216) : hAdd (.tu xs) (.tu ys) st = .ok (.tu (xs ++ ys)) st := if_pos l
end
end DL

namespace LW
open PySem PySem.Spec PyProof.Rows L2 DL
local macro_rules
  | `(tactic| decreasing_trivial_pre_omega) => `(tactic| first
    | with_reducible assumption
    | with_reducible exact dC_ok
    | with_reducible exact dNil_ok
    | with_reducible exact dNoP_ok
    | with_reducible exact s_next
    | ((with_reducible apply dV_ok); exact rfl)
    | with_reducible apply dCons_ok
    | with_reducible apply dBin_ok
    | with_reducible apply dBinB_ok
    | with_reducible apply e_call
    | with_reducible apply dCB_ok
    | with_reducible apply dCBF_ok
    | with_reducible apply dClose_ok
    | with_reducible apply dTup_ok
    | with_reducible apply dLst_ok
    | with_reducible apply dUn_ok
    | with_reducible apply dPart_ok
    | with_reducible apply dSlice_ok
    | with_reducible apply dSeqI_ok
    | with_reducible apply dOfB_ok
    | with_reducible apply dTru_bl
    | with_reducible apply dRet_ok
    | with_reducible apply e_prop
    | ((with_reducible apply e_lend); focus (exact rfl))
    | ((with_reducible apply t_lend); focus (exact rfl))
    | ((with_reducible apply sq); focus ((repeat' decreasing_trivial_pre_omega); done); focus (try dsimp only [List.set_cons_zero, List.set_cons_succ]); focus (exact rfl))
    | with_reducible apply s_set
    | with_reducible apply s_own
    | ((with_reducible apply s_app); focus (exact rfl))
    | with_reducible apply s_setIx
    | with_reducible apply s_par
    | with_reducible apply s_par3
    | with_reducible apply s_unp
    | ((with_reducible apply s_if_t); focus ((repeat' decreasing_trivial_pre_omega); done))
    | ((with_reducible apply s_if_f); focus ((repeat' decreasing_trivial_pre_omega); done))
    | (with_reducible apply o_not_t)
    | (with_reducible apply o_not_f)
    | ((with_reducible apply dAnd_t); focus ((repeat' decreasing_trivial_pre_omega); done))
    | ((with_reducible apply dAnd_f); ((repeat' decreasing_trivial_pre_omega); done))
    | ((with_reducible apply dOr_t); ((repeat' decreasing_trivial_pre_omega); done))
    | ((with_reducible apply dOr_f); focus ((repeat' decreasing_trivial_pre_omega); done))
    | ((with_reducible apply o_chain_t) <;> ((repeat' decreasing_trivial_pre_omega); done))
    | ((with_reducible apply o_chain_f) <;> ((repeat' decreasing_trivial_pre_omega); done))
    | ((with_reducible apply o_ltt); omega)
    | ((with_reducible apply o_ltf); omega)
    | ((with_reducible apply o_let); omega)
    | ((with_reducible apply o_lef); omega)
    | ((with_reducible apply o_gtt); omega)
    | ((with_reducible apply o_gtf); omega)
    | ((with_reducible apply o_get); omega)
    | ((with_reducible apply o_gef); omega)
    | ((with_reducible apply e_mulr); omega)
    | ((with_reducible apply e_mull); omega)
    | ((with_reducible apply e_div); omega)
    | ((with_reducible apply e_mod); omega)
    | ((with_reducible apply e_add_ls); first | exact Nat.le_of_ble_eq_true rfl | (simp; done) | (simp; omega))
    | ((with_reducible apply e_add_tu); first | exact Nat.le_of_ble_eq_true rfl | (simp; done) | (simp; omega))
    | exact (rfl : (_ : S) = _)
    | exact (rfl : (_ : R D) = _)
    | exact (rfl : (_ : R Bool) = _)
    | exact (rfl : (_ : R (List D)) = _)
    | exact (rfl : (_ : Option _) = _)
    | exact (rfl : (_ : Nat) = _)
    | exact Nat.le_of_ble_eq_true rfl
    | exact Nat.lt_of_lt_of_le (Nat.lt_succ_self _) (Nat.le_of_ble_eq_true rfl))
section
variable {b : Bx} {X Y : Sl} {rs bs : List Pr} {k p n : Int}
def plainN : Nat → D → Bool
  | 0, _ => false
  | _ + 1, .non => true
  | _ + 1, .bl _ => true
  | _ + 1, .int _ => true
  | _ + 1, .str x => PyData.canLay0 (.str x)
  | k + 1, .ls xs => decide (xs.length ≤ 16777216) && xs.all (plainN k)
  | k + 1, .tu xs => decide (xs.length ≤ 16777216) && xs.all (plainN k)
  | _ + 1, _ => false
theorem eqv_str (x : Str) : PyData.eqv (.str x) (.str x) = true := by simp [PyData.eqv]
theorem shaped_str {x : Str} (h : PyData.canLay0 (.str x) = true) : SeqAt.shaped (.str x) = true := by
  unfold SeqAt.shaped
  rw [h]
  rfl
theorem deq_int (i j : Int) : deq (.int i) (.int j) = some (i == j) := rfl
theorem deq_bl (i j : Bool) : deq (.bl i) (.bl j) = some (i == j) := rfl
theorem deq_str {x : Str} (h : PyData.canLay0 (.str x) = true) : deq (.str x) (.str x) = some true := by
  unfold deq
  show (if (SeqAt.shaped (.str x) && SeqAt.shaped (.str x)) = true then some (PyData.eqv (.str x) (.str x)) else none) = _
  rw [shaped_str h, eqv_str]; rfl
theorem deq_non : deq .non .non = some true := rfl
theorem mem_zipD {xs : List D} {d : D} (h : d ∈ zipD xs xs) : ∃ x ∈ xs, d = .tu [x, x] := by
  unfold zipD at h
  obtain ⟨p, hp, rfl⟩ := List.mem_map.mp h
  obtain ⟨i, hi, e⟩ := List.mem_iff_getElem.mp hp
  have := List.getElem_zip (l := xs) (l' := xs) (i := i) (h := hi)
  rw [this] at e
  cases e
  exact ⟨_, List.getElem_mem _, rfl⟩
abbrev Pr := Bool × Int
def hS (h : Bool) : Str := if h then "a" else "b"
def pr (r : Pr) : D := .tu [.str (hS r.1), .int r.2]
def put (acc : List Pr) (r : Pr) : List Pr := match acc.getLast? with
  | none => [r]
  | some l => if l.1 = r.1 then acc.dropLast ++ [(r.1, l.2 + r.2)] else acc ++ [r]
def joinP (rs : List Pr) : List Pr := rs.foldl put []
theorem put_nil (r : Pr) : put [] r = [r] := rfl
theorem put_snoc (i : List Pr) (l r : Pr) : put (i ++ [l]) r = if l.1 = r.1 then i ++ [(r.1, l.2 + r.2)] else i ++ [l] ++ [r] := by
  unfold put
  rw [List.getLast?_concat]
  simp
theorem put_length (acc : List Pr) (r : Pr) : (put acc r).length ≤ acc.length + 1 := by
  unfold put
  cases h : acc.getLast? with
  | none => simp
  | some l =>
    dsimp only
    split
    · simp
    · simp
theorem atI_last {α : Type} (xs : List α) (x : α) : L2.atI (xs ++ [x]) (-1) = some x := by
  unfold L2.atI L2.ixN
  have e : (-1 : Int) + ((xs ++ [x]).length : Nat) = (xs.length : Nat) := by simp; omega
  rw [if_neg (by omega), if_pos (by simp; omega), e]
  simp
theorem ixN_last (n : Nat) : L2.ixN (n + 1) (-1) = some n := by
  unfold L2.ixN
  rw [if_neg (by omega), if_pos (by omega)]
  congr 1; omega
theorem hS_ok (h : Bool) : okS (hS h) = true := by cases h <;> kernel_rfl
theorem hS_inj {g h : Bool} : (hS g = hS h) ↔ g = h := by cases g <;> cases h <;> decide
def firstP : Int → List Pr → List Pr
  | _, [] => []
  | n, r :: rs => (if 0 < n then [(r.1, gMin r.2 n)] else []) ++ firstP (n - r.2) rs
def leftP : Int → List Pr → Int
  | n, [] => n
  | n, r :: rs => leftP (n - r.2) rs
theorem firstP_pos : ∀ (rs : List Pr) (n : Int), (∀ r ∈ rs, 1 ≤ r.2) → ∀ r ∈ firstP n rs, 1 ≤ r.2
  | [], _, _, r, h => by simp [firstP] at h
  | q :: rs, n, hp, r, h => by
    rw [firstP] at h
    rcases List.mem_append.mp h with h | h
    · split at h
      · rename_i n0
        rw [List.mem_singleton.mp h]
        have := hp q List.mem_cons_self
        show 1 ≤ gMin q.2 n
        unfold gMin; split <;> omega
      · simp at h
    · exact firstP_pos rs _ (fun z hz => hp z (List.mem_cons_of_mem _ hz)) r h
theorem firstP_length : ∀ (rs : List Pr) (n : Int), (firstP n rs).length ≤ rs.length
  | [], _ => Nat.le_refl _
  | q :: rs, n => by
    rw [firstP, List.length_append, List.length_cons]
    have := firstP_length rs (n - q.2)
    split <;> simp <;> omega
def pD (r : Pr) : PyData := .tuple [.str (hS r.1), .int r.2]
theorem toPs_row : ∀ rs : List Pr, toPs (rs.map pr) = some (rs.map pD)
  | [] => rfl
  | r :: rs => by
    show (toP (pr r)).bind (fun p => (toPs (rs.map pr)).map fun ps => p :: ps) = _
    rw [toPs_row rs]; rfl
theorem can_pD (r : Pr) : PyData.canLay0 (pD r) = true := by
  have h : PyData.canLay0 (.str (hS r.1)) = true := hS_ok r.1
  unfold pD
  rw [PyData.canLay0, PyData.canLayAll0, h, PyData.canLayAll0, PyData.canLay0, PyData.canLayAll0]
  rfl
theorem canAll_row : ∀ rs : List Pr, PyData.canLayAll0 (rs.map pD) = true
  | [] => by simp [PyData.canLayAll0]
  | r :: rs => by rw [List.map_cons, PyData.canLayAll0, can_pD, canAll_row rs]; rfl
theorem depth_pD (r : Pr) : PyData.depth (pD r) = 1 := by simp [pD, PyData.depth, PyData.depthAll]
theorem depth_row : ∀ rs : List Pr, PyData.depthAll (rs.map pD) ≤ 1
  | [] => by simp [PyData.depthAll]
  | r :: rs => by
    rw [List.map_cons, PyData.depthAll, depth_pD]
    have := depth_row rs
    omega
theorem shaped_row (rs : List Pr) : SeqAt.shaped (.list (rs.map pD)) = true := by
  unfold SeqAt.shaped
  rw [PyData.canLay0, canAll_row, PyData.depth]
  have := depth_row rs
  rw [decide_eq_true (by omega)]
  rfl
theorem deq_row_nil (r : Pr) (rs : List Pr) : deq (.ls ((r :: rs).map pr)) (.ls []) = some false := by
  unfold deq
  have h := shaped_row (r :: rs)
  have h0 : SeqAt.shaped (.list []) = true := shaped_row []
  simp only [toP, toPs_row, toPs, Option.map_some, h, h0, Bool.and_self, if_true]
  rw [PyData.eqv, List.map_cons, PyData.eqvAll]
  all_goals simp
def restP : Int → List Pr → List Pr
  | _, [] => []
  | g, r :: rs => (if g < r.2 then [(r.1, r.2 - g)] else []) ++ restP (gMax (g - r.2) 0) rs
def goneP : Int → List Pr → Int
  | g, [] => g
  | g, r :: rs => goneP (gMax (g - r.2) 0) rs
theorem restP_pos : ∀ (rs : List Pr) (g : Int), ∀ r ∈ restP g rs, 1 ≤ r.2
  | [], _, r, h => by simp [restP] at h
  | q :: rs, g, r, h => by
    rw [restP] at h
    rcases List.mem_append.mp h with h | h
    · split at h
      · rename_i n0
        rw [List.mem_singleton.mp h]
        show 1 ≤ q.2 - g
        omega
      · simp at h
    · exact restP_pos rs _ r h
theorem restP_length : ∀ (rs : List Pr) (g : Int), (restP g rs).length ≤ rs.length
  | [], _ => Nat.le_refl _
  | q :: rs, g => by
    rw [restP, List.length_append, List.length_cons]
    have := restP_length rs (gMax (g - q.2) 0)
    split <;> simp <;> omega
def AltB (hs : List Bool) : Prop := ∀ (pre post : List Bool) (a c : Bool), hs = pre ++ a :: c :: post → a ≠ c
abbrev hd (rs : List Pr) : List Bool := rs.map (·.1)
def Alt (rs : List Pr) : Prop := AltB (hd rs)
def Pos1 (rs : List Pr) : Prop := ∀ r ∈ rs, 1 ≤ r.2
theorem AltB.pre {xs ys : List Bool} (h : AltB (xs ++ ys)) : AltB xs := fun p q a c e => h p (q ++ ys) a c (by rw [e]; simp)
theorem AltB.suf {xs ys : List Bool} (h : AltB (xs ++ ys)) : AltB ys := fun p q a c e => h (xs ++ p) q a c (by rw [e]; simp)
theorem AltB.rev {xs : List Bool} (h : AltB xs) : AltB xs.reverse := fun p q a c e => fun z => h q.reverse p.reverse c a (by
  have := congrArg List.reverse e
  rw [List.reverse_reverse] at this
  rw [this]; simp) z.symm
theorem AltB.one (a : Bool) : AltB [a] := fun p q x y e => by
  have := congrArg List.length e
  simp at this
  omega
theorem AltB.snoc {i : List Bool} {l r : Bool} (h : AltB (i ++ [l])) (ne : l ≠ r) : AltB (i ++ [l] ++ [r]) := fun p q a c e => by
  rcases List.eq_nil_or_concat q with e2 | ⟨q', x, e2⟩
  · subst e2
    have e3 : (i ++ [l]) ++ [r] = (p ++ [a]) ++ [c] := by rw [e]; simp
    obtain ⟨u, v⟩ := List.append_inj' e3 rfl
    obtain ⟨_, w⟩ := List.append_inj' u rfl
    cases v; cases w
    exact ne
  · rw [List.concat_eq_append] at e2
    subst e2
    have e3 : (i ++ [l]) ++ [r] = (p ++ a :: c :: q') ++ [x] := by rw [e]; simp
    obtain ⟨u, _⟩ := List.append_inj' e3 rfl
    exact h p q' a c u
theorem put_alt {acc : List Pr} {r : Pr} (h : Alt acc) : Alt (put acc r) := by
  rcases List.eq_nil_or_concat acc with e | ⟨i, l, e⟩
  · subst e; exact AltB.one r.1
  · rw [List.concat_eq_append] at e
    subst e
    rw [put_snoc]
    have hm : hd (i ++ [l]) = hd i ++ [l.1] := by simp [hd]
    unfold Alt at h ⊢
    rw [hm] at h
    split
    · rename_i q
      have : hd (i ++ [(r.1, l.2 + r.2)]) = hd i ++ [l.1] := by simp [hd, q]
      rw [this]; exact h
    · rename_i q
      have : hd (i ++ [l] ++ [r]) = hd i ++ [l.1] ++ [r.1] := by simp [hd]
      rw [this]; exact h.snoc q
theorem foldl_alt : ∀ (rs acc : List Pr), Alt acc → Alt (rs.foldl put acc)
  | [], _, h => h
  | r :: rs, acc, h => foldl_alt rs (put acc r) (put_alt h)
theorem joinP_alt (rs : List Pr) : Alt (joinP rs) := foldl_alt rs [] fun p q a c e => by
  have := congrArg List.length e
  simp at this
theorem foldl_same : ∀ (rs acc : List Pr), Alt (acc ++ rs) → rs.foldl put acc = acc ++ rs
  | [], acc, _ => by simp
  | r :: rs, acc, h => by
    have e : put acc r = acc ++ [r] := by
      rcases List.eq_nil_or_concat acc with e | ⟨i, l, e⟩
      · subst e; rfl
      · rw [List.concat_eq_append] at e
        subst e
        rw [put_snoc, if_neg]
        exact h (hd i) (hd rs) l.1 r.1 (by simp [hd])
    rw [List.foldl_cons, e, foldl_same rs (acc ++ [r]) (by rw [List.append_assoc]; exact h)]
    simp
theorem joinP_same {rs : List Pr} (h : Alt rs) : joinP rs = rs := by
  have := foldl_same rs [] (by simpa using h)
  simpa [joinP] using this
theorem put_pos {acc : List Pr} {r : Pr} (h : Pos1 acc) (hr : 1 ≤ r.2) : Pos1 (put acc r) := by
  rcases List.eq_nil_or_concat acc with e | ⟨i, l, e⟩
  · subst e; intro z hz; rw [put_nil] at hz; rw [List.mem_singleton.mp hz]; exact hr
  · rw [List.concat_eq_append] at e
    subst e
    rw [put_snoc]
    have hl := h l (by simp)
    split
    · intro z hz
      rcases List.mem_append.mp hz with hz | hz
      · exact h z (List.mem_append_left _ hz)
      · rw [List.mem_singleton.mp hz]; show 1 ≤ l.2 + r.2; omega
    · intro z hz
      rcases List.mem_append.mp hz with hz | hz
      · exact h z hz
      · rw [List.mem_singleton.mp hz]; exact hr
theorem foldl_pos : ∀ (rs acc : List Pr), Pos1 acc → Pos1 rs → Pos1 (rs.foldl put acc)
  | [], _, h, _ => h
  | r :: rs, acc, h, hr => foldl_pos rs (put acc r) (put_pos h (hr r List.mem_cons_self)) fun z hz => hr z (List.mem_cons_of_mem _ hz)
theorem joinP_pos {rs : List Pr} (h : Pos1 rs) : Pos1 (joinP rs) := foldl_pos rs [] (fun _ hz => by simp at hz) h
theorem Pos1.tail {r : Pr} {rs : List Pr} (h : Pos1 (r :: rs)) : Pos1 rs := fun z hz => h z (List.mem_cons_of_mem _ hz)
theorem firstP_none : ∀ (rs : List Pr) (n : Int), Pos1 rs → n ≤ 0 → firstP n rs = []
  | [], _, _, _ => rfl
  | r :: rs, n, h, hn => by
    have := h r List.mem_cons_self
    rw [firstP, if_neg (by omega), firstP_none rs _ h.tail (by omega)]; rfl
theorem firstP_pre : ∀ (rs : List Pr) (n : Int), Pos1 rs → ∃ q, hd rs = hd (firstP n rs) ++ q
  | [], _, _ => ⟨[], rfl⟩
  | r :: rs, n, h => by
    by_cases q : 0 < n
    · obtain ⟨z, e⟩ := firstP_pre rs (n - r.2) h.tail
      refine ⟨z, ?_⟩
      rw [firstP, if_pos q]
      simp only [hd, List.map_cons, List.map_append] at e ⊢
      rw [e]; simp
    · refine ⟨hd (r :: rs), ?_⟩
      rw [firstP_none _ n h (by omega)]; rfl
theorem restP_all : ∀ (rs : List Pr), Pos1 rs → restP 0 rs = rs
  | [], _ => rfl
  | r :: rs, h => by
    have := h r List.mem_cons_self
    rw [restP, if_pos (by omega), show gMax (0 - r.2) 0 = 0 by unfold gMax; split <;> omega, restP_all rs h.tail]
    simp
theorem restP_suf : ∀ (rs : List Pr) (g : Int), Pos1 rs → 0 ≤ g → ∃ q, hd rs = q ++ hd (restP g rs)
  | [], _, _, _ => ⟨[], rfl⟩
  | r :: rs, g, h, hg => by
    by_cases q : g < r.2
    · refine ⟨[], ?_⟩
      rw [restP, if_pos q, show gMax (g - r.2) 0 = 0 by unfold gMax; split <;> omega, restP_all rs h.tail]
      rfl
    · obtain ⟨z, e⟩ := restP_suf rs (gMax (g - r.2) 0) h.tail (by unfold gMax; split <;> omega)
      refine ⟨r.1 :: z, ?_⟩
      rw [restP, if_neg q]
      simp only [hd, List.map_cons, List.nil_append, List.cons_append] at e ⊢
      rw [e]
theorem first_same {rs : List Pr} {n : Int} (h : Pos1 rs) (a : Alt rs) : joinP (firstP n rs) = firstP n rs := by
  obtain ⟨q, e⟩ := firstP_pre rs n h
  exact joinP_same (by unfold Alt at a; rw [e] at a; exact a.pre)
theorem rest_same {rs : List Pr} {g : Int} (h : Pos1 rs) (a : Alt rs) (hg : 0 ≤ g) : joinP (restP g rs) = restP g rs := by
  obtain ⟨q, e⟩ := restP_suf rs g h hg
  exact joinP_same (by unfold Alt at a; rw [e] at a; exact a.suf)
def whole : List Pr → Int
  | [] => 0
  | r :: rs => r.2 + whole rs
theorem whole_snoc : ∀ (xs : List Pr) (r : Pr), whole (xs ++ [r]) = whole xs + r.2
  | [], r => by simp [whole]
  | x :: xs, r => by rw [List.cons_append, whole, whole, whole_snoc xs r]; omega
theorem whole_rev : ∀ xs : List Pr, whole xs.reverse = whole xs
  | [] => rfl
  | x :: xs => by rw [List.reverse_cons, whole_snoc, whole_rev xs, whole]; omega
theorem firstP_snoc : ∀ (xs : List Pr) (r : Pr) (n : Int), firstP n (xs ++ [r]) = firstP n xs ++ if 0 < n - whole xs then [(r.1, gMin r.2 (n - whole xs))] else []
  | [], r, n => by simp [firstP, whole]
  | x :: xs, r, n => by
    rw [List.cons_append, firstP, firstP_snoc xs r (n - x.2), firstP, whole, List.append_assoc, show n - x.2 - whole xs = n - (x.2 + whole xs) by omega]
theorem whole_pos : ∀ {xs : List Pr}, Pos1 xs → 0 ≤ whole xs
  | [], _ => by simp [whole]
  | x :: xs, h => by
    have := h x List.mem_cons_self
    have := whole_pos h.tail
    rw [whole]; omega
theorem firstP_all : ∀ (xs : List Pr) (n : Int), Pos1 xs → whole xs ≤ n → firstP n xs = xs
  | [], _, _, _ => rfl
  | x :: xs, n, h, hn => by
    have h1 := h x List.mem_cons_self
    have h2 := whole_pos h.tail
    rw [whole] at hn
    rw [firstP, if_pos (by omega), firstP_all xs (n - x.2) h.tail (by omega)]
    have : gMin x.2 n = x.2 := by unfold gMin; split <;> omega
    rw [this]; rfl
theorem Pos1.rev {xs : List Pr} (h : Pos1 xs) : Pos1 xs.reverse := fun z hz => h z (List.mem_reverse.mp hz)
theorem rest_back : ∀ (rs : List Pr) (g : Int), Pos1 rs → 0 ≤ g → restP g rs = (firstP (whole rs - g) rs.reverse).reverse
  | [], _, _, _ => rfl
  | r :: t, g, h, hg => by
    have h1 := h r List.mem_cons_self
    rw [List.reverse_cons, firstP_snoc, List.reverse_append, whole_rev, whole, restP]
    have e0 : r.2 + whole t - g - whole t = r.2 - g := by omega
    rw [e0]
    by_cases q : g < r.2
    · rw [if_pos q, if_pos (by omega : 0 < r.2 - g), show gMax (g - r.2) 0 = 0 by unfold gMax; split <;> omega, restP_all t h.tail]
      rw [firstP_all t.reverse _ h.tail.rev (by rw [whole_rev]; omega)]
      have : gMin r.2 (r.2 - g) = r.2 - g := by unfold gMin; split <;> omega
      rw [this]; simp
    · rw [if_neg q, if_neg (by omega : ¬ 0 < r.2 - g), rest_back t _ h.tail (by unfold gMax; split <;> omega)]
      have : whole t - gMax (g - r.2) 0 = r.2 + whole t - g := by unfold gMax; split <;> omega
      rw [this]; simp
theorem put_put (acc : List Pr) (h : Bool) (m m' : Int) : put (put acc (h, m)) (h, m') = put acc (h, m + m') := by
  rcases List.eq_nil_or_concat acc with e | ⟨i, l, e⟩
  · subst e
    rw [put_nil]
    have := put_snoc [] (h, m) (h, m')
    simp at this
    exact this
  · rw [List.concat_eq_append] at e
    subst e
    rw [put_snoc, put_snoc]
    by_cases q : l.1 = h
    · rw [if_pos q, if_pos q, put_snoc, if_pos rfl]
      rw [Int.add_assoc]
    · rw [if_neg q, if_neg q, put_snoc, if_pos rfl]
theorem both_fold : ∀ (rs acc : List Pr) (n : Int), Pos1 rs → (firstP n rs ++ restP (gMax n 0) rs).foldl put acc = rs.foldl put acc
  | [], _, _, _ => rfl
  | r :: t, acc, n, h => by
    have h1 := h r List.mem_cons_self
    by_cases q : 0 < n
    · have e0 : gMax n 0 = n := by unfold gMax; split <;> omega
      by_cases w : n < r.2
      · rw [e0, firstP, if_pos q, firstP_none t _ h.tail (by omega), restP, if_pos w, show gMax (n - r.2) 0 = 0 by unfold gMax; split <;> omega, restP_all t h.tail]
        have : gMin r.2 n = n := by unfold gMin; split <;> omega
        rw [this]
        simp only [List.append_nil, List.cons_append, List.nil_append, List.foldl_cons]
        rw [put_put, show n + (r.2 - n) = r.2 by omega]
      · have e2 : gMin r.2 n = r.2 := by unfold gMin; split <;> omega
        rw [firstP, if_pos q, e0, restP, if_neg w, e2]
        simp only [List.cons_append, List.nil_append, List.foldl_cons]
        exact both_fold t (put acc r) (n - r.2) h.tail
    · rw [firstP_none _ n h (by omega), show gMax n 0 = 0 by unfold gMax; split <;> omega, restP_all _ h]; rfl
theorem both_same {rs : List Pr} {n : Int} (h : Pos1 rs) (a : Alt rs) : joinP (firstP n rs ++ restP (gMax n 0) rs) = rs := by
  have := both_fold rs [] n h
  unfold joinP
  rw [this]
  exact joinP_same a
def endsP : Int → List Pr → List Int
  | _, [] => []
  | e, r :: rs => (e + r.2) :: endsP (e + r.2) rs
theorem intDs_ints : ∀ xs : List Int, intDs (xs.map .int) = some xs
  | [] => rfl
  | x :: xs => by
    show (intDs (xs.map .int)).map _ = _
    rw [intDs_ints xs]; rfl
theorem sum_whole : ∀ rs : List Pr, (rs.map (·.2)).sum = whole rs
  | [] => rfl
  | r :: rs => by rw [List.map_cons, List.sum_cons, sum_whole rs, whole]
def flatP : List Pr → List Bool
  | [] => []
  | r :: rs => List.replicate r.2.toNat r.1 ++ flatP rs
def units (hs : List Bool) : List Pr := hs.map fun h => (h, 1)
theorem flatP_append : ∀ xs ys : List Pr, flatP (xs ++ ys) = flatP xs ++ flatP ys
  | [], _ => rfl
  | x :: xs, ys => by rw [List.cons_append, flatP, flatP, flatP_append xs ys, List.append_assoc]
theorem units_append (xs ys : List Bool) : units (xs ++ ys) = units xs ++ units ys := by simp [units]
theorem flatP_units : ∀ hs : List Bool, flatP (units hs) = hs
  | [] => rfl
  | h :: hs => by
    have := flatP_units hs
    show List.replicate (1 : Int).toNat h ++ flatP (units hs) = _
    rw [this]; rfl
theorem units_pos (hs : List Bool) : Pos1 (units hs) := fun r hr => by
  obtain ⟨h, _, rfl⟩ := List.mem_map.mp hr
  exact Int.le_refl 1
theorem fold_rep : ∀ (k : Nat) (acc : List Pr) (h : Bool), (units (List.replicate (k + 1) h)).foldl put acc = put acc (h, (k : Int) + 1)
  | 0, acc, h => by simp [units]
  | k + 1, acc, h => by
    rw [List.replicate_succ', units_append, List.foldl_append, fold_rep k acc h]
    show put (put acc (h, (k : Int) + 1)) (h, 1) = _
    rw [put_put]
    congr 2
theorem fold_flat : ∀ (rs acc : List Pr), Pos1 rs → rs.foldl put acc = (units (flatP rs)).foldl put acc
  | [], _, _ => rfl
  | r :: rs, acc, h => by
    have h1 := h r List.mem_cons_self
    obtain ⟨k, e⟩ : ∃ k : Nat, r.2 = (k : Int) + 1 := ⟨(r.2 - 1).toNat, by omega⟩
    rw [List.foldl_cons, flatP, units_append, List.foldl_append, show r.2.toNat = k + 1 by omega, fold_rep]
    rw [fold_flat rs _ h.tail]
    congr 1
    rw [← e]
theorem joinP_units {rs : List Pr} (h : Pos1 rs) : joinP rs = joinP (units (flatP rs)) := fold_flat rs [] h
theorem joinP_flat {xs ys : List Pr} (hx : Pos1 xs) (hy : Pos1 ys) (e : flatP xs = flatP ys) : joinP xs = joinP ys := by rw [joinP_units hx, joinP_units hy, e]
theorem put_flat {acc : List Pr} {r : Pr} (h : Pos1 acc) (hr : 1 ≤ r.2) : flatP (put acc r) = flatP (acc ++ [r]) := by
  rcases List.eq_nil_or_concat acc with e | ⟨i, l, e⟩
  · subst e; rfl
  · rw [List.concat_eq_append] at e
    subst e
    have hl := h l (by simp)
    rw [put_snoc]
    split
    · rename_i q
      rw [flatP_append, List.append_assoc, flatP_append]
      congr 1
      show List.replicate (l.2 + r.2).toNat r.1 ++ [] = List.replicate l.2.toNat l.1 ++ (List.replicate r.2.toNat r.1 ++ [])
      rw [q, List.append_nil, List.append_nil, List.replicate_append_replicate]
      congr 1; omega
    · rfl
theorem foldl_flat : ∀ (rs acc : List Pr), Pos1 acc → Pos1 rs → flatP (rs.foldl put acc) = flatP acc ++ flatP rs
  | [], acc, _, _ => by simp [flatP]
  | r :: rs, acc, ha, h => by
    have h1 := h r List.mem_cons_self
    rw [List.foldl_cons, foldl_flat rs _ (put_pos ha h1) h.tail, put_flat ha h1, flatP_append, flatP]
    simp [flatP]
theorem flat_join {rs : List Pr} (h : Pos1 rs) : flatP (joinP rs) = flatP rs := by
  have := foldl_flat rs [] (fun _ hz => by simp at hz) h
  simpa [joinP, flatP] using this
theorem flat_length : ∀ {rs : List Pr}, Pos1 rs → ((flatP rs).length : Int) = whole rs
  | [], _ => rfl
  | r :: rs, h => by
    have h1 := h r List.mem_cons_self
    have := flat_length h.tail
    rw [flatP, List.length_append, List.length_replicate, whole]
    omega
theorem flat_first : ∀ (rs : List Pr) (n : Int), Pos1 rs → flatP (firstP n rs) = (flatP rs).take n.toNat
  | [], n, _ => by simp [firstP, flatP]
  | r :: rs, n, h => by
    have h1 := h r List.mem_cons_self
    by_cases q : 0 < n
    · have fr : flatP (r :: rs) = List.replicate r.2.toNat r.1 ++ flatP rs := rfl
      rw [firstP, if_pos q, flatP_append, flat_first rs _ h.tail, fr, List.take_append]
      show (List.replicate (gMin r.2 n).toNat r.1 ++ []) ++ _ = _
      rw [List.append_nil, List.take_replicate, List.length_replicate]
      congr 2
      · unfold gMin; split <;> omega
      · omega
    · rw [firstP_none _ n h (by omega), show n.toNat = 0 by omega]; simp [flatP]
theorem flat_rest : ∀ (rs : List Pr) (g : Int), Pos1 rs → 0 ≤ g → flatP (restP g rs) = (flatP rs).drop g.toNat
  | [], g, _, _ => by simp [restP, flatP]
  | r :: rs, g, h, hg => by
    have h1 := h r List.mem_cons_self
    rw [restP, flatP_append, flat_rest rs _ h.tail (by unfold gMax; split <;> omega), flatP, List.drop_append]
    rw [List.drop_replicate, List.length_replicate]
    congr 1
    · split
      · show List.replicate (r.2 - g).toNat r.1 ++ [] = _
        rw [List.append_nil]; congr 1; omega
      · rw [show r.2.toNat - g.toNat = 0 by omega]; rfl
    · congr 1; unfold gMax; split <;> omega
theorem put_len1 : ∀ (rs acc : List Pr), (rs.foldl put acc).length ≤ acc.length + rs.length
  | [], acc => by simp
  | r :: rs, acc => by
    have h1 := put_length acc r
    have h2 := put_len1 rs (put acc r)
    rw [List.foldl_cons, List.length_cons]
    omega
theorem joinP_length (rs : List Pr) : (joinP rs).length ≤ rs.length := by
  have := put_len1 rs []
  simpa [joinP] using this
theorem pos_two (g h : Bool) : Pos1 [((h, 1) : Pr), (g, 1)] := fun r hr => by
  rcases List.mem_cons.mp hr with e | hr
  · rw [e]; exact Int.le_refl 1
  · rw [List.mem_singleton.mp hr]; exact Int.le_refl 1
theorem joinP_joinP (rs : List Pr) : joinP (joinP rs) = joinP rs := joinP_same (joinP_alt rs)
abbrev hT (hs : List Bool) : List D := hs.map fun h => .str (hS h)
theorem rep_flat (h : Bool) : ∀ n : Nat, (List.replicate n [D.str (hS h)]).flatten = hT (List.replicate n h)
  | 0 => rfl
  | n + 1 => by rw [List.replicate_succ, List.flatten_cons, rep_flat h n]; simp [hT, List.replicate_succ]
theorem mul_ok {h : Bool} {m : Int} {st : S} (h0 : 0 ≤ m) (l : m ≤ 1000) : hMul (.ls [D.str (hS h)]) (.int m) st = .ok (.ls (hT (List.replicate m.toNat h))) st := by
  show (if -9223372036854775808 ≤ m ∧ m < 9223372036854775808 ∧ 1 * m.toNat ≤ 16777216 then R.ok (D.ls (List.replicate m.toNat [D.str (hS h)]).flatten) st else .stuck) = _
  rw [if_pos ⟨by omega, by omega, by omega⟩, rep_flat]
theorem cut_to {α : Type} (xs : List α) {i : Int} (h : 0 ≤ i) : DL.cutD xs none (some i) = xs.take i.toNat := by
  obtain ⟨n, rfl⟩ : ∃ n : Nat, i = (n : Nat) := ⟨i.toNat, by omega⟩
  unfold DL.cutD
  rw [HT.sIx_none, HT.sIx_nat, List.drop_zero, Nat.sub_zero, List.take_eq_take_iff]; omega
theorem cut_from {α : Type} (xs : List α) {i : Int} (h : 0 ≤ i) : DL.cutD xs (some i) none = xs.drop i.toNat := by
  obtain ⟨n, rfl⟩ : ∃ n : Nat, i = (n : Nat) := ⟨i.toNat, by omega⟩
  unfold DL.cutD
  rw [HT.sIx_none, HT.sIx_nat]
  by_cases q : n ≤ xs.length
  · rw [Nat.min_eq_left q, Int.toNat_natCast, List.take_of_length_le (by rw [List.length_drop]; omega)]
  · rw [Nat.min_eq_right (by omega), List.drop_eq_nil_of_le (Nat.le_refl _), List.drop_eq_nil_of_le (by omega)]; simp
theorem cut_mid {α : Type} (xs : List α) {i j : Int} (h : 0 ≤ i) (hj : i ≤ j) : DL.cutD xs (some i) (some j) = (xs.drop i.toNat).take (j - i).toNat := by
  obtain ⟨n, rfl⟩ : ∃ n : Nat, i = (n : Nat) := ⟨i.toNat, by omega⟩
  obtain ⟨m, rfl⟩ : ∃ m : Nat, j = (m : Nat) := ⟨j.toNat, by omega⟩
  unfold DL.cutD
  rw [HT.sIx_nat, HT.sIx_nat]
  by_cases q : n ≤ xs.length
  · rw [Nat.min_eq_left q, Int.toNat_natCast, List.take_eq_take_iff, List.length_drop]; omega
  · rw [List.drop_eq_nil_of_le (by omega : xs.length ≤ min n xs.length), List.drop_eq_nil_of_le (by omega : xs.length ≤ _)]; simp
theorem two_of {α : Type} {xs : List α} {n : Nat} (h : n + 1 < xs.length) : ∃ g k, xs[n]? = some g ∧ xs[n + 1]? = some k ∧ (xs.drop n).take 2 = [g, k] := by
  refine ⟨xs[n], xs[n + 1], List.getElem?_eq_getElem (by omega), List.getElem?_eq_getElem h, ?_⟩
  rw [List.drop_eq_getElem_cons (by omega), List.drop_eq_getElem_cons h]
  rfl
theorem units_row (hs : List Bool) : (hT hs).map (fun d => D.tu [d, .int 1]) = (units hs).map pr := by simp [units, pr]
theorem unit_comp {i : Nat} {iter : S → R (List D)} {hs : List Bool} {env : List Sl} {r : List D} (hi : i < env.length) (h1 : iter ⟨env, b⟩ = .ok (hT hs) ⟨env, b⟩) (l : hs.length ≤ 1000) : dComp (.nm i) [i] iter dYes (dTup (dCons (dV i) (dCons (dC (.int 1)) dNil))) ⟨env, b⟩ = .ok ((units hs).map pr) ⟨env, b⟩ := by
  refine dComp_ok h1 ?_
  rw [← units_row]
  refine (compD_map (f := fun d => D.tu [d, .int 1]) (fun d hd => ?_) (by simp; omega)).trans (by simp)
  refine ⟨(wipeS (S.hide ⟨env, b⟩).env [i]).set i (.val d), ?_⟩
  have hl : i < (wipeS (S.hide ⟨env, b⟩).env [i]).length := by rw [wipeS_length]; show i < (env.map Sl.hide).length; rw [List.length_map]; exact hi
  have hv : dV i ⟨(wipeS (S.hide ⟨env, b⟩).env [i]).set i (.val d), b⟩ = .ok d ⟨(wipeS (S.hide ⟨env, b⟩).env [i]).set i (.val d), b⟩ := dV_ok (by show (List.set _ _ _)[i]? = _; rw [List.getElem?_set_self hl])
  unfold turnD
  show (R.bind (R.ok () ⟨(wipeS (S.hide ⟨env, b⟩).env [i]).set i (.val d), b⟩) _) = _
  rw [bind_ok]
  show (R.bind (R.ok true _) _) = _
  rw [bind_ok, if_pos rfl]
  have ht : dTup (dCons (dV i) (dCons (dC (.int 1)) dNil)) ⟨(wipeS (S.hide ⟨env, b⟩).env [i]).set i (.val d), b⟩ = .ok (.tu [d, .int 1]) ⟨(wipeS (S.hide ⟨env, b⟩).env [i]).set i (.val d), b⟩ := dTup_ok (dCons_ok hv (dCons_ok dC_ok dNil_ok)) (Nat.le_of_ble_eq_true rfl)
  rw [ht]
  rfl
theorem sl_to {hs : List Bool} {i : Int} (h : 0 ≤ i) : sliceD (.tu (hT hs)) none (some i) = some (.tu (hT (hs.take i.toNat))) := by
  show some (D.tu (DL.cutD (hT hs) none (some i))) = _
  rw [cut_to _ h, ← List.map_take]
theorem sl_from {hs : List Bool} {i : Int} (h : 0 ≤ i) : sliceD (.tu (hT hs)) (some i) none = some (.tu (hT (hs.drop i.toNat))) := by
  show some (D.tu (DL.cutD (hT hs) (some i) none)) = _
  rw [cut_from _ h, ← List.map_drop]
theorem sl_mid {hs : List Bool} {i j : Int} (h : 0 ≤ i) (hj : i ≤ j) : sliceD (.tu (hT hs)) (some i) (some j) = some (.tu (hT ((hs.drop i.toNat).take (j - i).toNat))) := by
  show some (D.tu (DL.cutD (hT hs) (some i) (some j))) = _
  rw [cut_mid _ h hj, ← List.map_drop, ← List.map_take]
theorem plain_row {n : Nat} {rs : List Pr} (l : rs.length ≤ 1000) : plainN (n + 3) (.tu (rs.map pr)) = true := by
  have a : (rs.map pr).all (plainN (n + 2)) = true := by
    rw [List.all_eq_true]
    intro d hd
    obtain ⟨r, hr, rfl⟩ := List.mem_map.mp hd
    have o : plainN (n + 1) (.str (hS r.1)) = true := hS_ok r.1
    show (decide (2 ≤ 16777216) && ([.str (hS r.1), .int r.2] : List D).all (plainN (n + 1))) = true
    rw [decide_eq_true (by omega)]
    simp only [List.all_cons, List.all_nil, o, Bool.true_and, Bool.and_true]
    rfl
  show (decide ((rs.map pr).length ≤ 16777216) && (rs.map pr).all (plainN (n + 2))) = true
  rw [a, decide_eq_true (by rw [List.length_map]; omega)]; rfl
theorem units_len (hs : List Bool) : (units hs).length = hs.length := List.length_map _
theorem plain_two {n : Nat} {x y : D} (hx : plainN n x = true) (hy : plainN n y = true) : plainN (n + 1) (.ls [x, y]) = true := by
  show (decide (2 ≤ 16777216) && ([x, y] : List D).all (plainN n)) = true
  simp only [List.all_cons, List.all_nil, hx, hy, Bool.true_and, Bool.and_true]
  rfl
theorem gMax_le (k : Int) : 0 ≤ gMax k 0 ∧ (gMax k 0).toNat = k.toNat := by unfold gMax; split <;> omega
theorem gMax_le' (k : Int) : 0 ≤ gMax 0 k ∧ (gMax 0 k).toNat = k.toNat := by unfold gMax; split <;> omega
theorem toP_hT : ∀ hs : List Bool, toPs (hT hs) = some (hs.map fun h => .str (hS h))
  | [] => rfl
  | h :: hs => by
    show (toP (.str (hS h))).bind (fun p => (toPs (hT hs)).map fun ps => p :: ps) = _
    rw [toP_hT hs]; rfl
theorem canAll_hT : ∀ hs : List Bool, PyData.canLayAll0 (hs.map fun h => PyData.str (hS h)) = true
  | [] => by simp [PyData.canLayAll0]
  | h :: hs => by
    have q : PyData.canLay0 (.str (hS h)) = true := hS_ok h
    rw [List.map_cons, PyData.canLayAll0, q, canAll_hT hs]; rfl
theorem depth_hT : ∀ hs : List Bool, PyData.depthAll (hs.map fun h => PyData.str (hS h)) = 0
  | [] => by simp [PyData.depthAll]
  | h :: hs => by
    rw [List.map_cons, PyData.depthAll, depth_hT hs]; simp [PyData.depth]
theorem eqvAll_hT : ∀ hs : List Bool, PyData.eqvAll (hs.map fun h => PyData.str (hS h)) (hs.map fun h => PyData.str (hS h)) = true
  | [] => by simp [PyData.eqvAll]
  | h :: hs => by
    rw [List.map_cons, PyData.eqvAll, eqv_str, eqvAll_hT hs]; rfl
theorem ne_two (x y : List Bool) {st : S} : hNe (.ls [.tu (hT x), .tu (hT y)]) (.ls [.tu (hT x), .tu (hT y)]) st = .ok false st := by
  have e : deq (.ls [.tu (hT x), .tu (hT y)]) (.ls [.tu (hT x), .tu (hT y)]) = some true := by
    unfold deq
    have t : toP (.ls [.tu (hT x), .tu (hT y)]) = some (.list [.tuple (x.map fun h => .str (hS h)), .tuple (y.map fun h => .str (hS h))]) := by
      simp [toP, toPs, toP_hT]
    have sh : SeqAt.shaped (.list [.tuple (x.map fun h => .str (hS h)), .tuple (y.map fun h => .str (hS h))]) = true := by
      unfold SeqAt.shaped
      simp only [PyData.canLay0, PyData.canLayAll0, canAll_hT, PyData.depth, PyData.depthAll, depth_hT]
      rfl
    rw [t]
    dsimp only
    rw [sh]
    simp only [PyData.eqv, PyData.eqvAll, eqvAll_hT]
    rfl
  unfold hNe
  rw [e]; rfl
theorem range2_ok {i j : Int} {st : S} (h : -1000 ≤ i ∧ i ≤ j ∧ j ≤ 100000) : ∃ ks : List Int, hRange2 [.int i, .int j] st = .ok (ks.map .int) st := by
  refine ⟨(List.range (j - i).toNat).map fun (n : Nat) => i + (n : Int), ?_⟩
  unfold hRange2 rangeD
  dsimp only
  rw [if_pos (by omega), List.map_map]
  rfl
theorem hDiv_big {i j : Int} {st : S} (h0 : 0 < j) (h : j < 340282366920938463463374607431768211456) : hDiv (.int i) (.int j) st = .ok (.int (i / j)) st := by
  have : j.natAbs.log2 < 128 := by rw [Nat.log2_lt (by omega)]; omega
  exact if_pos ⟨h0, by omega⟩
theorem plain_three {n : Nat} {x y z : D} (hx : plainN n x = true) (hy : plainN n y = true) (hz : plainN n z = true) : plainN (n + 1) (.ls [x, y, z]) = true := by
  show (decide (3 ≤ 16777216) && ([x, y, z] : List D).all (plainN n)) = true
  simp only [List.all_cons, List.all_nil, hx, hy, hz, Bool.true_and, Bool.and_true]
  rfl
theorem whole_join (hp : Pos1 bs) : whole (joinP bs) = whole bs := by
  rw [← flat_length (joinP_pos hp), flat_join hp, flat_length hp]
def HighOk (h : Int) : Prop := (1 ≤ h ∧ h ≤ 9) ∨ h = 10000000000000000000000000000
end
end LW

set_option maxHeartbeats 4000000
namespace LW
open PySem PySem.Spec PyProof.Rows L2 DL
def topS (i : Nat) : Stmt := PySem.Challenge.pw_heirturns_k37_lists_that_are_changed.main.body.getD i (.Pass ⟨0, 0, 0, 0⟩)
section
variable {P : Program} {w : World} {K : PySem.W.Frag} {mg : Str → Option Value} {base : Heap} {T : Tab}
def tblL_HeirError : List Bool := [true, true, true, true]
abbrev tbl_HeirError : Nat → Bool := fun c => tblL_HeirError.getD c false
def tblL_Known : List Bool := [false, true, false, false]
abbrev tbl_Known : Nat → Bool := fun c => tblL_Known.getD c false
def tblL_NoPlace : List Bool := [false, false, true, false]
abbrev tbl_NoPlace : Nat → Bool := fun c => tblL_NoPlace.getD c false
def tblL_NoThing : List Bool := [false, false, false, true]
abbrev tbl_NoThing : Nat → Bool := fun c => tblL_NoThing.getD c false
def tblL_ValueError : List Bool := [true, true, true, true]
abbrev tbl_ValueError : Nat → Bool := fun c => tblL_ValueError.getD c false
def tblL_LookupError : List Bool := [false, false, false, false]
abbrev tbl_LookupError : Nat → Bool := fun c => tblL_LookupError.getD c false
/-! list_exchanged -/
abbrev s_list_exchanged : Stmt := topS 9
abbrev N_list_exchanged : List Str := ["things", "place", "both"]
theorem sc_list_exchanged : FnScope N_list_exchanged ["things", "place"] (defScope s_list_exchanged) := ⟨rfl, rfl, rfl, by decide +kernel, rfl, by decide +kernel, by decide +kernel⟩
def B_list_exchanged : S → R Out := (dSeq (dIf (dNot (dChainT hLe hLt (dC (.int 1)) (dV 1) (dCB hLen (dCons (dV 0) dNil)))) (dRaise 2 (dV 1)) dNext) (dSeq (dSet 2 (dTup (dCons (dBin hIx (dV 0) (dV 1)) (dCons (dBin hIx (dV 0) (dBin hSub (dV 1) (dC (.int 1)))) dNil)))) (dRet (dBin hAdd (dBin hAdd (dCB hTupOf (dCons (dSlice (dV 0) dNoP (dPart (dBin hSub (dV 1) (dC (.int 1))))) dNil)) (dV 2)) (dCB hTupOf (dCons (dSlice (dV 0) (dPart (dBin hAdd (dV 1) (dC (.int 1)))) dNoP) dNil))))))
def F_list_exchanged : Fn := runFn 2 3 B_list_exchanged
theorem ok_list_exchanged (Z : Bi mg) (e_NoPlace : Er1At P w K mg base T "NoPlace" "number" 2) {f : Addr} {fd : FuncData} (F : Fun K "list_exchanged" "list_exchanged" s_list_exchanged f fd) : FnOk P w K mg base (L2.CX P w) 3 f fd ["things", "place"] (spD K T 2 F_list_exchanged) := by
  refine fn_okj F sc_list_exchanged fun cdv A outer s H E W hr hp tk => ?_
  have nd := sc_list_exchanged.nd
  exact (dss_cons (ds_if (dt_not (dt_chain (op_le.or op_le_str) (op_lt.or op_lt_str) snd_ord snd_ord de_int (de_var (pv 1)) (de_len (by rfl) Z.len (da_cons (de_var (pv 0)) da_nil)))) (dss_one (ds_raise1 e_NoPlace rfl hr tk (de_var (pv 1)))) dss_nil) (dss_cons (ds_set (i := 2) nd rfl (by first | exact .inl rfl | exact .inr rfl) (de_tup (da_cons (de_ix (de_var (pv 0)) (de_var (pv 1))) (da_cons (de_ix (de_var (pv 0)) (de_sub (de_var (pv 1)) de_int)) da_nil)))) (dss_one (ds_ret (de_add (de_add (de_tupleOf (by rfl) Z.tuple (da_cons (de_slice (de_var (pv 0)) do_none (do_some (de_sub (de_var (pv 1)) de_int))) da_nil)) (de_var (pv 2))) (de_tupleOf (by rfl) Z.tuple (da_cons (de_slice (de_var (pv 0)) (do_some (de_add (de_var (pv 1)) de_int)) do_none) da_nil)))))))
/-! thing_put -/
abbrev s_thing_put : Stmt := topS 10
abbrev N_thing_put : List Str := ["things", "place", "name"]
theorem sc_thing_put : FnScope N_thing_put ["things", "place", "name"] (defScope s_thing_put) := ⟨rfl, rfl, rfl, by decide +kernel, rfl, by decide +kernel, by decide +kernel⟩
def B_thing_put : S → R Out := (dSeq (dIf (dNot (dChainT hLe hLe (dC (.int 1)) (dV 1) (dBin hAdd (dCB hLen (dCons (dV 0) dNil)) (dC (.int 1))))) (dRaise 2 (dV 1)) dNext) (dSeq (dIf (dBinB hInR (dV 2) (dV 0)) (dRaise 1 (dV 2)) dNext) (dRet (dBin hAdd (dBin hAdd (dCB hTupOf (dCons (dSlice (dV 0) dNoP (dPart (dBin hSub (dV 1) (dC (.int 1))))) dNil)) (dTup (dCons (dV 2) dNil))) (dCB hTupOf (dCons (dSlice (dV 0) (dPart (dBin hSub (dV 1) (dC (.int 1)))) dNoP) dNil))))))
def F_thing_put : Fn := runFn 3 3 B_thing_put
theorem ok_thing_put (Z : Bi mg) (e_Known : Er1At P w K mg base T "Known" "name" 1) (e_NoPlace : Er1At P w K mg base T "NoPlace" "number" 2) {f : Addr} {fd : FuncData} (F : Fun K "thing_put" "thing_put" s_thing_put f fd) : FnOk P w K mg base (L2.CX P w) 3 f fd ["things", "place", "name"] (spD K T 3 F_thing_put) := by
  refine fn_okj F sc_thing_put fun cdv A outer s H E W hr hp tk => ?_
  have nd := sc_thing_put.nd
  exact (dss_cons (ds_if (dt_not (dt_chain (op_le.or op_le_str) (op_le.or op_le_str) snd_ord snd_ord de_int (de_var (pv 1)) (de_add (de_len (by rfl) Z.len (da_cons (de_var (pv 0)) da_nil)) de_int))) (dss_one (ds_raise1 e_NoPlace rfl hr tk (de_var (pv 1)))) dss_nil) (dss_cons (ds_if (dt_inR hr.units (de_var (pv 2)) (de_var (pv 0))) (dss_one (ds_raise1 e_Known rfl hr tk (de_var (pv 2)))) dss_nil) (dss_one (ds_ret (de_add (de_add (de_tupleOf (by rfl) Z.tuple (da_cons (de_slice (de_var (pv 0)) do_none (do_some (de_sub (de_var (pv 1)) de_int))) da_nil)) (de_tup (da_cons (de_var (pv 2)) da_nil))) (de_tupleOf (by rfl) Z.tuple (da_cons (de_slice (de_var (pv 0)) (do_some (de_sub (de_var (pv 1)) de_int)) do_none) da_nil)))))))
/-! check_things -/
abbrev s_check_things : Stmt := topS 6
abbrev N_check_things : List Str := ["order", "names", "name"]
theorem sc_check_things : FnScope N_check_things ["order", "names"] (defScope s_check_things) := ⟨rfl, rfl, rfl, by decide +kernel, rfl, by decide +kernel, by decide +kernel⟩
def B_check_things : S → R Out := (dFor (.nm 2) (dSeqI (dV 1)) (dIf (dBinB hNotInR (dV 2) (dV 0)) (dRaise 3 (dV 2)) dNext))
def F_check_things : Fn := runFn 2 3 B_check_things
theorem ok_check_things (Z : Bi mg) (e_NoThing : Er1At P w K mg base T "NoThing" "name" 3) {f : Addr} {fd : FuncData} (F : Fun K "check_things" "check_things" s_check_things f fd) : FnOk P w K mg base (L2.CX P w) 3 f fd ["order", "names"] (spD K T 2 F_check_things) := by
  refine fn_okj F sc_check_things fun cdv A outer s H E W hr hp tk => ?_
  have nd := sc_check_things.nd
  exact (dss_one (ds_for hp rfl (di_seq (de_var (pv 1))) (dg_name nd rfl (by first | exact .inl rfl | exact .inr rfl)) (dss_one (ds_if (dt_notInR hr.units (de_var (pv 2)) (de_var (pv 0))) (dss_one (ds_raise1 e_NoThing rfl hr tk (de_var (pv 2)))) dss_nil))))
/-! without -/
abbrev s_without : Stmt := topS 7
abbrev N_without : List Str := ["order", "name", "other"]
theorem sc_without : FnScope N_without ["order", "name"] (defScope s_without) := ⟨rfl, rfl, rfl, by decide +kernel, rfl, by decide +kernel, by decide +kernel⟩
def B_without : S → R Out := (dRet (dCB hTupOf (dCons (dClose (dComp (.nm 2) [2] (dSeqI (dV 0)) (dBinB hNe (dV 2) (dV 1)) (dV 2))) dNil)))
def F_without : Fn := runFn 2 3 B_without
theorem ok_without (Z : Bi mg) {f : Addr} {fd : FuncData} (F : Fun K "without" "without" s_without f fd) : FnOk P w K mg base (L2.CX P w) 1 f fd ["order", "name"] (spD K T 2 F_without) := by
  refine fn_okj F sc_without fun cdv A outer s H E W hr hp tk => ?_
  have nd := sc_without.nd
  exact (dss_one (ds_ret (de_tupleOf (by rfl) Z.tuple (da_cons (de_new (df_comp (own := [("other", 2)]) (k := (.nm 2)) rfl nd (di_seq (de_var (pv 0))) (blkOk_by (N := N_without) (sc := defScope s_without) (by decide +kernel)) (by decide) (fun _ _ _ _ _ => (dg_name nd rfl (by first | exact .inl rfl | exact .inr rfl))) (fun _ _ _ _ _ => (dts_one (dt_ne hr.units (de_var (pv 2)) (de_var (pv 1))))) (fun _ _ _ _ _ => (de_var (pv 2))))) da_nil))))
/-! thing_left_out -/
abbrev s_thing_left_out : Stmt := topS 11
abbrev N_thing_left_out : List Str := ["things", "name"]
theorem sc_thing_left_out : FnScope N_thing_left_out ["things", "name"] (defScope s_thing_left_out) := ⟨rfl, rfl, rfl, by decide +kernel, rfl, by decide +kernel, by decide +kernel⟩
def B_thing_left_out : S → R Out := (dSeq (dDrop (dCall 2 F_check_things [] (dCons (dV 0) (dCons (dTup (dCons (dV 1) dNil)) dNil)))) (dRet (dCall 2 F_without [] (dCons (dV 0) (dCons (dV 1) dNil)))))
def F_thing_left_out : Fn := runFn 2 2 B_thing_left_out
theorem ok_thing_left_out (Z : Bi mg) (c_check_things : DefAt P w K mg base T "check_things" ["order", "names"] 2 3 F_check_things) (c_without : DefAt P w K mg base T "without" ["order", "name"] 2 1 F_without) {f : Addr} {fd : FuncData} (F : Fun K "thing_left_out" "thing_left_out" s_thing_left_out f fd) : FnOk P w K mg base (L2.CX P w) 4 f fd ["things", "name"] (spD K T 2 F_thing_left_out) := by
  refine fn_okj F sc_thing_left_out fun cdv A outer s H E W hr hp tk => ?_
  have nd := sc_thing_left_out.nd
  exact (dss_cons (ds_expr (de_callD c_check_things hr (by decide) tk (da_cons (de_var (pv 0)) (da_cons (de_tup (da_cons (de_var (pv 1)) da_nil)) da_nil)))) (dss_one (ds_ret (de_callD c_without hr (by decide) tk (da_cons (de_var (pv 0)) (da_cons (de_var (pv 1)) da_nil))))))
/-! _law_heard -/
abbrev s_law_heard : Stmt := topS 22
abbrev N_law_heard : List Str := ["_law_door", "_law_likes_so", "_law_spot", "_law_own", "error", "_law_got", "_law_caught"]
theorem sc_law_heard : FnScope N_law_heard ["_law_door", "_law_likes_so", "_law_spot", "_law_own"] (defScope s_law_heard) := ⟨rfl, rfl, rfl, by decide +kernel, rfl, by decide +kernel, by decide +kernel⟩
def B_law_heard : S → R Out := (dSeq (dUnpack (.tp [5, 6]) (dTup (dCons (dC .non) (dCons (dC .non) dNil)))) (dSeq (dTry (fun c => tbl_Known c || tbl_NoPlace c || tbl_NoThing c) 4 6 4 (dIf (dBinB hEq (dV 0) (dC (.int 0))) (dSet 5 (dCall 2 F_list_exchanged [] (dCons (dV 1) (dCons (dV 2) dNil)))) (dSet 5 (dIfE (dBinB hEq (dV 0) (dC (.int 1))) (dCall 3 F_thing_put [] (dCons (dV 1) (dCons (dV 2) (dCons (dV 3) dNil)))) (dCall 2 F_thing_left_out [] (dCons (dV 1) (dCons (dV 3) dNil))))))) (dSeq (dIf (dBinB hIsN (dV 6) (dC .non)) (dRet (dV 5)) dNext) (dSeq (dIf (dTru (dIsE 4 (tbl_NoPlace) (dV 6))) (dRetF (dLst (dCons (dC (.str "far")) (dCons (dAttrEs [2] (dV 6)) (dCons (dIsE 4 (tbl_ValueError) (dV 6)) dNil))))) dNext) (dRetF (dLst (dCons (dIfE (dTru (dIsE 4 (tbl_Known) (dV 6))) (dC (.str "known")) (dC (.str "none"))) (dCons (dAttrEs [1, 3] (dV 6)) (dCons (dIsE 4 (tbl_ValueError) (dV 6)) dNil)))))))))
def F_law_heard : Fn := runFn 4 7 B_law_heard
theorem ok_law_heard (Z : Bi mg) (c_list_exchanged : DefAt P w K mg base T "list_exchanged" ["things", "place"] 2 3 F_list_exchanged) (c_thing_put : DefAt P w K mg base T "thing_put" ["things", "place", "name"] 3 3 F_thing_put) (c_thing_left_out : DefAt P w K mg base T "thing_left_out" ["things", "name"] 2 4 F_thing_left_out) (e_Known : Er1At P w K mg base T "Known" "name" 1) (e_NoPlace : Er1At P w K mg base T "NoPlace" "number" 2) (e_NoThing : Er1At P w K mg base T "NoThing" "name" 3) (i_Known : IsAt K mg T 4 "Known" tbl_Known) (i_NoPlace : IsAt K mg T 4 "NoPlace" tbl_NoPlace) (i_ValueError : IsTab K T 4 (.type "ValueError") tbl_ValueError) (x_Known : XAt K mg T 4 "Known" tbl_Known) (x_NoPlace : XAt K mg T 4 "NoPlace" tbl_NoPlace) (x_NoThing : XAt K mg T 4 "NoThing" tbl_NoThing) {f : Addr} {fd : FuncData} (F : Fun K "_law_heard" "_law_heard" s_law_heard f fd) : FnOk P w K mg base (L2.CX P w) 5 f fd ["_law_door", "_law_likes_so", "_law_spot", "_law_own"] (spD K T 4 F_law_heard) := by
  refine fn_okj F sc_law_heard fun cdv A outer s H E W hr hp tk => ?_
  have nd := sc_law_heard.nd
  exact (dss_cons (ds_asg (de_tup (da_cons de_non (da_cons de_non da_nil))) (dg_tup (pg_tup rfl (pgs_cons (pg_name nd rfl (by first | exact .inl rfl | exact .inr rfl)) (pgs_cons (pg_name nd rfl (by first | exact .inl rfl | exact .inr rfl)) pgs_nil))) (pg_unl rfl (pgs_cons (pg_name nd rfl (by first | exact .inl rfl | exact .inr rfl)) (pgs_cons (pg_name nd rfl (by first | exact .inl rfl | exact .inr rfl)) pgs_nil))))) (dss_cons (ds_keepT3At (iy := 6) (iN := 4) x_Known x_NoPlace x_NoThing rfl rfl rfl nd rfl rfl tk (fun W pn xe tk hp => (dss_one (ds_if (dt_eq hr.units (de_var (pv 0)) de_int) (dss_one (ds_set (i := 5) nd rfl (by first | exact .inl rfl | exact .inr rfl) (de_callD c_list_exchanged hr (by decide) tk (da_cons (de_var (pv 1)) (da_cons (de_var (pv 2)) da_nil))))) (dss_one (ds_set (i := 5) nd rfl (by first | exact .inl rfl | exact .inr rfl) (de_ifE (dt_eq hr.units (de_var (pv 0)) de_int) (de_callD c_thing_put hr (by decide) tk (da_cons (de_var (pv 1)) (da_cons (de_var (pv 2)) (da_cons (de_var (pv 3)) da_nil)))) (de_callD c_thing_left_out hr (by decide) tk (da_cons (de_var (pv 1)) (da_cons (de_var (pv 3)) da_nil))))))))) rfl (by first | exact .inl rfl | exact .inr rfl) (by decide) (by first | exact Or.inl rfl | exact Or.inr (Or.inl rfl) | exact Or.inr (Or.inr rfl))) (dss_cons (ds_if (dt_isN (de_var (pv 6)) de_non) (dss_one (ds_ret (de_var (pv 5)))) dss_nil) (dss_cons (ds_if (dt_tru (de_isOwn i_NoPlace (by rfl) Z.isinstance (de_var (pv 6)))) (dss_one (ds_retF (df_lst (da_cons de_str (da_cons (de_attrEs (cs := [2]) (fun c hc => by simp only [List.mem_cons, List.not_mem_nil, or_false] at hc; rcases hc with rfl <;> first | exact ⟨_, e_NoPlace⟩) (de_var (pv 6))) (da_cons (de_isBi i_ValueError (by decide +kernel) Z.ValueError (by rfl) Z.isinstance (de_var (pv 6))) da_nil)))))) dss_nil) (dss_one (ds_retF (df_lst (da_cons (de_ifE (dt_tru (de_isOwn i_Known (by rfl) Z.isinstance (de_var (pv 6)))) de_str de_str) (da_cons (de_attrEs (cs := [1, 3]) (fun c hc => by simp only [List.mem_cons, List.not_mem_nil, or_false] at hc; rcases hc with rfl | rfl <;> first | exact ⟨_, e_Known⟩ | exact ⟨_, e_NoThing⟩) (de_var (pv 6))) (da_cons (de_isBi i_ValueError (by decide +kernel) Z.ValueError (by rfl) Z.isinstance (de_var (pv 6))) da_nil))))))))))
/-! _law_same -/
abbrev s_law_same : Stmt := topS 19
abbrev N_law_same : List Str := ["_law_got", "_law_due_here", "_law_alike_so", "_law_mine", "_law_its"]
theorem sc_law_same : FnScope N_law_same ["_law_got", "_law_due_here"] (defScope s_law_same) := ⟨rfl, rfl, rfl, by decide +kernel, rfl, by decide +kernel, by decide +kernel⟩
def B_law_same (F : Fn) : S → R Out := (dSeq (dIf (dTru (dIsi2 4 5 (dV 1))) (dSeq (dIf (dBinB hNe (dIsi 4 (dV 0)) (dIsi 4 (dV 1))) (dRet (dC (.bl false))) dNext) (dSeq (dIf (dBinB hNe (dIsi 5 (dV 0)) (dIsi 5 (dV 1))) (dRet (dC (.bl false))) dNext) (dRet (dAndV (dOfB (dBinB hEq (dCB hLen (dCons (dV 0) dNil)) (dCB hLen (dCons (dV 1) dNil)))) (dCB hAll (dCons (dClose (dComp (.tp [3, 4]) [3, 4] (dCBF hZip (dCons (dV 0) (dCons (dV 1) dNil))) dYes (dCall 2 F [] (dCons (dV 3) (dCons (dV 4) dNil))))) dNil)))))) dNext) (dSeq (dIf (dOr (dBinB hIsN (dV 1) (dC .non)) (dTru (dIsi2 1 3 (dV 1)))) (dSeq (dSet 2 (dAndV (dOfB (dBinB hEq (dIsi 1 (dV 0)) (dIsi 1 (dV 1)))) (dOfB (dBinB hEq (dOfB (dBinB hIsN (dV 0) (dC .non))) (dOfB (dBinB hIsN (dV 1) (dC .non))))))) (dRet (dAndV (dV 2) (dOfB (dBinB hEq (dV 0) (dV 1)))))) dNext) (dRet (dAndV (dIsi 2 (dV 0)) (dAndV (dNotV (dIsi 1 (dV 0))) (dOfB (dBinB hEq (dV 0) (dV 1))))))))
def F_law_same : Nat → Fn
  | 0 => fun _ _ => .stuck
  | k + 1 => runFn 2 5 (B_law_same (F_law_same k))
theorem ok_law_same (Z : Bi mg) {f : Addr} {fd : FuncData} (F : Fun K "_law_same" "_law_same" s_law_same f fd) (bn : Binds K fd ["_law_got", "_law_due_here"] []) (hm : mg "_law_same" = some (.ref f)) : ∀ j, FnOk P w K mg base (L2.CX P w) (1 + j) f fd ["_law_got", "_law_due_here"] (spD K T 2 (F_law_same j))
  | 0 => fn_never rfl
  | j + 1 => by
    have ih : DefAt P w K mg base T "_law_same" ["_law_got", "_law_due_here"] 2 (1 + j) (F_law_same j) := .of (ok_law_same Z F bn hm j) hm F.kp bn
    refine fn_okj F sc_law_same fun cdv A outer s H E W hr hp tk => ?_
    have nd := sc_law_same.nd
    exact (dss_cons (ds_if (dt_tru (de_isi2 (t := 4) (u := 5) (by decide) (by decide) (by rfl) Z.isinstance (de_var (pv 1)) (pe_bltn (by rfl) Z.list (by decide +kernel) rfl) (pe_bltn (by rfl) Z.tuple (by decide +kernel) rfl))) (dss_cons (ds_if (dt_ne hr.units (de_isi (t := 4) (by decide) (by rfl) Z.isinstance (de_var (pv 0)) (pe_bltn (by rfl) Z.list (by decide +kernel) rfl)) (de_isi (t := 4) (by decide) (by rfl) Z.isinstance (de_var (pv 1)) (pe_bltn (by rfl) Z.list (by decide +kernel) rfl))) (dss_one (ds_ret de_bl)) dss_nil) (dss_cons (ds_if (dt_ne hr.units (de_isi (t := 5) (by decide) (by rfl) Z.isinstance (de_var (pv 0)) (pe_bltn (by rfl) Z.tuple (by decide +kernel) rfl)) (de_isi (t := 5) (by decide) (by rfl) Z.isinstance (de_var (pv 1)) (pe_bltn (by rfl) Z.tuple (by decide +kernel) rfl))) (dss_one (ds_ret de_bl)) dss_nil) (dss_one (ds_ret (de_and (de_eq hr.units (de_len (by rfl) Z.len (da_cons (de_var (pv 0)) da_nil)) (de_len (by rfl) Z.len (da_cons (de_var (pv 1)) da_nil))) (de_one (de_all rfl (by rfl) Z.all (da_cons (de_new (df_comp (own := [("_law_mine", 3), ("_law_its", 4)]) (k := (.tp [3, 4])) rfl nd (di_zip (by rfl) Z.zip (da_cons (de_var (pv 0)) (da_cons (de_var (pv 1)) da_nil))) (blkOk_by (N := N_law_same) (sc := defScope s_law_same) (by decide +kernel)) (by decide) (fun _ _ _ _ _ => (dg_tup (pg_tup rfl (pgs_cons (pg_name nd rfl (by first | exact .inl rfl | exact .inr rfl)) (pgs_cons (pg_name nd rfl (by first | exact .inl rfl | exact .inr rfl)) pgs_nil))) (pg_unl rfl (pgs_cons (pg_name nd rfl (by first | exact .inl rfl | exact .inr rfl)) (pgs_cons (pg_name nd rfl (by first | exact .inl rfl | exact .inr rfl)) pgs_nil))))) (fun _ _ _ _ _ => dts_nil) (fun _ _ _ _ _ => (de_callD ih hr (Nat.le_refl _) takes0 (da_cons (de_var (pv 3)) (da_cons (de_var (pv 4)) da_nil)))))) da_nil)))))))) dss_nil) (dss_cons (ds_if (dt_bool (dw_or (dt_isN (de_var (pv 1)) de_non) (dw_or1 (dt_tru (de_isi2 (t := 1) (u := 3) (by decide) (by decide) (by rfl) Z.isinstance (de_var (pv 1)) (pe_bltn (by rfl) Z.bool (by decide +kernel) rfl) (pe_bltn (by rfl) Z.str (by decide +kernel) rfl)))))) (dss_cons (ds_set (i := 2) nd rfl (by first | exact .inl rfl | exact .inr rfl) (de_and (de_eq hr.units (de_isi (t := 1) (by decide) (by rfl) Z.isinstance (de_var (pv 0)) (pe_bltn (by rfl) Z.bool (by decide +kernel) rfl)) (de_isi (t := 1) (by decide) (by rfl) Z.isinstance (de_var (pv 1)) (pe_bltn (by rfl) Z.bool (by decide +kernel) rfl))) (de_one (de_eq hr.units (de_isN (de_var (pv 0)) de_non) (de_isN (de_var (pv 1)) de_non))))) (dss_one (ds_ret (de_and (de_var (pv 2)) (de_one (de_eq hr.units (de_var (pv 0)) (de_var (pv 1)))))))) dss_nil) (dss_one (ds_ret (de_and (de_isi (t := 2) (by decide) (by rfl) Z.isinstance (de_var (pv 0)) (pe_bltn (by rfl) Z.int (by decide +kernel) rfl)) (de_and (de_not (de_isi (t := 1) (by decide) (by rfl) Z.isinstance (de_var (pv 0)) (pe_bltn (by rfl) Z.bool (by decide +kernel) rfl))) (de_one (de_eq hr.units (de_var (pv 0)) (de_var (pv 1))))))))))
/-! _in_one_alone -/
abbrev s_in_one_alone : Stmt := topS 13
abbrev N_in_one_alone : List Str := ["one", "other", "name"]
theorem sc_in_one_alone : FnScope N_in_one_alone ["one", "other"] (defScope s_in_one_alone) := ⟨rfl, rfl, rfl, by decide +kernel, rfl, by decide +kernel, by decide +kernel⟩
def B_in_one_alone : S → R Out := (dRet (dCB hTupOf (dCons (dClose (dComp (.nm 2) [2] (dSeqI (dV 0)) (dBinB hNotInR (dV 2) (dV 1)) (dV 2))) dNil)))
def F_in_one_alone : Fn := runFn 2 3 B_in_one_alone
theorem ok_in_one_alone (Z : Bi mg) {f : Addr} {fd : FuncData} (F : Fun K "_in_one_alone" "_in_one_alone" s_in_one_alone f fd) : FnOk P w K mg base (L2.CX P w) 1 f fd ["one", "other"] (spD K T 2 F_in_one_alone) := by
  refine fn_okj F sc_in_one_alone fun cdv A outer s H E W hr hp tk => ?_
  have nd := sc_in_one_alone.nd
  exact (dss_one (ds_ret (de_tupleOf (by rfl) Z.tuple (da_cons (de_new (df_comp (own := [("name", 2)]) (k := (.nm 2)) rfl nd (di_seq (de_var (pv 0))) (blkOk_by (N := N_in_one_alone) (sc := defScope s_in_one_alone) (by decide +kernel)) (by decide) (fun _ _ _ _ _ => (dg_name nd rfl (by first | exact .inl rfl | exact .inr rfl))) (fun _ _ _ _ _ => (dts_one (dt_notInR hr.units (de_var (pv 2)) (de_var (pv 1))))) (fun _ _ _ _ _ => (de_var (pv 2))))) da_nil))))
/-! share_change -/
abbrev s_share_change : Stmt := topS 12
abbrev N_share_change : List Str := ["before", "after"]
theorem sc_share_change : FnScope N_share_change ["before", "after"] (defScope s_share_change) := ⟨rfl, rfl, rfl, by decide +kernel, rfl, by decide +kernel, by decide +kernel⟩
def B_share_change : S → R Out := (dRet (dTup (dCons (dCall 2 F_in_one_alone [] (dCons (dV 0) (dCons (dV 1) dNil))) (dCons (dCall 2 F_in_one_alone [] (dCons (dV 1) (dCons (dV 0) dNil))) dNil))))
def F_share_change : Fn := runFn 2 2 B_share_change
theorem ok_share_change (Z : Bi mg) (c_in_one_alone : DefAt P w K mg base T "_in_one_alone" ["one", "other"] 2 1 F_in_one_alone) {f : Addr} {fd : FuncData} (F : Fun K "share_change" "share_change" s_share_change f fd) : FnOk P w K mg base (L2.CX P w) 2 f fd ["before", "after"] (spD K T 2 F_share_change) := by
  refine fn_okj F sc_share_change fun cdv A outer s H E W hr hp tk => ?_
  have nd := sc_share_change.nd
  exact (dss_one (ds_ret (de_tup (da_cons (de_callD c_in_one_alone hr (by decide) tk (da_cons (de_var (pv 0)) (da_cons (de_var (pv 1)) da_nil))) (da_cons (de_callD c_in_one_alone hr (by decide) tk (da_cons (de_var (pv 1)) (da_cons (de_var (pv 0)) da_nil))) da_nil)))))
/-! _law_shares_right -/
abbrev s_law_shares_right : Stmt := topS 25
abbrev N_law_shares_right : List Str := ["_law_got", "_law_due_here", "_law_wide"]
theorem sc_law_shares_right : FnScope N_law_shares_right [] (defScope s_law_shares_right) := ⟨rfl, rfl, rfl, by decide +kernel, rfl, by decide +kernel, by decide +kernel⟩
def B_law_shares_right : S → R Out := (dSeq (dOwn 0 (dLst (dCons (dCall 2 F_share_change [] (dCons (dTup (dCons (dC (.str "x")) (dCons (dC (.str "z")) dNil))) (dCons (dTup (dCons (dC (.str "y")) (dCons (dC (.str "z")) dNil))) dNil))) (dCons (dCall 2 F_share_change [] (dCons (dTup dNil) (dCons (dTup dNil) dNil))) dNil)))) (dSeq (dOwn 0 (dCat (dV 0) (dClose (dLst (dCons (dCall 2 F_share_change [] (dCons (dTup (dCons (dC (.str "a")) (dCons (dC (.str "b")) dNil))) (dCons (dTup (dCons (dC (.str "a")) (dCons (dC (.str "b")) dNil))) dNil))) dNil))))) (dSeq (dOwn 1 (dLst (dCons (dTup (dCons (dTup (dCons (dC (.str "x")) dNil)) (dCons (dTup (dCons (dC (.str "y")) dNil)) dNil))) (dCons (dTup (dCons (dTup dNil) (dCons (dTup dNil) dNil))) (dCons (dTup (dCons (dTup dNil) (dCons (dTup dNil) dNil))) dNil))))) (dSeq (dOwn 0 (dCat (dV 0) (dClose (dLst (dCons (dCall 2 F_share_change [] (dCons (dTup (dCons (dC (.str "a")) (dCons (dC (.str "b")) (dCons (dC (.str "c")) dNil)))) (dCons (dTup dNil) dNil))) (dCons (dCall 2 F_share_change [] (dCons (dTup dNil) (dCons (dTup (dCons (dC (.str "b")) (dCons (dC (.str "c")) dNil))) dNil))) dNil)))))) (dSeq (dOwn 0 (dCat (dV 0) (dClose (dLst (dCons (dCall 2 F_share_change [] (dCons (dClose (dLst (dCons (dC (.str "a")) (dCons (dC (.str "d")) dNil)))) (dCons (dClose (dLst (dCons (dC (.str "b")) (dCons (dC (.str "c")) dNil)))) dNil))) dNil))))) (dSeq (dOwn 1 (dCat (dV 1) (dClose (dLst (dCons (dTup (dCons (dTup (dCons (dC (.str "a")) (dCons (dC (.str "b")) (dCons (dC (.str "c")) dNil)))) (dCons (dTup dNil) dNil))) (dCons (dTup (dCons (dTup dNil) (dCons (dTup (dCons (dC (.str "b")) (dCons (dC (.str "c")) dNil))) dNil))) (dCons (dTup (dCons (dTup (dCons (dC (.str "a")) (dCons (dC (.str "d")) dNil))) (dCons (dTup (dCons (dC (.str "b")) (dCons (dC (.str "c")) dNil))) dNil))) dNil))))))) (dSeq (dApp 0 (dCallK 2 F_share_change 0 2 [1, 0] dNil (dCons (dTup (dCons (dC (.str "a")) (dCons (dC (.str "y")) (dCons (dC (.str "z")) dNil)))) (dCons (dTup (dCons (dC (.str "b")) (dCons (dC (.str "x")) (dCons (dC (.str "z")) dNil)))) dNil)))) (dSeq (dApp 1 (dTup (dCons (dTup (dCons (dC (.str "b")) (dCons (dC (.str "x")) dNil))) (dCons (dTup (dCons (dC (.str "a")) (dCons (dC (.str "y")) dNil))) dNil)))) (dSeq (dSet 2 (dTup (dCons (dC (.str "a")) (dCons (dC (.str "b")) (dCons (dC (.str "c")) (dCons (dC (.str "d")) (dCons (dC (.str "e")) (dCons (dC (.str "f")) (dCons (dC (.str "g")) (dCons (dC (.str "h")) (dCons (dC (.str "i")) (dCons (dC (.str "j")) (dCons (dC (.str "k")) (dCons (dC (.str "l")) dNil)))))))))))))) (dSeq (dOwn 0 (dCat (dV 0) (dClose (dLst (dCons (dCall 2 F_share_change [] (dCons (dV 2) (dCons (dSlice (dV 2) (dPart (dC (.int 1))) dNoP) dNil))) (dCons (dSlice (dCall 2 F_list_exchanged [] (dCons (dV 2) (dCons (dC (.int 11)) dNil))) (dPart (dUn hNeg (dC (.int 2)))) dNoP) dNil)))))) (dSeq (dOwn 0 (dCat (dV 0) (dClose (dLst (dCons (dOfB (dBinB hEq (dCall 3 F_thing_put [] (dCons (dSlice (dV 2) dNoP (dPart (dC (.int 11)))) (dCons (dC (.int 12)) (dCons (dC (.str "l")) dNil)))) (dV 2))) dNil))))) (dRet (dCall 2 (F_law_same 8) [] (dCons (dV 0) (dCons (dBin hAdd (dV 1) (dClose (dLst (dCons (dTup (dCons (dTup (dCons (dC (.str "a")) dNil)) (dCons (dTup dNil) dNil))) (dCons (dTup (dCons (dC (.str "l")) (dCons (dC (.str "k")) dNil))) (dCons (dC (.bl true)) dNil)))))) dNil)))))))))))))))
@[irreducible] def F_law_shares_right : Fn := runFn 0 3 B_law_shares_right
theorem ok_law_shares_right (Z : Bi mg) (c_share_change : DefAt P w K mg base T "share_change" ["before", "after"] 2 2 F_share_change) (c_list_exchanged : DefAt P w K mg base T "list_exchanged" ["things", "place"] 2 3 F_list_exchanged) (c_thing_put : DefAt P w K mg base T "thing_put" ["things", "place", "name"] 3 3 F_thing_put) (c_law_same : DefAt P w K mg base T "_law_same" ["_law_got", "_law_due_here"] 2 9 (F_law_same 8)) (ck_share_change_after_before : DefAtK P w K mg base T "share_change" ["before", "after"] ["after", "before"] 0 [1, 0] 2 2 F_share_change) {f : Addr} {fd : FuncData} (F : Fun K "_law_shares_right" "_law_shares_right" s_law_shares_right f fd) : FnOk P w K mg base (L2.CX P w) 10 f fd [] (spD K T 0 F_law_shares_right) := by
  unfold F_law_shares_right
  refine fn_okj F sc_law_shares_right fun cdv A outer s H E W hr hp tk => ?_
  have nd := sc_law_shares_right.nd
  exact (dss_cons (ds_own (i := 0) nd rfl (by first | exact .inl rfl | exact .inr rfl) (df_lst (da_cons (de_callD c_share_change hr (by decide) tk (da_cons (de_tup (da_cons de_str (da_cons de_str da_nil))) (da_cons (de_tup (da_cons de_str (da_cons de_str da_nil))) da_nil))) (da_cons (de_callD c_share_change hr (by decide) tk (da_cons (de_tup da_nil) (da_cons (de_tup da_nil) da_nil))) da_nil)))) (dss_cons (ds_own (i := 0) nd rfl (by first | exact .inl rfl | exact .inr rfl) (df_cat (de_var (pv 0)) (de_new (df_lst (da_cons (de_callD c_share_change hr (by decide) tk (da_cons (de_tup (da_cons de_str (da_cons de_str da_nil))) (da_cons (de_tup (da_cons de_str (da_cons de_str da_nil))) da_nil))) da_nil))))) (dss_cons (ds_own (i := 1) nd rfl (by first | exact .inl rfl | exact .inr rfl) (df_lst (da_cons (de_tup (da_cons (de_tup (da_cons de_str da_nil)) (da_cons (de_tup (da_cons de_str da_nil)) da_nil))) (da_cons (de_tup (da_cons (de_tup da_nil) (da_cons (de_tup da_nil) da_nil))) (da_cons (de_tup (da_cons (de_tup da_nil) (da_cons (de_tup da_nil) da_nil))) da_nil))))) (dss_cons (ds_own (i := 0) nd rfl (by first | exact .inl rfl | exact .inr rfl) (df_cat (de_var (pv 0)) (de_new (df_lst (da_cons (de_callD c_share_change hr (by decide) tk (da_cons (de_tup (da_cons de_str (da_cons de_str (da_cons de_str da_nil)))) (da_cons (de_tup da_nil) da_nil))) (da_cons (de_callD c_share_change hr (by decide) tk (da_cons (de_tup da_nil) (da_cons (de_tup (da_cons de_str (da_cons de_str da_nil))) da_nil))) da_nil)))))) (dss_cons (ds_own (i := 0) nd rfl (by first | exact .inl rfl | exact .inr rfl) (df_cat (de_var (pv 0)) (de_new (df_lst (da_cons (de_callD c_share_change hr (by decide) tk (da_cons (de_new (df_lst (da_cons de_str (da_cons de_str da_nil)))) (da_cons (de_new (df_lst (da_cons de_str (da_cons de_str da_nil)))) da_nil))) da_nil))))) (dss_cons (ds_own (i := 1) nd rfl (by first | exact .inl rfl | exact .inr rfl) (df_cat (de_var (pv 1)) (de_new (df_lst (da_cons (de_tup (da_cons (de_tup (da_cons de_str (da_cons de_str (da_cons de_str da_nil)))) (da_cons (de_tup da_nil) da_nil))) (da_cons (de_tup (da_cons (de_tup da_nil) (da_cons (de_tup (da_cons de_str (da_cons de_str da_nil))) da_nil))) (da_cons (de_tup (da_cons (de_tup (da_cons de_str (da_cons de_str da_nil))) (da_cons (de_tup (da_cons de_str (da_cons de_str da_nil))) da_nil))) da_nil))))))) (dss_cons (ds_append (i := 0) (pv 0) (de_callK0 (ks := ["after", "before"]) ck_share_change_after_before hr (by decide) tk (dk_cons (de_tup (da_cons de_str (da_cons de_str (da_cons de_str da_nil)))) (dk_cons (de_tup (da_cons de_str (da_cons de_str (da_cons de_str da_nil)))) dk_nil))) rfl (ps_expr (pe_bm PySem.F.plainAttrs_list PySem.F.slot_list_append PySem.F.type_list_append mt_append (pv 0) (pa_cons (de_callK0 (ks := ["after", "before"]) ck_share_change_after_before hr (by decide) tk (dk_cons (de_tup (da_cons de_str (da_cons de_str (da_cons de_str da_nil)))) (dk_cons (de_tup (da_cons de_str (da_cons de_str (da_cons de_str da_nil)))) dk_nil))) pa_nil)))) (dss_cons (ds_append (i := 1) (pv 1) (de_tup (da_cons (de_tup (da_cons de_str (da_cons de_str da_nil))) (da_cons (de_tup (da_cons de_str (da_cons de_str da_nil))) da_nil))) rfl (ps_expr (pe_bm PySem.F.plainAttrs_list PySem.F.slot_list_append PySem.F.type_list_append mt_append (pv 1) (pa_cons (de_tup (da_cons (de_tup (da_cons de_str (da_cons de_str da_nil))) (da_cons (de_tup (da_cons de_str (da_cons de_str da_nil))) da_nil))) pa_nil)))) (dss_cons (ds_set (i := 2) nd rfl (by first | exact .inl rfl | exact .inr rfl) (de_tup (da_cons de_str (da_cons de_str (da_cons de_str (da_cons de_str (da_cons de_str (da_cons de_str (da_cons de_str (da_cons de_str (da_cons de_str (da_cons de_str (da_cons de_str (da_cons de_str da_nil)))))))))))))) (dss_cons (ds_own (i := 0) nd rfl (by first | exact .inl rfl | exact .inr rfl) (df_cat (de_var (pv 0)) (de_new (df_lst (da_cons (de_callD c_share_change hr (by decide) tk (da_cons (de_var (pv 2)) (da_cons (de_slice (de_var (pv 2)) (do_some de_int) do_none) da_nil))) (da_cons (de_slice (de_callD c_list_exchanged hr (by decide) tk (da_cons (de_var (pv 2)) (da_cons de_int da_nil))) (do_some (de_neg de_int)) do_none) da_nil)))))) (dss_cons (ds_own (i := 0) nd rfl (by first | exact .inl rfl | exact .inr rfl) (df_cat (de_var (pv 0)) (de_new (df_lst (da_cons (de_eq hr.units (de_callD c_thing_put hr (by decide) tk (da_cons (de_slice (de_var (pv 2)) do_none (do_some de_int)) (da_cons de_int (da_cons de_str da_nil)))) (de_var (pv 2))) da_nil))))) (dss_one (ds_ret (de_callD c_law_same hr (by decide) tk (da_cons (de_var (pv 0)) (da_cons (de_add (de_var (pv 1)) (de_new (df_lst (da_cons (de_tup (da_cons (de_tup (da_cons de_str da_nil)) (da_cons (de_tup da_nil) da_nil))) (da_cons (de_tup (da_cons de_str (da_cons de_str da_nil))) (da_cons de_bl da_nil)))))) da_nil))))))))))))))))
/-! _law_by_hand_right -/
abbrev s_law_by_hand_right : Stmt := topS 24
abbrev N_law_by_hand_right : List Str := ["_law_got", "_law_due_here", "_law_likes_so", "_law_soft", "_law_great", "_law_k", "_law_own"]
theorem sc_law_by_hand_right : FnScope N_law_by_hand_right [] (defScope s_law_by_hand_right) := ⟨rfl, rfl, rfl, by decide +kernel, rfl, by decide +kernel, by decide +kernel⟩
def B_law_by_hand_right : S → R Out := (dSeq (dUnpack (.tp [2, 3, 4]) (dTup (dCons (dTup (dCons (dC (.str "x")) (dCons (dC (.str "y")) (dCons (dC (.str "z")) (dCons (dC (.str "w")) dNil))))) (dCons (dClose (dLst (dCons (dC (.str "x")) (dCons (dC (.str "y")) (dCons (dC (.str "z")) (dCons (dC (.str "w")) dNil)))))) (dCons (dBin hPow (dC (.int 10)) (dC (.int 30))) dNil))))) (dSeq (dSet 0 (dClose (dComp (.nm 5) [5] (dCBF hRange2 (dCons (dUn hNeg (dC (.int 1))) (dCons (dC (.int 6)) dNil))) dYes (dCall 4 F_law_heard [] (dCons (dC (.int 0)) (dCons (dV 2) (dCons (dV 5) (dCons (dC (.str "")) dNil)))))))) (dSeq (dSet 1 (dClose (dLst (dCons (dClose (dLst (dCons (dC (.str "far")) (dCons (dUn hNeg (dC (.int 1))) (dCons (dC (.bl true)) dNil))))) (dCons (dClose (dLst (dCons (dC (.str "far")) (dCons (dC (.int 0)) (dCons (dC (.bl true)) dNil))))) (dCons (dTup (dCons (dC (.str "y")) (dCons (dC (.str "x")) (dCons (dC (.str "z")) (dCons (dC (.str "w")) dNil))))) (dCons (dTup (dCons (dC (.str "x")) (dCons (dC (.str "z")) (dCons (dC (.str "y")) (dCons (dC (.str "w")) dNil))))) dNil))))))) (dSeq (dSet 1 (dBin hAdd (dV 1) (dClose (dLst (dCons (dTup (dCons (dC (.str "x")) (dCons (dC (.str "y")) (dCons (dC (.str "w")) (dCons (dC (.str "z")) dNil))))) dNil))))) (dSeq (dSet 1 (dBin hAdd (dV 1) (dClose (dLst (dCons (dClose (dLst (dCons (dC (.str "far")) (dCons (dC (.int 4)) (dCons (dC (.bl true)) dNil))))) (dCons (dClose (dLst (dCons (dC (.str "far")) (dCons (dC (.int 5)) (dCons (dC (.bl true)) dNil))))) dNil)))))) (dSeq (dSet 0 (dBin hAdd (dV 0) (dClose (dComp (.nm 5) [5] (dCBF hRange2 (dCons (dC (.int 0)) (dCons (dC (.int 7)) dNil))) dYes (dCall 4 F_law_heard [] (dCons (dC (.int 1)) (dCons (dV 2) (dCons (dV 5) (dCons (dC (.str "v")) dNil))))))))) (dSeq (dSet 1 (dBin hAdd (dV 1) (dClose (dLst (dCons (dClose (dLst (dCons (dC (.str "far")) (dCons (dC (.int 0)) (dCons (dC (.bl true)) dNil))))) (dCons (dTup (dCons (dC (.str "v")) (dCons (dC (.str "x")) (dCons (dC (.str "y")) (dCons (dC (.str "z")) (dCons (dC (.str "w")) dNil)))))) (dCons (dTup (dCons (dC (.str "x")) (dCons (dC (.str "v")) (dCons (dC (.str "y")) (dCons (dC (.str "z")) (dCons (dC (.str "w")) dNil)))))) dNil))))))) (dSeq (dSet 1 (dBin hAdd (dV 1) (dClose (dLst (dCons (dTup (dCons (dC (.str "x")) (dCons (dC (.str "y")) (dCons (dC (.str "v")) (dCons (dC (.str "z")) (dCons (dC (.str "w")) dNil)))))) dNil))))) (dSeq (dSet 1 (dBin hAdd (dV 1) (dClose (dLst (dCons (dTup (dCons (dC (.str "x")) (dCons (dC (.str "y")) (dCons (dC (.str "z")) (dCons (dC (.str "v")) (dCons (dC (.str "w")) dNil)))))) (dCons (dTup (dCons (dC (.str "x")) (dCons (dC (.str "y")) (dCons (dC (.str "z")) (dCons (dC (.str "w")) (dCons (dC (.str "v")) dNil)))))) (dCons (dClose (dLst (dCons (dC (.str "far")) (dCons (dC (.int 6)) (dCons (dC (.bl true)) dNil))))) dNil))))))) (dSeq (dSet 0 (dBin hAdd (dV 0) (dClose (dComp (.nm 5) [5] (dSeqI (dTup (dCons (dC (.int 0)) (dCons (dC (.int 1)) (dCons (dC (.int 5)) (dCons (dC (.int 6)) (dCons (dV 4) dNil))))))) dYes (dCall 4 F_law_heard [] (dCons (dC (.int 1)) (dCons (dV 2) (dCons (dV 5) (dCons (dC (.str "y")) dNil))))))))) (dSeq (dSet 1 (dBin hAdd (dV 1) (dClose (dLst (dCons (dClose (dLst (dCons (dC (.str "far")) (dCons (dC (.int 0)) (dCons (dC (.bl true)) dNil))))) (dCons (dClose (dLst (dCons (dC (.str "known")) (dCons (dC (.str "y")) (dCons (dC (.bl true)) dNil))))) (dCons (dClose (dLst (dCons (dC (.str "known")) (dCons (dC (.str "y")) (dCons (dC (.bl true)) dNil))))) (dCons (dClose (dLst (dCons (dC (.str "far")) (dCons (dC (.int 6)) (dCons (dC (.bl true)) dNil))))) dNil)))))))) (dSeq (dSet 1 (dBin hAdd (dV 1) (dClose (dLst (dCons (dClose (dLst (dCons (dC (.str "far")) (dCons (dV 4) (dCons (dC (.bl true)) dNil))))) dNil))))) (dSeq (dSet 0 (dBin hAdd (dV 0) (dClose (dComp (.nm 6) [6] (dSeqI (dTup (dCons (dC (.str "x")) (dCons (dC (.str "w")) (dCons (dC (.str "v")) (dCons (dC (.str "xy")) dNil)))))) dYes (dCall 4 F_law_heard [] (dCons (dC (.int 2)) (dCons (dV 2) (dCons (dC (.int 0)) (dCons (dV 6) dNil))))))))) (dSeq (dSet 1 (dBin hAdd (dV 1) (dClose (dLst (dCons (dTup (dCons (dC (.str "y")) (dCons (dC (.str "z")) (dCons (dC (.str "w")) dNil)))) (dCons (dTup (dCons (dC (.str "x")) (dCons (dC (.str "y")) (dCons (dC (.str "z")) dNil)))) (dCons (dClose (dLst (dCons (dC (.str "none")) (dCons (dC (.str "v")) (dCons (dC (.bl true)) dNil))))) (dCons (dClose (dLst (dCons (dC (.str "none")) (dCons (dC (.str "xy")) (dCons (dC (.bl true)) dNil))))) dNil)))))))) (dSeq (dSet 0 (dBin hAdd (dV 0) (dClose (dLst (dCons (dCall 4 F_law_heard [] (dCons (dC (.int 0)) (dCons (dV 3) (dCons (dC (.int 1)) (dCons (dC (.str "")) dNil))))) (dCons (dCall 4 F_law_heard [] (dCons (dC (.int 1)) (dCons (dV 3) (dCons (dC (.int 2)) (dCons (dC (.str "v")) dNil))))) (dCons (dCall 4 F_law_heard [] (dCons (dC (.int 2)) (dCons (dV 3) (dCons (dC (.int 0)) (dCons (dC (.str "y")) dNil))))) dNil))))))) (dSeq (dSet 0 (dBin hAdd (dV 0) (dClose (dLst (dCons (dV 3) dNil))))) (dSeq (dSet 1 (dBin hAdd (dV 1) (dClose (dLst (dCons (dTup (dCons (dC (.str "y")) (dCons (dC (.str "x")) (dCons (dC (.str "z")) (dCons (dC (.str "w")) dNil))))) (dCons (dTup (dCons (dC (.str "x")) (dCons (dC (.str "v")) (dCons (dC (.str "y")) (dCons (dC (.str "z")) (dCons (dC (.str "w")) dNil)))))) (dCons (dTup (dCons (dC (.str "x")) (dCons (dC (.str "z")) (dCons (dC (.str "w")) dNil)))) dNil))))))) (dSeq (dSet 1 (dBin hAdd (dV 1) (dClose (dLst (dCons (dClose (dLst (dCons (dC (.str "x")) (dCons (dC (.str "y")) (dCons (dC (.str "z")) (dCons (dC (.str "w")) dNil)))))) dNil))))) (dSeq (dSet 0 (dBin hAdd (dV 0) (dClose (dLst (dCons (dCall 4 F_law_heard [] (dCons (dC (.int 0)) (dCons (dTup dNil) (dCons (dC (.int 1)) (dCons (dC (.str "")) dNil))))) (dCons (dCall 4 F_law_heard [] (dCons (dC (.int 1)) (dCons (dTup dNil) (dCons (dC (.int 1)) (dCons (dC (.str "a")) dNil))))) (dCons (dCall 4 F_law_heard [] (dCons (dC (.int 2)) (dCons (dTup dNil) (dCons (dC (.int 0)) (dCons (dC (.str "a")) dNil))))) dNil))))))) (dSeq (dSet 0 (dBin hAdd (dV 0) (dClose (dLst (dCons (dCall 4 F_law_heard [] (dCons (dC (.int 2)) (dCons (dTup (dCons (dC (.str "a")) dNil)) (dCons (dC (.int 0)) (dCons (dC (.str "a")) dNil))))) dNil))))) (dSeq (dSet 0 (dBin hAdd (dV 0) (dClose (dLst (dCons (dCall 4 F_law_heard [] (dCons (dC (.int 0)) (dCons (dTup (dCons (dC (.str "a")) dNil)) (dCons (dC (.int 1)) (dCons (dC (.str "")) dNil))))) (dCons (dCall 4 F_law_heard [] (dCons (dC (.int 1)) (dCons (dTup dNil) (dCons (dC (.int 0)) (dCons (dC (.str "a")) dNil))))) dNil)))))) (dSeq (dSet 0 (dBin hAdd (dV 0) (dClose (dLst (dCons (dCall 4 F_law_heard [] (dCons (dC (.int 0)) (dCons (dV 2) (dCons (dV 4) (dCons (dC (.str "")) dNil))))) dNil))))) (dSeq (dSet 1 (dBin hAdd (dV 1) (dClose (dLst (dCons (dClose (dLst (dCons (dC (.str "far")) (dCons (dC (.int 1)) (dCons (dC (.bl true)) dNil))))) (dCons (dTup (dCons (dC (.str "a")) dNil)) (dCons (dClose (dLst (dCons (dC (.str "none")) (dCons (dC (.str "a")) (dCons (dC (.bl true)) dNil))))) (dCons (dTup dNil) (dCons (dClose (dLst (dCons (dC (.str "far")) (dCons (dC (.int 1)) (dCons (dC (.bl true)) dNil))))) dNil))))))))) (dSeq (dSet 1 (dBin hAdd (dV 1) (dClose (dLst (dCons (dClose (dLst (dCons (dC (.str "far")) (dCons (dC (.int 0)) (dCons (dC (.bl true)) dNil))))) (dCons (dClose (dLst (dCons (dC (.str "far")) (dCons (dV 4) (dCons (dC (.bl true)) dNil))))) dNil)))))) (dSeq (dSet 0 (dBin hAdd (dV 0) (dClose (dLst (dCons (dCallK 2 F_list_exchanged 0 2 [1, 0] dNil (dCons (dC (.int 2)) (dCons (dV 3) dNil))) (dCons (dCallK 3 F_thing_put 0 3 [2, 1, 0] dNil (dCons (dC (.str "v")) (dCons (dC (.int 1)) (dCons (dV 3) dNil)))) dNil)))))) (dSeq (dSet 0 (dBin hAdd (dV 0) (dClose (dLst (dCons (dCallK 2 F_thing_left_out 0 2 [1, 0] dNil (dCons (dC (.str "z")) (dCons (dV 3) dNil))) dNil))))) (dSeq (dSet 1 (dBin hAdd (dV 1) (dClose (dLst (dCons (dTup (dCons (dC (.str "x")) (dCons (dC (.str "z")) (dCons (dC (.str "y")) (dCons (dC (.str "w")) dNil))))) (dCons (dTup (dCons (dC (.str "v")) (dCons (dC (.str "x")) (dCons (dC (.str "y")) (dCons (dC (.str "z")) (dCons (dC (.str "w")) dNil)))))) (dCons (dTup (dCons (dC (.str "x")) (dCons (dC (.str "y")) (dCons (dC (.str "w")) dNil)))) dNil))))))) (dRet (dAndV (dCall 2 (F_law_same 8) [] (dCons (dV 0) (dCons (dV 1) dNil))) (dCall 0 F_law_shares_right [] dNil))))))))))))))))))))))))))))))
@[irreducible] def F_law_by_hand_right : Fn := runFn 0 7 B_law_by_hand_right
theorem ok_law_by_hand_right (Z : Bi mg) (c_law_heard : DefAt P w K mg base T "_law_heard" ["_law_door", "_law_likes_so", "_law_spot", "_law_own"] 4 5 F_law_heard) (c_thing_put : DefAt P w K mg base T "thing_put" ["things", "place", "name"] 3 3 F_thing_put) (c_list_exchanged : DefAt P w K mg base T "list_exchanged" ["things", "place"] 2 3 F_list_exchanged) (c_thing_left_out : DefAt P w K mg base T "thing_left_out" ["things", "name"] 2 4 F_thing_left_out) (c_law_same : DefAt P w K mg base T "_law_same" ["_law_got", "_law_due_here"] 2 9 (F_law_same 8)) (c_law_shares_right : DefAt P w K mg base T "_law_shares_right" [] 0 10 F_law_shares_right) (ck_list_exchanged_place_things : DefAtK P w K mg base T "list_exchanged" ["things", "place"] ["place", "things"] 0 [1, 0] 2 3 F_list_exchanged) (ck_thing_left_out_name_things : DefAtK P w K mg base T "thing_left_out" ["things", "name"] ["name", "things"] 0 [1, 0] 2 4 F_thing_left_out) (ck_thing_put_name_place_things : DefAtK P w K mg base T "thing_put" ["things", "place", "name"] ["name", "place", "things"] 0 [2, 1, 0] 3 3 F_thing_put) {f : Addr} {fd : FuncData} (F : Fun K "_law_by_hand_right" "_law_by_hand_right" s_law_by_hand_right f fd) : FnOk P w K mg base (L2.CX P w) 11 f fd [] (spD K T 0 F_law_by_hand_right) := by
  unfold F_law_by_hand_right
  refine fn_okj F sc_law_by_hand_right fun cdv A outer s H E W hr hp tk => ?_
  have nd := sc_law_by_hand_right.nd
  exact (dss_cons (ds_asg (de_tup (da_cons (de_tup (da_cons de_str (da_cons de_str (da_cons de_str (da_cons de_str da_nil))))) (da_cons (de_new (df_lst (da_cons de_str (da_cons de_str (da_cons de_str (da_cons de_str da_nil)))))) (da_cons (de_pow de_int de_int) da_nil)))) (dg_tup (pg_tup rfl (pgs_cons (pg_name nd rfl (by first | exact .inl rfl | exact .inr rfl)) (pgs_cons (pg_name nd rfl (by first | exact .inl rfl | exact .inr rfl)) (pgs_cons (pg_name nd rfl (by first | exact .inl rfl | exact .inr rfl)) pgs_nil)))) (pg_unl rfl (pgs_cons (pg_name nd rfl (by first | exact .inl rfl | exact .inr rfl)) (pgs_cons (pg_name nd rfl (by first | exact .inl rfl | exact .inr rfl)) (pgs_cons (pg_name nd rfl (by first | exact .inl rfl | exact .inr rfl)) pgs_nil)))))) (dss_cons (ds_setLc (j := 0) (own := [("_law_k", 5)]) (k := (.nm 5)) rfl nd rfl rfl (sw_true rfl rfl rfl (by decide +kernel)) (di_range2 (by rfl) Z.range (da_cons (de_neg de_int) (da_cons de_int da_nil))) (blkOk_by (N := N_law_by_hand_right) (sc := defScope s_law_by_hand_right) (by decide +kernel)) (by decide) (fun _ _ _ _ _ => (dg_name nd rfl (by first | exact .inl rfl | exact .inr rfl))) (fun _ _ _ _ _ => dts_nil) (fun _ _ _ _ _ => (de_callD c_law_heard hr (by decide) takes0 (da_cons de_int (da_cons (de_var (pv 2)) (da_cons (de_var (pv 5)) (da_cons de_str da_nil))))))) (dss_cons (ds_set (i := 1) nd rfl (by first | exact .inl rfl | exact .inr rfl) (de_new (df_lst (da_cons (de_new (df_lst (da_cons de_str (da_cons (de_neg de_int) (da_cons de_bl da_nil))))) (da_cons (de_new (df_lst (da_cons de_str (da_cons de_int (da_cons de_bl da_nil))))) (da_cons (de_tup (da_cons de_str (da_cons de_str (da_cons de_str (da_cons de_str da_nil))))) (da_cons (de_tup (da_cons de_str (da_cons de_str (da_cons de_str (da_cons de_str da_nil))))) da_nil))))))) (dss_cons (ds_set (i := 1) nd rfl (by first | exact .inl rfl | exact .inr rfl) (de_add (de_var (pv 1)) (de_new (df_lst (da_cons (de_tup (da_cons de_str (da_cons de_str (da_cons de_str (da_cons de_str da_nil))))) da_nil))))) (dss_cons (ds_set (i := 1) nd rfl (by first | exact .inl rfl | exact .inr rfl) (de_add (de_var (pv 1)) (de_new (df_lst (da_cons (de_new (df_lst (da_cons de_str (da_cons de_int (da_cons de_bl da_nil))))) (da_cons (de_new (df_lst (da_cons de_str (da_cons de_int (da_cons de_bl da_nil))))) da_nil)))))) (dss_cons (ds_set (i := 0) nd rfl (by first | exact .inl rfl | exact .inr rfl) (de_add (de_var (pv 0)) (de_new (df_comp (own := [("_law_k", 5)]) (k := (.nm 5)) rfl nd (di_range2 (by rfl) Z.range (da_cons de_int (da_cons de_int da_nil))) (blkOk_by (N := N_law_by_hand_right) (sc := defScope s_law_by_hand_right) (by decide +kernel)) (by decide) (fun _ _ _ _ _ => (dg_name nd rfl (by first | exact .inl rfl | exact .inr rfl))) (fun _ _ _ _ _ => dts_nil) (fun _ _ _ _ _ => (de_callD c_law_heard hr (by decide) takes0 (da_cons de_int (da_cons (de_var (pv 2)) (da_cons (de_var (pv 5)) (da_cons de_str da_nil)))))))))) (dss_cons (ds_set (i := 1) nd rfl (by first | exact .inl rfl | exact .inr rfl) (de_add (de_var (pv 1)) (de_new (df_lst (da_cons (de_new (df_lst (da_cons de_str (da_cons de_int (da_cons de_bl da_nil))))) (da_cons (de_tup (da_cons de_str (da_cons de_str (da_cons de_str (da_cons de_str (da_cons de_str da_nil)))))) (da_cons (de_tup (da_cons de_str (da_cons de_str (da_cons de_str (da_cons de_str (da_cons de_str da_nil)))))) da_nil))))))) (dss_cons (ds_set (i := 1) nd rfl (by first | exact .inl rfl | exact .inr rfl) (de_add (de_var (pv 1)) (de_new (df_lst (da_cons (de_tup (da_cons de_str (da_cons de_str (da_cons de_str (da_cons de_str (da_cons de_str da_nil)))))) da_nil))))) (dss_cons (ds_set (i := 1) nd rfl (by first | exact .inl rfl | exact .inr rfl) (de_add (de_var (pv 1)) (de_new (df_lst (da_cons (de_tup (da_cons de_str (da_cons de_str (da_cons de_str (da_cons de_str (da_cons de_str da_nil)))))) (da_cons (de_tup (da_cons de_str (da_cons de_str (da_cons de_str (da_cons de_str (da_cons de_str da_nil)))))) (da_cons (de_new (df_lst (da_cons de_str (da_cons de_int (da_cons de_bl da_nil))))) da_nil))))))) (dss_cons (ds_set (i := 0) nd rfl (by first | exact .inl rfl | exact .inr rfl) (de_add (de_var (pv 0)) (de_new (df_comp (own := [("_law_k", 5)]) (k := (.nm 5)) rfl nd (di_seq (de_tup (da_cons de_int (da_cons de_int (da_cons de_int (da_cons de_int (da_cons (de_var (pv 4)) da_nil))))))) (blkOk_by (N := N_law_by_hand_right) (sc := defScope s_law_by_hand_right) (by decide +kernel)) (by decide) (fun _ _ _ _ _ => (dg_name nd rfl (by first | exact .inl rfl | exact .inr rfl))) (fun _ _ _ _ _ => dts_nil) (fun _ _ _ _ _ => (de_callD c_law_heard hr (by decide) takes0 (da_cons de_int (da_cons (de_var (pv 2)) (da_cons (de_var (pv 5)) (da_cons de_str da_nil)))))))))) (dss_cons (ds_set (i := 1) nd rfl (by first | exact .inl rfl | exact .inr rfl) (de_add (de_var (pv 1)) (de_new (df_lst (da_cons (de_new (df_lst (da_cons de_str (da_cons de_int (da_cons de_bl da_nil))))) (da_cons (de_new (df_lst (da_cons de_str (da_cons de_str (da_cons de_bl da_nil))))) (da_cons (de_new (df_lst (da_cons de_str (da_cons de_str (da_cons de_bl da_nil))))) (da_cons (de_new (df_lst (da_cons de_str (da_cons de_int (da_cons de_bl da_nil))))) da_nil)))))))) (dss_cons (ds_set (i := 1) nd rfl (by first | exact .inl rfl | exact .inr rfl) (de_add (de_var (pv 1)) (de_new (df_lst (da_cons (de_new (df_lst (da_cons de_str (da_cons (de_var (pv 4)) (da_cons de_bl da_nil))))) da_nil))))) (dss_cons (ds_set (i := 0) nd rfl (by first | exact .inl rfl | exact .inr rfl) (de_add (de_var (pv 0)) (de_new (df_comp (own := [("_law_own", 6)]) (k := (.nm 6)) rfl nd (di_seq (de_tup (da_cons de_str (da_cons de_str (da_cons de_str (da_cons de_str da_nil)))))) (blkOk_by (N := N_law_by_hand_right) (sc := defScope s_law_by_hand_right) (by decide +kernel)) (by decide) (fun _ _ _ _ _ => (dg_name nd rfl (by first | exact .inl rfl | exact .inr rfl))) (fun _ _ _ _ _ => dts_nil) (fun _ _ _ _ _ => (de_callD c_law_heard hr (by decide) takes0 (da_cons de_int (da_cons (de_var (pv 2)) (da_cons de_int (da_cons (de_var (pv 6)) da_nil)))))))))) (dss_cons (ds_set (i := 1) nd rfl (by first | exact .inl rfl | exact .inr rfl) (de_add (de_var (pv 1)) (de_new (df_lst (da_cons (de_tup (da_cons de_str (da_cons de_str (da_cons de_str da_nil)))) (da_cons (de_tup (da_cons de_str (da_cons de_str (da_cons de_str da_nil)))) (da_cons (de_new (df_lst (da_cons de_str (da_cons de_str (da_cons de_bl da_nil))))) (da_cons (de_new (df_lst (da_cons de_str (da_cons de_str (da_cons de_bl da_nil))))) da_nil)))))))) (dss_cons (ds_set (i := 0) nd rfl (by first | exact .inl rfl | exact .inr rfl) (de_add (de_var (pv 0)) (de_new (df_lst (da_cons (de_callD c_law_heard hr (by decide) tk (da_cons de_int (da_cons (de_var (pv 3)) (da_cons de_int (da_cons de_str da_nil))))) (da_cons (de_callD c_law_heard hr (by decide) tk (da_cons de_int (da_cons (de_var (pv 3)) (da_cons de_int (da_cons de_str da_nil))))) (da_cons (de_callD c_law_heard hr (by decide) tk (da_cons de_int (da_cons (de_var (pv 3)) (da_cons de_int (da_cons de_str da_nil))))) da_nil))))))) (dss_cons (ds_set (i := 0) nd rfl (by first | exact .inl rfl | exact .inr rfl) (de_add (de_var (pv 0)) (de_new (df_lst (da_cons (de_var (pv 3)) da_nil))))) (dss_cons (ds_set (i := 1) nd rfl (by first | exact .inl rfl | exact .inr rfl) (de_add (de_var (pv 1)) (de_new (df_lst (da_cons (de_tup (da_cons de_str (da_cons de_str (da_cons de_str (da_cons de_str da_nil))))) (da_cons (de_tup (da_cons de_str (da_cons de_str (da_cons de_str (da_cons de_str (da_cons de_str da_nil)))))) (da_cons (de_tup (da_cons de_str (da_cons de_str (da_cons de_str da_nil)))) da_nil))))))) (dss_cons (ds_set (i := 1) nd rfl (by first | exact .inl rfl | exact .inr rfl) (de_add (de_var (pv 1)) (de_new (df_lst (da_cons (de_new (df_lst (da_cons de_str (da_cons de_str (da_cons de_str (da_cons de_str da_nil)))))) da_nil))))) (dss_cons (ds_set (i := 0) nd rfl (by first | exact .inl rfl | exact .inr rfl) (de_add (de_var (pv 0)) (de_new (df_lst (da_cons (de_callD c_law_heard hr (by decide) tk (da_cons de_int (da_cons (de_tup da_nil) (da_cons de_int (da_cons de_str da_nil))))) (da_cons (de_callD c_law_heard hr (by decide) tk (da_cons de_int (da_cons (de_tup da_nil) (da_cons de_int (da_cons de_str da_nil))))) (da_cons (de_callD c_law_heard hr (by decide) tk (da_cons de_int (da_cons (de_tup da_nil) (da_cons de_int (da_cons de_str da_nil))))) da_nil))))))) (dss_cons (ds_set (i := 0) nd rfl (by first | exact .inl rfl | exact .inr rfl) (de_add (de_var (pv 0)) (de_new (df_lst (da_cons (de_callD c_law_heard hr (by decide) tk (da_cons de_int (da_cons (de_tup (da_cons de_str da_nil)) (da_cons de_int (da_cons de_str da_nil))))) da_nil))))) (dss_cons (ds_set (i := 0) nd rfl (by first | exact .inl rfl | exact .inr rfl) (de_add (de_var (pv 0)) (de_new (df_lst (da_cons (de_callD c_law_heard hr (by decide) tk (da_cons de_int (da_cons (de_tup (da_cons de_str da_nil)) (da_cons de_int (da_cons de_str da_nil))))) (da_cons (de_callD c_law_heard hr (by decide) tk (da_cons de_int (da_cons (de_tup da_nil) (da_cons de_int (da_cons de_str da_nil))))) da_nil)))))) (dss_cons (ds_set (i := 0) nd rfl (by first | exact .inl rfl | exact .inr rfl) (de_add (de_var (pv 0)) (de_new (df_lst (da_cons (de_callD c_law_heard hr (by decide) tk (da_cons de_int (da_cons (de_var (pv 2)) (da_cons (de_var (pv 4)) (da_cons de_str da_nil))))) da_nil))))) (dss_cons (ds_set (i := 1) nd rfl (by first | exact .inl rfl | exact .inr rfl) (de_add (de_var (pv 1)) (de_new (df_lst (da_cons (de_new (df_lst (da_cons de_str (da_cons de_int (da_cons de_bl da_nil))))) (da_cons (de_tup (da_cons de_str da_nil)) (da_cons (de_new (df_lst (da_cons de_str (da_cons de_str (da_cons de_bl da_nil))))) (da_cons (de_tup da_nil) (da_cons (de_new (df_lst (da_cons de_str (da_cons de_int (da_cons de_bl da_nil))))) da_nil))))))))) (dss_cons (ds_set (i := 1) nd rfl (by first | exact .inl rfl | exact .inr rfl) (de_add (de_var (pv 1)) (de_new (df_lst (da_cons (de_new (df_lst (da_cons de_str (da_cons de_int (da_cons de_bl da_nil))))) (da_cons (de_new (df_lst (da_cons de_str (da_cons (de_var (pv 4)) (da_cons de_bl da_nil))))) da_nil)))))) (dss_cons (ds_set (i := 0) nd rfl (by first | exact .inl rfl | exact .inr rfl) (de_add (de_var (pv 0)) (de_new (df_lst (da_cons (de_callK0 (ks := ["place", "things"]) ck_list_exchanged_place_things hr (by decide) tk (dk_cons de_int (dk_cons (de_var (pv 3)) dk_nil))) (da_cons (de_callK0 (ks := ["name", "place", "things"]) ck_thing_put_name_place_things hr (by decide) tk (dk_cons de_str (dk_cons de_int (dk_cons (de_var (pv 3)) dk_nil)))) da_nil)))))) (dss_cons (ds_set (i := 0) nd rfl (by first | exact .inl rfl | exact .inr rfl) (de_add (de_var (pv 0)) (de_new (df_lst (da_cons (de_callK0 (ks := ["name", "things"]) ck_thing_left_out_name_things hr (by decide) tk (dk_cons de_str (dk_cons (de_var (pv 3)) dk_nil))) da_nil))))) (dss_cons (ds_set (i := 1) nd rfl (by first | exact .inl rfl | exact .inr rfl) (de_add (de_var (pv 1)) (de_new (df_lst (da_cons (de_tup (da_cons de_str (da_cons de_str (da_cons de_str (da_cons de_str da_nil))))) (da_cons (de_tup (da_cons de_str (da_cons de_str (da_cons de_str (da_cons de_str (da_cons de_str da_nil)))))) (da_cons (de_tup (da_cons de_str (da_cons de_str (da_cons de_str da_nil)))) da_nil))))))) (dss_one (ds_ret (de_and (de_callD c_law_same hr (by decide) tk (da_cons (de_var (pv 0)) (da_cons (de_var (pv 1)) da_nil))) (de_one (de_callD0 c_law_shares_right hr (by decide) tk))))))))))))))))))))))))))))))))
/-! _law_cells -/
abbrev s_law_cells : Stmt := topS 17
abbrev N_law_cells : List Str := ["_law_script", "_law_top_so", "_law_cells_so", "_law_k", "_law_cell", "_law_at_so"]
theorem sc_law_cells : FnScope N_law_cells ["_law_script", "_law_top_so"] (defScope s_law_cells) := ⟨rfl, rfl, rfl, by decide +kernel, rfl, by decide +kernel, by decide +kernel⟩
def B_law_cells : S → R Out := (dSeq (dOwn 2 (dOrF (dCBF hListOf (dCons (dSlice (dV 0) dNoP (dPart (dV 1))) dNil)) (dLst (dCons (dC (.int 0)) dNil)))) (dSeq (dFor (.tp [3, 4]) (dCBF hEnumB (dCons (dSlice (dV 0) (dPart (dV 1)) (dPart (dC (.int 63)))) dNil)) (dSeq (dSet 5 (dBin hMod (dCB hInt (dCons (dV 3) dNil)) (dV 1))) (dSetIx 2 (dLend 2 (dBin hAdd (dBin hIx (dV 2) (dV 5)) (dBin hMul (dV 4) (dBin hAdd (dV 3) (dC (.int 2)))))) (dV 5)))) (dRet (dV 2))))
def F_law_cells : Fn := runFn 2 6 B_law_cells
theorem ok_law_cells (Z : Bi mg) {f : Addr} {fd : FuncData} (F : Fun K "_law_cells" "_law_cells" s_law_cells f fd) : FnOk P w K mg base (L2.CX P w) 1 f fd ["_law_script", "_law_top_so"] (spD K T 2 F_law_cells) := by
  refine fn_okj F sc_law_cells fun cdv A outer s H E W hr hp tk => ?_
  have nd := sc_law_cells.nd
  exact (dss_cons (ds_own (i := 2) nd rfl (by first | exact .inl rfl | exact .inr rfl) (df_or (df_list (by rfl) Z.list (da_cons (de_slice (de_var (pv 0)) do_none (do_some (de_var (pv 1)))) da_nil)) (df_one (df_lst (da_cons de_int da_nil))))) (dss_cons (ds_for hp rfl (di_enumB (by rfl) Z.enumerate (da_cons (de_slice (de_var (pv 0)) (do_some (de_var (pv 1))) (do_some de_int)) da_nil)) (dg_tup (pg_tup rfl (pgs_cons (pg_name nd rfl (by first | exact .inl rfl | exact .inr rfl)) (pgs_cons (pg_name nd rfl (by first | exact .inl rfl | exact .inr rfl)) pgs_nil))) (pg_unl rfl (pgs_cons (pg_name nd rfl (by first | exact .inl rfl | exact .inr rfl)) (pgs_cons (pg_name nd rfl (by first | exact .inl rfl | exact .inr rfl)) pgs_nil)))) (dss_cons (ds_set (i := 5) nd rfl (by first | exact .inl rfl | exact .inr rfl) (de_mod (de_intc (by rfl) Z.int (da_cons (de_var (pv 3)) da_nil)) (de_var (pv 1)))) (dss_one (ds_setIx (i := 2) (pv 2) (de_var (pv 5)) (de_lend 2 (de_add (de_ix (de_var (pv 2)) (de_var (pv 5))) (de_mul (de_var (pv 4)) (de_add (de_var (pv 3)) de_int)))) (ps_asg (de_lend 2 (de_add (de_ix (de_var (pv 2)) (de_var (pv 5))) (de_mul (de_var (pv 4)) (de_add (de_var (pv 3)) de_int)))) (pg_sub (pv 2) (de_var (pv 5)) set_list)))))) (dss_one (ds_ret (de_var (pv 2))))))
/-! _law_take -/
abbrev s_law_take : Stmt := topS 16
abbrev N_law_take : List Str := ["_law_box_here", "_law_size_so", "_law_once", "_law_far", "_law_again", "_law_drawn_so"]
theorem sc_law_take : FnScope N_law_take ["_law_box_here", "_law_size_so"] (defScope s_law_take) := ⟨rfl, rfl, rfl, by decide +kernel, rfl, by decide +kernel, by decide +kernel⟩
def B_law_take : S → R Out := (dSeq (dIf (dBinB hGt (dBin hIx (dV 0) (dC (.int 0))) (dC (.int 0))) (dSeq (dSet 5 (dBin hMod (dCB hInt (dCons (dBin hIx (dV 0) (dC (.int 0))) dNil)) (dV 1))) (dSeq (dSetIx 0 (dBin hDiv (dBin hIx (dV 0) (dC (.int 0))) (dV 1)) (dC (.int 0))) (dRet (dV 5)))) dNext) (dSeq (dSetIx 0 (dBin hAdd (dBin hIx (dV 0) (dC (.int 2))) (dC (.int 1))) (dC (.int 2))) (dSeq (dSet 2 (dBin hMod (dCB hInt (dCons (dBin hMul (dBin hAdd (dBin hIx (dV 0) (dC (.int 1))) (dBin hMul (dC (.int 48271)) (dBin hIx (dV 0) (dC (.int 2))))) (dBin hAdd (dC (.int 39373)) (dBin hIx (dV 0) (dC (.int 2))))) dNil)) (dC (.int 2147483647)))) (dSeq (dSet 3 (dBin hAdd (dBin hMod (dCB hInt (dCons (dV 2) dNil)) (dC (.int 40009))) (dC (.int 7)))) (dSeq (dSet 4 (dBin hMod (dCB hInt (dCons (dBin hMul (dBin hAdd (dBin hAdd (dV 2) (dBin hIx (dV 0) (dC (.int 2)))) (dBin hDiv (dBin hIx (dV 0) (dC (.int 1))) (dC (.int 1000003)))) (dV 3)) dNil)) (dC (.int 2147483629)))) (dRet (dBin hMod (dCB hInt (dCons (dBin hDiv (dBin hMod (dCB hInt (dCons (dBin hAdd (dBin hMul (dV 4) (dC (.int 48271))) (dV 2)) dNil)) (dC (.int 2147483587))) (dC (.int 64))) dNil)) (dV 1))))))))
def F_law_take : Fn := runFn 2 6 B_law_take
theorem ok_law_take (Z : Bi mg) {f : Addr} {fd : FuncData} (F : Fun K "_law_take" "_law_take" s_law_take f fd) : FnOk P w K mg base (L2.CX P w) 1 f fd ["_law_box_here", "_law_size_so"] (spD K T 2 F_law_take) := by
  refine fn_okj F sc_law_take fun cdv A outer s H E W hr hp tk => ?_
  have nd := sc_law_take.nd
  exact (dss_cons (ds_if (dt_gt (de_ix (de_var (pv 0)) de_int) de_int) (dss_cons (ds_set (i := 5) nd rfl (by first | exact .inl rfl | exact .inr rfl) (de_mod (de_intc (by rfl) Z.int (da_cons (de_ix (de_var (pv 0)) de_int) da_nil)) (de_var (pv 1)))) (dss_cons (ds_setIx (i := 0) (pv 0) de_int (de_div (de_ix (de_var (pv 0)) de_int) (de_var (pv 1))) (ps_asg (de_div (de_ix (de_var (pv 0)) de_int) (de_var (pv 1))) (pg_sub (pv 0) de_int set_list))) (dss_one (ds_ret (de_var (pv 5)))))) dss_nil) (dss_cons (ds_setIx (i := 0) (pv 0) de_int (de_add (de_ix (de_var (pv 0)) de_int) de_int) (ps_asg (de_add (de_ix (de_var (pv 0)) de_int) de_int) (pg_sub (pv 0) de_int set_list))) (dss_cons (ds_set (i := 2) nd rfl (by first | exact .inl rfl | exact .inr rfl) (de_mod (de_intc (by rfl) Z.int (da_cons (de_mul (de_add (de_ix (de_var (pv 0)) de_int) (de_mul de_int (de_ix (de_var (pv 0)) de_int))) (de_add de_int (de_ix (de_var (pv 0)) de_int))) da_nil)) de_int)) (dss_cons (ds_set (i := 3) nd rfl (by first | exact .inl rfl | exact .inr rfl) (de_add (de_mod (de_intc (by rfl) Z.int (da_cons (de_var (pv 2)) da_nil)) de_int) de_int)) (dss_cons (ds_set (i := 4) nd rfl (by first | exact .inl rfl | exact .inr rfl) (de_mod (de_intc (by rfl) Z.int (da_cons (de_mul (de_add (de_add (de_var (pv 2)) (de_ix (de_var (pv 0)) de_int)) (de_div (de_ix (de_var (pv 0)) de_int) de_int)) (de_var (pv 3))) da_nil)) de_int)) (dss_one (ds_ret (de_mod (de_intc (by rfl) Z.int (da_cons (de_div (de_mod (de_intc (by rfl) Z.int (da_cons (de_add (de_mul (de_var (pv 4)) de_int) (de_var (pv 2))) da_nil)) de_int) de_int) da_nil)) (de_var (pv 1))))))))))
/-! _law_pick -/
abbrev s_law_pick : Stmt := topS 20
abbrev N_law_pick : List Str := ["_law_box_here", "_law_goods_so", "_law_count_so", "_law_turn", "_law_pool_so", "_law_found"]
theorem sc_law_pick : FnScope N_law_pick ["_law_box_here", "_law_goods_so", "_law_count_so"] (defScope s_law_pick) := ⟨rfl, rfl, rfl, by decide +kernel, rfl, by decide +kernel, by decide +kernel⟩
def B_law_pick : S → R Out := (dSeq (dPar 4 5 Sl.own Sl.own (dCBF hListOf (dCons (dV 1) dNil)) (dLst dNil)) (dSeq (dFor (.nm 3) (dCBF hRange1 (dCons (dLend 4 (dCB (h2 gMin) (dCons (dCB hInt (dCons (dV 2) dNil)) (dCons (dCB hLen (dCons (dV 4) dNil)) dNil)))) dNil)) (dApp 5 (dPop 4 (dCall 2 F_law_take [] (dCons (dV 0) (dCons (dLend 4 (dCB hLen (dCons (dV 4) dNil))) dNil)))))) (dRet (dV 5))))
def F_law_pick : Fn := runFn 3 6 B_law_pick
theorem ok_law_pick (Z : Bi mg) (c_law_take : DefAt P w K mg base T "_law_take" ["_law_box_here", "_law_size_so"] 2 1 F_law_take) {f : Addr} {fd : FuncData} (F : Fun K "_law_pick" "_law_pick" s_law_pick f fd) : FnOk P w K mg base (L2.CX P w) 2 f fd ["_law_box_here", "_law_goods_so", "_law_count_so"] (spD K T 3 F_law_pick) := by
  refine fn_okj F sc_law_pick fun cdv A outer s H E W hr hp tk => ?_
  have nd := sc_law_pick.nd
  exact (dss_cons (ds_par (i := 4) (j := 5) rfl nd rfl rfl (by decide) rfl rfl (df_list (by rfl) Z.list (da_cons (de_var (pv 1)) da_nil)) (df_lst da_nil) (dPar_oo _ (by decide)) rfl rfl rfl rfl) (dss_cons (ds_for hp rfl (di_range1 (by rfl) Z.range (da_cons (de_lend 4 (de_min2 rfl (by rfl) Z.min (da_cons (de_intc (by rfl) Z.int (da_cons (de_var (pv 2)) da_nil)) (da_cons (de_len (by rfl) Z.len (da_cons (de_var (pv 4)) da_nil)) da_nil)))) da_nil)) (dg_name nd rfl (by first | exact .inl rfl | exact .inr rfl)) (dss_one (ds_append (i := 5) (pv 5) (de_pop (i := 4) (pv 4) (de_callD c_law_take hr (by decide) tk (da_cons (de_var (pv 0)) (da_cons (de_lend 4 (de_len (by rfl) Z.len (da_cons (de_var (pv 4)) da_nil))) da_nil))) (pe_bm PySem.F.plainAttrs_list PySem.F.slot_list_pop PySem.F.type_list_pop mt_popAt (pv 4) (pa_cons (de_callD c_law_take hr (by decide) tk (da_cons (de_var (pv 0)) (da_cons (de_lend 4 (de_len (by rfl) Z.len (da_cons (de_var (pv 4)) da_nil))) da_nil))) pa_nil))) rfl (ps_expr (pe_bm PySem.F.plainAttrs_list PySem.F.slot_list_append PySem.F.type_list_append mt_append (pv 5) (pa_cons (de_pop (i := 4) (pv 4) (de_callD c_law_take hr (by decide) tk (da_cons (de_var (pv 0)) (da_cons (de_lend 4 (de_len (by rfl) Z.len (da_cons (de_var (pv 4)) da_nil))) da_nil))) (pe_bm PySem.F.plainAttrs_list PySem.F.slot_list_pop PySem.F.type_list_pop mt_popAt (pv 4) (pa_cons (de_callD c_law_take hr (by decide) tk (da_cons (de_var (pv 0)) (da_cons (de_lend 4 (de_len (by rfl) Z.len (da_cons (de_var (pv 4)) da_nil))) da_nil))) pa_nil))) pa_nil)))))) (dss_one (ds_ret (de_var (pv 5))))))
/-! _law_likes -/
abbrev s_law_likes : Stmt := topS 21
abbrev N_law_likes : List Str := ["_law_box_here", "_law_many_so", "_law_some"]
theorem sc_law_likes : FnScope N_law_likes ["_law_box_here", "_law_many_so"] (defScope s_law_likes) := ⟨rfl, rfl, rfl, by decide +kernel, rfl, by decide +kernel, by decide +kernel⟩
def B_law_likes : S → R Out := (dSeq (dSet 2 (dClose (dLst (dCons (dC (.str "x")) (dCons (dC (.str "y")) (dCons (dC (.str "z")) (dCons (dC (.str "w")) (dCons (dC (.str "v")) (dCons (dC (.str "u")) (dCons (dC (.str "t")) (dCons (dC (.str "s")) (dCons (dC (.str "a")) (dCons (dC (.str "b")) (dCons (dC (.str "ab")) (dCons (dC (.str "zzzzzzzz")) dNil))))))))))))))) (dRet (dCB hTupOf (dCons (dCall 3 F_law_pick [] (dCons (dV 0) (dCons (dSlice (dV 2) dNoP (dPart (dV 1))) (dCons (dV 1) dNil)))) dNil))))
def F_law_likes : Fn := runFn 2 3 B_law_likes
theorem ok_law_likes (Z : Bi mg) (c_law_pick : DefAt P w K mg base T "_law_pick" ["_law_box_here", "_law_goods_so", "_law_count_so"] 3 2 F_law_pick) {f : Addr} {fd : FuncData} (F : Fun K "_law_likes" "_law_likes" s_law_likes f fd) : FnOk P w K mg base (L2.CX P w) 3 f fd ["_law_box_here", "_law_many_so"] (spD K T 2 F_law_likes) := by
  refine fn_okj F sc_law_likes fun cdv A outer s H E W hr hp tk => ?_
  have nd := sc_law_likes.nd
  exact (dss_cons (ds_set (i := 2) nd rfl (by first | exact .inl rfl | exact .inr rfl) (de_new (df_lst (da_cons de_str (da_cons de_str (da_cons de_str (da_cons de_str (da_cons de_str (da_cons de_str (da_cons de_str (da_cons de_str (da_cons de_str (da_cons de_str (da_cons de_str (da_cons de_str da_nil))))))))))))))) (dss_one (ds_ret (de_tupleOf (by rfl) Z.tuple (da_cons (de_callD c_law_pick hr (by decide) tk (da_cons (de_var (pv 0)) (da_cons (de_slice (de_var (pv 2)) do_none (do_some (de_var (pv 1)))) (da_cons (de_var (pv 1)) da_nil)))) da_nil)))))
/-! _law_of -/
abbrev s_law_of : Stmt := topS 18
abbrev N_law_of : List Str := ["_law_box_here", "_law_goods_so"]
theorem sc_law_of : FnScope N_law_of ["_law_box_here", "_law_goods_so"] (defScope s_law_of) := ⟨rfl, rfl, rfl, by decide +kernel, rfl, by decide +kernel, by decide +kernel⟩
def B_law_of : S → R Out := (dRet (dBin hIx (dV 1) (dCall 2 F_law_take [] (dCons (dV 0) (dCons (dCB hLen (dCons (dV 1) dNil)) dNil)))))
def F_law_of : Fn := runFn 2 2 B_law_of
theorem ok_law_of (Z : Bi mg) (c_law_take : DefAt P w K mg base T "_law_take" ["_law_box_here", "_law_size_so"] 2 1 F_law_take) {f : Addr} {fd : FuncData} (F : Fun K "_law_of" "_law_of" s_law_of f fd) : FnOk P w K mg base (L2.CX P w) 2 f fd ["_law_box_here", "_law_goods_so"] (spD K T 2 F_law_of) := by
  refine fn_okj F sc_law_of fun cdv A outer s H E W hr hp tk => ?_
  have nd := sc_law_of.nd
  exact (dss_one (ds_ret (de_ix (de_var (pv 1)) (de_callD c_law_take hr (by decide) tk (da_cons (de_var (pv 0)) (da_cons (de_len (by rfl) Z.len (da_cons (de_var (pv 1)) da_nil)) da_nil))))))
/-! _law_due -/
abbrev s_law_due : Stmt := topS 23
abbrev N_law_due : List Str := ["_law_door", "_law_likes_so", "_law_spot", "_law_own", "_law_some", "_law_far"]
theorem sc_law_due : FnScope N_law_due ["_law_door", "_law_likes_so", "_law_spot", "_law_own"] (defScope s_law_due) := ⟨rfl, rfl, rfl, by decide +kernel, rfl, by decide +kernel, by decide +kernel⟩
def B_law_due : S → R Out := (dSeq (dSet 4 (dClose (dCBF hListOf (dCons (dV 1) dNil)))) (dSeq (dIf (dBinB hEq (dV 0) (dC (.int 0))) (dSeq (dIf (dOr (dBinB hLt (dV 2) (dC (.int 1))) (dBinB hGe (dV 2) (dCB hLen (dCons (dV 4) dNil)))) (dRetF (dLst (dCons (dC (.str "far")) (dCons (dV 2) (dCons (dC (.bl true)) dNil))))) dNext) (dRet (dCB hTupOf (dCons (dBin hAdd (dBin hAdd (dSlice (dV 4) dNoP (dPart (dBin hSub (dV 2) (dC (.int 1))))) (dClose (dLst (dCons (dBin hIx (dV 4) (dV 2)) (dCons (dBin hIx (dV 4) (dBin hSub (dV 2) (dC (.int 1)))) dNil))))) (dSlice (dV 4) (dPart (dBin hAdd (dV 2) (dC (.int 1)))) dNoP)) dNil)))) dNext) (dSeq (dIf (dBinB hEq (dV 0) (dC (.int 1))) (dSeq (dIf (dOr (dBinB hLt (dV 2) (dC (.int 1))) (dBinB hGt (dV 2) (dBin hAdd (dCB hLen (dCons (dV 4) dNil)) (dC (.int 1))))) (dRetF (dLst (dCons (dC (.str "far")) (dCons (dV 2) (dCons (dC (.bl true)) dNil))))) dNext) (dSeq (dIf (dBinB hInR (dV 3) (dV 4)) (dRetF (dLst (dCons (dC (.str "known")) (dCons (dV 3) (dCons (dC (.bl true)) dNil))))) dNext) (dRet (dCB hTupOf (dCons (dBin hAdd (dBin hAdd (dSlice (dV 4) dNoP (dPart (dBin hSub (dV 2) (dC (.int 1))))) (dClose (dLst (dCons (dV 3) dNil)))) (dSlice (dV 4) (dPart (dBin hSub (dV 2) (dC (.int 1)))) dNoP)) dNil))))) dNext) (dRet (dIfE (dBinB hInR (dV 3) (dV 4)) (dCB hTupOf (dCons (dClose (dComp (.nm 5) [5] (dSeqI (dV 4)) (dBinB hNe (dV 5) (dV 3)) (dV 5))) dNil)) (dClose (dLst (dCons (dC (.str "none")) (dCons (dV 3) (dCons (dC (.bl true)) dNil))))))))))
def F_law_due : Fn := runFn 4 6 B_law_due
theorem ok_law_due (Z : Bi mg) {f : Addr} {fd : FuncData} (F : Fun K "_law_due" "_law_due" s_law_due f fd) : FnOk P w K mg base (L2.CX P w) 1 f fd ["_law_door", "_law_likes_so", "_law_spot", "_law_own"] (spD K T 4 F_law_due) := by
  refine fn_okj F sc_law_due fun cdv A outer s H E W hr hp tk => ?_
  have nd := sc_law_due.nd
  exact (dss_cons (ds_set (i := 4) nd rfl (by first | exact .inl rfl | exact .inr rfl) (de_new (df_list (by rfl) Z.list (da_cons (de_var (pv 1)) da_nil)))) (dss_cons (ds_if (dt_eq hr.units (de_var (pv 0)) de_int) (dss_cons (ds_if (dt_bool (dw_or (dt_lt (de_var (pv 2)) de_int) (dw_or1 (dt_ge (de_var (pv 2)) (de_len (by rfl) Z.len (da_cons (de_var (pv 4)) da_nil)))))) (dss_one (ds_retF (df_lst (da_cons de_str (da_cons (de_var (pv 2)) (da_cons de_bl da_nil)))))) dss_nil) (dss_one (ds_ret (de_tupleOf (by rfl) Z.tuple (da_cons (de_add (de_add (de_slice (de_var (pv 4)) do_none (do_some (de_sub (de_var (pv 2)) de_int))) (de_new (df_lst (da_cons (de_ix (de_var (pv 4)) (de_var (pv 2))) (da_cons (de_ix (de_var (pv 4)) (de_sub (de_var (pv 2)) de_int)) da_nil))))) (de_slice (de_var (pv 4)) (do_some (de_add (de_var (pv 2)) de_int)) do_none)) da_nil))))) dss_nil) (dss_cons (ds_if (dt_eq hr.units (de_var (pv 0)) de_int) (dss_cons (ds_if (dt_bool (dw_or (dt_lt (de_var (pv 2)) de_int) (dw_or1 (dt_gt (de_var (pv 2)) (de_add (de_len (by rfl) Z.len (da_cons (de_var (pv 4)) da_nil)) de_int))))) (dss_one (ds_retF (df_lst (da_cons de_str (da_cons (de_var (pv 2)) (da_cons de_bl da_nil)))))) dss_nil) (dss_cons (ds_if (dt_inR hr.units (de_var (pv 3)) (de_var (pv 4))) (dss_one (ds_retF (df_lst (da_cons de_str (da_cons (de_var (pv 3)) (da_cons de_bl da_nil)))))) dss_nil) (dss_one (ds_ret (de_tupleOf (by rfl) Z.tuple (da_cons (de_add (de_add (de_slice (de_var (pv 4)) do_none (do_some (de_sub (de_var (pv 2)) de_int))) (de_new (df_lst (da_cons (de_var (pv 3)) da_nil)))) (de_slice (de_var (pv 4)) (do_some (de_sub (de_var (pv 2)) de_int)) do_none)) da_nil)))))) dss_nil) (dss_one (ds_ret (de_ifE (dt_inR hr.units (de_var (pv 3)) (de_var (pv 4))) (de_tupleOf (by rfl) Z.tuple (da_cons (de_new (df_comp (own := [("_law_far", 5)]) (k := (.nm 5)) rfl nd (di_seq (de_var (pv 4))) (blkOk_by (N := N_law_due) (sc := defScope s_law_due) (by decide +kernel)) (by decide) (fun _ _ _ _ _ => (dg_name nd rfl (by first | exact .inl rfl | exact .inr rfl))) (fun _ _ _ _ _ => (dts_one (dt_ne hr.units (de_var (pv 5)) (de_var (pv 3))))) (fun _ _ _ _ _ => (de_var (pv 5))))) da_nil)) (de_new (df_lst (da_cons de_str (da_cons (de_var (pv 3)) (da_cons de_bl da_nil)))))))))))
/-! _law_right -/
abbrev s_law_right : Stmt := topS 26
abbrev N_law_right : List Str := ["_law_box_here", "_law_turn", "_law_likes_so", "_law_names_so", "_law_k", "_law_some", "_law_lost_so", "_law_more_so", "_law_own", "_law_got", "_law_side", "_law_door"]
theorem sc_law_right : FnScope N_law_right ["_law_box_here"] (defScope s_law_right) := ⟨rfl, rfl, rfl, by decide +kernel, rfl, by decide +kernel, by decide +kernel⟩
def B_law_right : S → R Out := (dSeq (dFor (.nm 1) (dCBF hRange1 (dCons (dC (.int 8)) dNil)) (dSeq (dSet 2 (dCall 2 F_law_likes [] (dCons (dV 0) (dCons (dCall 2 F_law_take [] (dCons (dV 0) (dCons (dC (.int 12)) dNil))) dNil)))) (dSeq (dSet 3 (dClose (dLst (dCons (dC (.str "x")) (dCons (dC (.str "y")) (dCons (dC (.str "q")) (dCons (dC (.str "zzzzzzzz")) (dCons (dC (.str "ab")) dNil)))))))) (dSeq (dFor (.nm 4) (dCBF hRange1 (dCons (dBin hAdd (dCB hLen (dCons (dV 2) dNil)) (dC (.int 3))) dNil)) (dSeq (dSet 8 (dCall 2 F_law_of [] (dCons (dV 0) (dCons (dV 3) dNil)))) (dSeq (dSet 9 (dClose (dComp (.nm 11) [11] (dCBF hRange1 (dCons (dC (.int 3)) dNil)) dYes (dCall 4 F_law_heard [] (dCons (dV 11) (dCons (dV 2) (dCons (dV 4) (dCons (dV 8) dNil)))))))) (dSeq (dSet 9 (dBin hAdd (dV 9) (dClose (dComp (.nm 11) [11] (dCBF hRange1 (dCons (dC (.int 3)) dNil)) dYes (dCall 4 F_law_heard [] (dCons (dV 11) (dCons (dClose (dCBF hListOf (dCons (dV 2) dNil))) (dCons (dV 4) (dCons (dV 8) dNil))))))))) (dIf (dNot (dTru (dCall 2 (F_law_same 8) [] (dCons (dV 9) (dCons (dBin hMul (dClose (dComp (.nm 11) [11] (dCBF hRange1 (dCons (dC (.int 3)) dNil)) dYes (dCall 4 F_law_due [] (dCons (dV 11) (dCons (dV 2) (dCons (dV 4) (dCons (dV 8) dNil))))))) (dC (.int 2))) dNil))))) (dRet (dC (.bl false))) dNext))))) (dSeq (dSet 5 (dClose (dComp (.nm 10) [10] (dCBF hRange1 (dCons (dC (.int 2)) dNil)) dYes (dCB hTupOf (dCons (dClose (dCBF hSorted (dCons (dCall 3 F_law_pick [] (dCons (dV 0) (dCons (dV 2) (dCons (dCall 2 F_law_take [] (dCons (dV 0) (dCons (dBin hAdd (dCB hLen (dCons (dV 2) dNil)) (dC (.int 1))) dNil))) dNil)))) dNil))) dNil))))) (dSeq (dSet 6 (dCB hTupOf (dCons (dClose (dComp (.nm 8) [8] (dSeqI (dBin hIx (dV 5) (dC (.int 0)))) (dBinB hNotInR (dV 8) (dBin hIx (dV 5) (dC (.int 1)))) (dV 8))) dNil))) (dSeq (dSet 7 (dCB hTupOf (dCons (dClose (dComp (.nm 8) [8] (dSeqI (dBin hIx (dV 5) (dC (.int 1)))) (dBinB hNotInR (dV 8) (dBin hIx (dV 5) (dC (.int 0)))) (dV 8))) dNil))) (dIf (dNot (dTru (dCall 2 (F_law_same 8) [] (dCons (dCall 2 F_share_change [] (dCons (dBin hIx (dV 5) (dC (.int 0))) (dCons (dClose (dCBF hListOf (dCons (dBin hIx (dV 5) (dC (.int 1))) dNil))) dNil))) (dCons (dTup (dCons (dV 6) (dCons (dV 7) dNil))) dNil))))) (dRet (dC (.bl false))) dNext)))))))) (dRet (dC (.bl true))))
def F_law_right : Fn := runFn 1 12 B_law_right
theorem ok_law_right (Z : Bi mg) (c_law_take : DefAt P w K mg base T "_law_take" ["_law_box_here", "_law_size_so"] 2 1 F_law_take) (c_law_likes : DefAt P w K mg base T "_law_likes" ["_law_box_here", "_law_many_so"] 2 3 F_law_likes) (c_law_of : DefAt P w K mg base T "_law_of" ["_law_box_here", "_law_goods_so"] 2 2 F_law_of) (c_law_heard : DefAt P w K mg base T "_law_heard" ["_law_door", "_law_likes_so", "_law_spot", "_law_own"] 4 5 F_law_heard) (c_law_due : DefAt P w K mg base T "_law_due" ["_law_door", "_law_likes_so", "_law_spot", "_law_own"] 4 1 F_law_due) (c_law_same : DefAt P w K mg base T "_law_same" ["_law_got", "_law_due_here"] 2 9 (F_law_same 8)) (c_law_pick : DefAt P w K mg base T "_law_pick" ["_law_box_here", "_law_goods_so", "_law_count_so"] 3 2 F_law_pick) (c_share_change : DefAt P w K mg base T "share_change" ["before", "after"] 2 2 F_share_change) {f : Addr} {fd : FuncData} (F : Fun K "_law_right" "_law_right" s_law_right f fd) : FnOk P w K mg base (L2.CX P w) 10 f fd ["_law_box_here"] (spD K T 1 F_law_right) := by
  refine fn_okj F sc_law_right fun cdv A outer s H E W hr hp tk => ?_
  have nd := sc_law_right.nd
  exact (dss_cons (ds_for hp rfl (di_range1 (by rfl) Z.range (da_cons de_int da_nil)) (dg_name nd rfl (by first | exact .inl rfl | exact .inr rfl)) (dss_cons (ds_set (i := 2) nd rfl (by first | exact .inl rfl | exact .inr rfl) (de_callD c_law_likes hr (by decide) tk (da_cons (de_var (pv 0)) (da_cons (de_callD c_law_take hr (by decide) tk (da_cons (de_var (pv 0)) (da_cons de_int da_nil))) da_nil)))) (dss_cons (ds_set (i := 3) nd rfl (by first | exact .inl rfl | exact .inr rfl) (de_new (df_lst (da_cons de_str (da_cons de_str (da_cons de_str (da_cons de_str (da_cons de_str da_nil)))))))) (dss_cons (ds_for hp rfl (di_range1 (by rfl) Z.range (da_cons (de_add (de_len (by rfl) Z.len (da_cons (de_var (pv 2)) da_nil)) de_int) da_nil)) (dg_name nd rfl (by first | exact .inl rfl | exact .inr rfl)) (dss_cons (ds_set (i := 8) nd rfl (by first | exact .inl rfl | exact .inr rfl) (de_callD c_law_of hr (by decide) tk (da_cons (de_var (pv 0)) (da_cons (de_var (pv 3)) da_nil)))) (dss_cons (ds_setLc (j := 9) (own := [("_law_door", 11)]) (k := (.nm 11)) rfl nd rfl rfl (sw_true rfl rfl rfl (by decide +kernel)) (di_range1 (by rfl) Z.range (da_cons de_int da_nil)) (blkOk_by (N := N_law_right) (sc := defScope s_law_right) (by decide +kernel)) (by decide) (fun _ _ _ _ _ => (dg_name nd rfl (by first | exact .inl rfl | exact .inr rfl))) (fun _ _ _ _ _ => dts_nil) (fun _ _ _ _ _ => (de_callD c_law_heard hr (by decide) takes0 (da_cons (de_var (pv 11)) (da_cons (de_var (pv 2)) (da_cons (de_var (pv 4)) (da_cons (de_var (pv 8)) da_nil))))))) (dss_cons (ds_set (i := 9) nd rfl (by first | exact .inl rfl | exact .inr rfl) (de_add (de_var (pv 9)) (de_new (df_comp (own := [("_law_door", 11)]) (k := (.nm 11)) rfl nd (di_range1 (by rfl) Z.range (da_cons de_int da_nil)) (blkOk_by (N := N_law_right) (sc := defScope s_law_right) (by decide +kernel)) (by decide) (fun _ _ _ _ _ => (dg_name nd rfl (by first | exact .inl rfl | exact .inr rfl))) (fun _ _ _ _ _ => dts_nil) (fun _ _ _ _ _ => (de_callD c_law_heard hr (by decide) takes0 (da_cons (de_var (pv 11)) (da_cons (de_new (df_list (by rfl) Z.list (da_cons (de_var (pv 2)) da_nil))) (da_cons (de_var (pv 4)) (da_cons (de_var (pv 8)) da_nil)))))))))) (dss_one (ds_if (dt_not (dt_tru (de_callD c_law_same hr (by decide) tk (da_cons (de_var (pv 9)) (da_cons (de_mul (de_new (df_comp (own := [("_law_door", 11)]) (k := (.nm 11)) rfl nd (di_range1 (by rfl) Z.range (da_cons de_int da_nil)) (blkOk_by (N := N_law_right) (sc := defScope s_law_right) (by decide +kernel)) (by decide) (fun _ _ _ _ _ => (dg_name nd rfl (by first | exact .inl rfl | exact .inr rfl))) (fun _ _ _ _ _ => dts_nil) (fun _ _ _ _ _ => (de_callD c_law_due hr (by decide) takes0 (da_cons (de_var (pv 11)) (da_cons (de_var (pv 2)) (da_cons (de_var (pv 4)) (da_cons (de_var (pv 8)) da_nil)))))))) de_int) da_nil))))) (dss_one (ds_ret de_bl)) dss_nil)))))) (dss_cons (ds_set (i := 5) nd rfl (by first | exact .inl rfl | exact .inr rfl) (de_new (df_comp (own := [("_law_side", 10)]) (k := (.nm 10)) rfl nd (di_range1 (by rfl) Z.range (da_cons de_int da_nil)) (blkOk_by (N := N_law_right) (sc := defScope s_law_right) (by decide +kernel)) (by decide) (fun _ _ _ _ _ => (dg_name nd rfl (by first | exact .inl rfl | exact .inr rfl))) (fun _ _ _ _ _ => dts_nil) (fun _ _ _ _ _ => (de_tupleOf (by rfl) Z.tuple (da_cons (de_new (df_sorted (by rfl) Z.sorted (da_cons (de_callD c_law_pick hr (by decide) takes0 (da_cons (de_var (pv 0)) (da_cons (de_var (pv 2)) (da_cons (de_callD c_law_take hr (by decide) takes0 (da_cons (de_var (pv 0)) (da_cons (de_add (de_len (by rfl) Z.len (da_cons (de_var (pv 2)) da_nil)) de_int) da_nil))) da_nil)))) da_nil))) da_nil)))))) (dss_cons (ds_set (i := 6) nd rfl (by first | exact .inl rfl | exact .inr rfl) (de_tupleOf (by rfl) Z.tuple (da_cons (de_new (df_comp (own := [("_law_own", 8)]) (k := (.nm 8)) rfl nd (di_seq (de_ix (de_var (pv 5)) de_int)) (blkOk_by (N := N_law_right) (sc := defScope s_law_right) (by decide +kernel)) (by decide) (fun _ _ _ _ _ => (dg_name nd rfl (by first | exact .inl rfl | exact .inr rfl))) (fun _ _ _ _ _ => (dts_one (dt_notInR hr.units (de_var (pv 8)) (de_ix (de_var (pv 5)) de_int)))) (fun _ _ _ _ _ => (de_var (pv 8))))) da_nil))) (dss_cons (ds_set (i := 7) nd rfl (by first | exact .inl rfl | exact .inr rfl) (de_tupleOf (by rfl) Z.tuple (da_cons (de_new (df_comp (own := [("_law_own", 8)]) (k := (.nm 8)) rfl nd (di_seq (de_ix (de_var (pv 5)) de_int)) (blkOk_by (N := N_law_right) (sc := defScope s_law_right) (by decide +kernel)) (by decide) (fun _ _ _ _ _ => (dg_name nd rfl (by first | exact .inl rfl | exact .inr rfl))) (fun _ _ _ _ _ => (dts_one (dt_notInR hr.units (de_var (pv 8)) (de_ix (de_var (pv 5)) de_int)))) (fun _ _ _ _ _ => (de_var (pv 8))))) da_nil))) (dss_one (ds_if (dt_not (dt_tru (de_callD c_law_same hr (by decide) tk (da_cons (de_callD c_share_change hr (by decide) tk (da_cons (de_ix (de_var (pv 5)) de_int) (da_cons (de_new (df_list (by rfl) Z.list (da_cons (de_ix (de_var (pv 5)) de_int) da_nil))) da_nil))) (da_cons (de_tup (da_cons (de_var (pv 6)) (da_cons (de_var (pv 7)) da_nil))) da_nil))))) (dss_one (ds_ret de_bl)) dss_nil))))))))) (dss_one (ds_ret de_bl)))
/-! _law_box -/
abbrev s_law_box : Stmt := topS 15
abbrev N_law_box : List Str := ["_law_script", "_law_k", "_law_cell"]
theorem sc_law_box : FnScope N_law_box ["_law_script", "_law_k"] (defScope s_law_box) := ⟨rfl, rfl, rfl, by decide +kernel, rfl, by decide +kernel, by decide +kernel⟩
def B_law_box : S → R Out := (dSeq (dSet 2 (dIfE (dBinB hLt (dV 1) (dCB hLen (dCons (dV 0) dNil))) (dBin hIx (dV 0) (dV 1)) (dC (.int 0)))) (dRetF (dLst (dCons (dBin hMul (dCB hAbs (dCons (dV 2) dNil)) (dCB hInt (dCons (dOfB (dBinB hGe (dCB hAbs (dCons (dV 2) dNil)) (dBin hPow (dC (.int 10)) (dC (.int 18))))) dNil))) (dCons (dBin hAdd (dBin hAdd (dBin hMod (dCB hInt (dCons (dV 2) dNil)) (dC (.int 2305843009213693951))) (dBin hMul (dC (.int 39373)) (dV 1))) (dC (.int 83037))) (dCons (dC (.int 0)) dNil))))))
def F_law_box : Fn := runFn 2 3 B_law_box
theorem ok_law_box (Z : Bi mg) {f : Addr} {fd : FuncData} (F : Fun K "_law_box" "_law_box" s_law_box f fd) : FnOk P w K mg base (L2.CX P w) 1 f fd ["_law_script", "_law_k"] (spD K T 2 F_law_box) := by
  refine fn_okj F sc_law_box fun cdv A outer s H E W hr hp tk => ?_
  have nd := sc_law_box.nd
  exact (dss_cons (ds_set (i := 2) nd rfl (by first | exact .inl rfl | exact .inr rfl) (de_ifE (dt_lt (de_var (pv 1)) (de_len (by rfl) Z.len (da_cons (de_var (pv 0)) da_nil))) (de_ix (de_var (pv 0)) (de_var (pv 1))) de_int)) (dss_one (ds_retF (df_lst (da_cons (de_mul (de_abs (by rfl) Z.abs (da_cons (de_var (pv 2)) da_nil)) (de_intc (by rfl) Z.int (da_cons (de_ge (de_abs (by rfl) Z.abs (da_cons (de_var (pv 2)) da_nil)) (de_pow de_int de_int)) da_nil))) (da_cons (de_add (de_add (de_mod (de_intc (by rfl) Z.int (da_cons (de_var (pv 2)) da_nil)) de_int) (de_mul de_int (de_var (pv 1)))) de_int) (da_cons de_int da_nil)))))))
/-! law -/
abbrev s_law : Stmt := topS 27
abbrev N_law : List Str := ["_law_script", "_law_cells_here", "_law_k"]
theorem sc_law : FnScope N_law ["_law_script"] (defScope s_law) := ⟨rfl, rfl, rfl, by decide +kernel, rfl, by decide +kernel, by decide +kernel⟩
def B_law : S → R Out := (dSeq (dIf (dNot (dTru (dCall 0 F_law_by_hand_right [] dNil))) (dRet (dC (.bl false))) dNext) (dSeq (dSet 1 (dCall 2 F_law_cells [] (dCons (dV 0) (dCons (dC (.int 3)) dNil)))) (dRet (dCB hAll (dCons (dClose (dComp (.nm 2) [2] (dCBF hRange1 (dCons (dCB hLen (dCons (dV 1) dNil)) dNil)) dYes (dCallBox 1 F_law_right 2 F_law_box (dCons (dV 1) (dCons (dV 2) dNil))))) dNil)))))
def F_law : Fn := runFn 1 3 B_law
theorem ok_law (Z : Bi mg) (c_law_by_hand_right : DefAt P w K mg base T "_law_by_hand_right" [] 0 11 F_law_by_hand_right) (c_law_cells : DefAt P w K mg base T "_law_cells" ["_law_script", "_law_top_so"] 2 1 F_law_cells) (c_law_right : DefAt P w K mg base T "_law_right" ["_law_box_here"] 1 10 F_law_right) (c_law_box : DefAt P w K mg base T "_law_box" ["_law_script", "_law_k"] 2 1 F_law_box) {f : Addr} {fd : FuncData} (F : Fun K "law" "law" s_law f fd) : FnOk P w K mg base (L2.CX P w) 12 f fd ["_law_script"] (spD K T 1 F_law) := by
  refine fn_okj F sc_law fun cdv A outer s H E W hr hp tk => ?_
  have nd := sc_law.nd
  exact (dss_cons (ds_if (dt_not (dt_tru (de_callD0 c_law_by_hand_right hr (by decide) tk))) (dss_one (ds_ret de_bl)) dss_nil) (dss_cons (ds_set (i := 1) nd rfl (by first | exact .inl rfl | exact .inr rfl) (de_callD c_law_cells hr (by decide) tk (da_cons (de_var (pv 0)) (da_cons de_int da_nil)))) (dss_one (ds_ret (de_all rfl (by rfl) Z.all (da_cons (de_new (df_comp (own := [("_law_k", 2)]) (k := (.nm 2)) rfl nd (di_range1 (by rfl) Z.range (da_cons (de_len (by rfl) Z.len (da_cons (de_var (pv 1)) da_nil)) da_nil)) (blkOk_by (N := N_law) (sc := defScope s_law) (by decide +kernel)) (by decide) (fun _ _ _ _ _ => (dg_name nd rfl (by first | exact .inl rfl | exact .inr rfl))) (fun _ _ _ _ _ => dts_nil) (fun _ _ _ _ _ => (de_callBox c_law_right c_law_box hr (by decide) (by decide) takes0 (da_cons (de_var (pv 1)) (da_cons (de_var (pv 2)) da_nil)))))) da_nil))))))
end
end LW

namespace LW
open PySem PySem.Spec PyProof.Rows L2 DL
local macro_rules
  | `(tactic| decreasing_trivial_pre_omega) => `(tactic| first
    | with_reducible assumption
    | with_reducible exact dC_ok
    | with_reducible exact dNil_ok
    | with_reducible exact dNoP_ok
    | with_reducible exact s_next
    | ((with_reducible apply dV_ok); exact rfl)
    | with_reducible apply dCons_ok
    | with_reducible apply dBin_ok
    | with_reducible apply dBinB_ok
    | with_reducible apply e_call
    | with_reducible apply dCB_ok
    | with_reducible apply dCBF_ok
    | with_reducible apply dClose_ok
    | with_reducible apply dTup_ok
    | with_reducible apply dLst_ok
    | with_reducible apply dUn_ok
    | with_reducible apply dPart_ok
    | with_reducible apply dSlice_ok
    | with_reducible apply dSeqI_ok
    | with_reducible apply dOfB_ok
    | with_reducible apply dTru_bl
    | with_reducible apply dRet_ok
    | with_reducible apply e_prop
    | ((with_reducible apply e_lend); focus (exact rfl))
    | ((with_reducible apply t_lend); focus (exact rfl))
    | ((with_reducible apply sq); focus ((repeat' decreasing_trivial_pre_omega); done); focus (try dsimp only [List.set_cons_zero, List.set_cons_succ]); focus (exact rfl))
    | with_reducible apply s_set
    | with_reducible apply s_own
    | ((with_reducible apply s_app); focus (exact rfl))
    | with_reducible apply s_setIx
    | with_reducible apply s_par
    | with_reducible apply s_par3
    | with_reducible apply s_unp
    | ((with_reducible apply s_if_t); focus ((repeat' decreasing_trivial_pre_omega); done))
    | ((with_reducible apply s_if_f); focus ((repeat' decreasing_trivial_pre_omega); done))
    | (with_reducible apply o_not_t)
    | (with_reducible apply o_not_f)
    | ((with_reducible apply dAnd_t); focus ((repeat' decreasing_trivial_pre_omega); done))
    | ((with_reducible apply dAnd_f); ((repeat' decreasing_trivial_pre_omega); done))
    | ((with_reducible apply dOr_t); ((repeat' decreasing_trivial_pre_omega); done))
    | ((with_reducible apply dOr_f); focus ((repeat' decreasing_trivial_pre_omega); done))
    | ((with_reducible apply o_chain_t) <;> ((repeat' decreasing_trivial_pre_omega); done))
    | ((with_reducible apply o_chain_f) <;> ((repeat' decreasing_trivial_pre_omega); done))
    | ((with_reducible apply o_ltt); omega)
    | ((with_reducible apply o_ltf); omega)
    | ((with_reducible apply o_let); omega)
    | ((with_reducible apply o_lef); omega)
    | ((with_reducible apply o_gtt); omega)
    | ((with_reducible apply o_gtf); omega)
    | ((with_reducible apply o_get); omega)
    | ((with_reducible apply o_gef); omega)
    | ((with_reducible apply e_mulr); omega)
    | ((with_reducible apply e_mull); omega)
    | ((with_reducible apply e_div); omega)
    | ((with_reducible apply e_mod); omega)
    | ((with_reducible apply e_add_ls); first | exact Nat.le_of_ble_eq_true rfl | (simp; done) | (simp; omega))
    | ((with_reducible apply e_add_tu); first | exact Nat.le_of_ble_eq_true rfl | (simp; done) | (simp; omega))
    | exact (rfl : (_ : S) = _)
    | exact (rfl : (_ : R D) = _)
    | exact (rfl : (_ : R Bool) = _)
    | exact (rfl : (_ : R (List D)) = _)
    | exact (rfl : (_ : Option _) = _)
    | exact (rfl : (_ : Nat) = _)
    | exact Nat.le_of_ble_eq_true rfl
    | exact Nat.lt_of_lt_of_le (Nat.lt_succ_self _) (Nat.le_of_ble_eq_true rfl))
section
variable {b : Bx} {X Y : Sl} {rs bs : List Pr} {k p n : Int}
/-! take -/
theorem take_hi {n a s c : Int} (hn : 0 < n) (hl : n < 18446744073709551616) (ha : 0 < a) : F_law_take [.box, .int n] (a, s, c) = .ok (.int (a % n)) (a / n, s, c) := by
  simp [F_law_take, runFn, B_law_take, dSeq, oBind, dIf, dBinB, dBin, dV, dC, hIx, R.bind, hOrd, dSet, dCB, dCons, dNil, hInt, hMod_ok, dSetIx, hDiv_ok, dRet, atI, ixN, S.put, ha, hn, hl]
theorem take_lo {n s c : Int} (hn : 0 < n) (hs : 0 ≤ s) (hs2 : s < 4611686018427387904) (hc : 0 ≤ c) (hc2 : c < 1000000) : ∃ k, F_law_take [.box, .int n] (0, s, c) = .ok (.int k) (0, s, c + 1) ∧ 0 ≤ k ∧ k < n := by
  have f1 : ∀ (x : Int) (st : S), hMulI x (39373 + (c + 1)) st = .ok (.int (x * (39373 + (c + 1)))) st := fun x st => hMulI_r (by omega)
  have f2 : ∀ (x y : Int) (st : S), hMulI x (y % 40009 + 7) st = .ok (.int (x * (y % 40009 + 7))) st := fun x y st => hMulI_r (by omega)
  have f3 : ∀ (x : Int) (st : S), hMulI 48271 x st = .ok (.int (48271 * x)) st := fun x st => hMulI_l (by omega)
  have f4 : ∀ (x : Int) (st : S), hMulI x 48271 st = .ok (.int (x * 48271)) st := fun x st => hMulI_r (by omega)
  simp [F_law_take, runFn, B_law_take, dSeq, dIf, dBinB, dBin, dV, dC, hIx, bind_ok, oBind_nx, oBind_rt, hOrd, dSet, dCB, dCons, dNil, hInt, hMod_ok, dSetIx, hDiv_ok, dRet, atI, ixN, S.put, hn, dNext, hAdd, hMul, f1, f2, f3, f4]
  exact ⟨Int.emod_nonneg _ (by omega), Int.emod_lt_of_pos _ hn⟩
theorem take_spec : Takes1 F_law_take := fun n m b hn hl h => by
  obtain ⟨a, s, c⟩ := b
  obtain ⟨h1, h2, h3, h4, h5⟩ := h
  dsimp only at h1 h2 h3 h4 h5
  by_cases ha : 0 < a
  · exact ⟨_, _, take_hi hn hl ha, Int.emod_nonneg _ (by omega), Int.emod_lt_of_pos _ hn, Int.ediv_nonneg h1 (by omega), h2, h3, h4, by dsimp only; omega⟩
  · have : a = 0 := by omega
    subst this
    obtain ⟨k, e, k0, k1⟩ := take_lo hn h2 h3 h4 (by omega)
    exact ⟨k, _, e, k0, k1, by dsimp only; omega, h2, h3, by dsimp only; omega, by dsimp only; omega⟩
/-! same2 -/
theorem same_turn2 {k : Nat} {xs : List D} {a c : D} {b : Bx} {d : D} (ih : ∀ (d : D) (b : Bx), plainN k d = true → F_law_same k [d, d] b = FR.ok (D.bl true) b) (hx : ∀ x ∈ xs, plainN k x = true) (h : d ∈ zipD xs xs) :
    ∃ env', turnD (.tp [3, 4]) [3, 4] dYes (dCall 2 (F_law_same k) [] (dCons (dV 3) (dCons (dV 4) dNil))) d ⟨[.val a, .val c, .un, .un, .un], b⟩ = .ok (some (.bl true)) ⟨env', b⟩ := by
  obtain ⟨x, hx', rfl⟩ := mem_zipD h
  refine ⟨[.val a, .val c, .un, .val x, .val x], ?_⟩
  simp [turnD, S.hide, Sl.hide, wipeS, tgD, DL.putAll, S.put, bind_ok, dYes, dCall, dCons, dNil, dV, ih x b (hx x hx'), fromF]
theorem same_refl : ∀ (k : Nat) (d : D) (b : Bx), plainN k d = true → F_law_same k [d, d] b = .ok (.bl true) b := by
  intro k
  induction k with
  | zero => intro d b h; simp [plainN] at h
  | succ k ih =>
    intro d b h
    cases d with
    | int i => simp [F_law_same, runFn, B_law_same, dSeq, dIf, dTru, dIsi2, hIsi2, kindD, isKind, dV, bind_ok, oBind_nx, oBind_rt, hTru, truD, dNext, dOr, dBinB, hIsN, DL.isNon, dC, dRet, dAndV, dIsi, hIsi, dNotV, dOfB, toD, hEq, deq_int]
    | non => simp [F_law_same, runFn, B_law_same, dSeq, dSet, S.put, dIf, dTru, dIsi2, hIsi2, kindD, isKind, dV, bind_ok, oBind_nx, oBind_rt, hTru, truD, dNext, dOr, dBinB, hIsN, DL.isNon, dC, dRet, dAndV, dIsi, hIsi, dNotV, dOfB, toD, hEq, deq_bl, deq_non]
    | bl i => simp [F_law_same, runFn, B_law_same, dSeq, dSet, S.put, dIf, dTru, dIsi2, hIsi2, kindD, isKind, dV, bind_ok, oBind_nx, oBind_rt, hTru, truD, dNext, dOr, dBinB, hIsN, DL.isNon, dC, dRet, dAndV, dIsi, hIsi, dNotV, dOfB, toD, hEq, deq_bl, deq_non]
    | str x =>
      have hx : PyData.canLay0 (.str x) = true := h
      simp [F_law_same, runFn, B_law_same, dSeq, dSet, S.put, dIf, dTru, dIsi2, hIsi2, kindD, isKind, dV, bind_ok, oBind_nx, oBind_rt, hTru, truD, dNext, dOr, dBinB, hIsN, DL.isNon, dC, dRet, dAndV, dIsi, hIsi, dNotV, dOfB, toD, hEq, deq_bl, deq_str hx]
    | ls xs =>
      simp [plainN] at h
      obtain ⟨hl, hx⟩ := h
      simp [F_law_same, runFn, B_law_same, dSeq, dIf, dTru, dIsi2, hIsi2, kindD, isKind, dV, bind_ok, oBind_nx, oBind_rt, hTru, truD, dNext, dBinB, dC, dRet, dAndV, dIsi, hIsi, dOfB, toD, hNe, hEq, deq_bl, deq_int, dCB, dCons, dNil, hLen, dClose, dComp, dCBF, hZip]
      rw [compD_map (f := fun _ => .bl true) (fun d hd => same_turn2 ih hx hd) (by simpa [zipD] using hl)]
      simp [bind_ok, oBind_rt, hAll_true]
    | tu xs =>
      simp [plainN] at h
      obtain ⟨hl, hx⟩ := h
      simp [F_law_same, runFn, B_law_same, dSeq, dIf, dTru, dIsi2, hIsi2, kindD, isKind, dV, bind_ok, oBind_nx, oBind_rt, hTru, truD, dNext, dBinB, dC, dRet, dAndV, dIsi, hIsi, dOfB, toD, hNe, hEq, deq_bl, deq_int, dCB, dCons, dNil, hLen, dClose, dComp, dCBF, hZip]
      rw [compD_map (f := fun _ => .bl true) (fun d hd => same_turn2 ih hx hd) (by simpa [zipD] using hl)]
      simp [bind_ok, oBind_rt, hAll_true]
    | ro _ => simp [plainN] at h
    | box => simp [plainN] at h
    | ob _ _ => simp [plainN] at h
    | er _ _ => simp [plainN] at h

/-! box -/
theorem atI_ints (cs : List Int) (k : Nat) (h : k < cs.length) : atI (cs.map D.int) (k : Int) = some (.int cs[k]) := atI_nat (by rw [List.getElem?_map, List.getElem?_eq_getElem h]; rfl)
theorem box_spec {cs : List Int} {k : Nat} (h : k < cs.length) (h3 : cs.length ≤ 3) (b : Bx) : ∃ a s, F_law_box [.ls (cs.map .int), .int (k : Nat)] b = .okF [.int a, .int s, .int 0] b ∧ Gd 900000 (a, s, 0) := by
  have hk : (k : Int) < (cs.length : Int) := by omega
  have f1 : ∀ (x : Int) (c : Prop) [Decidable c] (st : S), hMulI x (if c then 1 else 0) st = .ok (.int (x * (if c then 1 else 0))) st := fun x c _ st => hMulI_r (by split <;> omega)
  have f2 : ∀ (x : Int) (st : S), hMulI 39373 x st = .ok (.int (39373 * x)) st := fun x st => hMulI_l (by omega)
  simp [F_law_box, runFn, B_law_box, dSeq, dSet, dIfE, dBinB, dBin, dV, dC, bind_ok, oBind_nx, oBind_rtF, hOrd, dCB, dCons, dNil, hLen, hk, hIx, ixD, atI_ints cs k h, S.put, dRetF, dLst, hLs, hMul, hAbs, hInt, dOfB, toD, hPow, hMod_ok, hAdd, f1, f2]
  refine ⟨_, _, ⟨rfl, rfl⟩, ?_, ?_, ?_, ?_, ?_⟩
  · dsimp only
    split <;> split <;> omega
  · dsimp only; omega
  · dsimp only; omega
  · dsimp only; omega
  · dsimp only; omega
abbrev cellsBody : S → R Out := (dSeq (dSet 5 (dBin hMod (dCB hInt (dCons (dV 3) dNil)) (dV 1))) (dSetIx 2 (dLend 2 (dBin hAdd (dBin hIx (dV 2) (dV 5)) (dBin hMul (dV 4) (dBin hAdd (dV 3) (dC (.int 2)))))) (dV 5)))
theorem cells_turn (k : Nat) (r : Int) (ns cs : List Int) (x3 x4 x5 : Sl) (b : Bx) (h : cs.length = 3) (hk : k ≤ 63) :
    ∃ cs' : List Int, cs'.length = 3 ∧ cellsBody ⟨[.val (.ro ns), .val (.int 3), .own (cs.map .int), .val (.int (k : Nat)), .val (.int r), x5], b⟩ = .ok .nx ⟨[.val (.ro ns), .val (.int 3), .own (cs'.map .int), .val (.int (k : Nat)), .val (.int r), .val (.int ((k : Int) % 3))], b⟩ := by
  have h3 : k % 3 < cs.length := by omega
  have e1 : ((k : Int) % 3) = ((k % 3 : Nat) : Int) := by omega
  have e2 : ixN cs.length ((k : Int) % 3) = some (k % 3) := by unfold ixN; rw [if_pos (by omega), if_pos (by omega)]; congr 1
  have f1 : ∀ (x : Int) (st : S), hMulI x ((k : Int) + 2) st = .ok (.int (x * ((k : Int) + 2))) st := fun x st => hMulI_r (by omega)
  refine ⟨cs.set (k % 3) (cs[k % 3] + r * ((k : Int) + 2)), by simpa using h, ?_⟩
  have a1 : atI (cs.map D.int) ((k : Int) % 3) = some (.int cs[k % 3]) := by rw [e1]; exact atI_ints cs (k % 3) h3
  simp only [cellsBody, dSeq, dSet, dBin, dCB, dCons, dNil, dV, bind_ok, oBind_nx, hInt, S.put, List.getElem?_cons_succ, List.getElem?_cons_zero, List.set_cons_succ, List.set_cons_zero, dC]
  rw [hMod_ok (by omega)]
  simp only [bind_ok, oBind_nx, dSetIx, dLend, dBin, dV, List.getElem?_cons_succ, List.getElem?_cons_zero, S.put, S.hide, List.set_cons_succ, List.set_cons_zero, List.map_cons, List.map_nil, Sl.hide, hIx, ixD, a1, hAdd, hMul, f1, flatD, dC]
  simp [e2, bind_ok, h3]
theorem cells_loop : ∀ (rest : List Int) (k : Nat) (ns cs : List Int) (x3 x4 x5 : Sl) (b : Bx), cs.length = 3 → k + rest.length ≤ 63 →
    ∃ (cs' : List Int) (y3 y4 y5 : Sl), cs'.length = 3 ∧ forD (.tp [3, 4]) cellsBody (enumD k (rest.map .int)) ⟨[.val (.ro ns), .val (.int 3), .own (cs.map .int), x3, x4, x5], b⟩ = .ok .nx ⟨[.val (.ro ns), .val (.int 3), .own (cs'.map .int), y3, y4, y5], b⟩
  | [], k, ns, cs, x3, x4, x5, b, h, _ => ⟨cs, x3, x4, x5, h, rfl⟩
  | r :: rest, k, ns, cs, x3, x4, x5, b, h, hk => by
    obtain ⟨cs1, h1, e1⟩ := cells_turn k r ns cs x3 x4 x5 b h (by simp at hk; omega)
    obtain ⟨cs', y3, y4, y5, hl, e⟩ := cells_loop rest (k + 1) ns cs1 (.val (.int (k : Nat))) (.val (.int r)) (.val (.int ((k : Int) % 3))) b h1 (by simp at hk; omega)
    refine ⟨cs', y3, y4, y5, hl, ?_⟩
    rw [← e]
    exact forD_nx rfl e1
theorem sIx3 (n : Nat) : HT.sIx n 0 (some 3) = min 3 n := HT.sIx_nat n 0 3
theorem sIx63 (n : Nat) : HT.sIx n n (some 63) = min 63 n := HT.sIx_nat n n 63
theorem sIx3n (n : Nat) : HT.sIx n n (some 3) = min 3 n := HT.sIx_nat n n 3
theorem cells_spec (ns : List Int) (b : Bx) : ∃ cs : List Int, cs ≠ [] ∧ cs.length ≤ 3 ∧ F_law_cells [.ro ns, .int 3] b = .ok (.ls (cs.map .int)) b := by
  have c1 : DL.cutD ns none (some 3) = ns.take 3 := by
    unfold DL.cutD
    rw [HT.sIx_none, sIx3n, List.drop_zero, Nat.sub_zero, List.take_eq_take_iff]; omega
  have c2 : ∃ r : List Int, DL.cutD ns (some 3) (some 63) = r ∧ r.length ≤ 60 ∧ (ns.length < 3 → r = []) := by
    refine ⟨_, rfl, ?_, fun h => ?_⟩
    · unfold DL.cutD; rw [sIx3, sIx63, List.length_take, List.length_drop]; omega
    · unfold DL.cutD; rw [sIx3, sIx63]; simp; omega
  obtain ⟨r, c2, hr, hr0⟩ := c2
  have start : ∃ cs : List Int, cs ≠ [] ∧ cs.length ≤ 3 ∧ (3 ≤ ns.length → cs.length = 3) ∧ dOwn 2 (dOrF (dCBF hListOf (dCons (dSlice (dV 0) dNoP (dPart (dV 1))) dNil)) (dLst (dCons (dC (.int 0)) dNil))) ⟨[.val (.ro ns), .val (.int 3), .un, .un, .un, .un], b⟩ = .ok .nx ⟨[.val (.ro ns), .val (.int 3), .own (cs.map .int), .un, .un, .un], b⟩ := by
    by_cases h : ns = []
    · subst h
      exact ⟨[0], by simp, by simp, by simp, rfl⟩
    · refine ⟨ns.take 3, by simp [h], by rw [List.length_take]; omega, fun z => by rw [List.length_take]; omega, ?_⟩
      simp [dOwn, dOrF, dCBF, dCons, dSlice, dV, dNoP, dPart, dNil, bind_ok, sliceD, c1, hListOf, S.put, h]
  obtain ⟨cs, n0, l3, l3', e0⟩ := start
  have loop : ∃ (cs' : List Int) (y3 y4 y5 : Sl), cs' ≠ [] ∧ cs'.length ≤ 3 ∧ forD (.tp [3, 4]) cellsBody (enumD 0 (r.map .int)) ⟨[.val (.ro ns), .val (.int 3), .own (cs.map .int), .un, .un, .un], b⟩ = .ok .nx ⟨[.val (.ro ns), .val (.int 3), .own (cs'.map .int), y3, y4, y5], b⟩ := by
    by_cases h : ns.length < 3
    · rw [hr0 h]
      exact ⟨cs, .un, .un, .un, n0, l3, rfl⟩
    · obtain ⟨cs', y3, y4, y5, hl, e⟩ := cells_loop r 0 ns cs .un .un .un b (l3' (by omega)) (by omega)
      exact ⟨cs', y3, y4, y5, by intro z; subst z; simp at hl, by omega, e⟩
  obtain ⟨cs', y3, y4, y5, n1, l1, e1⟩ := loop
  refine ⟨cs', n1, l1, ?_⟩
  have e2 : dFor (.tp [3, 4]) (dCBF hEnumB (dCons (dSlice (dV 0) (dPart (dV 1)) (dPart (dC (.int 63)))) dNil)) cellsBody ⟨[.val (.ro ns), .val (.int 3), .own (cs.map .int), .un, .un, .un], b⟩ = .ok .nx ⟨[.val (.ro ns), .val (.int 3), .own (cs'.map .int), y3, y4, y5], b⟩ := by
    rw [← e1]
    simp [dFor, dCBF, dCons, dSlice, dV, dC, dPart, dNil, bind_ok, sliceD, c2, hEnumB]
  refine run_rt (s := ⟨[.val (.ro ns), .val (.int 3), .val (.ls (cs'.map .int)), y3, y4, y5], b⟩) rfl ?_
  show dSeq _ (dSeq _ _) ⟨[.val (.ro ns), .val (.int 3), .un, .un, .un, .un], b⟩ = _
  rw [seq_nx e0, seq_nx e2]
  rfl
theorem of_spec {gs : List D} {m : Nat} {b : Bx} (hg : gs ≠ []) (hl : gs.length < 1000000) (h : Gd (m + 1) b) : ∃ (k : Nat) (b' : Bx) (hk : k < gs.length), F_law_of [.box, .ls gs] b = .ok gs[k] b' ∧ Gd m b' := by
  have l0 : 0 < gs.length := List.length_pos_iff.mpr hg
  obtain ⟨k, b', e, k0, k1, g⟩ := take_spec (gs.length : Nat) m b (by omega) (by omega) h
  have hk : k.toNat < gs.length := by omega
  have e1 : atI gs k = some gs[k.toNat] := by
    have q : atI gs ((k.toNat : Nat) : Int) = some gs[k.toNat] := atI_nat (List.getElem?_eq_getElem hk)
    rwa [show ((k.toNat : Nat) : Int) = k by omega] at q
  refine ⟨k.toNat, b', hk, ?_, g⟩
  simp [F_law_of, runFn, B_law_of, dRet, dBin, dV, bind_ok, dCall, dCons, dNil, dCB, hLen, e, fromF_ok, hIx, ixD, e1]
/-! pick -/
theorem perm_erase {α : Type} : ∀ (l : List α) (i : Nat) (x : α), l[i]? = some x → (x :: l.eraseIdx i).Perm l
  | [], _, _, h => by simp at h
  | y :: l, 0, x, h => by
    have : y = x := by simpa using h
    rw [this]; exact .refl _
  | y :: l, i + 1, x, h => ((List.Perm.swap y x _).trans ((perm_erase l i x (by simpa using h)).cons y))
theorem erase_strs : ∀ (l : List Str) (i : Nat), (l.map D.str).eraseIdx i = (l.eraseIdx i).map .str
  | [], _ => rfl
  | _ :: _, 0 => rfl
  | x :: l, i + 1 => congrArg (D.str x :: ·) (erase_strs l i)
theorem move_turn {st : S} {i j : Nat} {p f : List Str} {m : Nat} (hb : st.env[0]? = some (.val .box)) (hi : st.env[i]? = some (.own (p.map .str))) (hj : st.env[j]? = some (.own (f.map .str))) (ij : i ≠ j) (i0 : i ≠ 0)
    (hp : 0 < p.length) (hl : p.length < 1000) (hf : f.length < 1000) (g : Gd (m + 1) st.bx) :
    ∃ (k : Nat) (x : Str) (b' : Bx), p[k]? = some x ∧ Gd m b' ∧
      dApp j (dPop i (dCall 2 F_law_take [] (dCons (dV 0) (dCons (dLend i (dCB hLen (dCons (dV i) dNil))) dNil)))) st = .ok .nx ⟨(st.env.set i (.own ((p.eraseIdx k).map .str))).set j (.own ((f ++ [x]).map .str)), b'⟩ := by
  obtain ⟨k, b', e, k0, k1, g1⟩ := take_spec (p.length : Nat) m st.bx (by omega) (by omega) g
  have hk : k.toNat < p.length := by omega
  refine ⟨k.toNat, p[k.toNat], b', List.getElem?_eq_getElem hk, g1, ?_⟩
  have li : i < st.env.length := (List.getElem?_eq_some_iff.mp hi).1
  have ln : dLend i (dCB hLen (dCons (dV i) dNil)) st = .ok (.int (p.length : Nat)) st := by
    unfold dLend
    rw [hi]
    dsimp only
    have e1 : (dCB hLen (dCons (dV i) dNil)) (st.put i (.val (.ls (p.map .str)))).hide = .ok (.int (p.length : Nat)) (st.put i (.val (.ls (p.map .str)))).hide := by
      refine dCB_ok (dCons_ok (dV_ok ?_) dNil_ok) (hLen_seq (.inr rfl))
      show ((st.env.set i (.val (.ls (p.map .str)))).map Sl.hide)[i]? = _
      rw [List.getElem?_map, List.getElem?_set_self li]
      rfl
    rw [e1]
    rfl
  have cl : dCall 2 F_law_take [] (dCons (dV 0) (dCons (dLend i (dCB hLen (dCons (dV i) dNil))) dNil)) st = .ok (.int k) { st with bx := b' } := dCall_ok (dCons_ok (dV_ok hb) (dCons_ok ln dNil_ok)) rfl e
  have pp : dPop i (dCall 2 F_law_take [] (dCons (dV 0) (dCons (dLend i (dCB hLen (dCons (dV i) dNil))) dNil))) st = .ok (.str p[k.toNat]) ⟨st.env.set i (.own ((p.eraseIdx k.toNat).map .str)), b'⟩ := by
    unfold dPop
    rw [hi]
    dsimp only
    rw [cl, bind_ok]
    dsimp only
    rw [hi]
    dsimp only
    rw [if_pos ⟨k0, by omega⟩, List.getElem?_map, List.getElem?_eq_getElem hk, erase_strs]
    rfl
  unfold dApp
  rw [hj]
  dsimp only
  rw [pp, bind_ok]
  have hj2 : (st.env.set i (.own ((p.eraseIdx k.toNat).map .str)))[j]? = some (.own (f.map .str)) := by rw [List.getElem?_set_ne ij]; exact hj
  dsimp only
  rw [hj2]
  dsimp only
  rw [List.length_map, if_pos (by omega), List.map_append]
  rfl
abbrev moveB (i j : Nat) : S → R Out := dApp j (dPop i (dCall 2 F_law_take [] (dCons (dV 0) (dCons (dLend i (dCB hLen (dCons (dV i) dNil))) dNil))))
theorem move_loop {i j t : Nat} (ij : i ≠ j) (i0 : i ≠ 0) (j0 : j ≠ 0) (t0 : t ≠ 0) (ti : t ≠ i) (tj : t ≠ j) : ∀ (ds : List D) (st : S) (p f : List Str) (m : Nat), st.env[0]? = some (.val .box) → st.env[i]? = some (.own (p.map .str)) → st.env[j]? = some (.own (f.map .str)) →
    ds.length ≤ p.length → p.length + f.length < 1000 → Gd (m + ds.length) st.bx →
    ∃ (st' : S) (p' f' : List Str), forD (.nm t) (moveB i j) ds st = .ok .nx st' ∧ st'.env[j]? = some (.own (f'.map .str)) ∧ (f' ++ p').Perm (f ++ p) ∧ f'.length = f.length + ds.length ∧ Gd m st'.bx
  | [], st, p, f, m, hb, hi, hj, _, _, g => ⟨st, p, f, rfl, hj, .refl _, by simp, by simpa using g⟩
  | d :: ds, st, p, f, m, hb, hi, hj, hl, hs, g => by
    have hp : 0 < p.length := by simp at hl; omega
    have b1 : (st.put t (.val d)).env[0]? = some (.val .box) := by show (st.env.set t _)[0]? = _; rw [List.getElem?_set_ne t0]; exact hb
    have i1 : (st.put t (.val d)).env[i]? = some (.own (p.map .str)) := by show (st.env.set t _)[i]? = _; rw [List.getElem?_set_ne ti]; exact hi
    have j1 : (st.put t (.val d)).env[j]? = some (.own (f.map .str)) := by show (st.env.set t _)[j]? = _; rw [List.getElem?_set_ne tj]; exact hj
    obtain ⟨k, x, b', hk, g1, e⟩ := move_turn (m := m + ds.length) (st := st.put t (.val d)) b1 i1 j1 ij i0 hp (by omega) (by omega) (by show Gd (m + ds.length + 1) st.bx; exact g)
    have lj : j < ((st.put t (.val d)).env.set i (.own ((p.eraseIdx k).map .str))).length := by rw [List.length_set]; exact (List.getElem?_eq_some_iff.mp j1).1
    have li : i < (st.put t (.val d)).env.length := (List.getElem?_eq_some_iff.mp i1).1
    have kl : k < p.length := (List.getElem?_eq_some_iff.mp hk).1
    have el : (p.eraseIdx k).length = p.length - 1 := List.length_eraseIdx_of_lt kl
    obtain ⟨st', p', f', e2, h2, pm, ln, g2⟩ := move_loop ij i0 j0 t0 ti tj ds ⟨((st.put t (.val d)).env.set i (.own ((p.eraseIdx k).map .str))).set j (.own ((f ++ [x]).map .str)), b'⟩ (p.eraseIdx k) (f ++ [x]) m
      (by show (List.set _ _ _)[0]? = _; rw [List.getElem?_set_ne j0, List.getElem?_set_ne i0]; exact b1)
      (by show (List.set _ _ _)[i]? = _; rw [List.getElem?_set_ne (Ne.symm ij), List.getElem?_set_self li])
      (by show (List.set _ _ _)[j]? = _; rw [List.getElem?_set_self lj])
      (by simp at hl; omega) (by simp; omega) g1
    refine ⟨st', p', f', (forD_nx rfl e).trans e2, h2, pm.trans ?_, by rw [ln]; simp; omega, g2⟩
    rw [List.append_assoc]
    exact (List.Perm.append_left f (perm_erase p k x hk))
theorem pick_spec {goods : List Str} {n m : Nat} {b : Bx} (hl : goods.length < 500) (hn : n < 1000) (g : Gd (m + 500) b) : ∃ (f' p' : List Str) (b' : Bx), F_law_pick [.box, lsS goods, .int (n : Nat)] b = .ok (lsS f') b' ∧ (f' ++ p').Perm goods ∧ Gd m b' := by
  obtain ⟨r, hr, er⟩ : ∃ r : Nat, r ≤ goods.length ∧ gMin (n : Int) (goods.length : Int) = (r : Int) := by
    by_cases q : (goods.length : Int) < (n : Int)
    · exact ⟨goods.length, Nat.le_refl _, if_pos q⟩
    · exact ⟨n, by omega, if_neg q⟩
  obtain ⟨st', p', f', e, hj, pm, ln, g2⟩ := move_loop (i := 4) (j := 5) (t := 3) (by decide) (by decide) (by decide) (by decide) (by decide) (by decide) (rangeD 0 r) ⟨[.val .box, .val (lsS goods), .val (.int (n : Nat)), .un, .own (goods.map .str), .own []], b⟩ goods [] m rfl rfl rfl
    (by unfold rangeD; simpa using hr) (by simp; omega) (g.less (by unfold rangeD; simp; omega))
  refine ⟨f', p', st'.bx, ?_, by simpa using pm, g2⟩
  refine run_rt (s := st'.put 5 (.val (.ls (f'.map .str)))) rfl ?_
  refine (seq_nx (st1 := ⟨[.val .box, .val (lsS goods), .val (.int (n : Nat)), .un, .own (goods.map .str), .own []], b⟩) rfl).trans ?_
  have rg : dCBF hRange1 (dCons (dLend 4 (dCB (h2 gMin) (dCons (dCB hInt (dCons (dV 2) dNil)) (dCons (dCB hLen (dCons (dV 4) dNil)) dNil)))) dNil) ⟨[.val .box, .val (lsS goods), .val (.int (n : Nat)), .un, .own (goods.map .str), .own []], b⟩ = .ok (rangeD 0 r) ⟨[.val .box, .val (lsS goods), .val (.int (n : Nat)), .un, .own (goods.map .str), .own []], b⟩ := by
    have e1 : dLend 4 (dCB (h2 gMin) (dCons (dCB hInt (dCons (dV 2) dNil)) (dCons (dCB hLen (dCons (dV 4) dNil)) dNil))) ⟨[.val .box, .val (lsS goods), .val (.int (n : Nat)), .un, .own (goods.map .str), .own []], b⟩ = .ok (.int (r : Nat)) ⟨[.val .box, .val (lsS goods), .val (.int (n : Nat)), .un, .own (goods.map .str), .own []], b⟩ := by
      have e2 : dCB (h2 gMin) (dCons (dCB hInt (dCons (dV 2) dNil)) (dCons (dCB hLen (dCons (dV 4) dNil)) dNil)) ⟨[.val .box, .val (lsS goods), .val (.int (n : Nat)), .un, .val (lsS goods), .un], b⟩ = .ok (.int (r : Nat)) ⟨[.val .box, .val (lsS goods), .val (.int (n : Nat)), .un, .val (lsS goods), .un], b⟩ :=
        dCB_ok (dCons_ok (dCB_ok (dCons_ok (dV_ok rfl) dNil_ok) rfl) (dCons_ok (dCB_ok (dCons_ok (dV_ok rfl) dNil_ok) (hLen_seq (.inr rfl))) dNil_ok)) (by rw [← er]; rfl)
      show (match dCB (h2 gMin) (dCons (dCB hInt (dCons (dV 2) dNil)) (dCons (dCB hLen (dCons (dV 4) dNil)) dNil)) ⟨[.val .box, .val (lsS goods), .val (.int (n : Nat)), .un, .val (lsS goods), .un], b⟩ with
        | .ok d s => if (flatD d).isSome then R.ok d ⟨[.val .box, .val (lsS goods), .val (.int (n : Nat)), .un, .own (goods.map .str), .own []], s.bx⟩ else .stuck
        | _ => .stuck) = _
      rw [e2]
      rfl
    exact dCBF_ok (dCons_ok e1 dNil_ok) (hRange1_nat (by omega))
  refine (seq_nx (dFor_ok rg e)).trans (dRet_ok ?_)
  unfold dV
  rw [hj]

end
end LW

namespace LW
open PySem PySem.Spec PyProof.Rows L2 DL
theorem by_hand (b : Bx) : F_law_by_hand_right [] b = .ok (.bl true) b := by kernel_rfl
end LW

namespace LW
open PySem PySem.Spec PyProof.Rows L2 DL
local macro_rules
  | `(tactic| decreasing_trivial_pre_omega) => `(tactic| first
    | with_reducible assumption
    | with_reducible exact dC_ok
    | with_reducible exact dNil_ok
    | with_reducible exact dNoP_ok
    | with_reducible exact s_next
    | ((with_reducible apply dV_ok); exact rfl)
    | with_reducible apply dCons_ok
    | with_reducible apply dBin_ok
    | with_reducible apply dBinB_ok
    | with_reducible apply e_call
    | with_reducible apply dCB_ok
    | with_reducible apply dCBF_ok
    | with_reducible apply dClose_ok
    | with_reducible apply dTup_ok
    | with_reducible apply dLst_ok
    | with_reducible apply dUn_ok
    | with_reducible apply dPart_ok
    | with_reducible apply dSlice_ok
    | with_reducible apply dSeqI_ok
    | with_reducible apply dOfB_ok
    | with_reducible apply dTru_bl
    | with_reducible apply dRet_ok
    | with_reducible apply e_prop
    | ((with_reducible apply e_lend); focus (exact rfl))
    | ((with_reducible apply t_lend); focus (exact rfl))
    | ((with_reducible apply sq); focus ((repeat' decreasing_trivial_pre_omega); done); focus (try dsimp only [List.set_cons_zero, List.set_cons_succ]); focus (exact rfl))
    | with_reducible apply s_set
    | with_reducible apply s_own
    | ((with_reducible apply s_app); focus (exact rfl))
    | with_reducible apply s_setIx
    | with_reducible apply s_par
    | with_reducible apply s_par3
    | with_reducible apply s_unp
    | ((with_reducible apply s_if_t); focus ((repeat' decreasing_trivial_pre_omega); done))
    | ((with_reducible apply s_if_f); focus ((repeat' decreasing_trivial_pre_omega); done))
    | (with_reducible apply o_not_t)
    | (with_reducible apply o_not_f)
    | ((with_reducible apply dAnd_t); focus ((repeat' decreasing_trivial_pre_omega); done))
    | ((with_reducible apply dAnd_f); ((repeat' decreasing_trivial_pre_omega); done))
    | ((with_reducible apply dOr_t); ((repeat' decreasing_trivial_pre_omega); done))
    | ((with_reducible apply dOr_f); focus ((repeat' decreasing_trivial_pre_omega); done))
    | ((with_reducible apply o_chain_t) <;> ((repeat' decreasing_trivial_pre_omega); done))
    | ((with_reducible apply o_chain_f) <;> ((repeat' decreasing_trivial_pre_omega); done))
    | ((with_reducible apply o_ltt); omega)
    | ((with_reducible apply o_ltf); omega)
    | ((with_reducible apply o_let); omega)
    | ((with_reducible apply o_lef); omega)
    | ((with_reducible apply o_gtt); omega)
    | ((with_reducible apply o_gtf); omega)
    | ((with_reducible apply o_get); omega)
    | ((with_reducible apply o_gef); omega)
    | ((with_reducible apply e_mulr); omega)
    | ((with_reducible apply e_mull); omega)
    | ((with_reducible apply e_div); omega)
    | ((with_reducible apply e_mod); omega)
    | ((with_reducible apply e_add_ls); first | exact Nat.le_of_ble_eq_true rfl | (simp; done) | (simp; omega))
    | ((with_reducible apply e_add_tu); first | exact Nat.le_of_ble_eq_true rfl | (simp; done) | (simp; omega))
    | exact (rfl : (_ : S) = _)
    | exact (rfl : (_ : R D) = _)
    | exact (rfl : (_ : R Bool) = _)
    | exact (rfl : (_ : R (List D)) = _)
    | exact (rfl : (_ : Option _) = _)
    | exact (rfl : (_ : Nat) = _)
    | exact Nat.le_of_ble_eq_true rfl
    | exact Nat.lt_of_lt_of_le (Nat.lt_succ_self _) (Nat.le_of_ble_eq_true rfl))
section
variable {b : Bx} {d : D} {N : List Str} {p k : Int} {o : Str}
/-! rows of names -/
abbrev farD (k : Int) : D := .ls [.str "far", .int k, .bl true]
abbrev knownD (o : Str) : D := .ls [.str "known", .str o, .bl true]
abbrev noneD (o : Str) : D := .ls [.str "none", .str o, .bl true]
def exL (N : List Str) (p : Int) : List Str := N.take (p - 1).toNat ++ ((N.drop (p - 1).toNat).take 2).reverse ++ N.drop (p + 1).toNat
def putL (N : List Str) (p : Int) (o : Str) : List Str := N.take (p - 1).toNat ++ [o] ++ N.drop (p - 1).toNat
def outL (N : List Str) (o : Str) : List Str := N.filter fun x => decide (x ≠ o)
theorem cutN_to {p : Int} (h : IsSeq d N) (h0 : 0 ≤ p) : ∃ e, IsSeq e (N.take p.toNat) ∧ sliceD d none (some p) = some e := by
  rcases h with rfl | rfl
  · exact ⟨tuS (N.take p.toNat), .inl rfl, by show some (D.tu (DL.cutD (N.map D.str) none (some p))) = _; rw [cut_to _ h0, ← List.map_take]⟩
  · exact ⟨lsS (N.take p.toNat), .inr rfl, by show some (D.ls (DL.cutD (N.map D.str) none (some p))) = _; rw [cut_to _ h0, ← List.map_take]⟩
theorem cutN_from {p : Int} (h : IsSeq d N) (h0 : 0 ≤ p) : ∃ e, IsSeq e (N.drop p.toNat) ∧ sliceD d (some p) none = some e := by
  rcases h with rfl | rfl
  · exact ⟨tuS (N.drop p.toNat), .inl rfl, by show some (D.tu (DL.cutD (N.map D.str) (some p) none)) = _; rw [cut_from _ h0, ← List.map_drop]⟩
  · exact ⟨lsS (N.drop p.toNat), .inr rfl, by show some (D.ls (DL.cutD (N.map D.str) (some p) none)) = _; rw [cut_from _ h0, ← List.map_drop]⟩
theorem tupOf_seq {e : D} {M : List Str} {st : S} (h : IsSeq e M) : hTupOf [e] st = .ok (tuS M) st := by rcases h with rfl | rfl <;> rfl
theorem ix_seq {i : Int} {x : Str} {st : S} (h : IsSeq d N) (h0 : 0 ≤ i) (e : N[i.toNat]? = some x) : hIx d (.int i) st = .ok (.str x) st := by
  have a : L2.atI (N.map D.str) i = some (.str x) := by
    have q : L2.atI (N.map D.str) ((i.toNat : Nat) : Int) = some (.str x) := atI_nat (by rw [List.getElem?_map, e]; rfl)
    rwa [show ((i.toNat : Nat) : Int) = i by omega] at q
  rcases h with rfl | rfl
  · show (match L2.atI (N.map D.str) i with | some d => R.ok d st | none => .stuck) = _
    rw [a]
  · show (match L2.atI (N.map D.str) i with | some d => R.ok d st | none => .stuck) = _
    rw [a]
theorem addS {A B : List Str} {st : S} (l : A.length + B.length ≤ 1000) : hAdd (tuS A) (tuS B) st = .ok (tuS (A ++ B)) st := by
  rw [e_add_tu (by rw [List.length_map, List.length_map]; omega), ← List.map_append]
theorem addLS {A B : List Str} {st : S} (l : A.length + B.length ≤ 1000) : hAdd (lsS A) (lsS B) st = .ok (lsS (A ++ B)) st := by
  rw [e_add_ls (by rw [List.length_map, List.length_map]; omega), ← List.map_append]
theorem ex_ok (h : IsSeq d N) (l : N.length ≤ 100) : F_list_exchanged [d, .int p] b = if 1 ≤ p ∧ p < N.length then .ok (tuS (exL N p)) b else .err ⟨2, [.int p]⟩ b := by
  have hl : ∀ {st : S}, hLen [d] st = .ok (.int (N.length : Nat)) st := fun {st} => hLen_seq h
  have ln : dCB hLen (dCons (dV 0) dNil) ⟨[.val d, .val (.int p), .un], b⟩ = .ok (.int (N.length : Nat)) ⟨[.val d, .val (.int p), .un], b⟩ := dCB_ok (dCons_ok (dV_ok rfl) dNil_ok) hl
  by_cases q : 1 ≤ p ∧ p < N.length
  · rw [if_pos q]
    obtain ⟨g, k, e1, e2, e3⟩ := two_of (xs := N) (n := (p - 1).toNat) (by omega)
    obtain ⟨A, hA, eA⟩ := cutN_to (p := p - 1) h (by omega)
    obtain ⟨C, hC, eC⟩ := cutN_from (p := p + 1) h (by omega)
    have i1 : ∀ {st : S}, hIx d (.int p) st = .ok (.str k) st := fun {st} => ix_seq h (by omega) (by rw [← e2]; congr 1; omega)
    have i0 : ∀ {st : S}, hIx d (.int (p - 1)) st = .ok (.str g) st := fun {st} => ix_seq h (by omega) e1
    refine run_rt (s := ⟨[.val d, .val (.int p), .val (tuS [k, g])], b⟩) rfl ?_
    have n1 : dIf (dNot (dChainT hLe hLt (dC (.int 1)) (dV 1) (dCB hLen (dCons (dV 0) dNil)))) (dRaise 2 (dV 1)) dNext ⟨[.val d, .val (.int p), .un], b⟩ = .ok .nx ⟨[.val d, .val (.int p), .un], b⟩ := by
      have q1 := q.1
      have q2 := q.2
      refine s_if_f (st1 := ⟨[.val d, .val (.int p), .un], b⟩) ?_ rfl
      repeat' decreasing_trivial_pre_omega
    have n2 : dSet 2 (dTup (dCons (dBin hIx (dV 0) (dV 1)) (dCons (dBin hIx (dV 0) (dBin hSub (dV 1) (dC (.int 1)))) dNil))) ⟨[.val d, .val (.int p), .un], b⟩ = .ok .nx ⟨[.val d, .val (.int p), .val (tuS [k, g])], b⟩ := by
      have a1 : dBin hIx (dV 0) (dV 1) ⟨[.val d, .val (.int p), .un], b⟩ = .ok (.str k) ⟨[.val d, .val (.int p), .un], b⟩ := dBin_ok (dV_ok rfl) (dV_ok rfl) i1
      have a2 : dBin hIx (dV 0) (dBin hSub (dV 1) (dC (.int 1))) ⟨[.val d, .val (.int p), .un], b⟩ = .ok (.str g) ⟨[.val d, .val (.int p), .un], b⟩ := dBin_ok (dV_ok rfl) (dBin_ok (dV_ok rfl) dC_ok rfl) i0
      repeat' decreasing_trivial_pre_omega
    show dSeq _ (dSeq _ (dRet _)) ⟨[.val d, .val (.int p), .un], b⟩ = _
    rw [seq_nx n1, seq_nx n2]
    have s1 : dCB hTupOf (dCons (dSlice (dV 0) dNoP (dPart (dBin hSub (dV 1) (dC (.int 1))))) dNil) ⟨[.val d, .val (.int p), .val (tuS [k, g])], b⟩ = .ok (tuS (N.take (p - 1).toNat)) ⟨[.val d, .val (.int p), .val (tuS [k, g])], b⟩ :=
      dCB_ok (dCons_ok (dSlice_ok (dV_ok rfl) dNoP_ok (dPart_ok (dBin_ok (dV_ok rfl) dC_ok rfl)) eA) dNil_ok) (tupOf_seq hA)
    have s2 : dCB hTupOf (dCons (dSlice (dV 0) (dPart (dBin hAdd (dV 1) (dC (.int 1)))) dNoP) dNil) ⟨[.val d, .val (.int p), .val (tuS [k, g])], b⟩ = .ok (tuS (N.drop (p + 1).toNat)) ⟨[.val d, .val (.int p), .val (tuS [k, g])], b⟩ :=
      dCB_ok (dCons_ok (dSlice_ok (dV_ok rfl) (dPart_ok (dBin_ok (dV_ok rfl) dC_ok rfl)) dNoP_ok eC) dNil_ok) (tupOf_seq hC)
    have lt1 : (N.take (p - 1).toNat).length ≤ 100 := by rw [List.length_take]; omega
    have lt2 : (N.drop (p + 1).toNat).length ≤ 100 := by rw [List.length_drop]; omega
    have fin := dBin_ok (dBin_ok s1 (dV_ok (i := 2) (d := tuS [k, g]) rfl) (addS (by show _ + 2 ≤ _; omega))) s2 (addS (by rw [List.length_append]; show _ + 2 + _ ≤ _; omega))
    have e : exL N p = N.take (p - 1).toNat ++ [k, g] ++ N.drop (p + 1).toNat := by unfold exL; rw [e3]; rfl
    rw [e]
    exact dRet_ok fin
  · rw [if_neg q]
    refine run_err (s := ⟨[.val d, .val (.int p), .un], b⟩) rfl ?_
    have c : dNot (dChainT hLe hLt (dC (.int 1)) (dV 1) (dCB hLen (dCons (dV 0) dNil))) ⟨[.val d, .val (.int p), .un], b⟩ = .ok true ⟨[.val d, .val (.int p), .un], b⟩ := by
      refine o_not_t ?_
      by_cases q1 : 1 ≤ p
      · have q2 : (N.length : Int) ≤ p := by omega
        repeat' decreasing_trivial_pre_omega
      · repeat' decreasing_trivial_pre_omega
    have r : dRaise 2 (dV 1) ⟨[.val d, .val (.int p), .un], b⟩ = .err ⟨2, [.int p]⟩ ⟨[.val d, .val (.int p), .un], b⟩ := rfl
    show dSeq _ (dSeq _ (dRet _)) ⟨[.val d, .val (.int p), .un], b⟩ = _
    exact seq_err (dIf_t c r)
theorem put_okN (h : IsSeq d N) (l : N.length ≤ 100) : F_thing_put [d, .int p, .str o] b = if 1 ≤ p ∧ p ≤ N.length + 1 then (if o ∈ N then .err ⟨1, [.str o]⟩ b else .ok (tuS (putL N p o)) b) else .err ⟨2, [.int p]⟩ b := by
  have hl : ∀ {st : S}, hLen [d] st = .ok (.int (N.length : Nat)) st := fun {st} => hLen_seq h
  have ln : dCB hLen (dCons (dV 0) dNil) ⟨[.val d, .val (.int p), .val (.str o)], b⟩ = .ok (.int (N.length : Nat)) ⟨[.val d, .val (.int p), .val (.str o)], b⟩ := dCB_ok (dCons_ok (dV_ok rfl) dNil_ok) hl
  by_cases q : 1 ≤ p ∧ p ≤ N.length + 1
  · rw [if_pos q]
    obtain ⟨A, hA, eA⟩ := cutN_to (p := p - 1) h (by omega)
    obtain ⟨C, hC, eC⟩ := cutN_from (p := p - 1) h (by omega)
    have n1 : dIf (dNot (dChainT hLe hLe (dC (.int 1)) (dV 1) (dBin hAdd (dCB hLen (dCons (dV 0) dNil)) (dC (.int 1))))) (dRaise 2 (dV 1)) dNext ⟨[.val d, .val (.int p), .val (.str o)], b⟩ = .ok .nx ⟨[.val d, .val (.int p), .val (.str o)], b⟩ := by
      have q1 := q.1
      have q2 := q.2
      refine s_if_f (st1 := ⟨[.val d, .val (.int p), .val (.str o)], b⟩) ?_ rfl
      repeat' decreasing_trivial_pre_omega
    have c : dBinB hInR (dV 2) (dV 0) ⟨[.val d, .val (.int p), .val (.str o)], b⟩ = .ok (decide (o ∈ N)) ⟨[.val d, .val (.int p), .val (.str o)], b⟩ := dBinB_ok (dV_ok rfl) (dV_ok rfl) (hIn_ok h)
    by_cases z : o ∈ N
    · rw [if_pos z]
      rw [decide_eq_true z] at c
      refine run_err (s := ⟨[.val d, .val (.int p), .val (.str o)], b⟩) rfl ?_
      show dSeq _ (dSeq _ (dRet _)) ⟨[.val d, .val (.int p), .val (.str o)], b⟩ = _
      rw [seq_nx n1]
      exact seq_err (dIf_t c rfl)
    · rw [if_neg z]
      rw [decide_eq_false z] at c
      refine run_rt (s := ⟨[.val d, .val (.int p), .val (.str o)], b⟩) rfl ?_
      show dSeq _ (dSeq _ (dRet _)) ⟨[.val d, .val (.int p), .val (.str o)], b⟩ = _
      have n2 : dIf (dBinB hInR (dV 2) (dV 0)) (dRaise 1 (dV 2)) dNext ⟨[.val d, .val (.int p), .val (.str o)], b⟩ = .ok .nx ⟨[.val d, .val (.int p), .val (.str o)], b⟩ := dIf_f c rfl
      rw [seq_nx n1, seq_nx n2]
      have s1 : dCB hTupOf (dCons (dSlice (dV 0) dNoP (dPart (dBin hSub (dV 1) (dC (.int 1))))) dNil) ⟨[.val d, .val (.int p), .val (.str o)], b⟩ = .ok (tuS (N.take (p - 1).toNat)) ⟨[.val d, .val (.int p), .val (.str o)], b⟩ :=
        dCB_ok (dCons_ok (dSlice_ok (dV_ok rfl) dNoP_ok (dPart_ok (dBin_ok (dV_ok rfl) dC_ok rfl)) eA) dNil_ok) (tupOf_seq hA)
      have s2 : dCB hTupOf (dCons (dSlice (dV 0) (dPart (dBin hSub (dV 1) (dC (.int 1)))) dNoP) dNil) ⟨[.val d, .val (.int p), .val (.str o)], b⟩ = .ok (tuS (N.drop (p - 1).toNat)) ⟨[.val d, .val (.int p), .val (.str o)], b⟩ :=
        dCB_ok (dCons_ok (dSlice_ok (dV_ok rfl) (dPart_ok (dBin_ok (dV_ok rfl) dC_ok rfl)) dNoP_ok eC) dNil_ok) (tupOf_seq hC)
      have lt1 : (N.take (p - 1).toNat).length ≤ 100 := by rw [List.length_take]; omega
      have lt2 : (N.drop (p - 1).toNat).length ≤ 100 := by rw [List.length_drop]; omega
      have t1 : dTup (dCons (dV 2) dNil) ⟨[.val d, .val (.int p), .val (.str o)], b⟩ = .ok (tuS [o]) ⟨[.val d, .val (.int p), .val (.str o)], b⟩ := rfl
      exact dRet_ok (dBin_ok (dBin_ok s1 t1 (addS (by show _ + 1 ≤ _; omega))) s2 (addS (by rw [List.length_append]; show _ + 1 + _ ≤ _; omega)))
  · rw [if_neg q]
    refine run_err (s := ⟨[.val d, .val (.int p), .val (.str o)], b⟩) rfl ?_
    have c : dNot (dChainT hLe hLe (dC (.int 1)) (dV 1) (dBin hAdd (dCB hLen (dCons (dV 0) dNil)) (dC (.int 1)))) ⟨[.val d, .val (.int p), .val (.str o)], b⟩ = .ok true ⟨[.val d, .val (.int p), .val (.str o)], b⟩ := by
      refine o_not_t ?_
      by_cases q1 : 1 ≤ p
      · have q2 : (N.length : Int) + 1 < p := by omega
        repeat' decreasing_trivial_pre_omega
      · repeat' decreasing_trivial_pre_omega
    show dSeq _ (dSeq _ (dRet _)) ⟨[.val d, .val (.int p), .val (.str o)], b⟩ = _
    exact seq_err (dIf_t c rfl)
theorem eqStr {x y : Str} {st : S} (hx : okS x = true) (hy : okS y = true) : hEq (.str x) (.str y) st = .ok (decide (x = y)) st := by
  unfold hEq; rw [deq_str2 hx hy]
theorem neStr {x y : Str} {st : S} (hx : okS x = true) (hy : okS y = true) : hNe (.str x) (.str y) st = .ok (decide (x ≠ y)) st := by
  unfold hNe; rw [deq_str2 hx hy]
  show R.ok (!decide (x = y)) st = _
  congr 1
  by_cases h : x = y <;> simp [h]
theorem seq_str {st : S} (h : IsSeq d N) : hSeq d st = .ok (N.map D.str) st := hSeq_ok h
theorem compD_sel2 {k : Tg} {vs : List Nat} {t : S → R Bool} {e : S → R D} {st : S} {α : Type} {f : α → D} {q : α → Bool} {v : α → D} : ∀ {as : List α} {acc : List D}, (∀ a ∈ as, ∃ env', turnD k vs t e (f a) st = (if q a = true then .ok (some (v a)) ⟨env', st.bx⟩ else .ok none ⟨env', st.bx⟩)) → acc.length + as.length ≤ 16777216 → compD k vs t e (as.map f) acc st = .ok (acc ++ (as.filter q).map v) st
  | [], acc, _, _ => by simp [compD]
  | a :: as, acc, h, l => by
    obtain ⟨env', e1⟩ := h a List.mem_cons_self
    have l1 : acc.length < 16777216 := by simp at l; omega
    rw [List.map_cons]
    unfold compD
    rw [e1]
    by_cases z : q a = true
    · rw [if_pos z]
      show (if acc.length < 16777216 then compD k vs t e (as.map f) (acc ++ [v a]) st else .stuck) = _
      rw [if_pos l1, compD_sel2 (fun a' h' => h a' (List.mem_cons_of_mem _ h')) (by simp at l ⊢; omega), List.filter_cons_of_pos z]
      simp
    · rw [if_neg z]
      show compD k vs t e (as.map f) acc st = _
      rw [compD_sel2 (fun a' h' => h a' (List.mem_cons_of_mem _ h')) (by simp at l ⊢; omega), List.filter_cons_of_neg z]
/-- [x for x in xs if test] over names -/
theorem comp_selN {i : Nat} {env : List Sl} {iter : S → R (List D)} {t : S → R Bool} {M : List Str} {q : Str → Bool} (hi : i < env.length) (h1 : iter ⟨env, b⟩ = .ok (M.map D.str) ⟨env, b⟩)
    (h2 : ∀ x ∈ M, t ⟨(wipeS (env.map Sl.hide) [i]).set i (.val (.str x)), b⟩ = .ok (q x) ⟨(wipeS (env.map Sl.hide) [i]).set i (.val (.str x)), b⟩) (l : M.length ≤ 1000) : dComp (.nm i) [i] iter t (dV i) ⟨env, b⟩ = .ok ((M.filter q).map D.str) ⟨env, b⟩ := by
  refine dComp_ok h1 ?_
  refine (compD_sel2 (f := D.str) (q := q) (v := D.str) (fun x hx => ⟨(wipeS (env.map Sl.hide) [i]).set i (.val (.str x)), ?_⟩) (by simp; omega)).trans (by simp)
  show (R.bind (R.ok () ⟨(wipeS (env.map Sl.hide) [i]).set i (.val (.str x)), b⟩) _) = _
  rw [bind_ok]
  show (R.bind (t ⟨(wipeS (env.map Sl.hide) [i]).set i (.val (.str x)), b⟩) _) = _
  rw [h2 x hx, bind_ok]
  have hl : i < (wipeS (env.map Sl.hide) [i]).length := by rw [wipeS_length, List.length_map]; exact hi
  have hv : dV i ⟨(wipeS (env.map Sl.hide) [i]).set i (.val (.str x)), b⟩ = .ok (.str x) ⟨(wipeS (env.map Sl.hide) [i]).set i (.val (.str x)), b⟩ := dV_ok (by show (List.set _ _ _)[i]? = _; rw [List.getElem?_set_self hl])
  by_cases z : q x = true
  · rw [z, if_pos rfl, if_pos rfl, hv]; rfl
  · have z' : q x = false := by simpa using z
    rw [z', if_neg Bool.false_ne_true, if_neg Bool.false_ne_true]
theorem out_ok (h : IsSeq d N) (l : N.length ≤ 100) (hN : ∀ x ∈ N, okS x = true) (ho : okS o = true) : F_thing_left_out [d, .str o] b = if o ∈ N then .ok (tuS (outL N o)) b else .err ⟨3, [.str o]⟩ b := by
  have c : dBinB hNotInR (dV 2) (dV 0) ⟨[.val d, .val (.tu [.str o]), .val (.str o)], b⟩ = .ok (!decide (o ∈ N)) ⟨[.val d, .val (.tu [.str o]), .val (.str o)], b⟩ := dBinB_ok (dV_ok rfl) (dV_ok rfl) (hNotIn_ok h)
  have wo : F_without [d, .str o] b = .ok (tuS (outL N o)) b := by
    refine run_rt (s := ⟨[.val d, .val (.str o), .un], b⟩) rfl ?_
    show dRet _ ⟨[.val d, .val (.str o), .un], b⟩ = _
    have cc := comp_selN (b := b) (i := 2) (env := [.val d, .val (.str o), .un]) (iter := dSeqI (dV 0)) (t := dBinB hNe (dV 2) (dV 1)) (M := N) (q := fun x => decide (x ≠ o)) (show 2 < 3 by decide) (dSeqI_ok (dV_ok rfl) (seq_str h))
      (fun x hx => dBinB_ok (dV_ok rfl) (dV_ok rfl) (neStr (hN x hx) ho)) (by omega)
    exact dRet_ok (dCB_ok (dCons_ok (dClose_ok cc) dNil_ok) rfl)
  by_cases z : o ∈ N
  · rw [if_pos z]
    have ck : F_check_things [d, .tu [.str o]] b = .ok .non b := by
      rw [decide_eq_true z] at c
      have e : forD (.nm 2) (dIf (dBinB hNotInR (dV 2) (dV 0)) (dRaise 3 (dV 2)) dNext) [.str o] ⟨[.val d, .val (.tu [.str o]), .un], b⟩ = .ok .nx ⟨[.val d, .val (.tu [.str o]), .val (.str o)], b⟩ :=
        (forD_nx (st1 := ⟨[.val d, .val (.tu [.str o]), .val (.str o)], b⟩) rfl (dIf_f c rfl)).trans rfl
      exact run_nx (s := ⟨[.val d, .val (.tu [.str o]), .val (.str o)], b⟩) rfl (dFor_ok (dSeqI_ok (dV_ok rfl) rfl) e)
    refine run_rt (s := ⟨[.val d, .val (.str o)], b⟩) rfl ?_
    have n1 : dDrop (dCall 2 F_check_things [] (dCons (dV 0) (dCons (dTup (dCons (dV 1) dNil)) dNil))) ⟨[.val d, .val (.str o)], b⟩ = .ok .nx ⟨[.val d, .val (.str o)], b⟩ := by
      have e : dCall 2 F_check_things [] (dCons (dV 0) (dCons (dTup (dCons (dV 1) dNil)) dNil)) ⟨[.val d, .val (.str o)], b⟩ = .ok .non ⟨[.val d, .val (.str o)], b⟩ := by
        repeat' decreasing_trivial_pre_omega
      unfold dDrop; rw [e]; rfl
    show dSeq _ (dRet _) ⟨[.val d, .val (.str o)], b⟩ = _
    rw [seq_nx n1]
    repeat' decreasing_trivial_pre_omega
  · rw [if_neg z]
    have ck : F_check_things [d, .tu [.str o]] b = .err ⟨3, [.str o]⟩ b := by
      rw [decide_eq_false z] at c
      have e : forD (.nm 2) (dIf (dBinB hNotInR (dV 2) (dV 0)) (dRaise 3 (dV 2)) dNext) [.str o] ⟨[.val d, .val (.tu [.str o]), .un], b⟩ = .err ⟨3, [.str o]⟩ ⟨[.val d, .val (.tu [.str o]), .val (.str o)], b⟩ :=
        forD_err (st1 := ⟨[.val d, .val (.tu [.str o]), .val (.str o)], b⟩) rfl (dIf_t c rfl)
      exact run_err (s := ⟨[.val d, .val (.tu [.str o]), .val (.str o)], b⟩) rfl (dFor_ok (dSeqI_ok (dV_ok rfl) rfl) e)
    refine run_err (s := ⟨[.val d, .val (.str o)], b⟩) rfl ?_
    have n1 : dDrop (dCall 2 F_check_things [] (dCons (dV 0) (dCons (dTup (dCons (dV 1) dNil)) dNil))) ⟨[.val d, .val (.str o)], b⟩ = .err ⟨3, [.str o]⟩ ⟨[.val d, .val (.str o)], b⟩ := by
      have e : dCall 2 F_check_things [] (dCons (dV 0) (dCons (dTup (dCons (dV 1) dNil)) dNil)) ⟨[.val d, .val (.str o)], b⟩ = .err ⟨3, [.str o]⟩ ⟨[.val d, .val (.str o)], b⟩ :=
        dCall_err (xs := [d, .tu [.str o]]) (st1 := ⟨[.val d, .val (.str o)], b⟩) (dCons_ok (dV_ok rfl) (dCons_ok (dTup_ok (dCons_ok (dV_ok rfl) dNil_ok) (Nat.le_of_ble_eq_true rfl)) dNil_ok)) rfl ck
      unfold dDrop; rw [e]; rfl
    show dSeq _ (dRet _) ⟨[.val d, .val (.str o)], b⟩ = _
    exact seq_err n1
end
end LW

namespace LW
open PySem PySem.Spec PyProof.Rows L2 DL
local macro_rules
  | `(tactic| decreasing_trivial_pre_omega) => `(tactic| first
    | with_reducible assumption
    | with_reducible exact dC_ok
    | with_reducible exact dNil_ok
    | with_reducible exact dNoP_ok
    | with_reducible exact s_next
    | ((with_reducible apply dV_ok); exact rfl)
    | with_reducible apply dCons_ok
    | with_reducible apply dBin_ok
    | with_reducible apply dBinB_ok
    | with_reducible apply e_call
    | with_reducible apply dCB_ok
    | with_reducible apply dCBF_ok
    | with_reducible apply dClose_ok
    | with_reducible apply dTup_ok
    | with_reducible apply dLst_ok
    | with_reducible apply dUn_ok
    | with_reducible apply dPart_ok
    | with_reducible apply dSlice_ok
    | with_reducible apply dSeqI_ok
    | with_reducible apply dOfB_ok
    | with_reducible apply dTru_bl
    | with_reducible apply dRet_ok
    | with_reducible apply e_prop
    | ((with_reducible apply e_lend); focus (exact rfl))
    | ((with_reducible apply t_lend); focus (exact rfl))
    | ((with_reducible apply sq); focus ((repeat' decreasing_trivial_pre_omega); done); focus (try dsimp only [List.set_cons_zero, List.set_cons_succ]); focus (exact rfl))
    | with_reducible apply s_set
    | with_reducible apply s_own
    | ((with_reducible apply s_app); focus (exact rfl))
    | with_reducible apply s_setIx
    | with_reducible apply s_par
    | with_reducible apply s_par3
    | with_reducible apply s_unp
    | ((with_reducible apply s_if_t); focus ((repeat' decreasing_trivial_pre_omega); done))
    | ((with_reducible apply s_if_f); focus ((repeat' decreasing_trivial_pre_omega); done))
    | (with_reducible apply o_not_t)
    | (with_reducible apply o_not_f)
    | ((with_reducible apply dAnd_t); focus ((repeat' decreasing_trivial_pre_omega); done))
    | ((with_reducible apply dAnd_f); ((repeat' decreasing_trivial_pre_omega); done))
    | ((with_reducible apply dOr_t); ((repeat' decreasing_trivial_pre_omega); done))
    | ((with_reducible apply dOr_f); focus ((repeat' decreasing_trivial_pre_omega); done))
    | ((with_reducible apply o_chain_t) <;> ((repeat' decreasing_trivial_pre_omega); done))
    | ((with_reducible apply o_chain_f) <;> ((repeat' decreasing_trivial_pre_omega); done))
    | ((with_reducible apply o_ltt); omega)
    | ((with_reducible apply o_ltf); omega)
    | ((with_reducible apply o_let); omega)
    | ((with_reducible apply o_lef); omega)
    | ((with_reducible apply o_gtt); omega)
    | ((with_reducible apply o_gtf); omega)
    | ((with_reducible apply o_get); omega)
    | ((with_reducible apply o_gef); omega)
    | ((with_reducible apply e_mulr); omega)
    | ((with_reducible apply e_mull); omega)
    | ((with_reducible apply e_div); omega)
    | ((with_reducible apply e_mod); omega)
    | ((with_reducible apply e_add_ls); first | exact Nat.le_of_ble_eq_true rfl | (simp; done) | (simp; omega))
    | ((with_reducible apply e_add_tu); first | exact Nat.le_of_ble_eq_true rfl | (simp; done) | (simp; omega))
    | exact (rfl : (_ : S) = _)
    | exact (rfl : (_ : R D) = _)
    | exact (rfl : (_ : R Bool) = _)
    | exact (rfl : (_ : R (List D)) = _)
    | exact (rfl : (_ : Option _) = _)
    | exact (rfl : (_ : Nat) = _)
    | exact Nat.le_of_ble_eq_true rfl
    | exact Nat.lt_of_lt_of_le (Nat.lt_succ_self _) (Nat.le_of_ble_eq_true rfl))
def HE_1 : S → R Out := (dUnpack (.tp [5, 6]) (dTup (dCons (dC .non) (dCons (dC .non) dNil))))
def HE_2 : S → R Out := (dTry (fun c => tbl_Known c || tbl_NoPlace c || tbl_NoThing c) 4 6 4 (dIf (dBinB hEq (dV 0) (dC (.int 0))) (dSet 5 (dCall 2 F_list_exchanged [] (dCons (dV 1) (dCons (dV 2) dNil)))) (dSet 5 (dIfE (dBinB hEq (dV 0) (dC (.int 1))) (dCall 3 F_thing_put [] (dCons (dV 1) (dCons (dV 2) (dCons (dV 3) dNil)))) (dCall 2 F_thing_left_out [] (dCons (dV 1) (dCons (dV 3) dNil)))))))
def HE_3 : S → R Out := (dIf (dBinB hIsN (dV 6) (dC .non)) (dRet (dV 5)) dNext)
def HE_4 : S → R Out := (dIf (dTru (dIsE 4 (tbl_NoPlace) (dV 6))) (dRetF (dLst (dCons (dC (.str "far")) (dCons (dAttrEs [2] (dV 6)) (dCons (dIsE 4 (tbl_ValueError) (dV 6)) dNil))))) dNext)
def HE_5 : S → R Out := (dRetF (dLst (dCons (dIfE (dTru (dIsE 4 (tbl_Known) (dV 6))) (dC (.str "known")) (dC (.str "none"))) (dCons (dAttrEs [1, 3] (dV 6)) (dCons (dIsE 4 (tbl_ValueError) (dV 6)) dNil)))))
theorem HE_is : B_law_heard = (dSeq HE_1 (dSeq HE_2 (dSeq HE_3 (dSeq HE_4 HE_5)))) := rfl
def DU_1 : S → R Out := (dSet 4 (dClose (dCBF hListOf (dCons (dV 1) dNil))))
def DU_2 : S → R Out := (dIf (dBinB hEq (dV 0) (dC (.int 0))) (dSeq (dIf (dOr (dBinB hLt (dV 2) (dC (.int 1))) (dBinB hGe (dV 2) (dCB hLen (dCons (dV 4) dNil)))) (dRetF (dLst (dCons (dC (.str "far")) (dCons (dV 2) (dCons (dC (.bl true)) dNil))))) dNext) (dRet (dCB hTupOf (dCons (dBin hAdd (dBin hAdd (dSlice (dV 4) dNoP (dPart (dBin hSub (dV 2) (dC (.int 1))))) (dClose (dLst (dCons (dBin hIx (dV 4) (dV 2)) (dCons (dBin hIx (dV 4) (dBin hSub (dV 2) (dC (.int 1)))) dNil))))) (dSlice (dV 4) (dPart (dBin hAdd (dV 2) (dC (.int 1)))) dNoP)) dNil)))) dNext)
def DU_3 : S → R Out := (dIf (dBinB hEq (dV 0) (dC (.int 1))) (dSeq (dIf (dOr (dBinB hLt (dV 2) (dC (.int 1))) (dBinB hGt (dV 2) (dBin hAdd (dCB hLen (dCons (dV 4) dNil)) (dC (.int 1))))) (dRetF (dLst (dCons (dC (.str "far")) (dCons (dV 2) (dCons (dC (.bl true)) dNil))))) dNext) (dSeq (dIf (dBinB hInR (dV 3) (dV 4)) (dRetF (dLst (dCons (dC (.str "known")) (dCons (dV 3) (dCons (dC (.bl true)) dNil))))) dNext) (dRet (dCB hTupOf (dCons (dBin hAdd (dBin hAdd (dSlice (dV 4) dNoP (dPart (dBin hSub (dV 2) (dC (.int 1))))) (dClose (dLst (dCons (dV 3) dNil)))) (dSlice (dV 4) (dPart (dBin hSub (dV 2) (dC (.int 1)))) dNoP)) dNil))))) dNext)
def DU_4 : S → R Out := (dRet (dIfE (dBinB hInR (dV 3) (dV 4)) (dCB hTupOf (dCons (dClose (dComp (.nm 5) [5] (dSeqI (dV 4)) (dBinB hNe (dV 5) (dV 3)) (dV 5))) dNil)) (dClose (dLst (dCons (dC (.str "none")) (dCons (dV 3) (dCons (dC (.bl true)) dNil)))))))
theorem DU_is : B_law_due = (dSeq DU_1 (dSeq DU_2 (dSeq DU_3 DU_4))) := rfl
section
variable {b : Bx} {d x : D} {N : List Str} {j p k : Int} {o : Str}
theorem e_callG {n : Nat} {F : Fn} {fs : S → R (List D)} {σ τ : List Sl} {a b c : Bx} {xs : List D} {d : D} (h1 : fs ⟨σ, a⟩ = .ok xs ⟨τ, b⟩) (hn : xs.length = n) (h2 : fromF (F xs b) ⟨τ, b⟩ = .ok d ⟨τ, c⟩) : dCall n F [] fs ⟨σ, a⟩ = .ok d ⟨τ, c⟩ := by
  unfold dCall; rw [h1, bind_ok, List.append_nil, if_pos hn, h2]
def d0 (N : List Str) (k : Int) : D := if 1 ≤ k ∧ k < N.length then tuS (exL N k) else farD k
def d1 (N : List Str) (k : Int) (o : Str) : D := if 1 ≤ k ∧ k ≤ N.length + 1 then (if o ∈ N then knownD o else tuS (putL N k o)) else farD k
def d2 (N : List Str) (o : Str) : D := if o ∈ N then tuS (outL N o) else noneD o
/-- a value that a def tells: a tuple, or a new list -/
def tells (r : FR) (x : D) (b : Bx) : Prop := r = .ok x b ∨ ∃ xs, x = .ls xs ∧ r = .okF xs b
theorem tells.from {r : FR} {x : D} {b : Bx} (h : tells r x b) {st : S} : fromF r st = .ok x { st with bx := b } := by
  rcases h with rfl | ⟨xs, rfl, rfl⟩ <;> rfl
abbrev HS (j : Int) (d : D) (k : Int) (o : Str) (x5 x6 : Sl) (b : Bx) : S := ⟨[.val (.int j), .val d, .val (.int k), .val (.str o), .un, x5, x6], b⟩
def HB37 : S → R Out := (dIf (dBinB hEq (dV 0) (dC (.int 0))) (dSet 5 (dCall 2 F_list_exchanged [] (dCons (dV 1) (dCons (dV 2) dNil)))) (dSet 5 (dIfE (dBinB hEq (dV 0) (dC (.int 1))) (dCall 3 F_thing_put [] (dCons (dV 1) (dCons (dV 2) (dCons (dV 3) dNil)))) (dCall 2 F_thing_left_out [] (dCons (dV 1) (dCons (dV 3) dNil))))))
theorem try_okN {tbl : Nat → Bool} {m iy iN : Nat} {f : S → R Out} {st st1 : S} {o : Out} (h : f st = .ok o st1) : dTry tbl m iy iN f st = .ok o st1 := by unfold dTry; rw [h]
theorem try_errN {tbl : Nat → Bool} {m iy iN c : Nat} {ds : List D} {f : S → R Out} {st st1 : S} (h : f st = .err ⟨c, ds⟩ st1) (l : c < m ∧ iN < st1.env.length) (t : tbl c = true) : dTry tbl m iy iN f st = .ok .nx ((st1.put iy (.val (.er c ds))).put iN .un) := by
  unfold dTry; rw [h]; dsimp only; rw [if_pos l, if_pos t]
theorem heard_ok (h : HB37 (HS j d k o (.val .non) (.val .non) b) = .ok .nx (HS j d k o (.val x) (.val .non) b)) : F_law_heard [.int j, d, .int k, .str o] b = .ok x b := by
  refine run_rt (s := HS j d k o (.val x) (.val .non) b) rfl ?_
  rw [HE_is]
  have u : HE_1 ⟨[.int j, d, .int k, .str o].map Sl.val ++ List.replicate (7 - 4) Sl.un, b⟩ = .ok .nx (HS j d k o (.val .non) (.val .non) b) := rfl
  have t : HE_2 (HS j d k o (.val .non) (.val .non) b) = .ok .nx (HS j d k o (.val x) (.val .non) b) := try_okN h
  rw [seq_nx u, seq_nx t]
  rfl
theorem heard_err {c : Nat} {v : D} {w : Str} (h : HB37 (HS j d k o (.val .non) (.val .non) b) = .err ⟨c, [v]⟩ (HS j d k o (.val .non) (.val .non) b)) (hc : (c = 2 ∧ w = "far") ∨ (c = 1 ∧ w = "known") ∨ (c = 3 ∧ w = "none")) : F_law_heard [.int j, d, .int k, .str o] b = .okF [.str w, v, .bl true] b := by
  have lt : c < 4 := by omega
  have tb : ((tbl_Known c || tbl_NoPlace c || tbl_NoThing c) : Bool) = true := by rcases hc with ⟨rfl, _⟩ | ⟨rfl, _⟩ | ⟨rfl, _⟩ <;> rfl
  refine run_rtF (s := HS j d k o (.val .non) (.val (.er c [v])) b) rfl ?_
  rw [HE_is]
  have u : HE_1 ⟨[.int j, d, .int k, .str o].map Sl.val ++ List.replicate (7 - 4) Sl.un, b⟩ = .ok .nx (HS j d k o (.val .non) (.val .non) b) := rfl
  have t : HE_2 (HS j d k o (.val .non) (.val .non) b) = .ok .nx (HS j d k o (.val .non) (.val (.er c [v])) b) := try_errN h ⟨lt, by show 4 < 7; omega⟩ tb
  rw [seq_nx u, seq_nx t]
  rcases hc with ⟨rfl, rfl⟩ | ⟨rfl, rfl⟩ | ⟨rfl, rfl⟩ <;> rfl
theorem heard0 (h : IsSeq d N) (l : N.length ≤ 100) (hN : ∀ x ∈ N, okS x = true) (ho : okS o = true) : tells (F_law_heard [.int 0, d, .int k, .str o] b) (d0 N k) b := by
  have body0 : HB37 (HS 0 d k o (.val .non) (.val .non) b) = (dSet 5 (dCall 2 F_list_exchanged [] (dCons (dV 1) (dCons (dV 2) dNil)))) (HS 0 d k o (.val .non) (.val .non) b) := rfl
  have body1 : HB37 (HS 1 d k o (.val .non) (.val .non) b) = (dSet 5 (dCall 3 F_thing_put [] (dCons (dV 1) (dCons (dV 2) (dCons (dV 3) dNil))))) (HS 1 d k o (.val .non) (.val .non) b) := rfl
  have body2 : HB37 (HS 2 d k o (.val .non) (.val .non) b) = (dSet 5 (dCall 2 F_thing_left_out [] (dCons (dV 1) (dCons (dV 3) dNil)))) (HS 2 d k o (.val .non) (.val .non) b) := rfl
  have e := ex_ok (b := b) (p := k) h l
  have c : dCall 2 F_list_exchanged [] (dCons (dV 1) (dCons (dV 2) dNil)) (HS 0 d k o (.val .non) (.val .non) b) = fromF (F_list_exchanged [d, .int k] b) (HS 0 d k o (.val .non) (.val .non) b) := rfl
  unfold d0
  by_cases q : 1 ≤ k ∧ k < N.length
  · rw [if_pos q] at e ⊢
    rw [e] at c
    exact .inl (heard_ok (body0.trans (dSet_ok c)))
  · rw [if_neg q] at e ⊢
    rw [e] at c
    exact .inr ⟨_, rfl, heard_err (c := 2) (w := "far") (body0.trans (by unfold dSet; rw [c]; rfl)) (.inl ⟨rfl, rfl⟩)⟩
theorem heard1 (h : IsSeq d N) (l : N.length ≤ 100) (hN : ∀ x ∈ N, okS x = true) (ho : okS o = true) : tells (F_law_heard [.int 1, d, .int k, .str o] b) (d1 N k o) b := by
  have body0 : HB37 (HS 0 d k o (.val .non) (.val .non) b) = (dSet 5 (dCall 2 F_list_exchanged [] (dCons (dV 1) (dCons (dV 2) dNil)))) (HS 0 d k o (.val .non) (.val .non) b) := rfl
  have body1 : HB37 (HS 1 d k o (.val .non) (.val .non) b) = (dSet 5 (dCall 3 F_thing_put [] (dCons (dV 1) (dCons (dV 2) (dCons (dV 3) dNil))))) (HS 1 d k o (.val .non) (.val .non) b) := rfl
  have body2 : HB37 (HS 2 d k o (.val .non) (.val .non) b) = (dSet 5 (dCall 2 F_thing_left_out [] (dCons (dV 1) (dCons (dV 3) dNil)))) (HS 2 d k o (.val .non) (.val .non) b) := rfl
  have e := put_okN (b := b) (p := k) (o := o) h l
  have c : dCall 3 F_thing_put [] (dCons (dV 1) (dCons (dV 2) (dCons (dV 3) dNil))) (HS 1 d k o (.val .non) (.val .non) b) = fromF (F_thing_put [d, .int k, .str o] b) (HS 1 d k o (.val .non) (.val .non) b) := rfl
  unfold d1
  by_cases q : 1 ≤ k ∧ k ≤ N.length + 1
  · rw [if_pos q] at e ⊢
    by_cases z : o ∈ N
    · rw [if_pos z] at e ⊢
      rw [e] at c
      exact .inr ⟨_, rfl, heard_err (c := 1) (w := "known") (body1.trans (by unfold dSet; rw [c]; rfl)) (.inr (.inl ⟨rfl, rfl⟩))⟩
    · rw [if_neg z] at e ⊢
      rw [e] at c
      exact .inl (heard_ok (body1.trans (dSet_ok c)))
  · rw [if_neg q] at e ⊢
    rw [e] at c
    exact .inr ⟨_, rfl, heard_err (c := 2) (w := "far") (body1.trans (by unfold dSet; rw [c]; rfl)) (.inl ⟨rfl, rfl⟩)⟩
theorem heard2 (h : IsSeq d N) (l : N.length ≤ 100) (hN : ∀ x ∈ N, okS x = true) (ho : okS o = true) : tells (F_law_heard [.int 2, d, .int k, .str o] b) (d2 N o) b := by
  have body0 : HB37 (HS 0 d k o (.val .non) (.val .non) b) = (dSet 5 (dCall 2 F_list_exchanged [] (dCons (dV 1) (dCons (dV 2) dNil)))) (HS 0 d k o (.val .non) (.val .non) b) := rfl
  have body1 : HB37 (HS 1 d k o (.val .non) (.val .non) b) = (dSet 5 (dCall 3 F_thing_put [] (dCons (dV 1) (dCons (dV 2) (dCons (dV 3) dNil))))) (HS 1 d k o (.val .non) (.val .non) b) := rfl
  have body2 : HB37 (HS 2 d k o (.val .non) (.val .non) b) = (dSet 5 (dCall 2 F_thing_left_out [] (dCons (dV 1) (dCons (dV 3) dNil)))) (HS 2 d k o (.val .non) (.val .non) b) := rfl
  have e := out_ok (b := b) (o := o) h l hN ho
  have c : dCall 2 F_thing_left_out [] (dCons (dV 1) (dCons (dV 3) dNil)) (HS 2 d k o (.val .non) (.val .non) b) = fromF (F_thing_left_out [d, .str o] b) (HS 2 d k o (.val .non) (.val .non) b) := rfl
  unfold d2
  by_cases z : o ∈ N
  · rw [if_pos z] at e ⊢
    rw [e] at c
    exact .inl (heard_ok (body2.trans (dSet_ok c)))
  · rw [if_neg z] at e ⊢
    rw [e] at c
    exact .inr ⟨_, rfl, heard_err (c := 3) (w := "none") (body2.trans (by unfold dSet; rw [c]; rfl)) (.inr (.inr ⟨rfl, rfl⟩))⟩

/-! what the law says is due -/
abbrev DS37 (j : Int) (N : List Str) (k : Int) (o : Str) (b : Bx) : S := ⟨[.val (.int j), .val (tuS N), .val (.int k), .val (.str o), .val (lsS N), .un], b⟩
theorem due_start {r : FR} {d : D} (h : dSeq DU_2 (dSeq DU_3 DU_4) (DS37 j N k o b) = .ok (.rt d) (DS37 j N k o b)) : F_law_due [.int j, tuS N, .int k, .str o] b = .ok d b := by
  refine run_rt (s := DS37 j N k o b) rfl ?_
  rw [DU_is]
  have u : DU_1 ⟨[.int j, tuS N, .int k, .str o].map Sl.val ++ List.replicate (6 - 4) Sl.un, b⟩ = .ok .nx (DS37 j N k o b) := rfl
  rw [seq_nx u]
  exact h
theorem due_startF {xs : List D} (h : dSeq DU_2 (dSeq DU_3 DU_4) (DS37 j N k o b) = .ok (.rtF xs) (DS37 j N k o b)) : F_law_due [.int j, tuS N, .int k, .str o] b = .okF xs b := by
  refine run_rtF (s := DS37 j N k o b) rfl ?_
  rw [DU_is]
  have u : DU_1 ⟨[.int j, tuS N, .int k, .str o].map Sl.val ++ List.replicate (6 - 4) Sl.un, b⟩ = .ok .nx (DS37 j N k o b) := rfl
  rw [seq_nx u]
  exact h
theorem seq_rtF {f g : S → R Out} {st st1 : S} {ds : List D} (h : f st = .ok (.rtF ds) st1) : dSeq f g st = .ok (.rtF ds) st1 := by unfold dSeq; rw [h, oBind_rtF]
theorem due0 (l : N.length ≤ 100) (hN : ∀ x ∈ N, okS x = true) (ho : okS o = true) : tells (F_law_due [.int 0, tuS N, .int k, .str o] b) (d0 N k) b := by
  have hs : IsSeq (lsS N) N := .inr rfl
  have ln : ∀ {j : Int}, dCB hLen (dCons (dV 4) dNil) (DS37 j N k o b) = .ok (.int (N.length : Nat)) (DS37 j N k o b) := fun {j} => dCB_ok (dCons_ok (dV_ok rfl) dNil_ok) (hLen_seq hs)
  have inn : ∀ {j : Int}, dBinB hInR (dV 3) (dV 4) (DS37 j N k o b) = .ok (decide (o ∈ N)) (DS37 j N k o b) := fun {j} => dBinB_ok (dV_ok rfl) (dV_ok rfl) (hIn_ok hs)
  have lnj := ln (j := 0)
  unfold d0
  by_cases q : 1 ≤ k ∧ k < N.length
  · rw [if_pos q]
    have q1 := q.1
    have q2 := q.2
    obtain ⟨g, h, e1, e2, e3⟩ := two_of (xs := N) (n := (k - 1).toNat) (by omega)
    have eA : sliceD (lsS N) none (some (k - 1)) = some (lsS (N.take (k - 1).toNat)) := by show some (D.ls (DL.cutD (N.map D.str) none (some (k - 1)))) = _; rw [cut_to _ (by omega), ← List.map_take]
    have eC : sliceD (lsS N) (some (k + 1)) none = some (lsS (N.drop (k + 1).toNat)) := by show some (D.ls (DL.cutD (N.map D.str) (some (k + 1)) none)) = _; rw [cut_from _ (by omega), ← List.map_drop]
    have i1 : ∀ {st : S}, hIx (lsS N) (.int k) st = .ok (.str h) st := fun {st} => ix_seq hs (by omega) (by rw [← e2]; congr 1; omega)
    have i0 : ∀ {st : S}, hIx (lsS N) (.int (k - 1)) st = .ok (.str g) st := fun {st} => ix_seq hs (by omega) e1
    have lt1 : (N.take (k - 1).toNat).length ≤ 100 := by rw [List.length_take]; omega
    have lt2 : (N.drop (k + 1).toNat).length ≤ 100 := by rw [List.length_drop]; omega
    have s1 : dSlice (dV 4) dNoP (dPart (dBin hSub (dV 2) (dC (.int 1)))) (DS37 0 N k o b) = .ok (lsS (N.take (k - 1).toNat)) (DS37 0 N k o b) := dSlice_ok (dV_ok rfl) dNoP_ok (dPart_ok (dBin_ok (dV_ok rfl) dC_ok rfl)) eA
    have s2 : dSlice (dV 4) (dPart (dBin hAdd (dV 2) (dC (.int 1)))) dNoP (DS37 0 N k o b) = .ok (lsS (N.drop (k + 1).toNat)) (DS37 0 N k o b) := dSlice_ok (dV_ok rfl) (dPart_ok (dBin_ok (dV_ok rfl) dC_ok rfl)) dNoP_ok eC
    have s3 : dClose (dLst (dCons (dBin hIx (dV 4) (dV 2)) (dCons (dBin hIx (dV 4) (dBin hSub (dV 2) (dC (.int 1)))) dNil))) (DS37 0 N k o b) = .ok (lsS [h, g]) (DS37 0 N k o b) := dClose_ok (dLst_ok (dCons_ok (dBin_ok (dV_ok rfl) (dV_ok rfl) i1) (dCons_ok (dBin_ok (dV_ok rfl) (dBin_ok (dV_ok rfl) dC_ok rfl) i0) dNil_ok)) (Nat.le_of_ble_eq_true rfl))
    have fin := dBin_ok (dBin_ok s1 s3 (addLS (by show _ + 2 ≤ _; omega))) s2 (addLS (by rw [List.length_append]; show _ + 2 + _ ≤ _; omega))
    have e : exL N k = N.take (k - 1).toNat ++ [h, g] ++ N.drop (k + 1).toNat := by unfold exL; rw [e3]; rfl
    rw [e]
    refine .inl (due_start (r := .stuck) (seq_rt ?_))
    unfold DU_2
    refine s_if_t (st1 := DS37 0 N k o b) rfl ?_
    have n1 : dIf (dOr (dBinB hLt (dV 2) (dC (.int 1))) (dBinB hGe (dV 2) (dCB hLen (dCons (dV 4) dNil)))) (dRetF (dLst (dCons (dC (.str "far")) (dCons (dV 2) (dCons (dC (.bl true)) dNil))))) dNext (DS37 0 N k o b) = .ok .nx (DS37 0 N k o b) := by
      refine s_if_f (st1 := DS37 0 N k o b) ?_ rfl
      repeat' decreasing_trivial_pre_omega
    rw [seq_nx n1]
    exact dRet_ok (dCB_ok (dCons_ok fin dNil_ok) rfl)
  · rw [if_neg q]
    refine .inr ⟨_, rfl, due_startF (seq_rtF ?_)⟩
    unfold DU_2
    refine s_if_t (st1 := DS37 0 N k o b) rfl (seq_rtF ?_)
    refine s_if_t (st1 := DS37 0 N k o b) ?_ rfl
    by_cases q1 : k < 1
    · repeat' decreasing_trivial_pre_omega
    · have q2 : (N.length : Int) ≤ k := by omega
      repeat' decreasing_trivial_pre_omega
theorem due1 (l : N.length ≤ 100) (hN : ∀ x ∈ N, okS x = true) (ho : okS o = true) : tells (F_law_due [.int 1, tuS N, .int k, .str o] b) (d1 N k o) b := by
  have hs : IsSeq (lsS N) N := .inr rfl
  have ln : ∀ {j : Int}, dCB hLen (dCons (dV 4) dNil) (DS37 j N k o b) = .ok (.int (N.length : Nat)) (DS37 j N k o b) := fun {j} => dCB_ok (dCons_ok (dV_ok rfl) dNil_ok) (hLen_seq hs)
  have inn : ∀ {j : Int}, dBinB hInR (dV 3) (dV 4) (DS37 j N k o b) = .ok (decide (o ∈ N)) (DS37 j N k o b) := fun {j} => dBinB_ok (dV_ok rfl) (dV_ok rfl) (hIn_ok hs)
  have lnj := ln (j := 1)
  have innj := inn (j := 1)
  have n0 : DU_2 (DS37 1 N k o b) = .ok .nx (DS37 1 N k o b) := rfl
  unfold d1
  by_cases q : 1 ≤ k ∧ k ≤ N.length + 1
  · rw [if_pos q]
    have q1 := q.1
    have q2 := q.2
    have n1 : dIf (dOr (dBinB hLt (dV 2) (dC (.int 1))) (dBinB hGt (dV 2) (dBin hAdd (dCB hLen (dCons (dV 4) dNil)) (dC (.int 1))))) (dRetF (dLst (dCons (dC (.str "far")) (dCons (dV 2) (dCons (dC (.bl true)) dNil))))) dNext (DS37 1 N k o b) = .ok .nx (DS37 1 N k o b) := by
      refine s_if_f (st1 := DS37 1 N k o b) ?_ rfl
      repeat' decreasing_trivial_pre_omega
    by_cases z : o ∈ N
    · rw [if_pos z]
      rw [decide_eq_true z] at innj
      refine .inr ⟨_, rfl, due_startF ?_⟩
      rw [seq_nx n0]
      refine seq_rtF ?_
      unfold DU_3
      refine s_if_t (st1 := DS37 1 N k o b) rfl ?_
      rw [seq_nx n1]
      exact seq_rtF (dIf_t innj rfl)
    · rw [if_neg z]
      rw [decide_eq_false z] at innj
      have eA : sliceD (lsS N) none (some (k - 1)) = some (lsS (N.take (k - 1).toNat)) := by show some (D.ls (DL.cutD (N.map D.str) none (some (k - 1)))) = _; rw [cut_to _ (by omega), ← List.map_take]
      have eC : sliceD (lsS N) (some (k - 1)) none = some (lsS (N.drop (k - 1).toNat)) := by show some (D.ls (DL.cutD (N.map D.str) (some (k - 1)) none)) = _; rw [cut_from _ (by omega), ← List.map_drop]
      have lt1 : (N.take (k - 1).toNat).length ≤ 100 := by rw [List.length_take]; omega
      have lt2 : (N.drop (k - 1).toNat).length ≤ 100 := by rw [List.length_drop]; omega
      have s1 : dSlice (dV 4) dNoP (dPart (dBin hSub (dV 2) (dC (.int 1)))) (DS37 1 N k o b) = .ok (lsS (N.take (k - 1).toNat)) (DS37 1 N k o b) := dSlice_ok (dV_ok rfl) dNoP_ok (dPart_ok (dBin_ok (dV_ok rfl) dC_ok rfl)) eA
      have s2 : dSlice (dV 4) (dPart (dBin hSub (dV 2) (dC (.int 1)))) dNoP (DS37 1 N k o b) = .ok (lsS (N.drop (k - 1).toNat)) (DS37 1 N k o b) := dSlice_ok (dV_ok rfl) (dPart_ok (dBin_ok (dV_ok rfl) dC_ok rfl)) dNoP_ok eC
      have s3 : dClose (dLst (dCons (dV 3) dNil)) (DS37 1 N k o b) = .ok (lsS [o]) (DS37 1 N k o b) := rfl
      have fin := dBin_ok (dBin_ok s1 s3 (addLS (by show _ + 1 ≤ _; omega))) s2 (addLS (by rw [List.length_append]; show _ + 1 + _ ≤ _; omega))
      refine .inl (due_start (r := .stuck) ?_)
      rw [seq_nx n0]
      refine seq_rt ?_
      unfold DU_3
      refine s_if_t (st1 := DS37 1 N k o b) rfl ?_
      have n2 : dIf (dBinB hInR (dV 3) (dV 4)) (dRetF (dLst (dCons (dC (.str "known")) (dCons (dV 3) (dCons (dC (.bl true)) dNil))))) dNext (DS37 1 N k o b) = .ok .nx (DS37 1 N k o b) := dIf_f innj rfl
      rw [seq_nx n1, seq_nx n2]
      exact dRet_ok (dCB_ok (dCons_ok fin dNil_ok) rfl)
  · rw [if_neg q]
    refine .inr ⟨_, rfl, due_startF ?_⟩
    rw [seq_nx n0]
    refine seq_rtF ?_
    unfold DU_3
    refine s_if_t (st1 := DS37 1 N k o b) rfl (seq_rtF ?_)
    refine s_if_t (st1 := DS37 1 N k o b) ?_ rfl
    by_cases q1 : k < 1
    · repeat' decreasing_trivial_pre_omega
    · have q2 : (N.length : Int) + 1 < k := by omega
      repeat' decreasing_trivial_pre_omega
theorem due2 (l : N.length ≤ 100) (hN : ∀ x ∈ N, okS x = true) (ho : okS o = true) : tells (F_law_due [.int 2, tuS N, .int k, .str o] b) (d2 N o) b := by
  have hs : IsSeq (lsS N) N := .inr rfl
  have ln : ∀ {j : Int}, dCB hLen (dCons (dV 4) dNil) (DS37 j N k o b) = .ok (.int (N.length : Nat)) (DS37 j N k o b) := fun {j} => dCB_ok (dCons_ok (dV_ok rfl) dNil_ok) (hLen_seq hs)
  have inn : ∀ {j : Int}, dBinB hInR (dV 3) (dV 4) (DS37 j N k o b) = .ok (decide (o ∈ N)) (DS37 j N k o b) := fun {j} => dBinB_ok (dV_ok rfl) (dV_ok rfl) (hIn_ok hs)
  have innj := inn (j := 2)
  have n0 : DU_2 (DS37 2 N k o b) = .ok .nx (DS37 2 N k o b) := rfl
  have n1 : DU_3 (DS37 2 N k o b) = .ok .nx (DS37 2 N k o b) := rfl
  unfold d2
  by_cases z : o ∈ N
  · rw [if_pos z]
    rw [decide_eq_true z] at innj
    have cc := comp_selN (b := b) (i := 5) (env := (DS37 2 N k o b).env) (iter := dSeqI (dV 4)) (t := dBinB hNe (dV 5) (dV 3)) (M := N) (q := fun x => decide (x ≠ o)) (show 5 < 6 by decide) (dSeqI_ok (dV_ok rfl) rfl)
      (fun x hx => dBinB_ok (dV_ok rfl) (dV_ok rfl) (neStr (hN x hx) ho)) (by omega)
    refine .inl (due_start (r := .stuck) ?_)
    rw [seq_nx n0, seq_nx n1]
    exact dRet_ok (dIfE_t innj (dCB_ok (dCons_ok (dClose_ok cc) dNil_ok) rfl))
  · rw [if_neg z]
    rw [decide_eq_false z] at innj
    refine .inl (due_start (r := .stuck) ?_)
    rw [seq_nx n0, seq_nx n1]
    exact dRet_ok (dIfE_f innj rfl)

end
end LW

namespace LW
open PySem PySem.Spec PyProof.Rows L2 DL
local macro_rules
  | `(tactic| decreasing_trivial_pre_omega) => `(tactic| first
    | with_reducible assumption
    | with_reducible exact dC_ok
    | with_reducible exact dNil_ok
    | with_reducible exact dNoP_ok
    | with_reducible exact s_next
    | ((with_reducible apply dV_ok); exact rfl)
    | with_reducible apply dCons_ok
    | with_reducible apply dBin_ok
    | with_reducible apply dBinB_ok
    | with_reducible apply e_call
    | with_reducible apply dCB_ok
    | with_reducible apply dCBF_ok
    | with_reducible apply dClose_ok
    | with_reducible apply dTup_ok
    | with_reducible apply dLst_ok
    | with_reducible apply dUn_ok
    | with_reducible apply dPart_ok
    | with_reducible apply dSlice_ok
    | with_reducible apply dSeqI_ok
    | with_reducible apply dOfB_ok
    | with_reducible apply dTru_bl
    | with_reducible apply dRet_ok
    | with_reducible apply e_prop
    | ((with_reducible apply e_lend); focus (exact rfl))
    | ((with_reducible apply t_lend); focus (exact rfl))
    | ((with_reducible apply sq); focus ((repeat' decreasing_trivial_pre_omega); done); focus (try dsimp only [List.set_cons_zero, List.set_cons_succ]); focus (exact rfl))
    | with_reducible apply s_set
    | with_reducible apply s_own
    | ((with_reducible apply s_app); focus (exact rfl))
    | with_reducible apply s_setIx
    | with_reducible apply s_par
    | with_reducible apply s_par3
    | with_reducible apply s_unp
    | ((with_reducible apply s_if_t); focus ((repeat' decreasing_trivial_pre_omega); done))
    | ((with_reducible apply s_if_f); focus ((repeat' decreasing_trivial_pre_omega); done))
    | (with_reducible apply o_not_t)
    | (with_reducible apply o_not_f)
    | ((with_reducible apply dAnd_t); focus ((repeat' decreasing_trivial_pre_omega); done))
    | ((with_reducible apply dAnd_f); ((repeat' decreasing_trivial_pre_omega); done))
    | ((with_reducible apply dOr_t); ((repeat' decreasing_trivial_pre_omega); done))
    | ((with_reducible apply dOr_f); focus ((repeat' decreasing_trivial_pre_omega); done))
    | ((with_reducible apply o_chain_t) <;> ((repeat' decreasing_trivial_pre_omega); done))
    | ((with_reducible apply o_chain_f) <;> ((repeat' decreasing_trivial_pre_omega); done))
    | ((with_reducible apply o_ltt); omega)
    | ((with_reducible apply o_ltf); omega)
    | ((with_reducible apply o_let); omega)
    | ((with_reducible apply o_lef); omega)
    | ((with_reducible apply o_gtt); omega)
    | ((with_reducible apply o_gtf); omega)
    | ((with_reducible apply o_get); omega)
    | ((with_reducible apply o_gef); omega)
    | ((with_reducible apply e_mulr); omega)
    | ((with_reducible apply e_mull); omega)
    | ((with_reducible apply e_div); omega)
    | ((with_reducible apply e_mod); omega)
    | ((with_reducible apply e_add_ls); first | exact Nat.le_of_ble_eq_true rfl | (simp; done) | (simp; omega))
    | ((with_reducible apply e_add_tu); first | exact Nat.le_of_ble_eq_true rfl | (simp; done) | (simp; omega))
    | exact (rfl : (_ : S) = _)
    | exact (rfl : (_ : R D) = _)
    | exact (rfl : (_ : R Bool) = _)
    | exact (rfl : (_ : R (List D)) = _)
    | exact (rfl : (_ : Option _) = _)
    | exact (rfl : (_ : Nat) = _)
    | exact Nat.le_of_ble_eq_true rfl
    | exact Nat.lt_of_lt_of_le (Nat.lt_succ_self _) (Nat.le_of_ble_eq_true rfl))
def RR_1b_1 : S → R Out := (dSet 2 (dCall 2 F_law_likes [] (dCons (dV 0) (dCons (dCall 2 F_law_take [] (dCons (dV 0) (dCons (dC (.int 12)) dNil))) dNil))))
def RR_1b_2 : S → R Out := (dSet 3 (dClose (dLst (dCons (dC (.str "x")) (dCons (dC (.str "y")) (dCons (dC (.str "q")) (dCons (dC (.str "zzzzzzzz")) (dCons (dC (.str "ab")) dNil))))))))
def RR_1b_3b_1 : S → R Out := (dSet 8 (dCall 2 F_law_of [] (dCons (dV 0) (dCons (dV 3) dNil))))
def RR_1b_3b_2 : S → R Out := (dSet 9 (dClose (dComp (.nm 11) [11] (dCBF hRange1 (dCons (dC (.int 3)) dNil)) dYes (dCall 4 F_law_heard [] (dCons (dV 11) (dCons (dV 2) (dCons (dV 4) (dCons (dV 8) dNil))))))))
def RR_1b_3b_3 : S → R Out := (dSet 9 (dBin hAdd (dV 9) (dClose (dComp (.nm 11) [11] (dCBF hRange1 (dCons (dC (.int 3)) dNil)) dYes (dCall 4 F_law_heard [] (dCons (dV 11) (dCons (dClose (dCBF hListOf (dCons (dV 2) dNil))) (dCons (dV 4) (dCons (dV 8) dNil)))))))))
def RR_1b_3b_4 : S → R Out := (dIf (dNot (dTru (dCall 2 (F_law_same 8) [] (dCons (dV 9) (dCons (dBin hMul (dClose (dComp (.nm 11) [11] (dCBF hRange1 (dCons (dC (.int 3)) dNil)) dYes (dCall 4 F_law_due [] (dCons (dV 11) (dCons (dV 2) (dCons (dV 4) (dCons (dV 8) dNil))))))) (dC (.int 2))) dNil))))) (dRet (dC (.bl false))) dNext)
def RR_1b_3b : S → R Out := (dSeq RR_1b_3b_1 (dSeq RR_1b_3b_2 (dSeq RR_1b_3b_3 RR_1b_3b_4)))
def RR_1b_3 : S → R Out := dFor (.nm 4) (dCBF hRange1 (dCons (dBin hAdd (dCB hLen (dCons (dV 2) dNil)) (dC (.int 3))) dNil)) RR_1b_3b
def RR_1b_4 : S → R Out := (dSet 5 (dClose (dComp (.nm 10) [10] (dCBF hRange1 (dCons (dC (.int 2)) dNil)) dYes (dCB hTupOf (dCons (dClose (dCBF hSorted (dCons (dCall 3 F_law_pick [] (dCons (dV 0) (dCons (dV 2) (dCons (dCall 2 F_law_take [] (dCons (dV 0) (dCons (dBin hAdd (dCB hLen (dCons (dV 2) dNil)) (dC (.int 1))) dNil))) dNil)))) dNil))) dNil)))))
def RR_1b_5 : S → R Out := (dSet 6 (dCB hTupOf (dCons (dClose (dComp (.nm 8) [8] (dSeqI (dBin hIx (dV 5) (dC (.int 0)))) (dBinB hNotInR (dV 8) (dBin hIx (dV 5) (dC (.int 1)))) (dV 8))) dNil)))
def RR_1b_6 : S → R Out := (dSet 7 (dCB hTupOf (dCons (dClose (dComp (.nm 8) [8] (dSeqI (dBin hIx (dV 5) (dC (.int 1)))) (dBinB hNotInR (dV 8) (dBin hIx (dV 5) (dC (.int 0)))) (dV 8))) dNil)))
def RR_1b_7 : S → R Out := (dIf (dNot (dTru (dCall 2 (F_law_same 8) [] (dCons (dCall 2 F_share_change [] (dCons (dBin hIx (dV 5) (dC (.int 0))) (dCons (dClose (dCBF hListOf (dCons (dBin hIx (dV 5) (dC (.int 1))) dNil))) dNil))) (dCons (dTup (dCons (dV 6) (dCons (dV 7) dNil))) dNil))))) (dRet (dC (.bl false))) dNext)
def RR_1b : S → R Out := (dSeq RR_1b_1 (dSeq RR_1b_2 (dSeq RR_1b_3 (dSeq RR_1b_4 (dSeq RR_1b_5 (dSeq RR_1b_6 RR_1b_7))))))
def RR_1 : S → R Out := dFor (.nm 1) (dCBF hRange1 (dCons (dC (.int 8)) dNil)) RR_1b
def RR_2 : S → R Out := (dRet (dC (.bl true)))
theorem RR_is : B_law_right = (dSeq RR_1 RR_2) := rfl
section
variable {b : Bx} {d x : D} {N A B : List Str} {j p k : Int} {o : Str}
theorem comp_nmA {α : Type} {i : Nat} {env : List Sl} {iter : S → R (List D)} {e : S → R D} {as : List α} {g f : α → D} (h1 : iter ⟨env, b⟩ = .ok (as.map g) ⟨env, b⟩)
    (h2 : ∀ a ∈ as, ∃ env', e ⟨(wipeS (env.map Sl.hide) [i]).set i (.val (g a)), b⟩ = .ok (f a) ⟨env', b⟩) (l : as.length ≤ 16777216) : dComp (.nm i) [i] iter dYes e ⟨env, b⟩ = .ok (as.map f) ⟨env, b⟩ := by
  refine dComp_ok h1 ?_
  refine (compD_mapI (gs := as.map f) (by simp) (fun j d q hd hg => ?_) (by simp; omega)).trans (by simp)
  rw [List.getElem?_map] at hd hg
  cases z : as[j]? with
  | none => rw [z] at hd; cases hd
  | some a =>
    rw [z] at hd hg
    cases hd; cases hg
    obtain ⟨env', e'⟩ := h2 a (List.mem_of_getElem? z)
    refine ⟨env', ?_⟩
    show (R.bind (R.ok () ⟨(wipeS (env.map Sl.hide) [i]).set i (.val (g a)), b⟩) _) = _
    rw [bind_ok]
    show (R.bind (R.ok true _) _) = _
    rw [bind_ok, if_pos rfl, e']
    rfl
theorem pick_specT {goods : List Str} {n m : Nat} {b : Bx} (hl : goods.length < 500) (hn : n < 1000) (g : Gd (m + 500) b) : ∃ (f' p' : List Str) (b' : Bx), F_law_pick [.box, tuS goods, .int (n : Nat)] b = .ok (lsS f') b' ∧ (f' ++ p').Perm goods ∧ Gd m b' := by
  obtain ⟨r, hr, er⟩ : ∃ r : Nat, r ≤ goods.length ∧ gMin (n : Int) (goods.length : Int) = (r : Int) := by
    by_cases q : (goods.length : Int) < (n : Int)
    · exact ⟨goods.length, Nat.le_refl _, if_pos q⟩
    · exact ⟨n, by omega, if_neg q⟩
  obtain ⟨st', p', f', e, hj, pm, ln, g2⟩ := move_loop (i := 4) (j := 5) (t := 3) (by decide) (by decide) (by decide) (by decide) (by decide) (by decide) (rangeD 0 r) ⟨[.val .box, .val (tuS goods), .val (.int (n : Nat)), .un, .own (goods.map .str), .own []], b⟩ goods [] m rfl rfl rfl
    (by unfold rangeD; simpa using hr) (by simp; omega) (g.less (by unfold rangeD; simp; omega))
  refine ⟨f', p', st'.bx, ?_, by simpa using pm, g2⟩
  refine run_rt (s := st'.put 5 (.val (.ls (f'.map .str)))) rfl ?_
  refine (seq_nx (st1 := ⟨[.val .box, .val (tuS goods), .val (.int (n : Nat)), .un, .own (goods.map .str), .own []], b⟩) rfl).trans ?_
  have rg : dCBF hRange1 (dCons (dLend 4 (dCB (h2 gMin) (dCons (dCB hInt (dCons (dV 2) dNil)) (dCons (dCB hLen (dCons (dV 4) dNil)) dNil)))) dNil) ⟨[.val .box, .val (tuS goods), .val (.int (n : Nat)), .un, .own (goods.map .str), .own []], b⟩ = .ok (rangeD 0 r) ⟨[.val .box, .val (tuS goods), .val (.int (n : Nat)), .un, .own (goods.map .str), .own []], b⟩ := by
    have e1 : dLend 4 (dCB (h2 gMin) (dCons (dCB hInt (dCons (dV 2) dNil)) (dCons (dCB hLen (dCons (dV 4) dNil)) dNil))) ⟨[.val .box, .val (tuS goods), .val (.int (n : Nat)), .un, .own (goods.map .str), .own []], b⟩ = .ok (.int (r : Nat)) ⟨[.val .box, .val (tuS goods), .val (.int (n : Nat)), .un, .own (goods.map .str), .own []], b⟩ := by
      have e2 : dCB (h2 gMin) (dCons (dCB hInt (dCons (dV 2) dNil)) (dCons (dCB hLen (dCons (dV 4) dNil)) dNil)) ⟨[.val .box, .val (tuS goods), .val (.int (n : Nat)), .un, .val (lsS goods), .un], b⟩ = .ok (.int (r : Nat)) ⟨[.val .box, .val (tuS goods), .val (.int (n : Nat)), .un, .val (lsS goods), .un], b⟩ :=
        dCB_ok (dCons_ok (dCB_ok (dCons_ok (dV_ok rfl) dNil_ok) rfl) (dCons_ok (dCB_ok (dCons_ok (dV_ok rfl) dNil_ok) (hLen_seq (.inr rfl))) dNil_ok)) (by rw [← er]; rfl)
      show (match dCB (h2 gMin) (dCons (dCB hInt (dCons (dV 2) dNil)) (dCons (dCB hLen (dCons (dV 4) dNil)) dNil)) ⟨[.val .box, .val (tuS goods), .val (.int (n : Nat)), .un, .val (lsS goods), .un], b⟩ with
        | .ok d s => if (flatD d).isSome then R.ok d ⟨[.val .box, .val (tuS goods), .val (.int (n : Nat)), .un, .own (goods.map .str), .own []], s.bx⟩ else .stuck
        | _ => .stuck) = _
      rw [e2]
      rfl
    exact dCBF_ok (dCons_ok e1 dNil_ok) (hRange1_nat (by omega))
  refine (seq_nx (dFor_ok rg e)).trans (dRet_ok ?_)
  unfold dV
  rw [hj]

def pool37 : List Str := ["x", "y", "z", "w", "v", "u", "t", "s", "a", "b", "ab", "zzzzzzzz"]
theorem pool37_ok : ∀ x ∈ pool37, okS x = true := by
  have h : pool37.all okS = true := by kernel_rfl
  exact List.all_eq_true.mp h
def own37 : List Str := ["x", "y", "q", "zzzzzzzz", "ab"]
theorem own37_ok : ∀ x ∈ own37, okS x = true := by
  have h : own37.all okS = true := by kernel_rfl
  exact List.all_eq_true.mp h
theorem likes_spec {m n : Nat} (hn : n < 12) (g : Gd (m + 500) b) : ∃ (N : List Str) (b' : Bx), F_law_likes [.box, .int (n : Nat)] b = .ok (tuS N) b' ∧ (∀ x ∈ N, okS x = true) ∧ N.length ≤ 12 ∧ Gd m b' := by
  obtain ⟨f, p, b', e, pm, g2⟩ := pick_spec (goods := pool37.take n) (n := n) (m := m) (b := b) (by rw [List.length_take]; show min n 12 < _; omega) (by omega) g
  have le : f.length ≤ 12 := by
    have := pm.length_eq
    rw [List.length_append, List.length_take] at this
    omega
  refine ⟨f, b', ?_, fun x hx => pool37_ok x (List.mem_of_mem_take (pm.mem_iff.mp (List.mem_append_left _ hx))), le, g2⟩
  refine run_rt (s := ⟨[.val .box, .val (.int (n : Nat)), .val (lsS pool37)], b'⟩) rfl ?_
  refine (seq_nx (st1 := ⟨[.val .box, .val (.int (n : Nat)), .val (lsS pool37)], b⟩) rfl).trans ?_
  have sl : sliceD (lsS pool37) none (some (n : Int)) = some (lsS (pool37.take n)) := by
    show some (D.ls (DL.cutD (pool37.map D.str) none (some (n : Int)))) = _
    rw [cut_to _ (by omega), ← List.map_take, Int.toNat_natCast]
  have s1 : dSlice (dV 2) dNoP (dPart (dV 1)) ⟨[.val .box, .val (.int (n : Nat)), .val (lsS pool37)], b⟩ = .ok (lsS (pool37.take n)) ⟨[.val .box, .val (.int (n : Nat)), .val (lsS pool37)], b⟩ := dSlice_ok (dV_ok rfl) dNoP_ok (dPart_ok (dV_ok rfl)) sl
  have a2 := dCall_ok (n := 3) (F := F_law_pick) (dCons_ok (dV_ok (i := 0) (d := .box) (st := ⟨[.val .box, .val (.int (n : Nat)), .val (lsS pool37)], b⟩) rfl) (dCons_ok s1 (dCons_ok (dV_ok (i := 1) (d := .int (n : Nat)) rfl) dNil_ok))) rfl e
  exact dRet_ok (dCB_ok (dCons_ok a2 dNil_ok) (show hTupOf [lsS f] _ = .ok (tuS f) _ from rfl))
theorem plain_tuS {m : Nat} {N : List Str} (h : ∀ x ∈ N, okS x = true) (l : N.length ≤ 1000) : plainN (m + 2) (tuS N) = true := by
  show (decide ((N.map D.str).length ≤ 16777216) && (N.map D.str).all (plainN (m + 1))) = true
  rw [decide_eq_true (by rw [List.length_map]; omega), Bool.true_and, List.all_eq_true]
  intro d hd
  obtain ⟨x, hx, rfl⟩ := List.mem_map.mp hd
  exact h x hx
theorem plain_far {m : Nat} (k : Int) : plainN (m + 2) (farD k) = true := by
  have h : okS "far" = true := by kernel_rfl
  have h' : plainN (m + 1) (.str "far") = true := h
  show (decide (3 ≤ 16777216) && ([.str "far", .int k, .bl true] : List D).all (plainN (m + 1))) = true
  simp only [List.all_cons, List.all_nil, h', Bool.true_and, Bool.and_true]
  rfl
theorem plain_known {m : Nat} (ho : okS o = true) : plainN (m + 2) (knownD o) = true := by
  have h : okS "known" = true := by kernel_rfl
  have h' : plainN (m + 1) (.str "known") = true := h
  have h2 : plainN (m + 1) (.str o) = true := ho
  show (decide (3 ≤ 16777216) && ([.str "known", .str o, .bl true] : List D).all (plainN (m + 1))) = true
  simp only [List.all_cons, List.all_nil, h', h2, Bool.true_and, Bool.and_true]
  rfl
theorem plain_none {m : Nat} (ho : okS o = true) : plainN (m + 2) (noneD o) = true := by
  have h : okS "none" = true := by kernel_rfl
  have h' : plainN (m + 1) (.str "none") = true := h
  have h2 : plainN (m + 1) (.str o) = true := ho
  show (decide (3 ≤ 16777216) && ([.str "none", .str o, .bl true] : List D).all (plainN (m + 1))) = true
  simp only [List.all_cons, List.all_nil, h', h2, Bool.true_and, Bool.and_true]
  rfl
theorem plain_d0 {m : Nat} (h : ∀ x ∈ N, okS x = true) (l : N.length ≤ 100) : plainN (m + 2) (d0 N k) = true := by
  unfold d0
  split
  · refine plain_tuS (fun x hx => ?_) ?_
    · unfold exL at hx
      simp only [List.mem_append, List.mem_reverse] at hx
      rcases hx with (hx | hx) | hx
      · exact h x (List.mem_of_mem_take hx)
      · exact h x (List.mem_of_mem_drop (List.mem_of_mem_take hx))
      · exact h x (List.mem_of_mem_drop hx)
    · unfold exL
      simp only [List.length_append, List.length_reverse, List.length_take, List.length_drop]
      omega
  · exact plain_far k
theorem plain_d1 {m : Nat} (h : ∀ x ∈ N, okS x = true) (ho : okS o = true) (l : N.length ≤ 100) : plainN (m + 2) (d1 N k o) = true := by
  unfold d1
  split
  · split
    · exact plain_known ho
    · refine plain_tuS (fun x hx => ?_) ?_
      · unfold putL at hx
        simp only [List.mem_append, List.mem_singleton] at hx
        rcases hx with (hx | hx) | hx
        · exact h x (List.mem_of_mem_take hx)
        · rw [hx]; exact ho
        · exact h x (List.mem_of_mem_drop hx)
      · unfold putL
        simp only [List.length_append, List.length_take, List.length_drop, List.length_cons, List.length_nil]
        omega
  · exact plain_far k
theorem plain_d2 {m : Nat} (h : ∀ x ∈ N, okS x = true) (ho : okS o = true) (l : N.length ≤ 100) : plainN (m + 2) (d2 N o) = true := by
  unfold d2
  split
  · refine plain_tuS (fun x hx => h x (List.mem_filter.mp hx).1) ?_
    unfold outL
    have := List.length_filter_le (fun x => decide (x ≠ o)) N
    omega
  · exact plain_none ho
abbrev RS (N : List Str) (x1 x4 x5 x6 x7 x8 x9 x10 x11 : Sl) (b : Bx) : S := ⟨[.val .box, x1, .val (tuS N), .val (lsS own37), x4, x5, x6, x7, x8, x9, x10, x11], b⟩
variable {x1 x2 x3 x4 x5 x6 x7 x8 x9 x10 x11 : Sl}
theorem three {i : Nat} {e : S → R D} {env : List Sl} {v0 v1 v2 : D} (h0 : ∃ env', e ⟨(wipeS (env.map Sl.hide) [i]).set i (.val (.int 0)), b⟩ = .ok v0 ⟨env', b⟩) (h1 : ∃ env', e ⟨(wipeS (env.map Sl.hide) [i]).set i (.val (.int 1)), b⟩ = .ok v1 ⟨env', b⟩) (h2 : ∃ env', e ⟨(wipeS (env.map Sl.hide) [i]).set i (.val (.int 2)), b⟩ = .ok v2 ⟨env', b⟩) :
    dComp (.nm i) [i] (dCBF hRange1 (dCons (dC (.int 3)) dNil)) dYes e ⟨env, b⟩ = .ok [v0, v1, v2] ⟨env, b⟩ := by
  refine comp_nmA (as := [((0 : Int), v0), ((1 : Int), v1), ((2 : Int), v2)]) (g := fun a => .int a.1) (f := fun a => a.2) (dCBF_ok (dCons_ok dC_ok dNil_ok) (hRange1_nat (n := 3) (by omega))) (fun a ha => ?_) (Nat.le_of_ble_eq_true rfl)
  rcases List.mem_cons.mp ha with rfl | ha
  · exact h0
  rcases List.mem_cons.mp ha with rfl | ha
  · exact h1
  rcases List.mem_cons.mp ha with rfl | ha
  · exact h2
  · simp at ha
theorem one_turn {m : Nat} (hN : ∀ x ∈ N, okS x = true) (l : N.length ≤ 12) (g : Gd (m + 1) b) : ∃ (b' : Bx) (y8 y9 : Sl), RR_1b_3b (RS N x1 (.val (.int k)) x5 x6 x7 x8 x9 x10 x11 b) = .ok .nx (RS N x1 (.val (.int k)) x5 x6 x7 y8 y9 x10 x11 b') ∧ Gd m b' := by
  obtain ⟨i, b1, hi, e1, g1⟩ := of_spec (gs := own37.map D.str) (m := m) (b := b) (by decide) (by decide) g
  obtain ⟨o, ho, eo⟩ : ∃ o : Str, okS o = true ∧ (own37.map D.str)[i] = .str o := by
    refine ⟨own37[i]'(by rw [List.length_map] at hi; exact hi), own37_ok _ (List.getElem_mem _), by rw [List.getElem_map]⟩
  rw [eo] at e1
  have sT : IsSeq (tuS N) N := .inl rfl
  have sL : IsSeq (lsS N) N := .inr rfl
  have c1 : RR_1b_3b_1 (RS N x1 (.val (.int k)) x5 x6 x7 x8 x9 x10 x11 b) = .ok .nx (RS N x1 (.val (.int k)) x5 x6 x7 (.val (.str o)) x9 x10 x11 b1) := by
    unfold RR_1b_3b_1
    repeat' decreasing_trivial_pre_omega
  have hT : ∀ (y9 : Sl), dComp (.nm 11) [11] (dCBF hRange1 (dCons (dC (.int 3)) dNil)) dYes (dCall 4 F_law_heard [] (dCons (dV 11) (dCons (dV 2) (dCons (dV 4) (dCons (dV 8) dNil))))) (RS N x1 (.val (.int k)) x5 x6 x7 (.val (.str o)) y9 x10 x11 b1) = .ok [d0 N k, d1 N k o, d2 N o] (RS N x1 (.val (.int k)) x5 x6 x7 (.val (.str o)) y9 x10 x11 b1) := fun y9 => three
    ⟨[.val .box, x1.hide, .val (tuS N), .val (lsS own37), .val (.int k), x5.hide, x6.hide, x7.hide, .val (.str o), y9.hide, x10.hide, .val (.int 0)], e_callG (τ := [.val .box, x1.hide, .val (tuS N), .val (lsS own37), .val (.int k), x5.hide, x6.hide, x7.hide, .val (.str o), y9.hide, x10.hide, .val (.int 0)]) (b := b1) (xs := [.int 0, tuS N, .int k, .str o]) rfl rfl (heard0 sT (by omega) hN ho).from⟩
    ⟨[.val .box, x1.hide, .val (tuS N), .val (lsS own37), .val (.int k), x5.hide, x6.hide, x7.hide, .val (.str o), y9.hide, x10.hide, .val (.int 1)], e_callG (τ := [.val .box, x1.hide, .val (tuS N), .val (lsS own37), .val (.int k), x5.hide, x6.hide, x7.hide, .val (.str o), y9.hide, x10.hide, .val (.int 1)]) (b := b1) (xs := [.int 1, tuS N, .int k, .str o]) rfl rfl (heard1 sT (by omega) hN ho).from⟩
    ⟨[.val .box, x1.hide, .val (tuS N), .val (lsS own37), .val (.int k), x5.hide, x6.hide, x7.hide, .val (.str o), y9.hide, x10.hide, .val (.int 2)], e_callG (τ := [.val .box, x1.hide, .val (tuS N), .val (lsS own37), .val (.int k), x5.hide, x6.hide, x7.hide, .val (.str o), y9.hide, x10.hide, .val (.int 2)]) (b := b1) (xs := [.int 2, tuS N, .int k, .str o]) rfl rfl (heard2 sT (by omega) hN ho).from⟩
  have hL : ∀ (y9 : Sl), dComp (.nm 11) [11] (dCBF hRange1 (dCons (dC (.int 3)) dNil)) dYes (dCall 4 F_law_heard [] (dCons (dV 11) (dCons (dClose (dCBF hListOf (dCons (dV 2) dNil))) (dCons (dV 4) (dCons (dV 8) dNil))))) (RS N x1 (.val (.int k)) x5 x6 x7 (.val (.str o)) y9 x10 x11 b1) = .ok [d0 N k, d1 N k o, d2 N o] (RS N x1 (.val (.int k)) x5 x6 x7 (.val (.str o)) y9 x10 x11 b1) := fun y9 => three
    ⟨[.val .box, x1.hide, .val (tuS N), .val (lsS own37), .val (.int k), x5.hide, x6.hide, x7.hide, .val (.str o), y9.hide, x10.hide, .val (.int 0)], e_callG (τ := [.val .box, x1.hide, .val (tuS N), .val (lsS own37), .val (.int k), x5.hide, x6.hide, x7.hide, .val (.str o), y9.hide, x10.hide, .val (.int 0)]) (b := b1) (xs := [.int 0, lsS N, .int k, .str o]) rfl rfl (heard0 sL (by omega) hN ho).from⟩
    ⟨[.val .box, x1.hide, .val (tuS N), .val (lsS own37), .val (.int k), x5.hide, x6.hide, x7.hide, .val (.str o), y9.hide, x10.hide, .val (.int 1)], e_callG (τ := [.val .box, x1.hide, .val (tuS N), .val (lsS own37), .val (.int k), x5.hide, x6.hide, x7.hide, .val (.str o), y9.hide, x10.hide, .val (.int 1)]) (b := b1) (xs := [.int 1, lsS N, .int k, .str o]) rfl rfl (heard1 sL (by omega) hN ho).from⟩
    ⟨[.val .box, x1.hide, .val (tuS N), .val (lsS own37), .val (.int k), x5.hide, x6.hide, x7.hide, .val (.str o), y9.hide, x10.hide, .val (.int 2)], e_callG (τ := [.val .box, x1.hide, .val (tuS N), .val (lsS own37), .val (.int k), x5.hide, x6.hide, x7.hide, .val (.str o), y9.hide, x10.hide, .val (.int 2)]) (b := b1) (xs := [.int 2, lsS N, .int k, .str o]) rfl rfl (heard2 sL (by omega) hN ho).from⟩
  have hD : ∀ (y9 : Sl), dComp (.nm 11) [11] (dCBF hRange1 (dCons (dC (.int 3)) dNil)) dYes (dCall 4 F_law_due [] (dCons (dV 11) (dCons (dV 2) (dCons (dV 4) (dCons (dV 8) dNil))))) (RS N x1 (.val (.int k)) x5 x6 x7 (.val (.str o)) y9 x10 x11 b1) = .ok [d0 N k, d1 N k o, d2 N o] (RS N x1 (.val (.int k)) x5 x6 x7 (.val (.str o)) y9 x10 x11 b1) := fun y9 => three
    ⟨[.val .box, x1.hide, .val (tuS N), .val (lsS own37), .val (.int k), x5.hide, x6.hide, x7.hide, .val (.str o), y9.hide, x10.hide, .val (.int 0)], e_callG (τ := [.val .box, x1.hide, .val (tuS N), .val (lsS own37), .val (.int k), x5.hide, x6.hide, x7.hide, .val (.str o), y9.hide, x10.hide, .val (.int 0)]) (b := b1) (xs := [.int 0, tuS N, .int k, .str o]) rfl rfl (due0 (by omega) hN ho).from⟩
    ⟨[.val .box, x1.hide, .val (tuS N), .val (lsS own37), .val (.int k), x5.hide, x6.hide, x7.hide, .val (.str o), y9.hide, x10.hide, .val (.int 1)], e_callG (τ := [.val .box, x1.hide, .val (tuS N), .val (lsS own37), .val (.int k), x5.hide, x6.hide, x7.hide, .val (.str o), y9.hide, x10.hide, .val (.int 1)]) (b := b1) (xs := [.int 1, tuS N, .int k, .str o]) rfl rfl (due1 (by omega) hN ho).from⟩
    ⟨[.val .box, x1.hide, .val (tuS N), .val (lsS own37), .val (.int k), x5.hide, x6.hide, x7.hide, .val (.str o), y9.hide, x10.hide, .val (.int 2)], e_callG (τ := [.val .box, x1.hide, .val (tuS N), .val (lsS own37), .val (.int k), x5.hide, x6.hide, x7.hide, .val (.str o), y9.hide, x10.hide, .val (.int 2)]) (b := b1) (xs := [.int 2, tuS N, .int k, .str o]) rfl rfl (due2 (by omega) hN ho).from⟩
  have p0 := plain_d0 (m := 5) (k := k) hN (by omega)
  have p1 := plain_d1 (m := 5) (k := k) hN ho (by omega)
  have p2 := plain_d2 (m := 5) hN ho (by omega)
  generalize d0 N k = v0 at *
  generalize d1 N k o = v1 at *
  generalize d2 N o = v2 at *
  have sm := same_refl 8 (.ls [v0, v1, v2, v0, v1, v2]) b1 (by
    show (decide (6 ≤ 16777216) && ([v0, v1, v2, v0, v1, v2] : List D).all (plainN 7)) = true
    simp only [List.all_cons, List.all_nil, p0, p1, p2, Bool.true_and, Bool.and_true]
    rfl)
  have c2 : RR_1b_3b_2 (RS N x1 (.val (.int k)) x5 x6 x7 (.val (.str o)) x9 x10 x11 b1) = .ok .nx (RS N x1 (.val (.int k)) x5 x6 x7 (.val (.str o)) (.val (.ls [v0, v1, v2])) x10 x11 b1) := dSet_ok (dClose_ok (hT x9))
  have c3 : RR_1b_3b_3 (RS N x1 (.val (.int k)) x5 x6 x7 (.val (.str o)) (.val (.ls [v0, v1, v2])) x10 x11 b1) = .ok .nx (RS N x1 (.val (.int k)) x5 x6 x7 (.val (.str o)) (.val (.ls [v0, v1, v2, v0, v1, v2])) x10 x11 b1) := by
    have q := dBin_ok (h := hAdd) (dV_ok (i := 9) (d := .ls [v0, v1, v2]) rfl) (dClose_ok (hL (.val (.ls [v0, v1, v2])))) (show hAdd (.ls [v0, v1, v2]) (.ls [v0, v1, v2]) _ = .ok (.ls [v0, v1, v2, v0, v1, v2]) _ from rfl)
    exact dSet_ok q
  have c4 : RR_1b_3b_4 (RS N x1 (.val (.int k)) x5 x6 x7 (.val (.str o)) (.val (.ls [v0, v1, v2, v0, v1, v2])) x10 x11 b1) = .ok .nx (RS N x1 (.val (.int k)) x5 x6 x7 (.val (.str o)) (.val (.ls [v0, v1, v2, v0, v1, v2])) x10 x11 b1) := by
    have dd := dBin_ok (h := hMul) (dClose_ok (hD (.val (.ls [v0, v1, v2, v0, v1, v2])))) (dC_ok (d := .int 2)) (show hMul (.ls [v0, v1, v2]) (.int 2) _ = .ok (.ls [v0, v1, v2, v0, v1, v2]) _ from rfl)
    unfold RR_1b_3b_4
    refine s_if_f (st1 := RS N x1 (.val (.int k)) x5 x6 x7 (.val (.str o)) (.val (.ls [v0, v1, v2, v0, v1, v2])) x10 x11 b1) ?_ rfl
    exact o_not_f (dTru_bl (dCall_ok (dCons_ok (dV_ok rfl) (dCons_ok dd dNil_ok)) rfl sm))
  refine ⟨b1, .val (.str o), .val (.ls [v0, v1, v2, v0, v1, v2]), ?_, g1⟩
  unfold RR_1b_3b
  rw [seq_nx c1, seq_nx c2, seq_nx c3]
  exact c4
theorem turns_loop (hN : ∀ x ∈ N, okS x = true) (l : N.length ≤ 12) : ∀ (n i m : Nat) (b : Bx) (x4 x8 x9 : Sl), Gd (m + n) b → ∃ (b' : Bx) (y4 y8 y9 : Sl), forD (.nm 4) RR_1b_3b ((List.range n).map fun j => D.int ((i : Int) + (j : Nat))) (RS N x1 x4 x5 x6 x7 x8 x9 x10 x11 b) = .ok .nx (RS N x1 y4 x5 x6 x7 y8 y9 x10 x11 b') ∧ Gd m b' := by
  intro n
  induction n with
  | zero => intro i m b x4 x8 x9 g; exact ⟨b, x4, x8, x9, rfl, g⟩
  | succ n ih =>
    intro i m b x4 x8 x9 g
    obtain ⟨b1, y8, y9, e, g1⟩ := one_turn (m := m + n) (k := (i : Int) + (0 : Nat)) (x1 := x1) (x5 := x5) (x6 := x6) (x7 := x7) (x8 := x8) (x9 := x9) (x10 := x10) (x11 := x11) (b := b) hN l g
    obtain ⟨b', z4, z8, z9, e2, g2⟩ := ih (i + 1) m b1 (.val (.int ((i : Int) + (0 : Nat)))) y8 y9 g1
    refine ⟨b', z4, z8, z9, ?_, g2⟩
    rw [List.range_succ_eq_map, List.map_cons, List.map_map]
    refine (forD_nx (st1 := RS N x1 (.val (.int ((i : Int) + (0 : Nat)))) x5 x6 x7 x8 x9 x10 x11 b) rfl e).trans ?_
    have ee : ((fun j : Nat => D.int ((i : Int) + (j : Nat))) ∘ Nat.succ) = fun j : Nat => D.int (((i + 1 : Nat) : Int) + (j : Nat)) := by
      funext j
      show D.int _ = D.int _
      congr 1
      show (i : Int) + ((j + 1 : Nat) : Int) = _
      omega
    rw [ee]
    exact e2
end
end LW

namespace LW
open PySem PySem.Spec PyProof.Rows L2 DL
local macro_rules
  | `(tactic| decreasing_trivial_pre_omega) => `(tactic| first
    | with_reducible assumption
    | with_reducible exact dC_ok
    | with_reducible exact dNil_ok
    | with_reducible exact dNoP_ok
    | with_reducible exact s_next
    | ((with_reducible apply dV_ok); exact rfl)
    | with_reducible apply dCons_ok
    | with_reducible apply dBin_ok
    | with_reducible apply dBinB_ok
    | with_reducible apply e_call
    | with_reducible apply dCB_ok
    | with_reducible apply dCBF_ok
    | with_reducible apply dClose_ok
    | with_reducible apply dTup_ok
    | with_reducible apply dLst_ok
    | with_reducible apply dUn_ok
    | with_reducible apply dPart_ok
    | with_reducible apply dSlice_ok
    | with_reducible apply dSeqI_ok
    | with_reducible apply dOfB_ok
    | with_reducible apply dTru_bl
    | with_reducible apply dRet_ok
    | with_reducible apply e_prop
    | ((with_reducible apply e_lend); focus (exact rfl))
    | ((with_reducible apply t_lend); focus (exact rfl))
    | ((with_reducible apply sq); focus ((repeat' decreasing_trivial_pre_omega); done); focus (try dsimp only [List.set_cons_zero, List.set_cons_succ]); focus (exact rfl))
    | with_reducible apply s_set
    | with_reducible apply s_own
    | ((with_reducible apply s_app); focus (exact rfl))
    | with_reducible apply s_setIx
    | with_reducible apply s_par
    | with_reducible apply s_par3
    | with_reducible apply s_unp
    | ((with_reducible apply s_if_t); focus ((repeat' decreasing_trivial_pre_omega); done))
    | ((with_reducible apply s_if_f); focus ((repeat' decreasing_trivial_pre_omega); done))
    | (with_reducible apply o_not_t)
    | (with_reducible apply o_not_f)
    | ((with_reducible apply dAnd_t); focus ((repeat' decreasing_trivial_pre_omega); done))
    | ((with_reducible apply dAnd_f); ((repeat' decreasing_trivial_pre_omega); done))
    | ((with_reducible apply dOr_t); ((repeat' decreasing_trivial_pre_omega); done))
    | ((with_reducible apply dOr_f); focus ((repeat' decreasing_trivial_pre_omega); done))
    | ((with_reducible apply o_chain_t) <;> ((repeat' decreasing_trivial_pre_omega); done))
    | ((with_reducible apply o_chain_f) <;> ((repeat' decreasing_trivial_pre_omega); done))
    | ((with_reducible apply o_ltt); omega)
    | ((with_reducible apply o_ltf); omega)
    | ((with_reducible apply o_let); omega)
    | ((with_reducible apply o_lef); omega)
    | ((with_reducible apply o_gtt); omega)
    | ((with_reducible apply o_gtf); omega)
    | ((with_reducible apply o_get); omega)
    | ((with_reducible apply o_gef); omega)
    | ((with_reducible apply e_mulr); omega)
    | ((with_reducible apply e_mull); omega)
    | ((with_reducible apply e_div); omega)
    | ((with_reducible apply e_mod); omega)
    | ((with_reducible apply e_add_ls); first | exact Nat.le_of_ble_eq_true rfl | (simp; done) | (simp; omega))
    | ((with_reducible apply e_add_tu); first | exact Nat.le_of_ble_eq_true rfl | (simp; done) | (simp; omega))
    | exact (rfl : (_ : S) = _)
    | exact (rfl : (_ : R D) = _)
    | exact (rfl : (_ : R Bool) = _)
    | exact (rfl : (_ : R (List D)) = _)
    | exact (rfl : (_ : Option _) = _)
    | exact (rfl : (_ : Nat) = _)
    | exact Nat.le_of_ble_eq_true rfl
    | exact Nat.lt_of_lt_of_le (Nat.lt_succ_self _) (Nat.le_of_ble_eq_true rfl))
section
variable {b : Bx} {d x : D} {N A B : List Str} {j p k : Int} {o : Str}
variable {x1 x2 x3 x4 x5 x6 x7 x8 x9 x10 x11 : Sl}
theorem alone_ok {d e : D} (h : IsSeq d A) (h' : IsSeq e B) (l : A.length ≤ 100) : F_in_one_alone [d, e] b = .ok (tuS (A.filter fun x => !decide (x ∈ B))) b := by
  refine run_rt (s := ⟨[.val d, .val e, .un], b⟩) rfl ?_
  show dRet _ ⟨[.val d, .val e, .un], b⟩ = _
  have cc := comp_selN (b := b) (i := 2) (env := [.val d, .val e, .un]) (iter := dSeqI (dV 0)) (t := dBinB hNotInR (dV 2) (dV 1)) (M := A) (q := fun x => !decide (x ∈ B)) (show 2 < 3 by decide) (dSeqI_ok (dV_ok rfl) (seq_str h))
    (fun x hx => dBinB_ok (dV_ok rfl) (dV_ok rfl) (hNotIn_ok h')) (by omega)
  exact dRet_ok (dCB_ok (dCons_ok (dClose_ok cc) dNil_ok) rfl)
theorem change_ok {d e : D} (h : IsSeq d A) (h' : IsSeq e B) (l : A.length ≤ 100) (l' : B.length ≤ 100) : F_share_change [d, e] b = .ok (.tu [tuS (A.filter fun x => !decide (x ∈ B)), tuS (B.filter fun x => !decide (x ∈ A))]) b := by
  have a1 := alone_ok (b := b) h h' l
  have a2 := alone_ok (b := b) h' h l'
  refine run_rt (s := ⟨[.val d, .val e], b⟩) rfl ?_
  show dRet _ ⟨[.val d, .val e], b⟩ = _
  repeat' decreasing_trivial_pre_omega
/-- a set drawn out of the names -/
theorem set_turn {m : Nat} (hN : ∀ x ∈ N, okS x = true) (l : N.length ≤ 12) (g : Gd (m + 501) b) : ∃ (A : List Str) (env' : List Sl) (b' : Bx), turnD (.nm 10) [10] dYes (dCB hTupOf (dCons (dClose (dCBF hSorted (dCons (dCall 3 F_law_pick [] (dCons (dV 0) (dCons (dV 2) (dCons (dCall 2 F_law_take [] (dCons (dV 0) (dCons (dBin hAdd (dCB hLen (dCons (dV 2) dNil)) (dC (.int 1))) dNil))) dNil)))) dNil))) dNil)) d (RS N x1 x4 x5 x6 x7 x8 x9 x10 x11 b) = .ok (some (tuS A)) ⟨env', b'⟩ ∧ (∀ x ∈ A, okS x = true) ∧ A.length ≤ 12 ∧ Gd m b' := by
  obtain ⟨k, b1, e1, k0, k1, g1⟩ := take_spec ((N.length : Nat) + 1) (m + 500) b (by omega) (by omega) g
  obtain ⟨n, rfl⟩ : ∃ n : Nat, k = (n : Nat) := ⟨k.toNat, by omega⟩
  obtain ⟨f, p, b', e, pm, g2⟩ := pick_specT (goods := N) (n := n) (m := m) (b := b1) (by omega) (by omega) g1
  have le : f.length ≤ 12 := by
    have := pm.length_eq
    rw [List.length_append] at this
    omega
  have sf : ∀ x ∈ sortS f, okS x = true := fun x hx => hN x (pm.mem_iff.mp (List.mem_append_left _ ((sortS_perm f).mem_iff.mp hx)))
  have ls : (sortS f).length ≤ 12 := by rw [(sortS_perm f).length_eq]; exact le
  refine ⟨sortS f, [.val .box, x1.hide, .val (tuS N), .val (lsS own37), x4.hide, x5.hide, x6.hide, x7.hide, x8.hide, x9.hide, .val d, x11.hide], b', ?_, sf, ls, g2⟩
  have hl : ∀ {st : S}, hLen [tuS N] st = .ok (.int (N.length : Nat)) st := fun {st} => hLen_seq (.inl rfl)
  have c0 : dBin hAdd (dCB hLen (dCons (dV 2) dNil)) (dC (.int 1)) ⟨[.val .box, x1.hide, .val (tuS N), .val (lsS own37), x4.hide, x5.hide, x6.hide, x7.hide, x8.hide, x9.hide, .val d, x11.hide], b⟩ = .ok (.int ((N.length : Nat) + 1)) ⟨[.val .box, x1.hide, .val (tuS N), .val (lsS own37), x4.hide, x5.hide, x6.hide, x7.hide, x8.hide, x9.hide, .val d, x11.hide], b⟩ := dBin_ok (dCB_ok (dCons_ok (dV_ok rfl) dNil_ok) hl) dC_ok rfl
  have c1 : dCall 2 F_law_take [] (dCons (dV 0) (dCons (dBin hAdd (dCB hLen (dCons (dV 2) dNil)) (dC (.int 1))) dNil)) ⟨[.val .box, x1.hide, .val (tuS N), .val (lsS own37), x4.hide, x5.hide, x6.hide, x7.hide, x8.hide, x9.hide, .val d, x11.hide], b⟩ = .ok (.int (n : Nat)) ⟨[.val .box, x1.hide, .val (tuS N), .val (lsS own37), x4.hide, x5.hide, x6.hide, x7.hide, x8.hide, x9.hide, .val d, x11.hide], b1⟩ :=
    e_call (dCons_ok (dV_ok rfl) (dCons_ok c0 dNil_ok)) rfl e1
  have c2 : dCall 3 F_law_pick [] (dCons (dV 0) (dCons (dV 2) (dCons (dCall 2 F_law_take [] (dCons (dV 0) (dCons (dBin hAdd (dCB hLen (dCons (dV 2) dNil)) (dC (.int 1))) dNil))) dNil))) ⟨[.val .box, x1.hide, .val (tuS N), .val (lsS own37), x4.hide, x5.hide, x6.hide, x7.hide, x8.hide, x9.hide, .val d, x11.hide], b⟩ = .ok (lsS f) ⟨[.val .box, x1.hide, .val (tuS N), .val (lsS own37), x4.hide, x5.hide, x6.hide, x7.hide, x8.hide, x9.hide, .val d, x11.hide], b'⟩ :=
    dCall_ok (dCons_ok (dV_ok rfl) (dCons_ok (dV_ok rfl) (dCons_ok c1 dNil_ok))) rfl e
  have c3 := dCB_ok (h := hTupOf) (dCons_ok (dClose_ok (dCBF_ok (h := hSorted) (dCons_ok c2 dNil_ok) (hSorted_seq (.inr rfl) (by omega)))) dNil_ok) (show hTupOf [lsS (sortS f)] _ = .ok (tuS (sortS f)) _ from rfl)
  show (R.bind (R.ok () ⟨[.val .box, x1.hide, .val (tuS N), .val (lsS own37), x4.hide, x5.hide, x6.hide, x7.hide, x8.hide, x9.hide, .val d, x11.hide], b⟩) _) = _
  rw [bind_ok]
  show (R.bind (R.ok true _) _) = _
  rw [bind_ok, if_pos rfl, c3]
  rfl
theorem filter_ok {q : Str → Bool} (h : ∀ x ∈ A, okS x = true) (l : A.length ≤ 12) : (∀ x ∈ A.filter q, okS x = true) ∧ (A.filter q).length ≤ 12 := ⟨fun x hx => h x (List.mem_filter.mp hx).1, Nat.le_trans (List.length_filter_le q A) l⟩
theorem right_turn {m : Nat} (g : Gd (m + 2000) b) : ∃ (b' : Bx) (y2 y3 y4 y5 y6 y7 y8 y9 : Sl), RR_1b ⟨[.val .box, x1, x2, x3, x4, x5, x6, x7, x8, x9, x10, x11], b⟩ = .ok .nx ⟨[.val .box, x1, y2, y3, y4, y5, y6, y7, y8, y9, x10, x11], b'⟩ ∧ Gd m b' := by
  obtain ⟨k, b1, e1, k0, k1, g1⟩ := take_spec 12 (m + 1999) b (by omega) (by omega) g
  obtain ⟨n, rfl⟩ : ∃ n : Nat, k = (n : Nat) := ⟨k.toNat, by omega⟩
  obtain ⟨N, b2, e2, hN, l, g2⟩ := likes_spec (n := n) (m := m + 1400) (b := b1) (by omega) (g1.less (by omega))
  have o1 : RR_1b_1 ⟨[.val .box, x1, x2, x3, x4, x5, x6, x7, x8, x9, x10, x11], b⟩ = .ok .nx ⟨[.val .box, x1, .val (tuS N), x3, x4, x5, x6, x7, x8, x9, x10, x11], b2⟩ := by
    unfold RR_1b_1
    repeat' decreasing_trivial_pre_omega
  have o2 : RR_1b_2 ⟨[.val .box, x1, .val (tuS N), x3, x4, x5, x6, x7, x8, x9, x10, x11], b2⟩ = .ok .nx (RS N x1 x4 x5 x6 x7 x8 x9 x10 x11 b2) := rfl
  obtain ⟨b3, y4, y8, y9, e3, g3⟩ := turns_loop (N := N) (x1 := x1) (x5 := x5) (x6 := x6) (x7 := x7) (x10 := x10) (x11 := x11) hN l (N.length + 3) 0 (m + 1300) b2 x4 x8 x9 (g2.less (by omega))
  have o3 : RR_1b_3 (RS N x1 x4 x5 x6 x7 x8 x9 x10 x11 b2) = .ok .nx (RS N x1 y4 x5 x6 x7 y8 y9 x10 x11 b3) := by
    unfold RR_1b_3
    refine dFor_ok (ds := (List.range (N.length + 3)).map fun j => D.int (((0 : Nat) : Int) + (j : Nat))) (st1 := RS N x1 x4 x5 x6 x7 x8 x9 x10 x11 b2) ?_ e3
    have hl : hLen [tuS N] (RS N x1 x4 x5 x6 x7 x8 x9 x10 x11 b2) = .ok (.int (N.length : Nat)) (RS N x1 x4 x5 x6 x7 x8 x9 x10 x11 b2) := hLen_seq (.inl rfl)
    exact dCBF_ok (xs := [.int ((N.length + 3 : Nat) : Int)]) (dCons_ok (dBin_ok (x := .int (N.length : Nat)) (y := .int 3) (dCB_ok (dCons_ok (dV_ok rfl) dNil_ok) hl) dC_ok rfl) dNil_ok) (hRange1_nat (by omega))
  obtain ⟨A, env1, b4, t1, hA, lA, g4⟩ := set_turn (d := .int (0 + ((0 : Nat) : Int))) (m := m + 700) (x1 := x1) (x4 := y4) (x5 := x5) (x6 := x6) (x7 := x7) (x8 := y8) (x9 := y9) (x10 := x10) (x11 := x11) (b := b3) hN l (g3.less (by omega))
  obtain ⟨B, env2, b5, t2, hB, lB, g5⟩ := set_turn (d := .int (0 + ((1 : Nat) : Int))) (m := m + 100) (x1 := x1) (x4 := y4) (x5 := x5) (x6 := x6) (x7 := x7) (x8 := y8) (x9 := y9) (x10 := x10) (x11 := x11) (b := b4) hN l (g4.less (by omega))
  have o4 : RR_1b_4 (RS N x1 y4 x5 x6 x7 y8 y9 x10 x11 b3) = .ok .nx (RS N x1 y4 (.val (.ls [tuS A, tuS B])) x6 x7 y8 y9 x10 x11 b5) := by
    have c : dComp (.nm 10) [10] (dCBF hRange1 (dCons (dC (.int 2)) dNil)) dYes (dCB hTupOf (dCons (dClose (dCBF hSorted (dCons (dCall 3 F_law_pick [] (dCons (dV 0) (dCons (dV 2) (dCons (dCall 2 F_law_take [] (dCons (dV 0) (dCons (dBin hAdd (dCB hLen (dCons (dV 2) dNil)) (dC (.int 1))) dNil))) dNil)))) dNil))) dNil)) (RS N x1 y4 x5 x6 x7 y8 y9 x10 x11 b3) = .ok [tuS A, tuS B] (RS N x1 y4 x5 x6 x7 y8 y9 x10 x11 b5) := by
      refine dComp_ok (ds := [.int (0 + ((0 : Nat) : Int)), .int (0 + ((1 : Nat) : Int))]) (dCBF_ok (dCons_ok dC_ok dNil_ok) (hRange1_nat (n := 2) (by omega))) ?_
      unfold compD
      rw [t1]
      dsimp only
      rw [if_pos (show ([] : List D).length < 16777216 by decide)]
      unfold compD
      have t2' : turnD (.nm 10) [10] dYes (dCB hTupOf (dCons (dClose (dCBF hSorted (dCons (dCall 3 F_law_pick [] (dCons (dV 0) (dCons (dV 2) (dCons (dCall 2 F_law_take [] (dCons (dV 0) (dCons (dBin hAdd (dCB hLen (dCons (dV 2) dNil)) (dC (.int 1))) dNil))) dNil)))) dNil))) dNil)) (.int (0 + ((1 : Nat) : Int))) { (RS N x1 y4 x5 x6 x7 y8 y9 x10 x11 b3) with bx := b4 } = .ok (some (tuS B)) ⟨env2, b5⟩ := t2
      rw [t2']
      rfl
    exact dSet_ok (dClose_ok c)
  generalize hs : (Sl.val (.ls [tuS A, tuS B])) = y5 at o4
  have i0 : ∀ {x6 x7 y8 : Sl}, dBin hIx (dV 5) (dC (.int 0)) (RS N x1 y4 y5 x6 x7 y8 y9 x10 x11 b5) = .ok (tuS A) (RS N x1 y4 y5 x6 x7 y8 y9 x10 x11 b5) := fun {x6 x7 y8} => by rw [← hs]; rfl
  have i1 : ∀ {x6 x7 y8 : Sl}, dBin hIx (dV 5) (dC (.int 1)) (RS N x1 y4 y5 x6 x7 y8 y9 x10 x11 b5) = .ok (tuS B) (RS N x1 y4 y5 x6 x7 y8 y9 x10 x11 b5) := fun {x6 x7 y8} => by rw [← hs]; rfl
  have hy : y5.hide = y5 := by rw [← hs]; rfl
  have f1 := filter_ok (q := fun x => !decide (x ∈ B)) hA lA
  have f2 := filter_ok (q := fun x => !decide (x ∈ A)) hB lB
  have ch := change_ok (A := A) (B := B) (d := tuS A) (e := lsS B) (b := b5) (.inl rfl) (.inr rfl) (by omega) (by omega)
  have c5 := comp_selN (b := b5) (i := 8) (env := (RS N x1 y4 y5 x6 x7 y8 y9 x10 x11 b5).env) (iter := dSeqI (dBin hIx (dV 5) (dC (.int 0)))) (t := dBinB hNotInR (dV 8) (dBin hIx (dV 5) (dC (.int 1)))) (M := A) (q := fun x => !decide (x ∈ B)) (show 8 < 12 by decide) (dSeqI_ok i0 rfl)
    (fun x hx => by
      have e : dBin hIx (dV 5) (dC (.int 1)) ⟨[.val .box, x1.hide, .val (tuS N), .val (lsS own37), y4.hide, y5.hide, x6.hide, x7.hide, .val (.str x), y9.hide, x10.hide, x11.hide], b5⟩ = .ok (tuS B) ⟨[.val .box, x1.hide, .val (tuS N), .val (lsS own37), y4.hide, y5.hide, x6.hide, x7.hide, .val (.str x), y9.hide, x10.hide, x11.hide], b5⟩ := by rw [← hs]; rfl
      exact dBinB_ok (dV_ok rfl) e (hNotIn_ok (.inl rfl))) (by omega)
  generalize hLo : A.filter (fun x => !decide (x ∈ B)) = Lo at *
  have o5 : RR_1b_5 (RS N x1 y4 y5 x6 x7 y8 y9 x10 x11 b5) = .ok .nx (RS N x1 y4 y5 (.val (tuS Lo)) x7 y8 y9 x10 x11 b5) := by
    have q := dCB_ok (h := hTupOf) (dCons_ok (dClose_ok c5) dNil_ok) (show hTupOf [lsS Lo] _ = .ok (tuS Lo) _ from rfl)
    exact dSet_ok q
  have c6 := comp_selN (b := b5) (i := 8) (env := (RS N x1 y4 y5 (.val (tuS Lo)) x7 y8 y9 x10 x11 b5).env) (iter := dSeqI (dBin hIx (dV 5) (dC (.int 1)))) (t := dBinB hNotInR (dV 8) (dBin hIx (dV 5) (dC (.int 0)))) (M := B) (q := fun x => !decide (x ∈ A)) (show 8 < 12 by decide) (dSeqI_ok i1 rfl)
    (fun x hx => by
      have e : dBin hIx (dV 5) (dC (.int 0)) ⟨[.val .box, x1.hide, .val (tuS N), .val (lsS own37), y4.hide, y5.hide, .val (tuS Lo), x7.hide, .val (.str x), y9.hide, x10.hide, x11.hide], b5⟩ = .ok (tuS A) ⟨[.val .box, x1.hide, .val (tuS N), .val (lsS own37), y4.hide, y5.hide, .val (tuS Lo), x7.hide, .val (.str x), y9.hide, x10.hide, x11.hide], b5⟩ := by rw [← hs]; rfl
      exact dBinB_ok (dV_ok rfl) e (hNotIn_ok (.inl rfl))) (by omega)
  generalize hMo : B.filter (fun x => !decide (x ∈ A)) = Mo at *
  have o6 : RR_1b_6 (RS N x1 y4 y5 (.val (tuS Lo)) x7 y8 y9 x10 x11 b5) = .ok .nx (RS N x1 y4 y5 (.val (tuS Lo)) (.val (tuS Mo)) y8 y9 x10 x11 b5) := by
    have q := dCB_ok (h := hTupOf) (dCons_ok (dClose_ok c6) dNil_ok) (show hTupOf [lsS Mo] _ = .ok (tuS Mo) _ from rfl)
    exact dSet_ok q
  have p1 := plain_tuS (m := 5) f1.1 (by omega)
  have p2 := plain_tuS (m := 5) f2.1 (by omega)
  have sm := same_refl 8 (.tu [tuS Lo, tuS Mo]) b5 (by
    show (decide (2 ≤ 16777216) && ([tuS Lo, tuS Mo] : List D).all (plainN 7)) = true
    simp only [List.all_cons, List.all_nil, p1, p2, Bool.true_and, Bool.and_true]
    rfl)
  have o7 : RR_1b_7 (RS N x1 y4 y5 (.val (tuS Lo)) (.val (tuS Mo)) y8 y9 x10 x11 b5) = .ok .nx (RS N x1 y4 y5 (.val (tuS Lo)) (.val (tuS Mo)) y8 y9 x10 x11 b5) := by
    have lB2 : dClose (dCBF hListOf (dCons (dBin hIx (dV 5) (dC (.int 1))) dNil)) (RS N x1 y4 y5 (.val (tuS Lo)) (.val (tuS Mo)) y8 y9 x10 x11 b5) = .ok (lsS B) (RS N x1 y4 y5 (.val (tuS Lo)) (.val (tuS Mo)) y8 y9 x10 x11 b5) := dClose_ok (dCBF_ok (dCons_ok i1 dNil_ok) rfl)
    unfold RR_1b_7
    refine s_if_f (st1 := RS N x1 y4 y5 (.val (tuS Lo)) (.val (tuS Mo)) y8 y9 x10 x11 b5) ?_ rfl
    exact o_not_f (dTru_bl (e_call (dCons_ok (e_call (dCons_ok i0 (dCons_ok lB2 dNil_ok)) rfl ch) (dCons_ok (dTup_ok (dCons_ok (dV_ok rfl) (dCons_ok (dV_ok rfl) dNil_ok)) (Nat.le_of_ble_eq_true rfl)) dNil_ok)) rfl sm))
  refine ⟨b5, _, _, _, _, _, _, _, _, (show RR_1b _ = .ok .nx (RS N x1 y4 y5 (.val (tuS Lo)) (.val (tuS Mo)) y8 y9 x10 x11 b5) from ?_), g5.less (by omega)⟩
  unfold RR_1b
  rw [seq_nx o1, seq_nx o2, seq_nx o3, seq_nx o4, seq_nx o5, seq_nx o6]
  exact o7
theorem right_loop : ∀ (ds : List D) (m : Nat) (b : Bx) (x1 x2 x3 x4 x5 x6 x7 x8 x9 : Sl), Gd (m + 2000 * ds.length) b → ∃ (b' : Bx) (y1 y2 y3 y4 y5 y6 y7 y8 y9 : Sl), forD (.nm 1) RR_1b ds ⟨[.val .box, x1, x2, x3, x4, x5, x6, x7, x8, x9, x10, x11], b⟩ = .ok .nx ⟨[.val .box, y1, y2, y3, y4, y5, y6, y7, y8, y9, x10, x11], b'⟩ ∧ Gd m b'
  | [], m, b, x1, x2, x3, x4, x5, x6, x7, x8, x9, g => ⟨b, x1, x2, x3, x4, x5, x6, x7, x8, x9, rfl, g⟩
  | d :: ds, m, b, x1, x2, x3, x4, x5, x6, x7, x8, x9, g => by
    rw [List.length_cons] at g
    obtain ⟨b1, y2, y3, y4, y5, y6, y7, y8, y9, e, g1⟩ := right_turn (m := m + 2000 * ds.length) (b := b) (x1 := .val d) (x2 := x2) (x3 := x3) (x4 := x4) (x5 := x5) (x6 := x6) (x7 := x7) (x8 := x8) (x9 := x9) (x10 := x10) (x11 := x11) (g.less (by omega))
    obtain ⟨b', z1, z2, z3, z4, z5, z6, z7, z8, z9, e2, g2⟩ := right_loop ds m b1 (.val d) y2 y3 y4 y5 y6 y7 y8 y9 g1
    exact ⟨b', z1, z2, z3, z4, z5, z6, z7, z8, z9, (forD_nx (st1 := ⟨[.val .box, .val d, x2, x3, x4, x5, x6, x7, x8, x9, x10, x11], b⟩) rfl e).trans e2, g2⟩
theorem right_spec (b : Bx) (h : Gd 900000 b) : ∃ b', F_law_right [.box] b = .ok (.bl true) b' := by
  obtain ⟨b', y1, y2, y3, y4, y5, y6, y7, y8, y9, e, _⟩ := right_loop (x10 := .un) (x11 := .un) (rangeD 0 8) 0 b .un .un .un .un .un .un .un .un .un (h.less (by show 0 + 2000 * 8 ≤ _; omega))
  refine ⟨b', run_rt (s := ⟨[.val .box, y1, y2, y3, y4, y5, y6, y7, y8, y9, .un, .un], b'⟩) rfl ?_⟩
  rw [RR_is]
  have o1 : RR_1 ⟨[.box].map Sl.val ++ List.replicate (12 - 1) Sl.un, b⟩ = .ok .nx ⟨[.val .box, y1, y2, y3, y4, y5, y6, y7, y8, y9, .un, .un], b'⟩ := dFor_ok (dCBF_ok (dCons_ok dC_ok dNil_ok) (hRange1_nat (n := 8) (by omega))) e
  rw [seq_nx o1]
  rfl
theorem law_turn {ns cs : List Int} (l3 : cs.length ≤ 3) {i : Nat} (hi : i < cs.length) :
    ∃ env', turnD (.nm 2) [2] dYes (dCallBox 1 F_law_right 2 F_law_box (dCons (dV 1) (dCons (dV 2) dNil))) (.int (0 + (i : Nat))) ⟨[.val (.ro ns), .val (.ls (cs.map .int)), .un], (0, 0, 0)⟩ = .ok (some (.bl true)) ⟨env', (0, 0, 0)⟩ := by
  obtain ⟨a, s, e1, g1⟩ := box_spec hi l3 (0, 0, 0)
  obtain ⟨b', e2⟩ := right_spec _ g1
  refine ⟨[.val (.ro ns), .val (.ls (cs.map .int)), .val (.int (i : Nat))], ?_⟩
  simp [turnD, S.hide, Sl.hide, wipeS, tgD, S.put, bind_ok, dYes, dCallBox, dCons, dNil, dV, e1, e2]
theorem law_true (ns : List Int) : ∃ b', F_law [.ro ns] (0, 0, 0) = .ok (.bl true) b' := by
  obtain ⟨cs, n0, l3, e⟩ := cells_spec ns (0, 0, 0)
  refine ⟨(0, 0, 0), ?_⟩
  have hl : (rangeD 0 cs.length).length ≤ 16777216 := by
    unfold rangeD
    rw [List.length_map, List.length_range]
    omega
  have c1 := compD_map (k := .nm 2) (vs := [2]) (t := dYes) (e := dCallBox 1 F_law_right 2 F_law_box (dCons (dV 1) (dCons (dV 2) dNil))) (f := fun _ => .bl true) (st := ⟨[.val (.ro ns), .val (.ls (cs.map .int)), .un], (0, 0, 0)⟩) (ds := rangeD 0 cs.length) (acc := []) (fun d hd => by
      unfold rangeD at hd
      obtain ⟨i, hi, rfl⟩ := List.mem_map.mp hd
      exact law_turn l3 (List.mem_range.mp hi)) (by rw [List.length_nil, Nat.zero_add]; exact hl)
  have e1 : dSet 1 (dCall 2 F_law_cells [] (dCons (dV 0) (dCons (dC (.int 3)) dNil))) ⟨[.val (.ro ns), .un, .un], (0, 0, 0)⟩ = .ok .nx ⟨[.val (.ro ns), .val (.ls (cs.map .int)), .un], (0, 0, 0)⟩ :=
    dSet_ok (dCall_ok (dCons_ok (dV_ok rfl) (dCons_ok dC_ok dNil_ok)) rfl e)
  have bh := by_hand (0, 0, 0)
  have e2 : dIf (dNot (dTru (dCall 0 F_law_by_hand_right [] dNil))) (dRet (dC (.bl false))) dNext ⟨[.val (.ro ns), .un, .un], (0, 0, 0)⟩ = .ok .nx ⟨[.val (.ro ns), .un, .un], (0, 0, 0)⟩ :=
    dIf_f (dNot_ok (k := true) (dTru_bl (dCall_ok dNil_ok rfl bh))) rfl
  have hlen : hLen [.ls (cs.map .int)] ⟨[.val (.ro ns), .val (.ls (cs.map .int)), .un], (0, 0, 0)⟩ = .ok (.int (cs.length : Nat)) ⟨[.val (.ro ns), .val (.ls (cs.map .int)), .un], (0, 0, 0)⟩ := by
    show R.ok (D.int ((cs.map D.int).length : Nat)) _ = _
    rw [List.length_map]
  refine run_rt (s := ⟨[.val (.ro ns), .val (.ls (cs.map .int)), .un], (0, 0, 0)⟩) rfl ?_
  show dSeq _ (dSeq _ _) ⟨[.val (.ro ns), .un, .un], (0, 0, 0)⟩ = _
  rw [seq_nx e2, seq_nx e1]
  exact dRet_ok (dCB_ok (dCons_ok (dClose_ok (dComp_ok (dCBF_ok (dCons_ok (dCB_ok (dCons_ok (dV_ok rfl) dNil_ok) hlen) dNil_ok) (hRange1_nat (by omega))) c1)) dNil_ok) (hAll_true (by intro d hd; obtain ⟨_, _, rfl⟩ := List.mem_map.mp hd; rfl)))
end
end LW

set_option maxHeartbeats 4000000
namespace LW
open PySem PySem.Spec PyProof.Rows L2 DL
def clsBody : Stmt → List Stmt
  | .ClassDef (body := b) .. => b
  | _ => []
abbrev si_Known : Stmt := (clsBody (topS 2)).getD 0 (.Pass ⟨0, 0, 0, 0⟩)
theorem sci_Known : FnScope ["self", "name"] ["self", "name"] (defScope si_Known) := ⟨rfl, rfl, rfl, by decide +kernel, rfl, by decide +kernel, by decide +kernel⟩
abbrev si_NoPlace : Stmt := (clsBody (topS 3)).getD 0 (.Pass ⟨0, 0, 0, 0⟩)
theorem sci_NoPlace : FnScope ["self", "number"] ["self", "number"] (defScope si_NoPlace) := ⟨rfl, rfl, rfl, by decide +kernel, rfl, by decide +kernel, by decide +kernel⟩
abbrev si_NoThing : Stmt := (clsBody (topS 4)).getD 0 (.Pass ⟨0, 0, 0, 0⟩)
theorem sci_NoThing : FnScope ["self", "name"] ["self", "name"] (defScope si_NoThing) := ⟨rfl, rfl, rfl, by decide +kernel, rfl, by decide +kernel, by decide +kernel⟩
set_option maxHeartbeats 4000000 in
theorem all_mk {l : PySem.W.OpenLaw} {w : World} {K : PySem.W.Frag} {h : Heap} {mg : Str → Option Value} {fa : Addr} (X : K.In h) (G : h.Ns mainGlobals mg) (hfa : mg "law" = some (.ref fa))
    {f_list_exchanged : Addr} {od_list_exchanged an_list_exchanged : Option Addr} {sl_list_exchanged : Array (Option Value)} {oc_list_exchanged kV_list_exchanged dc_list_exchanged pm_list_exchanged cd_list_exchanged ct_list_exchanged : Value}
    {f_thing_put : Addr} {od_thing_put an_thing_put : Option Addr} {sl_thing_put : Array (Option Value)} {oc_thing_put kV_thing_put dc_thing_put pm_thing_put cd_thing_put ct_thing_put : Value}
    {f_check_things : Addr} {od_check_things an_check_things : Option Addr} {sl_check_things : Array (Option Value)} {oc_check_things kV_check_things dc_check_things pm_check_things cd_check_things ct_check_things : Value}
    {f_without : Addr} {od_without an_without : Option Addr} {sl_without : Array (Option Value)} {oc_without kV_without dc_without pm_without cd_without ct_without : Value}
    {f_thing_left_out : Addr} {od_thing_left_out an_thing_left_out : Option Addr} {sl_thing_left_out : Array (Option Value)} {oc_thing_left_out kV_thing_left_out dc_thing_left_out pm_thing_left_out cd_thing_left_out ct_thing_left_out : Value}
    {f_law_heard : Addr} {od_law_heard an_law_heard : Option Addr} {sl_law_heard : Array (Option Value)} {oc_law_heard kV_law_heard dc_law_heard pm_law_heard cd_law_heard ct_law_heard : Value}
    {f_law_same : Addr} {od_law_same an_law_same : Option Addr} {sl_law_same : Array (Option Value)} {oc_law_same kV_law_same dc_law_same pm_law_same cd_law_same ct_law_same : Value}
    {f_in_one_alone : Addr} {od_in_one_alone an_in_one_alone : Option Addr} {sl_in_one_alone : Array (Option Value)} {oc_in_one_alone kV_in_one_alone dc_in_one_alone pm_in_one_alone cd_in_one_alone ct_in_one_alone : Value}
    {f_share_change : Addr} {od_share_change an_share_change : Option Addr} {sl_share_change : Array (Option Value)} {oc_share_change kV_share_change dc_share_change pm_share_change cd_share_change ct_share_change : Value}
    {f_law_shares_right : Addr} {od_law_shares_right an_law_shares_right : Option Addr} {sl_law_shares_right : Array (Option Value)} {oc_law_shares_right kV_law_shares_right dc_law_shares_right pm_law_shares_right cd_law_shares_right ct_law_shares_right : Value}
    {f_law_by_hand_right : Addr} {od_law_by_hand_right an_law_by_hand_right : Option Addr} {sl_law_by_hand_right : Array (Option Value)} {oc_law_by_hand_right kV_law_by_hand_right dc_law_by_hand_right pm_law_by_hand_right cd_law_by_hand_right ct_law_by_hand_right : Value}
    {f_law_cells : Addr} {od_law_cells an_law_cells : Option Addr} {sl_law_cells : Array (Option Value)} {oc_law_cells kV_law_cells dc_law_cells pm_law_cells cd_law_cells ct_law_cells : Value}
    {f_law_take : Addr} {od_law_take an_law_take : Option Addr} {sl_law_take : Array (Option Value)} {oc_law_take kV_law_take dc_law_take pm_law_take cd_law_take ct_law_take : Value}
    {f_law_pick : Addr} {od_law_pick an_law_pick : Option Addr} {sl_law_pick : Array (Option Value)} {oc_law_pick kV_law_pick dc_law_pick pm_law_pick cd_law_pick ct_law_pick : Value}
    {f_law_likes : Addr} {od_law_likes an_law_likes : Option Addr} {sl_law_likes : Array (Option Value)} {oc_law_likes kV_law_likes dc_law_likes pm_law_likes cd_law_likes ct_law_likes : Value}
    {f_law_of : Addr} {od_law_of an_law_of : Option Addr} {sl_law_of : Array (Option Value)} {oc_law_of kV_law_of dc_law_of pm_law_of cd_law_of ct_law_of : Value}
    {f_law_due : Addr} {od_law_due an_law_due : Option Addr} {sl_law_due : Array (Option Value)} {oc_law_due kV_law_due dc_law_due pm_law_due cd_law_due ct_law_due : Value}
    {f_law_right : Addr} {od_law_right an_law_right : Option Addr} {sl_law_right : Array (Option Value)} {oc_law_right kV_law_right dc_law_right pm_law_right cd_law_right ct_law_right : Value}
    {f_law_box : Addr} {od_law_box an_law_box : Option Addr} {sl_law_box : Array (Option Value)} {oc_law_box kV_law_box dc_law_box pm_law_box cd_law_box ct_law_box : Value}
    {f_law : Addr} {od_law an_law : Option Addr} {sl_law : Array (Option Value)} {oc_law kV_law dc_law pm_law cd_law ct_law : Value}
    {A_HeirError : Addr}
    {A_Known : Addr}
    {A_NoPlace : Addr}
    {A_NoThing : Addr}
    {nm_Known q_Known : Str} {N_Known : Addr} {bs_Known sub_Known : List Value} {sn_Known : List Str} {ab_Known : Bool} {col_Known : Option Bool} {dd_Known : Option Addr} {m0_Known m1_Known m2_Known m3_Known m5_Known : Option Value} {fi_Known : Addr} {odi_Known ani_Known : Option Addr} {sli_Known : Array (Option Value)} {oci_Known kVi_Known dci_Known pmi_Known cdi_Known cti_Known : Value}
    {nm_NoPlace q_NoPlace : Str} {N_NoPlace : Addr} {bs_NoPlace sub_NoPlace : List Value} {sn_NoPlace : List Str} {ab_NoPlace : Bool} {col_NoPlace : Option Bool} {dd_NoPlace : Option Addr} {m0_NoPlace m1_NoPlace m2_NoPlace m3_NoPlace m5_NoPlace : Option Value} {fi_NoPlace : Addr} {odi_NoPlace ani_NoPlace : Option Addr} {sli_NoPlace : Array (Option Value)} {oci_NoPlace kVi_NoPlace dci_NoPlace pmi_NoPlace cdi_NoPlace cti_NoPlace : Value}
    {nm_NoThing q_NoThing : Str} {N_NoThing : Addr} {bs_NoThing sub_NoThing : List Value} {sn_NoThing : List Str} {ab_NoThing : Bool} {col_NoThing : Option Bool} {dd_NoThing : Option Addr} {m0_NoThing m1_NoThing m2_NoThing m3_NoThing m5_NoThing : Option Value} {fi_NoThing : Addr} {odi_NoThing ani_NoThing : Option Addr} {sli_NoThing : Array (Option Value)} {oci_NoThing kVi_NoThing dci_NoThing pmi_NoThing cdi_NoThing cti_NoThing : Value}
    (a_list_exchanged : PySem.W.nsIn K mainGlobals "list_exchanged" = some (some (.ref f_list_exchanged)))
    (l_list_exchanged : K.lookup f_list_exchanged = some ⟨oc_list_exchanged, od_list_exchanged, .func (PySem.W.fnOf "list_exchanged" "list_exchanged" (defArgs s_list_exchanged) (defBody s_list_exchanged) (defScope s_list_exchanged) .none kV_list_exchanged dc_list_exchanged pm_list_exchanged an_list_exchanged cd_list_exchanged ct_list_exchanged), sl_list_exchanged⟩)
    (d_list_exchanged : PySem.W.codeIn K cd_list_exchanged "list_exchanged" = true)
    (k_list_exchanged : PySem.W.keepIn K (.ref f_list_exchanged) = true)
    (a_thing_put : PySem.W.nsIn K mainGlobals "thing_put" = some (some (.ref f_thing_put)))
    (l_thing_put : K.lookup f_thing_put = some ⟨oc_thing_put, od_thing_put, .func (PySem.W.fnOf "thing_put" "thing_put" (defArgs s_thing_put) (defBody s_thing_put) (defScope s_thing_put) .none kV_thing_put dc_thing_put pm_thing_put an_thing_put cd_thing_put ct_thing_put), sl_thing_put⟩)
    (d_thing_put : PySem.W.codeIn K cd_thing_put "thing_put" = true)
    (k_thing_put : PySem.W.keepIn K (.ref f_thing_put) = true)
    (a_check_things : PySem.W.nsIn K mainGlobals "check_things" = some (some (.ref f_check_things)))
    (l_check_things : K.lookup f_check_things = some ⟨oc_check_things, od_check_things, .func (PySem.W.fnOf "check_things" "check_things" (defArgs s_check_things) (defBody s_check_things) (defScope s_check_things) .none kV_check_things dc_check_things pm_check_things an_check_things cd_check_things ct_check_things), sl_check_things⟩)
    (d_check_things : PySem.W.codeIn K cd_check_things "check_things" = true)
    (k_check_things : PySem.W.keepIn K (.ref f_check_things) = true)
    (a_without : PySem.W.nsIn K mainGlobals "without" = some (some (.ref f_without)))
    (l_without : K.lookup f_without = some ⟨oc_without, od_without, .func (PySem.W.fnOf "without" "without" (defArgs s_without) (defBody s_without) (defScope s_without) .none kV_without dc_without pm_without an_without cd_without ct_without), sl_without⟩)
    (d_without : PySem.W.codeIn K cd_without "without" = true)
    (k_without : PySem.W.keepIn K (.ref f_without) = true)
    (a_thing_left_out : PySem.W.nsIn K mainGlobals "thing_left_out" = some (some (.ref f_thing_left_out)))
    (l_thing_left_out : K.lookup f_thing_left_out = some ⟨oc_thing_left_out, od_thing_left_out, .func (PySem.W.fnOf "thing_left_out" "thing_left_out" (defArgs s_thing_left_out) (defBody s_thing_left_out) (defScope s_thing_left_out) .none kV_thing_left_out dc_thing_left_out pm_thing_left_out an_thing_left_out cd_thing_left_out ct_thing_left_out), sl_thing_left_out⟩)
    (d_thing_left_out : PySem.W.codeIn K cd_thing_left_out "thing_left_out" = true)
    (k_thing_left_out : PySem.W.keepIn K (.ref f_thing_left_out) = true)
    (a_law_heard : PySem.W.nsIn K mainGlobals "_law_heard" = some (some (.ref f_law_heard)))
    (l_law_heard : K.lookup f_law_heard = some ⟨oc_law_heard, od_law_heard, .func (PySem.W.fnOf "_law_heard" "_law_heard" (defArgs s_law_heard) (defBody s_law_heard) (defScope s_law_heard) .none kV_law_heard dc_law_heard pm_law_heard an_law_heard cd_law_heard ct_law_heard), sl_law_heard⟩)
    (d_law_heard : PySem.W.codeIn K cd_law_heard "_law_heard" = true)
    (k_law_heard : PySem.W.keepIn K (.ref f_law_heard) = true)
    (a_law_same : PySem.W.nsIn K mainGlobals "_law_same" = some (some (.ref f_law_same)))
    (l_law_same : K.lookup f_law_same = some ⟨oc_law_same, od_law_same, .func (PySem.W.fnOf "_law_same" "_law_same" (defArgs s_law_same) (defBody s_law_same) (defScope s_law_same) .none kV_law_same dc_law_same pm_law_same an_law_same cd_law_same ct_law_same), sl_law_same⟩)
    (d_law_same : PySem.W.codeIn K cd_law_same "_law_same" = true)
    (k_law_same : PySem.W.keepIn K (.ref f_law_same) = true)
    (a_in_one_alone : PySem.W.nsIn K mainGlobals "_in_one_alone" = some (some (.ref f_in_one_alone)))
    (l_in_one_alone : K.lookup f_in_one_alone = some ⟨oc_in_one_alone, od_in_one_alone, .func (PySem.W.fnOf "_in_one_alone" "_in_one_alone" (defArgs s_in_one_alone) (defBody s_in_one_alone) (defScope s_in_one_alone) .none kV_in_one_alone dc_in_one_alone pm_in_one_alone an_in_one_alone cd_in_one_alone ct_in_one_alone), sl_in_one_alone⟩)
    (d_in_one_alone : PySem.W.codeIn K cd_in_one_alone "_in_one_alone" = true)
    (k_in_one_alone : PySem.W.keepIn K (.ref f_in_one_alone) = true)
    (a_share_change : PySem.W.nsIn K mainGlobals "share_change" = some (some (.ref f_share_change)))
    (l_share_change : K.lookup f_share_change = some ⟨oc_share_change, od_share_change, .func (PySem.W.fnOf "share_change" "share_change" (defArgs s_share_change) (defBody s_share_change) (defScope s_share_change) .none kV_share_change dc_share_change pm_share_change an_share_change cd_share_change ct_share_change), sl_share_change⟩)
    (d_share_change : PySem.W.codeIn K cd_share_change "share_change" = true)
    (k_share_change : PySem.W.keepIn K (.ref f_share_change) = true)
    (a_law_shares_right : PySem.W.nsIn K mainGlobals "_law_shares_right" = some (some (.ref f_law_shares_right)))
    (l_law_shares_right : K.lookup f_law_shares_right = some ⟨oc_law_shares_right, od_law_shares_right, .func (PySem.W.fnOf "_law_shares_right" "_law_shares_right" (defArgs s_law_shares_right) (defBody s_law_shares_right) (defScope s_law_shares_right) .none kV_law_shares_right dc_law_shares_right pm_law_shares_right an_law_shares_right cd_law_shares_right ct_law_shares_right), sl_law_shares_right⟩)
    (d_law_shares_right : PySem.W.codeIn K cd_law_shares_right "_law_shares_right" = true)
    (k_law_shares_right : PySem.W.keepIn K (.ref f_law_shares_right) = true)
    (a_law_by_hand_right : PySem.W.nsIn K mainGlobals "_law_by_hand_right" = some (some (.ref f_law_by_hand_right)))
    (l_law_by_hand_right : K.lookup f_law_by_hand_right = some ⟨oc_law_by_hand_right, od_law_by_hand_right, .func (PySem.W.fnOf "_law_by_hand_right" "_law_by_hand_right" (defArgs s_law_by_hand_right) (defBody s_law_by_hand_right) (defScope s_law_by_hand_right) .none kV_law_by_hand_right dc_law_by_hand_right pm_law_by_hand_right an_law_by_hand_right cd_law_by_hand_right ct_law_by_hand_right), sl_law_by_hand_right⟩)
    (d_law_by_hand_right : PySem.W.codeIn K cd_law_by_hand_right "_law_by_hand_right" = true)
    (k_law_by_hand_right : PySem.W.keepIn K (.ref f_law_by_hand_right) = true)
    (a_law_cells : PySem.W.nsIn K mainGlobals "_law_cells" = some (some (.ref f_law_cells)))
    (l_law_cells : K.lookup f_law_cells = some ⟨oc_law_cells, od_law_cells, .func (PySem.W.fnOf "_law_cells" "_law_cells" (defArgs s_law_cells) (defBody s_law_cells) (defScope s_law_cells) .none kV_law_cells dc_law_cells pm_law_cells an_law_cells cd_law_cells ct_law_cells), sl_law_cells⟩)
    (d_law_cells : PySem.W.codeIn K cd_law_cells "_law_cells" = true)
    (k_law_cells : PySem.W.keepIn K (.ref f_law_cells) = true)
    (a_law_take : PySem.W.nsIn K mainGlobals "_law_take" = some (some (.ref f_law_take)))
    (l_law_take : K.lookup f_law_take = some ⟨oc_law_take, od_law_take, .func (PySem.W.fnOf "_law_take" "_law_take" (defArgs s_law_take) (defBody s_law_take) (defScope s_law_take) .none kV_law_take dc_law_take pm_law_take an_law_take cd_law_take ct_law_take), sl_law_take⟩)
    (d_law_take : PySem.W.codeIn K cd_law_take "_law_take" = true)
    (k_law_take : PySem.W.keepIn K (.ref f_law_take) = true)
    (a_law_pick : PySem.W.nsIn K mainGlobals "_law_pick" = some (some (.ref f_law_pick)))
    (l_law_pick : K.lookup f_law_pick = some ⟨oc_law_pick, od_law_pick, .func (PySem.W.fnOf "_law_pick" "_law_pick" (defArgs s_law_pick) (defBody s_law_pick) (defScope s_law_pick) .none kV_law_pick dc_law_pick pm_law_pick an_law_pick cd_law_pick ct_law_pick), sl_law_pick⟩)
    (d_law_pick : PySem.W.codeIn K cd_law_pick "_law_pick" = true)
    (k_law_pick : PySem.W.keepIn K (.ref f_law_pick) = true)
    (a_law_likes : PySem.W.nsIn K mainGlobals "_law_likes" = some (some (.ref f_law_likes)))
    (l_law_likes : K.lookup f_law_likes = some ⟨oc_law_likes, od_law_likes, .func (PySem.W.fnOf "_law_likes" "_law_likes" (defArgs s_law_likes) (defBody s_law_likes) (defScope s_law_likes) .none kV_law_likes dc_law_likes pm_law_likes an_law_likes cd_law_likes ct_law_likes), sl_law_likes⟩)
    (d_law_likes : PySem.W.codeIn K cd_law_likes "_law_likes" = true)
    (k_law_likes : PySem.W.keepIn K (.ref f_law_likes) = true)
    (a_law_of : PySem.W.nsIn K mainGlobals "_law_of" = some (some (.ref f_law_of)))
    (l_law_of : K.lookup f_law_of = some ⟨oc_law_of, od_law_of, .func (PySem.W.fnOf "_law_of" "_law_of" (defArgs s_law_of) (defBody s_law_of) (defScope s_law_of) .none kV_law_of dc_law_of pm_law_of an_law_of cd_law_of ct_law_of), sl_law_of⟩)
    (d_law_of : PySem.W.codeIn K cd_law_of "_law_of" = true)
    (k_law_of : PySem.W.keepIn K (.ref f_law_of) = true)
    (a_law_due : PySem.W.nsIn K mainGlobals "_law_due" = some (some (.ref f_law_due)))
    (l_law_due : K.lookup f_law_due = some ⟨oc_law_due, od_law_due, .func (PySem.W.fnOf "_law_due" "_law_due" (defArgs s_law_due) (defBody s_law_due) (defScope s_law_due) .none kV_law_due dc_law_due pm_law_due an_law_due cd_law_due ct_law_due), sl_law_due⟩)
    (d_law_due : PySem.W.codeIn K cd_law_due "_law_due" = true)
    (k_law_due : PySem.W.keepIn K (.ref f_law_due) = true)
    (a_law_right : PySem.W.nsIn K mainGlobals "_law_right" = some (some (.ref f_law_right)))
    (l_law_right : K.lookup f_law_right = some ⟨oc_law_right, od_law_right, .func (PySem.W.fnOf "_law_right" "_law_right" (defArgs s_law_right) (defBody s_law_right) (defScope s_law_right) .none kV_law_right dc_law_right pm_law_right an_law_right cd_law_right ct_law_right), sl_law_right⟩)
    (d_law_right : PySem.W.codeIn K cd_law_right "_law_right" = true)
    (k_law_right : PySem.W.keepIn K (.ref f_law_right) = true)
    (a_law_box : PySem.W.nsIn K mainGlobals "_law_box" = some (some (.ref f_law_box)))
    (l_law_box : K.lookup f_law_box = some ⟨oc_law_box, od_law_box, .func (PySem.W.fnOf "_law_box" "_law_box" (defArgs s_law_box) (defBody s_law_box) (defScope s_law_box) .none kV_law_box dc_law_box pm_law_box an_law_box cd_law_box ct_law_box), sl_law_box⟩)
    (d_law_box : PySem.W.codeIn K cd_law_box "_law_box" = true)
    (k_law_box : PySem.W.keepIn K (.ref f_law_box) = true)
    (a_law : PySem.W.nsIn K mainGlobals "law" = some (some (.ref f_law)))
    (l_law : K.lookup f_law = some ⟨oc_law, od_law, .func (PySem.W.fnOf "law" "law" (defArgs s_law) (defBody s_law) (defScope s_law) .none kV_law dc_law pm_law an_law cd_law ct_law), sl_law⟩)
    (d_law : PySem.W.codeIn K cd_law "law" = true)
    (k_law : PySem.W.keepIn K (.ref f_law) = true)
    (a_HeirError : PySem.W.nsIn K mainGlobals "HeirError" = some (some (.ref A_HeirError)))
    (a_Known : PySem.W.nsIn K mainGlobals "Known" = some (some (.ref A_Known)))
    (a_NoPlace : PySem.W.nsIn K mainGlobals "NoPlace" = some (some (.ref A_NoPlace)))
    (a_NoThing : PySem.W.nsIn K mainGlobals "NoThing" = some (some (.ref A_NoThing)))
    (he : allErB K [A_HeirError, A_Known, A_NoPlace, A_NoThing] = true)
    (xl_Known : K.lookup A_Known = some (excClassObj nm_Known q_Known A_Known N_Known bs_Known [.ref A_HeirError, .type "ValueError", .type "Exception", .type "BaseException", .type "object"] true sn_Known sub_Known ab_Known col_Known dd_Known m0_Known m1_Known m2_Known m3_Known m5_Known "ValueError.__new__"))
    (sa_Known : PySem.W.findIn K (.ref A_Known) "__setattr__" = some (some (.builtin "object.__setattr__")))
    (no_Known : PySem.W.findIn K (.ref A_Known) "name" = some none)
    (ii_Known : PySem.W.findIn K (.ref A_Known) "__init__" = some (some (.ref fi_Known)))
    (ti_Known : PySem.W.typeIn K (.ref fi_Known) = some (.type "function"))
    (li_Known : K.lookup fi_Known = some ⟨oci_Known, odi_Known, .func (PySem.W.fnOf "__init__" "Known.__init__" (defArgs si_Known) (defBody si_Known) (defScope si_Known) .none kVi_Known dci_Known pmi_Known ani_Known cdi_Known cti_Known), sli_Known⟩)
    (di_Known : PySem.W.codeIn K cdi_Known "Known.__init__" = true)
    (ki_Known : PySem.W.keepIn K (.ref fi_Known) = true)
    (xl_NoPlace : K.lookup A_NoPlace = some (excClassObj nm_NoPlace q_NoPlace A_NoPlace N_NoPlace bs_NoPlace [.ref A_HeirError, .type "ValueError", .type "Exception", .type "BaseException", .type "object"] true sn_NoPlace sub_NoPlace ab_NoPlace col_NoPlace dd_NoPlace m0_NoPlace m1_NoPlace m2_NoPlace m3_NoPlace m5_NoPlace "ValueError.__new__"))
    (sa_NoPlace : PySem.W.findIn K (.ref A_NoPlace) "__setattr__" = some (some (.builtin "object.__setattr__")))
    (no_NoPlace : PySem.W.findIn K (.ref A_NoPlace) "number" = some none)
    (ii_NoPlace : PySem.W.findIn K (.ref A_NoPlace) "__init__" = some (some (.ref fi_NoPlace)))
    (ti_NoPlace : PySem.W.typeIn K (.ref fi_NoPlace) = some (.type "function"))
    (li_NoPlace : K.lookup fi_NoPlace = some ⟨oci_NoPlace, odi_NoPlace, .func (PySem.W.fnOf "__init__" "NoPlace.__init__" (defArgs si_NoPlace) (defBody si_NoPlace) (defScope si_NoPlace) .none kVi_NoPlace dci_NoPlace pmi_NoPlace ani_NoPlace cdi_NoPlace cti_NoPlace), sli_NoPlace⟩)
    (di_NoPlace : PySem.W.codeIn K cdi_NoPlace "NoPlace.__init__" = true)
    (ki_NoPlace : PySem.W.keepIn K (.ref fi_NoPlace) = true)
    (xl_NoThing : K.lookup A_NoThing = some (excClassObj nm_NoThing q_NoThing A_NoThing N_NoThing bs_NoThing [.ref A_HeirError, .type "ValueError", .type "Exception", .type "BaseException", .type "object"] true sn_NoThing sub_NoThing ab_NoThing col_NoThing dd_NoThing m0_NoThing m1_NoThing m2_NoThing m3_NoThing m5_NoThing "ValueError.__new__"))
    (sa_NoThing : PySem.W.findIn K (.ref A_NoThing) "__setattr__" = some (some (.builtin "object.__setattr__")))
    (no_NoThing : PySem.W.findIn K (.ref A_NoThing) "name" = some none)
    (ii_NoThing : PySem.W.findIn K (.ref A_NoThing) "__init__" = some (some (.ref fi_NoThing)))
    (ti_NoThing : PySem.W.typeIn K (.ref fi_NoThing) = some (.type "function"))
    (li_NoThing : K.lookup fi_NoThing = some ⟨oci_NoThing, odi_NoThing, .func (PySem.W.fnOf "__init__" "NoThing.__init__" (defArgs si_NoThing) (defBody si_NoThing) (defScope si_NoThing) .none kVi_NoThing dci_NoThing pmi_NoThing ani_NoThing cdi_NoThing cti_NoThing), sli_NoThing⟩)
    (di_NoThing : PySem.W.codeIn K cdi_NoThing "NoThing.__init__" = true)
    (ki_NoThing : PySem.W.keepIn K (.ref fi_NoThing) = true)
    (t_Known : isTabB K [A_HeirError, A_Known, A_NoPlace, A_NoThing] (.ref A_Known) tblL_Known = true)
    (t_NoPlace : isTabB K [A_HeirError, A_Known, A_NoPlace, A_NoThing] (.ref A_NoPlace) tblL_NoPlace = true)
    (t_ValueError : isTabB K [A_HeirError, A_Known, A_NoPlace, A_NoThing] (.type "ValueError") tblL_ValueError = true)
    (v_Known : isXB K [A_HeirError, A_Known, A_NoPlace, A_NoThing] (.ref A_Known) tblL_Known = true)
    (v_NoPlace : isXB K [A_HeirError, A_Known, A_NoPlace, A_NoThing] (.ref A_NoPlace) tblL_NoPlace = true)
    (v_NoThing : isXB K [A_HeirError, A_Known, A_NoPlace, A_NoThing] (.ref A_NoThing) tblL_NoThing = true)
    (z_len : PySem.W.nsIn K mainGlobals "len" = some none)
    (z_int : PySem.W.nsIn K mainGlobals "int" = some none)
    (z_abs : PySem.W.nsIn K mainGlobals "abs" = some none)
    (z_list : PySem.W.nsIn K mainGlobals "list" = some none)
    (z_tuple : PySem.W.nsIn K mainGlobals "tuple" = some none)
    (z_range : PySem.W.nsIn K mainGlobals "range" = some none)
    (z_zip : PySem.W.nsIn K mainGlobals "zip" = some none)
    (z_enumerate : PySem.W.nsIn K mainGlobals "enumerate" = some none)
    (z_isinstance : PySem.W.nsIn K mainGlobals "isinstance" = some none)
    (z_str : PySem.W.nsIn K mainGlobals "str" = some none)
    (z_bool : PySem.W.nsIn K mainGlobals "bool" = some none)
    (z_all : PySem.W.nsIn K mainGlobals "all" = some none)
    (z_any : PySem.W.nsIn K mainGlobals "any" = some none)
    (z_sum : PySem.W.nsIn K mainGlobals "sum" = some none)
    (z_min : PySem.W.nsIn K mainGlobals "min" = some none)
    (z_max : PySem.W.nsIn K mainGlobals "max" = some none)
    (z_sorted : PySem.W.nsIn K mainGlobals "sorted" = some none)
    (z_reversed : PySem.W.nsIn K mainGlobals "reversed" = some none)
    (z_ValueError : PySem.W.nsIn K mainGlobals "ValueError" = some none)
    (z_LookupError : PySem.W.nsIn K mainGlobals "LookupError" = some none)
    (z_set : PySem.W.nsIn K mainGlobals "set" = some none)
    : ∃ fd : FuncData, (∀ (s : Shared) (v : Value), BindsTo s fd ⟨[v], []⟩ [("_law_script", v)]) ∧ ∀ base : Heap, K.In base → base.Ns mainGlobals mg → FnOk l.prog w K mg base (L2.CX l.prog w) 12 fa fd ["_law_script"] (spLaw K) := by
  have e := hfa.symm.trans (PySem.W.mg_of X G a_law)
  cases e
  refine ⟨PySem.W.fnOf "law" "law" (defArgs s_law) (defBody s_law) (defScope s_law) .none kV_law dc_law pm_law an_law cd_law ct_law, fun s v => .of_eq rfl, fun base _ _ => ?_⟩
  have Z : Bi mg := ⟨PySem.W.mg_none_of X G z_len, PySem.W.mg_none_of X G z_int, PySem.W.mg_none_of X G z_abs, PySem.W.mg_none_of X G z_list, PySem.W.mg_none_of X G z_tuple, PySem.W.mg_none_of X G z_range, PySem.W.mg_none_of X G z_zip, PySem.W.mg_none_of X G z_enumerate, PySem.W.mg_none_of X G z_isinstance, PySem.W.mg_none_of X G z_str, PySem.W.mg_none_of X G z_bool, PySem.W.mg_none_of X G z_all, PySem.W.mg_none_of X G z_any, PySem.W.mg_none_of X G z_sum, PySem.W.mg_none_of X G z_min, PySem.W.mg_none_of X G z_max, PySem.W.mg_none_of X G z_sorted, PySem.W.mg_none_of X G z_reversed, PySem.W.mg_none_of X G z_ValueError, PySem.W.mg_none_of X G z_LookupError, PySem.W.mg_none_of X G z_set⟩
  have FI_Known := fun_mk (st := si_Known) li_Known di_Known ki_Known
  have o_Known : OexC K A_Known := ⟨⟨_, _, _, _, _, _, _, _, _, _, _, _, _, _, _, xl_Known, rfl⟩, sa_Known, (allErB_ok (fl := [[], ["name"], ["number"], ["name"]]) he 1 (Nat.le_of_ble_eq_true rfl)).x.hs, (allErB_ok (fl := [[], ["name"], ["number"], ["name"]]) he 1 (Nat.le_of_ble_eq_true rfl)).tyC, (allErB_ok (fl := [[], ["name"], ["number"], ["name"]]) he 1 (Nat.le_of_ble_eq_true rfl)).kC⟩
  have I_Known : FnOk l.prog w K mg base CX0 1 fi_Known (PySem.W.fnOf "__init__" "Known.__init__" (defArgs si_Known) (defBody si_Known) (defScope si_Known) .none kVi_Known dci_Known pmi_Known ani_Known cdi_Known cti_Known) ["self", "name"] (spEr A_Known "name") := FI_Known.ok sci_Known er_len fun cdv A outer s H vs Q E hr h => ⟨_, pss_one (ps_ost (pv 0) (pv 1)), er_read o_Known no_Known h⟩
  have e_Known : Er1At l.prog w K mg base (tabOf [A_HeirError, A_Known, A_NoPlace, A_NoThing] [[], ["name"], ["number"], ["name"]]) "Known" "name" 1 := ⟨allErB_ok (fl := [[], ["name"], ["number"], ["name"]]) he 1 (Nat.le_of_ble_eq_true rfl), PySem.W.mg_of X G a_Known, rfl, o_Known, no_Known, _, _, ii_Known, ti_Known, I_Known, FI_Known.binds (ps := ["self", "name"]) (fun _ _ _ _ _ _ us hl => match us, hl with | [_, _], _ => rfl), fun s u v => .of_eq rfl⟩
  have FI_NoPlace := fun_mk (st := si_NoPlace) li_NoPlace di_NoPlace ki_NoPlace
  have o_NoPlace : OexC K A_NoPlace := ⟨⟨_, _, _, _, _, _, _, _, _, _, _, _, _, _, _, xl_NoPlace, rfl⟩, sa_NoPlace, (allErB_ok (fl := [[], ["name"], ["number"], ["name"]]) he 2 (Nat.le_of_ble_eq_true rfl)).x.hs, (allErB_ok (fl := [[], ["name"], ["number"], ["name"]]) he 2 (Nat.le_of_ble_eq_true rfl)).tyC, (allErB_ok (fl := [[], ["name"], ["number"], ["name"]]) he 2 (Nat.le_of_ble_eq_true rfl)).kC⟩
  have I_NoPlace : FnOk l.prog w K mg base CX0 1 fi_NoPlace (PySem.W.fnOf "__init__" "NoPlace.__init__" (defArgs si_NoPlace) (defBody si_NoPlace) (defScope si_NoPlace) .none kVi_NoPlace dci_NoPlace pmi_NoPlace ani_NoPlace cdi_NoPlace cti_NoPlace) ["self", "number"] (spEr A_NoPlace "number") := FI_NoPlace.ok sci_NoPlace er_len fun cdv A outer s H vs Q E hr h => ⟨_, pss_one (ps_ost (pv 0) (pv 1)), er_read o_NoPlace no_NoPlace h⟩
  have e_NoPlace : Er1At l.prog w K mg base (tabOf [A_HeirError, A_Known, A_NoPlace, A_NoThing] [[], ["name"], ["number"], ["name"]]) "NoPlace" "number" 2 := ⟨allErB_ok (fl := [[], ["name"], ["number"], ["name"]]) he 2 (Nat.le_of_ble_eq_true rfl), PySem.W.mg_of X G a_NoPlace, rfl, o_NoPlace, no_NoPlace, _, _, ii_NoPlace, ti_NoPlace, I_NoPlace, FI_NoPlace.binds (ps := ["self", "number"]) (fun _ _ _ _ _ _ us hl => match us, hl with | [_, _], _ => rfl), fun s u v => .of_eq rfl⟩
  have FI_NoThing := fun_mk (st := si_NoThing) li_NoThing di_NoThing ki_NoThing
  have o_NoThing : OexC K A_NoThing := ⟨⟨_, _, _, _, _, _, _, _, _, _, _, _, _, _, _, xl_NoThing, rfl⟩, sa_NoThing, (allErB_ok (fl := [[], ["name"], ["number"], ["name"]]) he 3 (Nat.le_of_ble_eq_true rfl)).x.hs, (allErB_ok (fl := [[], ["name"], ["number"], ["name"]]) he 3 (Nat.le_of_ble_eq_true rfl)).tyC, (allErB_ok (fl := [[], ["name"], ["number"], ["name"]]) he 3 (Nat.le_of_ble_eq_true rfl)).kC⟩
  have I_NoThing : FnOk l.prog w K mg base CX0 1 fi_NoThing (PySem.W.fnOf "__init__" "NoThing.__init__" (defArgs si_NoThing) (defBody si_NoThing) (defScope si_NoThing) .none kVi_NoThing dci_NoThing pmi_NoThing ani_NoThing cdi_NoThing cti_NoThing) ["self", "name"] (spEr A_NoThing "name") := FI_NoThing.ok sci_NoThing er_len fun cdv A outer s H vs Q E hr h => ⟨_, pss_one (ps_ost (pv 0) (pv 1)), er_read o_NoThing no_NoThing h⟩
  have e_NoThing : Er1At l.prog w K mg base (tabOf [A_HeirError, A_Known, A_NoPlace, A_NoThing] [[], ["name"], ["number"], ["name"]]) "NoThing" "name" 3 := ⟨allErB_ok (fl := [[], ["name"], ["number"], ["name"]]) he 3 (Nat.le_of_ble_eq_true rfl), PySem.W.mg_of X G a_NoThing, rfl, o_NoThing, no_NoThing, _, _, ii_NoThing, ti_NoThing, I_NoThing, FI_NoThing.binds (ps := ["self", "name"]) (fun _ _ _ _ _ _ us hl => match us, hl with | [_, _], _ => rfl), fun s u v => .of_eq rfl⟩
  have i_Known : IsAt K mg (tabOf [A_HeirError, A_Known, A_NoPlace, A_NoThing] [[], ["name"], ["number"], ["name"]]) 4 "Known" tbl_Known := ⟨A_Known, PySem.W.mg_of X G a_Known, (isTabB_ok (fl := [[], ["name"], ["number"], ["name"]]) he t_Known)⟩
  have i_NoPlace : IsAt K mg (tabOf [A_HeirError, A_Known, A_NoPlace, A_NoThing] [[], ["name"], ["number"], ["name"]]) 4 "NoPlace" tbl_NoPlace := ⟨A_NoPlace, PySem.W.mg_of X G a_NoPlace, (isTabB_ok (fl := [[], ["name"], ["number"], ["name"]]) he t_NoPlace)⟩
  have i_ValueError : IsTab K (tabOf [A_HeirError, A_Known, A_NoPlace, A_NoThing] [[], ["name"], ["number"], ["name"]]) 4 (.type "ValueError") tbl_ValueError := (isTabB_ok (fl := [[], ["name"], ["number"], ["name"]]) he t_ValueError)
  have x_Known : XAt K mg (tabOf [A_HeirError, A_Known, A_NoPlace, A_NoThing] [[], ["name"], ["number"], ["name"]]) 4 "Known" tbl_Known := ⟨A_Known, PySem.W.mg_of X G a_Known, (isXB_ok (fl := [[], ["name"], ["number"], ["name"]]) v_Known)⟩
  have x_NoPlace : XAt K mg (tabOf [A_HeirError, A_Known, A_NoPlace, A_NoThing] [[], ["name"], ["number"], ["name"]]) 4 "NoPlace" tbl_NoPlace := ⟨A_NoPlace, PySem.W.mg_of X G a_NoPlace, (isXB_ok (fl := [[], ["name"], ["number"], ["name"]]) v_NoPlace)⟩
  have x_NoThing : XAt K mg (tabOf [A_HeirError, A_Known, A_NoPlace, A_NoThing] [[], ["name"], ["number"], ["name"]]) 4 "NoThing" tbl_NoThing := ⟨A_NoThing, PySem.W.mg_of X G a_NoThing, (isXB_ok (fl := [[], ["name"], ["number"], ["name"]]) v_NoThing)⟩
  have F_list_exchanged := fun_mk (st := s_list_exchanged) l_list_exchanged d_list_exchanged k_list_exchanged
  have b_list_exchanged := F_list_exchanged.binds (ps := ["things", "place"]) fun _ _ _ _ _ _ us hl => match us, hl with | [_, _], _ => rfl
  have c_list_exchanged : DefAt l.prog w K mg base (tabOf [A_HeirError, A_Known, A_NoPlace, A_NoThing] [[], ["name"], ["number"], ["name"]]) "list_exchanged" ["things", "place"] 2 3 LW.F_list_exchanged := .of (ok_list_exchanged Z e_NoPlace F_list_exchanged) (PySem.W.mg_of X G a_list_exchanged) F_list_exchanged.kp b_list_exchanged
  have ck_list_exchanged_place_things : DefAtK l.prog w K mg base (tabOf [A_HeirError, A_Known, A_NoPlace, A_NoThing] [[], ["name"], ["number"], ["name"]]) "list_exchanged" ["things", "place"] ["place", "things"] 0 [1, 0] 2 3 LW.F_list_exchanged := .of (ok_list_exchanged Z e_NoPlace F_list_exchanged) (PySem.W.mg_of X G a_list_exchanged) F_list_exchanged.kp (fun s us ws hu hw => match us, ws, hu, hw with | [], [z0, z1], _, _ => .of_eq rfl) (by decide)
  have F_thing_put := fun_mk (st := s_thing_put) l_thing_put d_thing_put k_thing_put
  have b_thing_put := F_thing_put.binds (ps := ["things", "place", "name"]) fun _ _ _ _ _ _ us hl => match us, hl with | [_, _, _], _ => rfl
  have c_thing_put : DefAt l.prog w K mg base (tabOf [A_HeirError, A_Known, A_NoPlace, A_NoThing] [[], ["name"], ["number"], ["name"]]) "thing_put" ["things", "place", "name"] 3 3 LW.F_thing_put := .of (ok_thing_put Z e_Known e_NoPlace F_thing_put) (PySem.W.mg_of X G a_thing_put) F_thing_put.kp b_thing_put
  have ck_thing_put_name_place_things : DefAtK l.prog w K mg base (tabOf [A_HeirError, A_Known, A_NoPlace, A_NoThing] [[], ["name"], ["number"], ["name"]]) "thing_put" ["things", "place", "name"] ["name", "place", "things"] 0 [2, 1, 0] 3 3 LW.F_thing_put := .of (ok_thing_put Z e_Known e_NoPlace F_thing_put) (PySem.W.mg_of X G a_thing_put) F_thing_put.kp (fun s us ws hu hw => match us, ws, hu, hw with | [], [z0, z1, z2], _, _ => .of_eq rfl) (by decide)
  have F_check_things := fun_mk (st := s_check_things) l_check_things d_check_things k_check_things
  have b_check_things := F_check_things.binds (ps := ["order", "names"]) fun _ _ _ _ _ _ us hl => match us, hl with | [_, _], _ => rfl
  have c_check_things : DefAt l.prog w K mg base (tabOf [A_HeirError, A_Known, A_NoPlace, A_NoThing] [[], ["name"], ["number"], ["name"]]) "check_things" ["order", "names"] 2 3 LW.F_check_things := .of (ok_check_things Z e_NoThing F_check_things) (PySem.W.mg_of X G a_check_things) F_check_things.kp b_check_things
  have F_without := fun_mk (st := s_without) l_without d_without k_without
  have b_without := F_without.binds (ps := ["order", "name"]) fun _ _ _ _ _ _ us hl => match us, hl with | [_, _], _ => rfl
  have c_without : DefAt l.prog w K mg base (tabOf [A_HeirError, A_Known, A_NoPlace, A_NoThing] [[], ["name"], ["number"], ["name"]]) "without" ["order", "name"] 2 1 LW.F_without := .of (ok_without Z F_without) (PySem.W.mg_of X G a_without) F_without.kp b_without
  have F_thing_left_out := fun_mk (st := s_thing_left_out) l_thing_left_out d_thing_left_out k_thing_left_out
  have b_thing_left_out := F_thing_left_out.binds (ps := ["things", "name"]) fun _ _ _ _ _ _ us hl => match us, hl with | [_, _], _ => rfl
  have c_thing_left_out : DefAt l.prog w K mg base (tabOf [A_HeirError, A_Known, A_NoPlace, A_NoThing] [[], ["name"], ["number"], ["name"]]) "thing_left_out" ["things", "name"] 2 4 LW.F_thing_left_out := .of (ok_thing_left_out Z c_check_things c_without F_thing_left_out) (PySem.W.mg_of X G a_thing_left_out) F_thing_left_out.kp b_thing_left_out
  have ck_thing_left_out_name_things : DefAtK l.prog w K mg base (tabOf [A_HeirError, A_Known, A_NoPlace, A_NoThing] [[], ["name"], ["number"], ["name"]]) "thing_left_out" ["things", "name"] ["name", "things"] 0 [1, 0] 2 4 LW.F_thing_left_out := .of (ok_thing_left_out Z c_check_things c_without F_thing_left_out) (PySem.W.mg_of X G a_thing_left_out) F_thing_left_out.kp (fun s us ws hu hw => match us, ws, hu, hw with | [], [z0, z1], _, _ => .of_eq rfl) (by decide)
  have F_law_heard := fun_mk (st := s_law_heard) l_law_heard d_law_heard k_law_heard
  have b_law_heard := F_law_heard.binds (ps := ["_law_door", "_law_likes_so", "_law_spot", "_law_own"]) fun _ _ _ _ _ _ us hl => match us, hl with | [_, _, _, _], _ => rfl
  have c_law_heard : DefAt l.prog w K mg base (tabOf [A_HeirError, A_Known, A_NoPlace, A_NoThing] [[], ["name"], ["number"], ["name"]]) "_law_heard" ["_law_door", "_law_likes_so", "_law_spot", "_law_own"] 4 5 LW.F_law_heard := .of (ok_law_heard Z c_list_exchanged c_thing_put c_thing_left_out e_Known e_NoPlace e_NoThing i_Known i_NoPlace i_ValueError x_Known x_NoPlace x_NoThing F_law_heard) (PySem.W.mg_of X G a_law_heard) F_law_heard.kp b_law_heard
  have F_law_same := fun_mk (st := s_law_same) l_law_same d_law_same k_law_same
  have b_law_same := F_law_same.binds (ps := ["_law_got", "_law_due_here"]) fun _ _ _ _ _ _ us hl => match us, hl with | [_, _], _ => rfl
  have c_law_same : DefAt l.prog w K mg base (tabOf [A_HeirError, A_Known, A_NoPlace, A_NoThing] [[], ["name"], ["number"], ["name"]]) "_law_same" ["_law_got", "_law_due_here"] 2 9 (LW.F_law_same 8) := .of (ok_law_same Z F_law_same b_law_same (PySem.W.mg_of X G a_law_same) 8) (PySem.W.mg_of X G a_law_same) F_law_same.kp b_law_same
  have F_in_one_alone := fun_mk (st := s_in_one_alone) l_in_one_alone d_in_one_alone k_in_one_alone
  have b_in_one_alone := F_in_one_alone.binds (ps := ["one", "other"]) fun _ _ _ _ _ _ us hl => match us, hl with | [_, _], _ => rfl
  have c_in_one_alone : DefAt l.prog w K mg base (tabOf [A_HeirError, A_Known, A_NoPlace, A_NoThing] [[], ["name"], ["number"], ["name"]]) "_in_one_alone" ["one", "other"] 2 1 LW.F_in_one_alone := .of (ok_in_one_alone Z F_in_one_alone) (PySem.W.mg_of X G a_in_one_alone) F_in_one_alone.kp b_in_one_alone
  have F_share_change := fun_mk (st := s_share_change) l_share_change d_share_change k_share_change
  have b_share_change := F_share_change.binds (ps := ["before", "after"]) fun _ _ _ _ _ _ us hl => match us, hl with | [_, _], _ => rfl
  have c_share_change : DefAt l.prog w K mg base (tabOf [A_HeirError, A_Known, A_NoPlace, A_NoThing] [[], ["name"], ["number"], ["name"]]) "share_change" ["before", "after"] 2 2 LW.F_share_change := .of (ok_share_change Z c_in_one_alone F_share_change) (PySem.W.mg_of X G a_share_change) F_share_change.kp b_share_change
  have ck_share_change_after_before : DefAtK l.prog w K mg base (tabOf [A_HeirError, A_Known, A_NoPlace, A_NoThing] [[], ["name"], ["number"], ["name"]]) "share_change" ["before", "after"] ["after", "before"] 0 [1, 0] 2 2 LW.F_share_change := .of (ok_share_change Z c_in_one_alone F_share_change) (PySem.W.mg_of X G a_share_change) F_share_change.kp (fun s us ws hu hw => match us, ws, hu, hw with | [], [z0, z1], _, _ => .of_eq rfl) (by decide)
  have F_law_shares_right := fun_mk (st := s_law_shares_right) l_law_shares_right d_law_shares_right k_law_shares_right
  have b_law_shares_right := F_law_shares_right.binds (ps := []) fun _ _ _ _ _ _ us hl => match us, hl with | [], _ => rfl
  have c_law_shares_right : DefAt l.prog w K mg base (tabOf [A_HeirError, A_Known, A_NoPlace, A_NoThing] [[], ["name"], ["number"], ["name"]]) "_law_shares_right" [] 0 10 LW.F_law_shares_right := .of (ok_law_shares_right Z c_share_change c_list_exchanged c_thing_put c_law_same ck_share_change_after_before F_law_shares_right) (PySem.W.mg_of X G a_law_shares_right) F_law_shares_right.kp b_law_shares_right
  have F_law_by_hand_right := fun_mk (st := s_law_by_hand_right) l_law_by_hand_right d_law_by_hand_right k_law_by_hand_right
  have b_law_by_hand_right := F_law_by_hand_right.binds (ps := []) fun _ _ _ _ _ _ us hl => match us, hl with | [], _ => rfl
  have c_law_by_hand_right : DefAt l.prog w K mg base (tabOf [A_HeirError, A_Known, A_NoPlace, A_NoThing] [[], ["name"], ["number"], ["name"]]) "_law_by_hand_right" [] 0 11 LW.F_law_by_hand_right := .of (ok_law_by_hand_right Z c_law_heard c_thing_put c_list_exchanged c_thing_left_out c_law_same c_law_shares_right ck_list_exchanged_place_things ck_thing_left_out_name_things ck_thing_put_name_place_things F_law_by_hand_right) (PySem.W.mg_of X G a_law_by_hand_right) F_law_by_hand_right.kp b_law_by_hand_right
  have F_law_cells := fun_mk (st := s_law_cells) l_law_cells d_law_cells k_law_cells
  have b_law_cells := F_law_cells.binds (ps := ["_law_script", "_law_top_so"]) fun _ _ _ _ _ _ us hl => match us, hl with | [_, _], _ => rfl
  have c_law_cells : DefAt l.prog w K mg base (tabOf [A_HeirError, A_Known, A_NoPlace, A_NoThing] [[], ["name"], ["number"], ["name"]]) "_law_cells" ["_law_script", "_law_top_so"] 2 1 LW.F_law_cells := .of (ok_law_cells Z F_law_cells) (PySem.W.mg_of X G a_law_cells) F_law_cells.kp b_law_cells
  have F_law_take := fun_mk (st := s_law_take) l_law_take d_law_take k_law_take
  have b_law_take := F_law_take.binds (ps := ["_law_box_here", "_law_size_so"]) fun _ _ _ _ _ _ us hl => match us, hl with | [_, _], _ => rfl
  have c_law_take : DefAt l.prog w K mg base (tabOf [A_HeirError, A_Known, A_NoPlace, A_NoThing] [[], ["name"], ["number"], ["name"]]) "_law_take" ["_law_box_here", "_law_size_so"] 2 1 LW.F_law_take := .of (ok_law_take Z F_law_take) (PySem.W.mg_of X G a_law_take) F_law_take.kp b_law_take
  have F_law_pick := fun_mk (st := s_law_pick) l_law_pick d_law_pick k_law_pick
  have b_law_pick := F_law_pick.binds (ps := ["_law_box_here", "_law_goods_so", "_law_count_so"]) fun _ _ _ _ _ _ us hl => match us, hl with | [_, _, _], _ => rfl
  have c_law_pick : DefAt l.prog w K mg base (tabOf [A_HeirError, A_Known, A_NoPlace, A_NoThing] [[], ["name"], ["number"], ["name"]]) "_law_pick" ["_law_box_here", "_law_goods_so", "_law_count_so"] 3 2 LW.F_law_pick := .of (ok_law_pick Z c_law_take F_law_pick) (PySem.W.mg_of X G a_law_pick) F_law_pick.kp b_law_pick
  have F_law_likes := fun_mk (st := s_law_likes) l_law_likes d_law_likes k_law_likes
  have b_law_likes := F_law_likes.binds (ps := ["_law_box_here", "_law_many_so"]) fun _ _ _ _ _ _ us hl => match us, hl with | [_, _], _ => rfl
  have c_law_likes : DefAt l.prog w K mg base (tabOf [A_HeirError, A_Known, A_NoPlace, A_NoThing] [[], ["name"], ["number"], ["name"]]) "_law_likes" ["_law_box_here", "_law_many_so"] 2 3 LW.F_law_likes := .of (ok_law_likes Z c_law_pick F_law_likes) (PySem.W.mg_of X G a_law_likes) F_law_likes.kp b_law_likes
  have F_law_of := fun_mk (st := s_law_of) l_law_of d_law_of k_law_of
  have b_law_of := F_law_of.binds (ps := ["_law_box_here", "_law_goods_so"]) fun _ _ _ _ _ _ us hl => match us, hl with | [_, _], _ => rfl
  have c_law_of : DefAt l.prog w K mg base (tabOf [A_HeirError, A_Known, A_NoPlace, A_NoThing] [[], ["name"], ["number"], ["name"]]) "_law_of" ["_law_box_here", "_law_goods_so"] 2 2 LW.F_law_of := .of (ok_law_of Z c_law_take F_law_of) (PySem.W.mg_of X G a_law_of) F_law_of.kp b_law_of
  have F_law_due := fun_mk (st := s_law_due) l_law_due d_law_due k_law_due
  have b_law_due := F_law_due.binds (ps := ["_law_door", "_law_likes_so", "_law_spot", "_law_own"]) fun _ _ _ _ _ _ us hl => match us, hl with | [_, _, _, _], _ => rfl
  have c_law_due : DefAt l.prog w K mg base (tabOf [A_HeirError, A_Known, A_NoPlace, A_NoThing] [[], ["name"], ["number"], ["name"]]) "_law_due" ["_law_door", "_law_likes_so", "_law_spot", "_law_own"] 4 1 LW.F_law_due := .of (ok_law_due Z F_law_due) (PySem.W.mg_of X G a_law_due) F_law_due.kp b_law_due
  have F_law_right := fun_mk (st := s_law_right) l_law_right d_law_right k_law_right
  have b_law_right := F_law_right.binds (ps := ["_law_box_here"]) fun _ _ _ _ _ _ us hl => match us, hl with | [_], _ => rfl
  have c_law_right : DefAt l.prog w K mg base (tabOf [A_HeirError, A_Known, A_NoPlace, A_NoThing] [[], ["name"], ["number"], ["name"]]) "_law_right" ["_law_box_here"] 1 10 LW.F_law_right := .of (ok_law_right Z c_law_take c_law_likes c_law_of c_law_heard c_law_due c_law_same c_law_pick c_share_change F_law_right) (PySem.W.mg_of X G a_law_right) F_law_right.kp b_law_right
  have F_law_box := fun_mk (st := s_law_box) l_law_box d_law_box k_law_box
  have b_law_box := F_law_box.binds (ps := ["_law_script", "_law_k"]) fun _ _ _ _ _ _ us hl => match us, hl with | [_, _], _ => rfl
  have c_law_box : DefAt l.prog w K mg base (tabOf [A_HeirError, A_Known, A_NoPlace, A_NoThing] [[], ["name"], ["number"], ["name"]]) "_law_box" ["_law_script", "_law_k"] 2 1 LW.F_law_box := .of (ok_law_box Z F_law_box) (PySem.W.mg_of X G a_law_box) F_law_box.kp b_law_box
  have F_law := fun_mk (st := s_law) l_law d_law k_law
  exact law_ok (ok_law (T := (tabOf [A_HeirError, A_Known, A_NoPlace, A_NoThing] [[], ["name"], ["number"], ["name"]])) Z c_law_by_hand_right c_law_cells c_law_right c_law_box F_law) fun ns _ => LW.law_true ns
end LW

set_option maxHeartbeats 4000000
open PySem PySem.W PyProof.Rows
set_option maxHeartbeats 0 in
theorem PySem.Challenge.cw_heirturns_k37_lists_that_are_changed_holds : PySem.Challenge.rw_heirturns_k37_lists_that_are_changed.Holds := by
  w_on; o_law; k_head; (case hw => w_witness2)
  k_fill
  refine L2.walk_of (l := PySem.Challenge.rw_heirturns_k37_lists_that_are_changed) (n := 63) (k := 12) (x := "_law_script") (CX := fun w => L2.CX PySem.Challenge.rw_heirturns_k37_lists_that_are_changed.prog w) (sp := fun w => DL.spLaw _) rfl (by decide) rfl ⟨rfl, by decide, by decide⟩ (fun w h Y => PySem.W.kIn_of Y) ?F (fun _ _ a ns hl _ hS => ⟨a, ns, rfl, hS, hl, fun _ => rfl⟩) (fun (_ : World) (_ : L2.Hp) (_ : Shared) (_ : Value) (_ : Shared) h => by obtain ⟨_, _, _, _, _, _, _, _, _, _, _, _, h⟩ := h; exact h)
  case F =>
    intro w mg fa h KX G hmg
    refine' LW.all_mk KX G hmg ?a_list_exchanged ?l_list_exchanged ?d_list_exchanged ?k_list_exchanged ?a_thing_put ?l_thing_put ?d_thing_put ?k_thing_put ?a_check_things ?l_check_things ?d_check_things ?k_check_things ?a_without ?l_without ?d_without ?k_without ?a_thing_left_out ?l_thing_left_out ?d_thing_left_out ?k_thing_left_out ?a_law_heard ?l_law_heard ?d_law_heard ?k_law_heard ?a_law_same ?l_law_same ?d_law_same ?k_law_same ?a_in_one_alone ?l_in_one_alone ?d_in_one_alone ?k_in_one_alone ?a_share_change ?l_share_change ?d_share_change ?k_share_change ?a_law_shares_right ?l_law_shares_right ?d_law_shares_right ?k_law_shares_right ?a_law_by_hand_right ?l_law_by_hand_right ?d_law_by_hand_right ?k_law_by_hand_right ?a_law_cells ?l_law_cells ?d_law_cells ?k_law_cells ?a_law_take ?l_law_take ?d_law_take ?k_law_take ?a_law_pick ?l_law_pick ?d_law_pick ?k_law_pick ?a_law_likes ?l_law_likes ?d_law_likes ?k_law_likes ?a_law_of ?l_law_of ?d_law_of ?k_law_of ?a_law_due ?l_law_due ?d_law_due ?k_law_due ?a_law_right ?l_law_right ?d_law_right ?k_law_right ?a_law_box ?l_law_box ?d_law_box ?k_law_box ?a_law ?l_law ?d_law ?k_law ?a_HeirError ?a_Known ?a_NoPlace ?a_NoThing ?he ?xl_Known ?sa_Known ?no_Known ?ii_Known ?ti_Known ?li_Known ?di_Known ?ki_Known ?xl_NoPlace ?sa_NoPlace ?no_NoPlace ?ii_NoPlace ?ti_NoPlace ?li_NoPlace ?di_NoPlace ?ki_NoPlace ?xl_NoThing ?sa_NoThing ?no_NoThing ?ii_NoThing ?ti_NoThing ?li_NoThing ?di_NoThing ?ki_NoThing ?t_Known ?t_NoPlace ?t_ValueError ?v_Known ?v_NoPlace ?v_NoThing ?z_len ?z_int ?z_abs ?z_list ?z_tuple ?z_range ?z_zip ?z_enumerate ?z_isinstance ?z_str ?z_bool ?z_all ?z_any ?z_sum ?z_min ?z_max ?z_sorted ?z_reversed ?z_ValueError ?z_LookupError ?z_set
    (case a_list_exchanged => k_is)
    (case l_list_exchanged => k_is)
    (case d_list_exchanged => k_is)
    (case k_list_exchanged => k_is)
    (case a_thing_put => k_is)
    (case l_thing_put => k_is)
    (case d_thing_put => k_is)
    (case k_thing_put => k_is)
    (case a_check_things => k_is)
    (case l_check_things => k_is)
    (case d_check_things => k_is)
    (case k_check_things => k_is)
    (case a_without => k_is)
    (case l_without => k_is)
    (case d_without => k_is)
    (case k_without => k_is)
    (case a_thing_left_out => k_is)
    (case l_thing_left_out => k_is)
    (case d_thing_left_out => k_is)
    (case k_thing_left_out => k_is)
    (case a_law_heard => k_is)
    (case l_law_heard => k_is)
    (case d_law_heard => k_is)
    (case k_law_heard => k_is)
    (case a_law_same => k_is)
    (case l_law_same => k_is)
    (case d_law_same => k_is)
    (case k_law_same => k_is)
    (case a_in_one_alone => k_is)
    (case l_in_one_alone => k_is)
    (case d_in_one_alone => k_is)
    (case k_in_one_alone => k_is)
    (case a_share_change => k_is)
    (case l_share_change => k_is)
    (case d_share_change => k_is)
    (case k_share_change => k_is)
    (case a_law_shares_right => k_is)
    (case l_law_shares_right => k_is)
    (case d_law_shares_right => k_is)
    (case k_law_shares_right => k_is)
    (case a_law_by_hand_right => k_is)
    (case l_law_by_hand_right => k_is)
    (case d_law_by_hand_right => k_is)
    (case k_law_by_hand_right => k_is)
    (case a_law_cells => k_is)
    (case l_law_cells => k_is)
    (case d_law_cells => k_is)
    (case k_law_cells => k_is)
    (case a_law_take => k_is)
    (case l_law_take => k_is)
    (case d_law_take => k_is)
    (case k_law_take => k_is)
    (case a_law_pick => k_is)
    (case l_law_pick => k_is)
    (case d_law_pick => k_is)
    (case k_law_pick => k_is)
    (case a_law_likes => k_is)
    (case l_law_likes => k_is)
    (case d_law_likes => k_is)
    (case k_law_likes => k_is)
    (case a_law_of => k_is)
    (case l_law_of => k_is)
    (case d_law_of => k_is)
    (case k_law_of => k_is)
    (case a_law_due => k_is)
    (case l_law_due => k_is)
    (case d_law_due => k_is)
    (case k_law_due => k_is)
    (case a_law_right => k_is)
    (case l_law_right => k_is)
    (case d_law_right => k_is)
    (case k_law_right => k_is)
    (case a_law_box => k_is)
    (case l_law_box => k_is)
    (case d_law_box => k_is)
    (case k_law_box => k_is)
    (case a_law => k_is)
    (case l_law => k_is)
    (case d_law => k_is)
    (case k_law => k_is)
    (case a_HeirError => k_is)
    (case a_Known => k_is)
    (case a_NoPlace => k_is)
    (case a_NoThing => k_is)
    (case he => kernel_rfl)
    (case xl_Known => k_is)
    (case sa_Known => k_is)
    (case no_Known => k_is)
    (case ii_Known => k_is)
    (case ti_Known => k_is)
    (case li_Known => k_is)
    (case di_Known => k_is)
    (case ki_Known => k_is)
    (case xl_NoPlace => k_is)
    (case sa_NoPlace => k_is)
    (case no_NoPlace => k_is)
    (case ii_NoPlace => k_is)
    (case ti_NoPlace => k_is)
    (case li_NoPlace => k_is)
    (case di_NoPlace => k_is)
    (case ki_NoPlace => k_is)
    (case xl_NoThing => k_is)
    (case sa_NoThing => k_is)
    (case no_NoThing => k_is)
    (case ii_NoThing => k_is)
    (case ti_NoThing => k_is)
    (case li_NoThing => k_is)
    (case di_NoThing => k_is)
    (case ki_NoThing => k_is)
    (case t_Known => kernel_rfl)
    (case t_NoPlace => kernel_rfl)
    (case t_ValueError => kernel_rfl)
    (case v_Known => kernel_rfl)
    (case v_NoPlace => kernel_rfl)
    (case v_NoThing => kernel_rfl)
    (case z_len => k_is)
    (case z_int => k_is)
    (case z_abs => k_is)
    (case z_list => k_is)
    (case z_tuple => k_is)
    (case z_range => k_is)
    (case z_zip => k_is)
    (case z_enumerate => k_is)
    (case z_isinstance => k_is)
    (case z_str => k_is)
    (case z_bool => k_is)
    (case z_all => k_is)
    (case z_any => k_is)
    (case z_sum => k_is)
    (case z_min => k_is)
    (case z_max => k_is)
    (case z_sorted => k_is)
    (case z_reversed => k_is)
    (case z_ValueError => k_is)
    (case z_LookupError => k_is)
    (case z_set => k_is)

