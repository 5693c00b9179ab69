import PyProof.Rows.All
import HandS.ForMost
import HandS.ForExc
import HandS.Flow
import HandS.Wide
import HandS.CallSlots
import HandS.TupAny
import HandS.IsInst
import HandS.ExcOwn
import HandS.Zip
import HandS.TryMany
import HandS.NoneIn
import HandS.FStr
import HandS.Text
import HandS.ExcInit
import HandS.ExcValue
import HandS.ExcField
import HandS.ExcIs
import HandS.Small
import KE.KExcIs
import HandS.Style
import HandS.Property
import HandS.More
import PyProof.TupleOfSeq
import KE.GoesMore
import PyProof.StrBlock2
import OpenK.KMeth
import OpenK.KDescr
import HandS.ClsMeth
import HandS.Defaults
import PyProof.ListRange
import KE.KTryMore
import HandS.SetFor
import PySem.Challenge.RW_heirturns_k12_which_turns_stand_above_wh
set_option Elab.async false
set_option linter.all false
set_option maxRecDepth 100000
/-! DLa: values as data: what a piece of the program does, said by a function over data (no heap). -/
namespace DL
open PySem PySem.Spec PyProof.Rows L2

/-- data: what a value is, without addresses -/
inductive D where
  | non | bl (b : Bool) | int (i : Int) | str (x : Str)
  | ls (xs : List D) | tu (xs : List D) | ro (xs : List Int) | box
  | ob (c : Nat) (fs : List D) | er (c : Nat) (fs : List D)
  deriving Inhabited

/-- own classes by number: where the class stands, the names of its fields -/
structure Tab where
  C : Nat → Addr
  fld : Nat → List Str

/-- an exception of the class at C, its dict -/
def exV (a C : Addr) (d : Option Addr) : HO := .ext fun h => ∃ (oe : Obj) (vs : Array Value), h.get? a = some oe ∧ oe.cls = .ref C ∧ oe.dict = d ∧ oe.data = .fields vs
mutual
inductive Rep (K : PySem.W.Frag) (T : Tab) (B : Option Addr) (G : Hp) : V → D → Prop
  | non : Rep K T B G .non .non
  | bl (b : Bool) : Rep K T B G (.bl b) (.bl b)
  | int (i : Int) : Rep K T B G (.int i) (.int i)
  | str (x : Str) : Rep K T B G (.str x) (.str x)
  | ls {a : Addr} {xs : List V} {ds : List D} (h : G a = some (.lst xs)) (r : Reps K T B G xs ds) : Rep K T B G (.ref a) (.ls ds)
  | tu {a : Addr} {xs : List V} {ds : List D} (h : SqT K G a xs) (r : Reps K T B G xs ds) : Rep K T B G (.ref a) (.tu ds)
  | ro {a : Addr} {ns : List Int} (h : SqL K G a (ns.map V.int)) : Rep K T B G (.ref a) (.ro ns)
  | box {p : Addr} (h : B = some p) : Rep K T B G (.ref p) .box
  | ob {a dx : Addr} {c : Nat} {vs : List V} {fs : List D} (h : G a = some (.ins (T.C c) dx ((T.fld c).zip vs))) (l : vs.length = (T.fld c).length) (r : Reps K T B G vs fs) : Rep K T B G (.ref a) (.ob c fs)
  | er0 {a : Addr} {c : Nat} (h : G a = some (exV a (T.C c) none)) (hn : T.fld c = []) : Rep K T B G (.ref a) (.er c [])
  | er1 {a d : Addr} {c : Nat} {nm : Str} {v : V} {f : D} (h : G a = some (exV a (T.C c) (some d))) (hn : T.fld c = [nm]) (hd : G d = some (.xd [(nm, v)])) (r : Rep K T B G v f) : Rep K T B G (.ref a) (.er c [f])
inductive Reps (K : PySem.W.Frag) (T : Tab) (B : Option Addr) (G : Hp) : List V → List D → Prop
  | nil : Reps K T B G [] []
  | cons {v : V} {d : D} {vs : List V} {ds : List D} (h : Rep K T B G v d) (r : Reps K T B G vs ds) : Reps K T B G (v :: vs) (d :: ds)
end

section
variable {K : PySem.W.Frag} {T : Tab} {B : Option Addr} {G G' H H' : Hp}
theorem Same.sqt {a : Addr} {xs : List V} (e : Same G G') (h : SqT K G a xs) : SqT K G' a xs := by
  rcases h with (h | ⟨o, h⟩) | h
  · exact .inl (.inl (e _ _ h))
  · exact .inl (.inr ⟨o, e _ _ h⟩)
  · exact .inr h
mutual
theorem Rep.mono (e : Same G G') : ∀ {v : V} {d : D}, Rep K T B G v d → Rep K T B G' v d
  | _, _, .non => .non
  | _, _, .bl b => .bl b
  | _, _, .int i => .int i
  | _, _, .str x => .str x
  | _, _, .ls h r => .ls (e _ _ h) (Reps.mono e r)
  | _, _, .tu h r => .tu (Same.sqt e h) (Reps.mono e r)
  | _, _, .ro h => .ro (e.seq h)
  | _, _, .box h => .box h
  | _, _, .ob h l r => .ob (e _ _ h) l (Reps.mono e r)
  | _, _, .er0 h n => .er0 (e _ _ h) n
  | _, _, .er1 h n d r => .er1 (e _ _ h) n (e _ _ d) (Rep.mono e r)
theorem Reps.mono (e : Same G G') : ∀ {vs : List V} {ds : List D}, Reps K T B G vs ds → Reps K T B G' vs ds
  | _, _, .nil => .nil
  | _, _, .cons h r => .cons (Rep.mono e h) (Reps.mono e r)
end
theorem Reps.length : ∀ {vs : List V} {ds : List D}, Reps K T B G vs ds → vs.length = ds.length
  | _, _, .nil => rfl
  | _, _, .cons _ r => congrArg (· + 1) r.length
theorem Reps.get : ∀ {vs : List V} {ds : List D} {i : Nat} {v : V}, Reps K T B G vs ds → vs[i]? = some v → ∃ d, ds[i]? = some d ∧ Rep K T B G v d
  | _, _, _, _, .nil, e => by simp at e
  | _, _, 0, _, .cons h _, e => by simp at e; subst e; exact ⟨_, rfl, h⟩
  | _, _, i + 1, v, .cons _ r, e => by
    obtain ⟨d, h1, h2⟩ := Reps.get (i := i) (v := v) r (by simpa using e)
    exact ⟨d, by simpa using h1, h2⟩
theorem Reps.get' : ∀ {vs : List V} {ds : List D} {i : Nat} {d : D}, Reps K T B G vs ds → ds[i]? = some d → ∃ v, vs[i]? = some v ∧ Rep K T B G v d
  | _, _, _, _, .nil, e => by simp at e
  | _, _, 0, _, .cons h _, e => by simp at e; subst e; exact ⟨_, rfl, h⟩
  | _, _, i + 1, d, .cons _ r, e => by
    obtain ⟨v, h1, h2⟩ := Reps.get' (i := i) (d := d) r (by simpa using e)
    exact ⟨v, by simpa using h1, h2⟩
theorem Reps.append : ∀ {vs : List V} {ds : List D} {ws : List V} {es : List D}, Reps K T B G vs ds → Reps K T B G ws es → Reps K T B G (vs ++ ws) (ds ++ es)
  | _, _, _, _, .nil, q => q
  | _, _, _, _, .cons h r, q => .cons h (Reps.append r q)
theorem Reps.set {v : V} {d : D} (h : Rep K T B G v d) : ∀ {vs : List V} {ds : List D} (i : Nat), Reps K T B G vs ds → Reps K T B G (vs.set i v) (ds.set i d)
  | _, _, _, .nil => .nil
  | _, _, 0, .cons _ r => .cons h r
  | _, _, i + 1, .cons q r => .cons q (Reps.set h i r)
theorem Reps.take : ∀ {vs : List V} {ds : List D} (n : Nat), Reps K T B G vs ds → Reps K T B G (vs.take n) (ds.take n)
  | _, _, 0, _ => .nil
  | _, _, _ + 1, .nil => .nil
  | _, _, n + 1, .cons h r => .cons h (Reps.take n r)
theorem Reps.drop : ∀ {vs : List V} {ds : List D} (n : Nat), Reps K T B G vs ds → Reps K T B G (vs.drop n) (ds.drop n)
  | _, _, 0, r => r
  | _, _, _ + 1, .nil => .nil
  | _, _, n + 1, .cons _ r => Reps.drop n r
theorem Reps.eraseIdx : ∀ {vs : List V} {ds : List D} (n : Nat), Reps K T B G vs ds → Reps K T B G (vs.eraseIdx n) (ds.eraseIdx n)
  | _, _, _, .nil => .nil
  | _, _, 0, .cons _ r => r
  | _, _, n + 1, .cons h r => .cons h (Reps.eraseIdx n r)
theorem Reps.one {v : V} {d : D} (h : Rep K T B G v d) : Reps K T B G [v] [d] := .cons h .nil
end

/-! ### the state -/
abbrev SV := List (Option V)
abbrev Bx := Int × Int × Int
def boxO (b : Bx) : HO := .lst [.int b.1, .int b.2.1, .int b.2.2]
inductive Sl where
  | un | val (d : D) | own (ds : List D)
structure S where
  env : List Sl
  bx : Bx
/-- what is fixed while a body runs: where the box is; the entry's heaps -/
structure Ctx where
  B : Option Addr
  H0 : Hp
  G0 : Hp

def SlotOk (K : PySem.W.Frag) (T : Tab) (c : Ctx) (G H : Hp) (x : Option (Option V)) : Sl → Prop
  | .un => True
  | .val d => ∃ v, x = some (some v) ∧ Rep K T c.B G v d
  | .own ds => ∃ p vs, x = some (some (.ref p)) ∧ H p = some (.lst vs) ∧ G p = none ∧ c.H0 p = none ∧ Reps K T c.B G vs ds

structure Holds (K : PySem.W.Frag) (T : Tab) (c : Ctx) (G H : Hp) (σ : SV) (st : S) : Prop where
  sub0 : Same c.G0 G
  sub : Same G H
  new : ∀ a, c.G0 a = none → G a ≠ none → c.H0 a = none
  frame : ∀ a o, c.H0 a = some o → c.B ≠ some a → H a = some o
  len : σ.length = st.env.length
  slot : ∀ (i : Nat) (s : Sl), st.env[i]? = some s → SlotOk K T c G H σ[i]? s
  dist : ∀ (i j : Nat) (p : Addr) (ds es : List D), st.env[i]? = some (.own ds) → st.env[j]? = some (.own es) → σ[i]? = some (some (.ref p)) → σ[j]? = some (some (.ref p)) → i = j
  box : ∀ p, c.B = some p → H p = some (boxO st.bx) ∧ G p = none
  box0 : ∀ p, c.B = some p → c.H0 p ≠ none

section
variable {K : PySem.W.Frag} {T : Tab} {c : Ctx} {G G' H H' : Hp} {σ : SV} {st : S}
theorem Holds.h0 (h : Holds K T c G H σ st) {p : Addr} (e : H p = none) : c.H0 p = none := by
  cases q : c.H0 p with
  | none => rfl
  | some o =>
    by_cases hb : c.B = some p
    · have := (h.box p hb).1; rw [e] at this; cases this
    · have := h.frame p o q hb; rw [e] at this; cases this
theorem SlotOk.grow (s1 : Same G G') (s2 : Same H H') (nw : ∀ a, G a = none → G' a ≠ none → H a = none) {x : Option (Option V)} : ∀ {s : Sl}, SlotOk K T c G H x s → SlotOk K T c G' H' x s
  | .un, _ => trivial
  | .val d, ⟨v, e, r⟩ => ⟨v, e, r.mono s1⟩
  | .own ds, ⟨p, vs, e, h, g, z, r⟩ => by
    refine ⟨p, vs, e, s2 _ _ h, ?_, z, r.mono s1⟩
    cases q : G' p with
    | none => rfl
    | some o => have := nw p g (by rw [q]; exact fun z => by cases z); rw [h] at this; cases this
theorem Holds.grow (h : Holds K T c G H σ st) (s1 : Same G G') (s2 : Same H H') (s3 : Same G' H') (nw : ∀ a, G a = none → G' a ≠ none → H a = none) : Holds K T c G' H' σ st where
  sub0 := h.sub0.trans s1
  sub := s3
  new := fun a e n => by
    cases q : G a with
    | none => exact h.h0 (nw a q n)
    | some o => exact h.new a e (by rw [q]; exact fun z => by cases z)
  frame := fun a o e b => s2 _ _ (h.frame a o e b)
  len := h.len
  slot := fun i s e => (h.slot i s e).grow s1 s2 nw
  dist := h.dist
  box := fun p e => ⟨s2 _ _ (h.box p e).1, by
    cases q : G' p with
    | none => rfl
    | some o => have := nw p (h.box p e).2 (by rw [q]; exact fun z => by cases z); rw [(h.box p e).1] at this; cases this⟩
  box0 := h.box0
theorem same_upd {H : Hp} {p : Addr} {o : HO} (h : H p = none) : Same H (upd H p o) := fun b x e => by
  rw [upd_ne (ne_of_none e h)]; exact e
/-- a new object, known from now on -/
theorem Holds.lay (h : Holds K T c G H σ st) {p : Addr} (o : HO) (n : H p = none) : Holds K T c (upd G p o) (upd H p o) σ st := by
  have gn : G p = none := by
    cases q : G p with
    | none => rfl
    | some u => have := h.sub _ _ q; rw [n] at this; cases this
  refine h.grow (same_upd gn) (same_upd n) (fun a u e => ?_) (fun a e q => ?_)
  · by_cases z : a = p
    · subst z; rw [upd_same] at e ⊢; exact e
    · rw [upd_ne z] at e ⊢; exact h.sub _ _ e
  · by_cases z : a = p
    · subst z; exact n
    · rw [upd_ne z] at q; exact absurd e q
theorem Holds.gnone (h : Holds K T c G H σ st) {p : Addr} (n : H p = none) : G p = none := by
  cases q : G p with
  | none => rfl
  | some u => have := h.sub _ _ q; rw [n] at this; cases this
/-- a new object that nobody needs -/
theorem Holds.lose (h : Holds K T c G H σ st) {p : Addr} (o : HO) (n : H p = none) : Holds K T c G (upd H p o) σ st :=
  h.grow (Same.refl _) (same_upd n) (h.sub.trans (same_upd n)) (fun a e q => absurd e q)
end

/-! ### results -/
/-- an error: its class by number, its values -/
structure Er where
  c : Nat
  fs : List D
inductive R (α : Type) where
  | ok (a : α) (s : S) | err (e : Er) (s : S) | stuck
def R.bind {α β : Type} : R α → (α → S → R β) → R β
  | .ok a s, g => g a s
  | .err e s, _ => .err e s
  | .stuck, _ => .stuck
/-- the error in the heap -/
def ErrAt (K : PySem.W.Frag) (T : Tab) (B : Option Addr) (G H : Hp) (e : Er) (cls : Value) (d : Option Addr) : Prop :=
  cls = .ref (T.C e.c) ∧ match e.fs with
    | [] => d = none ∧ T.fld e.c = []
    | f :: r => r = [] ∧ ∃ dd nm v, d = some dd ∧ T.fld e.c = [nm] ∧ G dd = some (.xd [(nm, v)]) ∧ Rep K T B G v f

abbrev Rel (α β : Type) := Ctx → Hp → Hp → SV → S → β → α → Prop
def GOk {α β : Type} (K : PySem.W.Frag) (T : Tab) (W : WX) (rel : Rel α β) (c : Ctx) (G : Hp) (σ : SV) (r : R α) (Q : β → Hp → Prop) : Prop :=
  match r with
  | .ok a st => ∀ G' H' v, Same G G' → Holds K T c G' H' σ st → rel c G' H' σ st v a → Q v H'
  | .err e st => ∀ G' H' cls d, Same G G' → Holds K T c G' H' σ st → ErrAt K T c.B G' H' e cls d → W cls d σ H'
  | .stuck => False
def gD {α β : Type} (K : PySem.W.Frag) (T : Tab) (W : WX) (rel : Rel α β) (f : S → R α) : SV → Hp → (β → Hp → Prop) → Prop :=
  fun σ H Q => ∃ c G st, Holds K T c G H σ st ∧ GOk K T W rel c G σ (f st) Q
section
variable {K : PySem.W.Frag} {T : Tab} {W : WX} {c : Ctx} {G G' H H' : Hp} {σ : SV} {st : S} {α β γ δ : Type} {rel : Rel α β} {rel2 : Rel γ δ}
theorem GOk.mono {r : R α} {Q : β → Hp → Prop} (s : Same G G') (h : GOk K T W rel c G σ r Q) : GOk K T W rel c G' σ r Q := by
  cases r with
  | ok a st => exact fun G2 H2 v s2 => h G2 H2 v (s.trans s2)
  | err e st => exact fun G2 H2 cls d s2 => h G2 H2 cls d (s.trans s2)
  | stuck => exact h
theorem GOk.imp {r : R α} {Q Q' : β → Hp → Prop} (q : ∀ v H, Q v H → Q' v H) (h : GOk K T W rel c G σ r Q) : GOk K T W rel c G σ r Q' := by
  cases r with
  | ok a st => exact fun G2 H2 v s2 h1 h2 => q _ _ (h G2 H2 v s2 h1 h2)
  | err e st => exact h
  | stuck => exact h
/-- THE STEP: what is asked of (f, then g) is asked of f -/
theorem step {f : S → R α} {g : α → S → R γ} {Q : δ → Hp → Prop} (hd : Holds K T c G H σ st) (ok : GOk K T W rel2 c G σ ((f st).bind g) Q) :
    gD K T W rel f σ H (fun x H1 => ∃ G1 st1 a, Same G G1 ∧ Holds K T c G1 H1 σ st1 ∧ rel c G1 H1 σ st1 x a ∧ GOk K T W rel2 c G1 σ (g a st1) Q) := by
  refine ⟨c, G, st, hd, ?_⟩
  generalize f st = r at ok
  cases r with
  | ok a st1 => exact fun G1 H1 x s h r => ⟨G1, st1, a, s, h, r, GOk.mono s ok⟩
  | err e st1 => exact ok
  | stuck => exact ok
/-- handing back -/
theorem GOk.done {a : α} {v : β} {Q : β → Hp → Prop} (ok : GOk K T W rel c G σ (.ok a st) Q) (s : Same G G') (hd : Holds K T c G' H' σ st) (r : rel c G' H' σ st v a) : Q v H' := ok _ _ _ s hd r
end
abbrev relD (K : PySem.W.Frag) (T : Tab) : Rel D V := fun c G _ _ _ v d => Rep K T c.B G v d
abbrev relB : Rel Bool Bool := fun _ _ _ _ _ b c => b = c
abbrev relA (K : PySem.W.Frag) (T : Tab) : Rel (List D) (List V) := fun c G _ _ _ vs ds => Reps K T c.B G vs ds
abbrev relO : Rel (Option Int) (Option Int) := fun _ _ _ _ _ b c => b = c
/-- a list of one's own: known to nobody else -/
def relF (K : PySem.W.Frag) (T : Tab) : Rel (List D) V := fun c G H σ st v ds => ∃ p vs, v = .ref p ∧ H p = some (.lst vs) ∧ G p = none ∧ c.H0 p = none ∧ Reps K T c.B G vs ds ∧
  ∀ (i : Nat) (es : List D), st.env[i]? = some (.own es) → σ[i]? ≠ some (some (.ref p))
section
variable {K : PySem.W.Frag} {T : Tab} {c : Ctx} {G G' H H' : Hp} {σ : SV} {st : S}
/-- a new list, kept for oneself -/
theorem Holds.fresh (h : Holds K T c G H σ st) {p : Addr} {vs : List V} {ds : List D} (n : H p = none) (r : Reps K T c.B G vs ds) : Holds K T c G (upd H p (.lst vs)) σ st ∧ relF K T c G (upd H p (.lst vs)) σ st (.ref p) ds := by
  refine ⟨h.lose _ n, p, vs, rfl, upd_same, h.gnone n, h.h0 n, r, fun i es e q => ?_⟩
  obtain ⟨p2, vs2, e1, e2, _⟩ := h.slot i _ e
  rw [e1] at q
  cases q
  rw [n] at e2; cases e2
/-- it is closed -/
theorem relF.close {v : V} {ds : List D} (h : Holds K T c G H σ st) (r : relF K T c G H σ st v ds) : ∃ G', Same G G' ∧ Holds K T c G' H σ st ∧ Rep K T c.B G' v (.ls ds) := by
  obtain ⟨p, vs, rfl, hp, g, z, rs, nd⟩ := r
  have sg : Same G (upd G p (.lst vs)) := same_upd g
  refine ⟨upd G p (.lst vs), sg, ?_, .ls upd_same (rs.mono sg)⟩
  exact {
    sub0 := h.sub0.trans sg
    sub := fun a o q => by
      by_cases w : a = p
      · subst w; rw [upd_same] at q; cases q; exact hp
      · rw [upd_ne w] at q; exact h.sub _ _ q
    new := fun a q n => by
      by_cases w : a = p
      · subst w; exact z
      · rw [upd_ne w] at n; exact h.new a q n
    frame := h.frame
    len := h.len
    slot := fun j s q => by
      have o := h.slot j s q
      cases s with
      | un => trivial
      | val d => obtain ⟨v, a, b⟩ := o; exact ⟨v, a, b.mono sg⟩
      | own es =>
        obtain ⟨p2, vs2, a1, a2, a3, a4, a5⟩ := o
        refine ⟨p2, vs2, a1, a2, ?_, a4, a5.mono sg⟩
        have ne : p2 ≠ p := fun t => by subst t; exact nd j es q a1
        rw [upd_ne ne]; exact a3
    dist := h.dist
    box := fun b q => by
      obtain ⟨x, y⟩ := h.box b q
      refine ⟨x, ?_⟩
      have ne : b ≠ p := fun t => by subst t; exact h.box0 b q z
      rw [upd_ne ne]; exact y
    box0 := h.box0 }
/-- while it is kept for oneself: the context that guards it -/
def Ctx.guard (c : Ctx) (p : Addr) (vs : List V) : Ctx := { c with H0 := upd c.H0 p (.lst vs) }
theorem Holds.guard {p : Addr} {vs : List V} (h : Holds K T c G H σ st) (hp : H p = some (.lst vs)) (g : G p = none) (z : c.H0 p = none) (nd : ∀ (i : Nat) (es : List D), st.env[i]? = some (.own es) → σ[i]? ≠ some (some (.ref p))) :
    Holds K T (c.guard p vs) G H σ st where
  sub0 := h.sub0
  sub := h.sub
  new := fun a q n => by
    have ne : a ≠ p := fun t => by subst t; exact n g
    show upd c.H0 p _ a = none
    rw [upd_ne ne]; exact h.new a q n
  frame := fun a o e b => by
    have e' : upd c.H0 p (.lst vs) a = some o := e
    by_cases w : a = p
    · subst w; rw [upd_same] at e'; cases e'; exact hp
    · rw [upd_ne w] at e'; exact h.frame a o e' b
  len := h.len
  slot := fun j s q => by
    have o := h.slot j s q
    cases s with
    | un => trivial
    | val d => exact o
    | own es =>
      obtain ⟨p2, vs2, a1, a2, a3, a4, a5⟩ := o
      refine ⟨p2, vs2, a1, a2, a3, ?_, a5⟩
      have ne : p2 ≠ p := fun t => by subst t; exact nd j es q a1
      show upd c.H0 p _ p2 = none
      rw [upd_ne ne]; exact a4
  dist := h.dist
  box := h.box
  box0 := fun b q e => by
    have e' : upd c.H0 p (.lst vs) b = none := e
    by_cases w : b = p
    · subst w; rw [upd_same] at e'; cases e'
    · rw [upd_ne w] at e'; exact h.box0 b q e'
/-- .. and back -/
theorem Holds.unguard {p : Addr} {vs : List V} (z : c.H0 p = none) (g0 : c.B ≠ some p) (h : Holds K T (c.guard p vs) G H σ st) (gp : G p = none) :
    Holds K T c G H σ st ∧ H p = some (.lst vs) ∧ ∀ (i : Nat) (es : List D), st.env[i]? = some (.own es) → σ[i]? ≠ some (some (.ref p)) := by
  have hH : ∀ a, (c.guard p vs).H0 a = upd c.H0 p (.lst vs) a := fun _ => rfl
  refine ⟨{ sub0 := h.sub0, sub := h.sub, new := fun a q n => ?_, frame := fun a o e b => ?_, len := h.len, slot := fun j s q => ?_, dist := h.dist, box := h.box, box0 := fun b q e => ?_ }, h.frame p _ (by rw [hH]; exact upd_same) g0, fun i es e q => ?_⟩
  · have := h.new a q n
    rw [hH] at this
    by_cases w : a = p
    · subst w; exact z
    · rw [upd_ne w] at this; exact this
  · refine h.frame a o ?_ b
    rw [hH, upd_ne (show a ≠ p from fun t => by subst t; rw [z] at e; cases e)]; exact e
  · have o := h.slot j s q
    cases s with
    | un => trivial
    | val d => exact o
    | own es =>
      obtain ⟨p2, vs2, a1, a2, a3, a4, a5⟩ := o
      refine ⟨p2, vs2, a1, a2, a3, ?_, a5⟩
      rw [hH] at a4
      by_cases w : p2 = p
      · subst w; exact z
      · rw [upd_ne w] at a4; exact a4
  · refine h.box0 b q ?_
    rw [hH, upd_ne (show b ≠ p from fun t => by subst t; exact g0 q)]; exact e
  · obtain ⟨p2, vs2, a1, a2, a3, a4, a5⟩ := h.slot i _ e
    rw [a1] at q
    cases q
    rw [hH, upd_same] at a4; cases a4
/-- new known objects never are p: G' p stays free -/
theorem Holds.gfree {p : Addr} {vs : List V} (h : Holds K T (c.guard p vs) G H σ st) (g0 : c.G0 p = none) : G p = none := by
  cases q : G p with
  | none => rfl
  | some o =>
    have := h.new p g0 (by rw [q]; exact fun z => by cases z)
    have hH : (c.guard p vs).H0 p = upd c.H0 p (.lst vs) p := rfl
    rw [hH, upd_same] at this; cases this
end

/-! ### the judgements -/
def DE (X : Cx) (T : Tab) (W : WX) (e : Expr) (f : S → R D) : Prop := PE X e (gD X.K T W (relD X.K T) f)
def DT (X : Cx) (T : Tab) (W : WX) (e : Expr) (f : S → R Bool) : Prop := PT X e (gD X.K T W relB f)
def DW (X : Cx) (T : Tab) (W : WX) (e : Expr) (f : S → R Bool) : Prop := PW X e (gD X.K T W relB f)
def DA (X : Cx) (T : Tab) (W : WX) (es : List Expr) (f : S → R (List D)) : Prop := PA X es (gD X.K T W (relA X.K T) f)
def DF (X : Cx) (T : Tab) (W : WX) (e : Expr) (f : S → R (List D)) : Prop := PE X e (gD X.K T W (relF X.K T) f)
def DO (X : Cx) (T : Tab) (W : WX) (e : Option Expr) (f : S → R (Option Int)) : Prop := PO X e (gD X.K T W relO f)
section
variable {X : Cx}
theorem impE {e : Expr} {t t' : TE} (h : PE X e t) (q : ∀ σ H Q, t' σ H Q → t σ H Q) : PE X e t' := ⟨fun pins s σ H Q I k => h.run pins s σ H Q I (q σ H Q k)⟩
theorem impT {e : Expr} {t t' : TT} (h : PT X e t) (q : ∀ σ H Q, t' σ H Q → t σ H Q) : PT X e t' := ⟨fun pins s σ H Q I k => h.run pins s σ H Q I (q σ H Q k)⟩
theorem impW {e : Expr} {t t' : TT} (h : PW X e t) (q : ∀ σ H Q, t' σ H Q → t σ H Q) : PW X e t' := ⟨fun wh pins s σ H Q I k => h.run wh pins s σ H Q I (q σ H Q k)⟩
theorem impA {es : List Expr} {t t' : TA} (h : PA X es t) (q : ∀ σ H Q, t' σ H Q → t σ H Q) : PA X es t' := ⟨fun pos pins s σ H Q I k => h.run pos pins s σ H Q I (q σ H Q k)⟩
theorem impS {e : Stmt} {t t' : TS} (h : PS X e t) (q : ∀ D σ H, t' D σ H → t D σ H) : PS X e t' := ⟨fun pins s σ H D I k => h.run pins s σ H D I (q D σ H k)⟩
theorem impSs {e : List Stmt} {t t' : TS} (h : PSs X e t) (q : ∀ D σ H, t' D σ H → t D σ H) : PSs X e t' := ⟨fun pins s σ H D I k => h.run pins s σ H D I (q D σ H k)⟩
end
end DL

/-! DLb: expressions. -/
namespace DL
open PySem PySem.Spec PyProof.Rows L2

section
variable {K : PySem.W.Frag} {T : Tab} {W : WX} {c : Ctx} {G G' H H' : Hp} {σ : SV} {st : S} {α β γ δ : Type}
/-! ### names -/
def S.put (st : S) (i : Nat) (s : Sl) : S := { st with env := st.env.set i s }
theorem Holds.freeze (h : Holds K T c G H σ st) {i : Nat} {ds : List D} (e : st.env[i]? = some (.own ds)) :
    ∃ p vs, σ[i]? = some (some (.ref p)) ∧ H p = some (.lst vs) ∧ Reps K T c.B G vs ds ∧ G p = none ∧ Holds K T c (upd G p (.lst vs)) H σ (st.put i (.val (.ls ds))) := by
  obtain ⟨p, vs, e1, e2, g, z, r⟩ := h.slot i _ e
  have sg : Same G (upd G p (.lst vs)) := same_upd g
  refine ⟨p, vs, e1, e2, r, g, ?_⟩
  have hp : (upd G p (.lst vs)) p = some (.lst vs) := upd_same
  exact {
    sub0 := h.sub0.trans sg
    sub := fun a o q => by
      by_cases w : a = p
      · subst w; rw [upd_same] at q; cases q; exact e2
      · rw [upd_ne w] at q; exact h.sub _ _ q
    new := fun a q n => by
      by_cases w : a = p
      · subst w; exact z
      · rw [upd_ne w] at n; exact h.new a q n
    frame := h.frame
    len := by show _ = (st.env.set i _).length; rw [List.length_set]; exact h.len
    slot := fun j s q => by
      have q' : (st.env.set i (.val (.ls ds)))[j]? = some s := q
      by_cases w : i = j
      · subst w
        rw [List.getElem?_set_self (List.getElem?_eq_some_iff.mp e).1] at q'
        cases q'
        exact ⟨_, e1, .ls hp (r.mono sg)⟩
      · rw [List.getElem?_set_ne w] at q'
        have o := h.slot j s q'
        cases s with
        | un => trivial
        | val d => obtain ⟨v, a, b⟩ := o; exact ⟨v, a, b.mono sg⟩
        | own es =>
          obtain ⟨p2, vs2, a1, a2, a3, a4, a5⟩ := o
          refine ⟨p2, vs2, a1, a2, ?_, a4, a5.mono sg⟩
          have ne : p2 ≠ p := fun t => by subst t; exact w (h.dist i j p2 ds es e q' e1 a1)
          rw [upd_ne ne]; exact a3
    dist := fun j k p2 ds2 es2 q1 q2 => by
      have q1' : (st.env.set i (.val (.ls ds)))[j]? = _ := q1
      have q2' : (st.env.set i (.val (.ls ds)))[k]? = _ := q2
      have nj : i ≠ j := fun w => by
        subst w; rw [List.getElem?_set_self (List.getElem?_eq_some_iff.mp e).1] at q1'; cases q1'
      have nk : i ≠ k := fun w => by
        subst w; rw [List.getElem?_set_self (List.getElem?_eq_some_iff.mp e).1] at q2'; cases q2'
      rw [List.getElem?_set_ne nj] at q1'
      rw [List.getElem?_set_ne nk] at q2'
      exact h.dist j k p2 ds2 es2 q1' q2'
    box := fun b q => by
      obtain ⟨x, y⟩ := h.box b q
      refine ⟨x, ?_⟩
      have ne : b ≠ p := fun t => by subst t; exact h.box0 b q z
      rw [upd_ne ne]; exact y
    box0 := h.box0 }
/-- a name's slot; a list that is still being built is closed by it -/
def dV (i : Nat) (st : S) : R D := match st.env[i]? with
  | some (.val d) => .ok d st
  | some (.own ds) => .ok (.ls ds) (st.put i (.val (.ls ds)))
  | _ => .stuck
def dC (d : D) (st : S) : R D := .ok d st
end
section
variable {X : Cx} {T : Tab} {W : WX}
theorem de_var {i : Nat} {e : Expr} (h : PE X e (tVar i)) : DE X T W e (dV i) := impE h fun σ H Q ⟨c, G, st, hd, ok⟩ => by
  unfold dV at ok
  cases q : st.env[i]? with
  | none => rw [q] at ok; exact ok.elim
  | some s =>
    rw [q] at ok
    cases s with
    | un => exact ok.elim
    | val d => obtain ⟨v, e1, r⟩ := hd.slot i _ q; exact ⟨v, e1, ok _ _ _ (Same.refl _) hd r⟩
    | own ds =>
      obtain ⟨p, vs, e1, e2, r, g, h2⟩ := hd.freeze q
      exact ⟨_, e1, ok _ _ _ (same_upd g) h2 (.ls upd_same (r.mono (same_upd g)))⟩
/-- a constant, a name of the module whose value is flat -/
theorem de_const {v : V} {d : D} {e : Expr} (h : PE X e (tC v)) (r : ∀ B G, Rep X.K T B G v d) : DE X T W e (dC d) := impE h fun σ H Q ⟨c, G, st, hd, ok⟩ => ok _ _ _ (Same.refl _) hd (r _ _)
theorem de_int {i : Int} {j pos} : DE X T W (.Constant (.int i) j pos) (dC (.int i)) := de_const pe_int fun _ _ => .int i
theorem de_bl {b : Bool} {j pos} : DE X T W (.Constant (.bool b) j pos) (dC (.bl b)) := de_const pe_bl fun _ _ => .bl b
theorem de_non {j pos} : DE X T W (.Constant .none j pos) (dC .non) := de_const pe_non fun _ _ => .non
theorem de_str {x : Str} {j pos} : DE X T W (.Constant (.str x) j pos) (dC (.str x)) := de_const pe_str fun _ _ => .str x

/-! ### two operands -/
def dBin (h : D → D → S → R D) (fa fb : S → R D) : S → R D := fun st => (fa st).bind fun x st => (fb st).bind fun y st => h x y st
def dBinB (h : D → D → S → R Bool) (fa fb : S → R D) : S → R Bool := fun st => (fa st).bind fun x st => (fb st).bind fun y st => h x y st
def toD (r : R Bool) : R D := r.bind fun k st => .ok (.bl k) st
def dOfB (f : S → R Bool) : S → R D := fun st => toD (f st)
def Snd2 (X : Cx) (T : Tab) (W : WX) (r : R2) (h : D → D → S → R D) : Prop :=
  ∀ (c : Ctx) (G H : Hp) (σ : SV) (st : S) (x y : V) (a b : D) (Q : VK), Holds X.K T c G H σ st → Rep X.K T c.B G x a → Rep X.K T c.B G y b → GOk X.K T W (relD X.K T) c G σ (h a b st) Q → r x y H Q
theorem bin_read {r : R2} {h : D → D → S → R D} {a b : Expr} {fa fb : S → R D} (sd : Snd2 X T W r h) : ∀ σ H Q, gD X.K T W (relD X.K T) (dBin h fa fb) σ H Q → tOp r (gD X.K T W (relD X.K T) fa) (gD X.K T W (relD X.K T) fb) σ H Q := by
  intro σ H Q ⟨c, G, st, hd, ok⟩
  obtain ⟨c0, G0, st0, hd0, ok0⟩ := step (rel := relD X.K T) hd ok
  refine ⟨c0, G0, st0, hd0, ok0.imp fun x H1 ⟨G1, st1, a, s1, hd1, r1, ok1⟩ => ?_⟩
  obtain ⟨c2, G2, st2, hd2, ok2⟩ := step (rel := relD X.K T) hd1 ok1
  exact ⟨c2, G2, st2, hd2, ok2.imp fun y H2 ⟨G3, st3, b, s3, hd3, r3, ok3⟩ => sd c G3 H2 σ st3 x y a b Q hd3 (r1.mono s3) r3 ok3⟩
theorem de_bin {op : Operator} {r : R2} {h : D → D → S → R D} {a b : Expr} {fa fb : S → R D} {pos : Pos} (ho : OpR X (binaryOp op) r) (sd : Snd2 X T W r h) (ha : DE X T W a fa) (hb : DE X T W b fb) :
    DE X T W (.BinOp a op b pos) (dBin h fa fb) := impE (pe_op ho ha hb) (bin_read (a := a) (b := b) sd)
theorem dOfB_bin {h : D → D → S → R Bool} {fa fb : S → R D} : dOfB (dBinB h fa fb) = dBin (fun a b st => toD (h a b st)) fa fb := by
  funext st
  unfold dOfB dBinB dBin toD R.bind
  cases fa st with
  | ok a s => dsimp only; cases fb s <;> rfl
  | err e s => rfl
  | stuck => rfl
theorem de_cmp {op : CmpOp} {r : R2} {h : D → D → S → R Bool} {a b : Expr} {fa fb : S → R D} {pos : Pos} (ho : OpR X (compareOp op) r) (sd : Snd2 X T W r fun a b st => toD (h a b st)) (ha : DE X T W a fa) (hb : DE X T W b fb)
    (hm : behindInMarks op b = false) : DE X T W (.Compare a [op] [b] pos) (dOfB (dBinB h fa fb)) := by
  rw [dOfB_bin]
  exact impE (pe_cmpR ho ha hb hm) (bin_read (a := a) (b := b) sd)
/-- what is wanted of a truth value, of the value True or False -/
theorem GOk.ofB {K : PySem.W.Frag} {c : Ctx} {G : Hp} {σ : SV} {r : R Bool} {Q : Bool → Hp → Prop} (ok : GOk K T W relB c G σ r Q) : GOk K T W (relD K T) c G σ (toD r) fun x H' => ∃ k, x = .bl k ∧ Q k H' := by
  cases r with
  | ok a s =>
    intro G' H' v s1 h1 r1
    cases r1
    exact ⟨a, rfl, ok G' H' a s1 h1 rfl⟩
  | err e s => exact ok
  | stuck => exact ok
theorem dt_cmp {op : CmpOp} {r : R2} {h : D → D → S → R Bool} {a b : Expr} {fa fb : S → R D} {pos : Pos} (ho : OpR X (compareOp op) r) (sd : Snd2 X T W r fun a b st => toD (h a b st)) (ha : DE X T W a fa) (hb : DE X T W b fb)
    (hm : behindInMarks op b = false) : DT X T W (.Compare a [op] [b] pos) (dBinB h fa fb) := by
  refine impT (pt_cmpR ho ha hb hm) fun σ H Q ⟨c, G, st, hd, ok⟩ => ?_
  refine bin_read (a := a) (b := b) sd σ H _ ⟨c, G, st, hd, ?_⟩
  have := GOk.ofB ok
  rw [show toD (dBinB h fa fb st) = dOfB (dBinB h fa fb) st from rfl, dOfB_bin] at this
  exact this

/-! ### one operand -/
def dUn (h : D → S → R D) (fa : S → R D) : S → R D := fun st => (fa st).bind h
theorem de_un {op : UnaryOp} {r : V → Hp → VK → Prop} {h : D → S → R D} {a : Expr} {fa : S → R D} {pos : Pos} (ho : UnR X (unaryOp op) r)
    (sd : ∀ (c : Ctx) (G H : Hp) (σ : SV) (st : S) (x : V) (a : D) (Q : VK), Holds X.K T c G H σ st → Rep X.K T c.B G x a → GOk X.K T W (relD X.K T) c G σ (h a st) Q → r x H Q) (ha : DE X T W a fa) : DE X T W (.UnaryOp op a pos) (dUn h fa) := by
  refine impE (pe_un ho ha) fun σ H Q ⟨c, G, st, hd, ok⟩ => ?_
  obtain ⟨c0, G0, st0, hd0, ok0⟩ := step (rel := relD X.K T) hd ok
  exact ⟨c0, G0, st0, hd0, ok0.imp fun x H1 ⟨G1, st1, a, s1, hd1, r1, ok1⟩ => sd c G1 H1 σ st1 x a Q hd1 r1 ok1⟩
def hNeg : D → S → R D
  | .int i, st => .ok (.int (-i)) st
  | _, _ => .stuck
theorem de_neg {a : Expr} {fa : S → R D} {pos : Pos} (ha : DE X T W a fa) : DE X T W (.UnaryOp .USub a pos) (dUn hNeg fa) :=
  de_un un_neg (fun c G H σ st x a Q hd r ok => by
    cases r <;> first | exact ok.elim | skip
    exact ⟨_, rfl, ok _ _ _ (Same.refl _) hd (.int _)⟩) ha

/-! ### ints -/
def hSub : D → D → S → R D
  | .int i, .int j, st => .ok (.int (i - j)) st
  | _, _, _ => .stuck
theorem de_sub {a b : Expr} {fa fb : S → R D} {pos : Pos} (ha : DE X T W a fa) (hb : DE X T W b fb) : DE X T W (.BinOp a .Sub b pos) (dBin hSub fa fb) :=
  de_bin op_sub (fun c G H σ st x y a b Q hd r1 r2 ok => by
    cases r1 <;> cases r2 <;> first | exact ok.elim | skip
    exact ⟨_, _, rfl, rfl, ok _ _ _ (Same.refl _) hd (.int _)⟩) ha hb
/-- a number that is short enough to be multiplied -/
def mulFits (i j : Int) : Bool := decide (i.natAbs.log2 + j.natAbs.log2 < 1000000)
def hMulI (i j : Int) (st : S) : R D := if -18446744073709551616 < i ∧ i < 18446744073709551616 ∨ -18446744073709551616 < j ∧ j < 18446744073709551616 then .ok (.int (i * j)) st else .stuck
def repD (xs : List D) (k : Nat) : List D := (List.replicate k xs).flatten
def hMul : D → D → S → R D
  | .int i, .int j, st => hMulI i j st
  | .ls xs, .int k, st => if -9223372036854775808 ≤ k ∧ k < 9223372036854775808 ∧ xs.length * k.toNat ≤ 16777216 then .ok (.ls (repD xs k.toNat)) st else .stuck
  | _, _, _ => .stuck
theorem Reps.rep {K : PySem.W.Frag} {B : Option Addr} {G : Hp} {vs : List V} {ds : List D} (h : Reps K T B G vs ds) : ∀ k : Nat, Reps K T B G (List.replicate k vs).flatten (List.replicate k ds).flatten
  | 0 => .nil
  | k + 1 => by
    rw [List.replicate_succ, List.replicate_succ, List.flatten_cons, List.flatten_cons]
    exact h.append (Reps.rep h k)
theorem de_mul {a b : Expr} {fa fb : S → R D} {pos : Pos} (ha : DE X T W a fa) (hb : DE X T W b fb) : DE X T W (.BinOp a .Mult b pos) (dBin hMul fa fb) :=
  de_bin (op_mul.or op_rep) (fun c G H σ st x y a b Q hd r1 r2 ok => by
    cases r1 <;> cases r2 <;> first | exact ok.elim | skip
    · rename_i i j
      have ok' : GOk X.K T W (relD X.K T) c G σ (hMulI i j st) Q := ok
      unfold hMulI at ok'
      by_cases q : -18446744073709551616 < i ∧ i < 18446744073709551616 ∨ -18446744073709551616 < j ∧ j < 18446744073709551616
      · rw [if_pos q] at ok'
        exact .inl ⟨_, _, rfl, rfl, q, ok' _ _ _ (Same.refl _) hd (.int _)⟩
      · rw [if_neg q] at ok'; exact ok'.elim
    · rename_i p vs ds h r k
      have ok' : GOk X.K T W (relD X.K T) c G σ (if -9223372036854775808 ≤ k ∧ k < 9223372036854775808 ∧ ds.length * k.toNat ≤ 16777216 then .ok (.ls (repD ds k.toNat)) st else .stuck) Q := ok
      by_cases q : -9223372036854775808 ≤ k ∧ k < 9223372036854775808 ∧ ds.length * k.toNat ≤ 16777216
      · rw [if_pos q] at ok'
        refine .inr ⟨p, k, vs, rfl, rfl, hd.sub _ _ h, q.1, q.2.1, by rw [r.length, sizeLine_eq]; exact q.2.2, fun l hl => ok' _ _ _ (same_upd (hd.gnone hl)) (hd.lay _ hl) (.ls upd_same ((r.mono (same_upd (hd.gnone hl))).rep _))⟩
      · rw [if_neg q] at ok'; exact ok'.elim) ha hb
def hMod : D → D → S → R D
  | .int i, .int j, st => if 0 < j then .ok (.int (i % j)) st else .stuck
  | _, _, _ => .stuck
theorem de_mod {a b : Expr} {fa fb : S → R D} {pos : Pos} (ha : DE X T W a fa) (hb : DE X T W b fb) : DE X T W (.BinOp a .Mod b pos) (dBin hMod fa fb) :=
  de_bin op_mod (fun c G H σ st x y a b Q hd r1 r2 ok => by
    cases r1 <;> cases r2 <;> first | exact ok.elim | skip
    rename_i i j
    have ok' : GOk X.K T W (relD X.K T) c G σ (if 0 < j then .ok (.int (i % j)) st else .stuck) Q := ok
    by_cases q : 0 < j
    · rw [if_pos q] at ok'
      exact ⟨_, _, rfl, rfl, q, ok' _ _ _ (Same.refl _) hd (.int _)⟩
    · rw [if_neg q] at ok'; exact ok'.elim) ha hb
def hDiv : D → D → S → R D
  | .int i, .int j, st => if 0 < j ∧ j.natAbs.log2 < 9000 then .ok (.int (i / j)) st else .stuck
  | _, _, _ => .stuck
theorem de_div {a b : Expr} {fa fb : S → R D} {pos : Pos} (ha : DE X T W a fa) (hb : DE X T W b fb) : DE X T W (.BinOp a .FloorDiv b pos) (dBin hDiv fa fb) :=
  de_bin op_fdivW (fun c G H σ st x y a b Q hd r1 r2 ok => by
    cases r1 <;> cases r2 <;> first | exact ok.elim | skip
    rename_i i j
    have ok' : GOk X.K T W (relD X.K T) c G σ (if 0 < j ∧ j.natAbs.log2 < 9000 then .ok (.int (i / j)) st else .stuck) Q := ok
    by_cases q : 0 < j ∧ j.natAbs.log2 < 9000
    · rw [if_pos q] at ok'
      exact ⟨_, _, rfl, rfl, q, ok' _ _ _ (Same.refl _) hd (.int _)⟩
    · rw [if_neg q] at ok'; exact ok'.elim) ha hb
def hPow : D → D → S → R D
  | .int i, .int j, st => if 0 ≤ j ∧ j ≤ 1000000 ∧ i.natAbs < 18446744073709551616 then .ok (.int (i ^ j.toNat)) st else .stuck
  | _, _, _ => .stuck
theorem de_pow {a b : Expr} {fa fb : S → R D} {pos : Pos} (ha : DE X T W a fa) (hb : DE X T W b fb) : DE X T W (.BinOp a .Pow b pos) (dBin hPow fa fb) :=
  de_bin op_pow (fun c G H σ st x y a b Q hd r1 r2 ok => by
    cases r1 <;> cases r2 <;> first | exact ok.elim | skip
    rename_i i j
    have ok' : GOk X.K T W (relD X.K T) c G σ (if 0 ≤ j ∧ j ≤ 1000000 ∧ i.natAbs < 18446744073709551616 then .ok (.int (i ^ j.toNat)) st else .stuck) Q := ok
    by_cases q : 0 ≤ j ∧ j ≤ 1000000 ∧ i.natAbs < 18446744073709551616
    · rw [if_pos q] at ok'
      exact ⟨_, _, rfl, rfl, q, ok' _ _ _ (Same.refl _) hd (.int _)⟩
    · rw [if_neg q] at ok'; exact ok'.elim) ha hb
/-- + of ints, texts, lists, tuples -/
def hAdd : D → D → S → R D
  | .int i, .int j, st => .ok (.int (i + j)) st
  | .str x, .str y, st => if x.length + y.length ≤ 16777216 then .ok (.str (x ++ y)) st else .stuck
  | .ls xs, .ls ys, st => if xs.length + ys.length ≤ 16777216 then .ok (.ls (xs ++ ys)) st else .stuck
  | .tu xs, .tu ys, st => if xs.length + ys.length ≤ 16777216 then .ok (.tu (xs ++ ys)) st else .stuck
  | _, _, _ => .stuck

theorem Reps.ne {K : PySem.W.Frag} {B : Option Addr} {G : Hp} {vs : List V} {ds : List D} (h : Reps K T B G vs ds) : vs = [] ↔ ds = [] := by
  cases h with
  | nil => simp
  | cons _ _ => simp
theorem add_rule : ∃ r : R2, OpR X (binaryOp .Add) r ∧ Snd2 X T W r hAdd :=
  ⟨_, (op_add.or (op_add_str.or (op_cat.or op_catA))), (fun c G H σ st x y a b Q hd r1 r2 ok => by
    cases r1 <;> cases r2 <;> first | exact ok.elim | skip
    · exact .inl ⟨_, _, rfl, rfl, ok _ _ _ (Same.refl _) hd (.int _)⟩
    · rename_i x y
      have ok' : GOk X.K T W (relD X.K T) c G σ (if x.length + y.length ≤ 16777216 then .ok (.str (x ++ y)) st else .stuck) Q := ok
      by_cases q : x.length + y.length ≤ 16777216
      · rw [if_pos q] at ok'
        exact .inr (.inl ⟨_, _, rfl, rfl, by rw [sizeLine_eq]; exact q, ok' _ _ _ (Same.refl _) hd (.str _)⟩)
      · rw [if_neg q] at ok'; exact ok'.elim
    · rename_i p vs ds h r p2 vs2 ds2 h2 r2
      have ok' : GOk X.K T W (relD X.K T) c G σ (if ds.length + ds2.length ≤ 16777216 then .ok (.ls (ds ++ ds2)) st else .stuck) Q := ok
      by_cases q : ds.length + ds2.length ≤ 16777216
      · rw [if_pos q] at ok'
        exact .inr (.inr (.inl ⟨_, _, _, _, rfl, rfl, hd.sub _ _ h, hd.sub _ _ h2, by rw [sizeLine_eq, r.length, r2.length]; exact q, fun l hl => ok' _ _ _ (same_upd (hd.gnone hl)) (hd.lay _ hl) (.ls upd_same ((r.append r2).mono (same_upd (hd.gnone hl))))⟩))
      · rw [if_neg q] at ok'; exact ok'.elim
    · rename_i p vs ds h r p2 vs2 ds2 h2 r2
      have ok' : GOk X.K T W (relD X.K T) c G σ (if ds.length + ds2.length ≤ 16777216 then .ok (.tu (ds ++ ds2)) st else .stuck) Q := ok
      by_cases q : ds.length + ds2.length ≤ 16777216
      · rw [if_pos q] at ok'
        refine .inr (.inr (.inr ⟨_, _, _, _, rfl, rfl, Same.sqt hd.sub h, Same.sqt hd.sub h2, by rw [sizeLine_eq, r.length, r2.length]; exact q, fun e => ?_, fun e1 e2 => ?_, fun e1 e2 l hl => ?_⟩))
        · have e' := r.ne.mp e
          subst e'
          exact ok' _ _ _ (Same.refl _) hd (.tu h2 r2)
        · have e' := r2.ne.mp e2
          subst e'
          exact ok' _ _ _ (Same.refl _) hd (.tu h (by rw [List.append_nil]; exact r))
        · exact ok' _ _ _ (same_upd (hd.gnone hl)) (hd.lay _ hl) (.tu (.inl (.inl upd_same)) ((r.append r2).mono (same_upd (hd.gnone hl))))
      · rw [if_neg q] at ok'; exact ok'.elim)⟩
theorem de_add {a b : Expr} {fa fb : S → R D} {pos : Pos} (ha : DE X T W a fa) (hb : DE X T W b fb) : DE X T W (.BinOp a .Add b pos) (dBin hAdd fa fb) := by
  obtain ⟨r, o, sd⟩ := add_rule (X := X) (T := T) (W := W)
  exact de_bin o sd ha hb

/-! ### comparisons -/
mutual
def toP : D → Option PyData
  | .non => some .none
  | .bl b => some (.bool b)
  | .int i => some (.int i)
  | .str x => some (.str x)
  | .ls xs => (toPs xs).map .list
  | .tu xs => (toPs xs).map .tuple
  | _ => none
def toPs : List D → Option (List PyData)
  | [] => some []
  | d :: ds => (toP d).bind fun p => (toPs ds).map fun ps => p :: ps
end
mutual
theorem toP_dp {K : PySem.W.Frag} {B : Option Addr} {G : Hp} : ∀ {v : V} {d : D} {p : PyData}, Rep K T B G v d → toP d = some p → Dp K G v p
  | _, _, _, .non, e => by cases e; exact .non
  | _, _, _, .bl b, e => by cases e; exact .bl b
  | _, _, _, .int i, e => by cases e; exact .int i
  | _, _, _, .str x, e => by cases e; exact .str x
  | _, _, p, .ls (ds := ds) h r, e => by
    have e' : (toPs ds).map .list = some p := by simpa only [toP] using e
    cases q : toPs ds with
    | none => rw [q] at e'; cases e'
    | some ps => rw [q] at e'; cases e'; exact .lst (SqL.of h) (toPs_dp r q)
  | _, _, p, .tu (ds := ds) h r, e => by
    have e' : (toPs ds).map .tuple = some p := by simpa only [toP] using e
    cases q : toPs ds with
    | none => rw [q] at e'; cases e'
    | some ps => rw [q] at e'; cases e'; exact .tup h (toPs_dp r q)
  | _, _, _, .ro h, e => by simp [toP] at e
  | _, _, _, .box h, e => by simp [toP] at e
  | _, _, _, .ob h l r, e => by simp [toP] at e
  | _, _, _, .er0 _ _, e => by simp [toP] at e
  | _, _, _, .er1 _ _ _ _, e => by simp [toP] at e
theorem toPs_dp {K : PySem.W.Frag} {B : Option Addr} {G : Hp} : ∀ {vs : List V} {ds : List D} {ps : List PyData}, Reps K T B G vs ds → toPs ds = some ps → DpAll K G vs ps
  | _, _, _, .nil, e => by simp [toPs] at e; subst e; exact .nil
  | _, _, ps, .cons (d := d) (ds := ds) h r, e => by
    have e' : (toP d).bind (fun p => (toPs ds).map fun ps => p :: ps) = some ps := by simpa only [toPs] using e
    cases q : toP d with
    | none => rw [q] at e'; cases e'
    | some p =>
      cases q2 : toPs ds with
      | none => rw [q, q2] at e'; cases e'
      | some ps2 => rw [q, q2] at e'; cases e'; exact .cons (toP_dp h q) (toPs_dp r q2)
end
mutual
theorem Dp.mono {K : PySem.W.Frag} {G H : Hp} (s : Same G H) : ∀ {v : V} {p : PyData}, Dp K G v p → Dp K H v p
  | _, _, .non => .non
  | _, _, .bl b => .bl b
  | _, _, .int i => .int i
  | _, _, .str x => .str x
  | _, _, .lst h r => .lst (s.seq h) (DpAll.mono s r)
  | _, _, .tup h r => .tup (Same.sqt s h) (DpAll.mono s r)
theorem DpAll.mono {K : PySem.W.Frag} {G H : Hp} (s : Same G H) : ∀ {vs : List V} {ps : List PyData}, DpAll K G vs ps → DpAll K H vs ps
  | _, _, .nil => .nil
  | _, _, .cons h r => .cons (Dp.mono s h) (DpAll.mono s r)
end
/-- ==, where it is plain data -/
def deq (a b : D) : Option Bool := match toP a, toP b with
  | some p, some q => if SeqAt.shaped p && SeqAt.shaped q then some (PyData.eqv p q) else none
  | _, _ => none
theorem deq_some {a b : D} {k : Bool} (h : deq a b = some k) : ∃ p q, toP a = some p ∧ toP b = some q ∧ SeqAt.shaped p = true ∧ SeqAt.shaped q = true ∧ k = PyData.eqv p q := by
  unfold deq at h
  cases hp : toP a with
  | none => rw [hp] at h; cases h
  | some p =>
    cases hq : toP b with
    | none => rw [hp, hq] at h; cases h
    | some q =>
      rw [hp, hq] at h
      dsimp only at h
      cases hc : (SeqAt.shaped p && SeqAt.shaped q) with
      | false => rw [hc] at h; cases h
      | true =>
        rw [hc, if_pos rfl] at h
        rw [Bool.and_eq_true] at hc
        exact ⟨p, q, rfl, rfl, hc.1, hc.2, (Option.some.inj h).symm⟩
def hEq (a b : D) (st : S) : R Bool := match deq a b with
  | some k => .ok k st
  | none => .stuck
def hNe (a b : D) (st : S) : R Bool := match deq a b with
  | some k => .ok (!k) st
  | none => .stuck
theorem snd_eq (hu : X.A.units + 64 < cLine) : Snd2 X T W (rEqD X.K) fun a b st => toD (hEq a b st) := fun c G H σ st x y a b Q hd r1 r2 ok => by
  replace ok : GOk X.K T W (relD X.K T) c G σ (toD (hEq a b st)) Q := ok
  unfold hEq at ok
  cases e : deq a b with
  | none => rw [e] at ok; exact ok.elim
  | some k =>
    rw [e] at ok
    obtain ⟨p, q, e1, e2, s1, s2, rfl⟩ := deq_some e
    exact ⟨p, q, Dp.mono hd.sub (toP_dp r1 e1), Dp.mono hd.sub (toP_dp r2 e2), s1, s2, ok _ _ _ (Same.refl _) hd (.bl _)⟩
theorem snd_ne (hu : X.A.units + 64 < cLine) : Snd2 X T W (rNeD X.K) fun a b st => toD (hNe a b st) := fun c G H σ st x y a b Q hd r1 r2 ok => by
  replace ok : GOk X.K T W (relD X.K T) c G σ (toD (hNe a b st)) Q := ok
  unfold hNe at ok
  cases e : deq a b with
  | none => rw [e] at ok; exact ok.elim
  | some k =>
    rw [e] at ok
    obtain ⟨p, q, e1, e2, s1, s2, rfl⟩ := deq_some e
    exact ⟨p, q, Dp.mono hd.sub (toP_dp r1 e1), Dp.mono hd.sub (toP_dp r2 e2), s1, s2, ok _ _ _ (Same.refl _) hd (.bl _)⟩
/-- an order: of ints, of texts -/
def hOrd (f : Int → Int → Bool) (g : Str → Str → Bool) : D → D → S → R Bool
  | .int i, .int j, st => .ok (f i j) st
  | .str x, .str y, st => .ok (g x y) st
  | _, _, _ => .stuck
abbrev hLt := hOrd (fun i j => decide (i < j)) (fun x y => decide (x.cps.toList < y.cps.toList))
abbrev hGt := hOrd (fun i j => decide (j < i)) (fun x y => decide (y.cps.toList < x.cps.toList))
abbrev hLe := hOrd (fun i j => decide (i ≤ j)) (fun x y => !decide (y.cps.toList < x.cps.toList))
abbrev hGe := hOrd (fun i j => decide (j ≤ i)) (fun x y => !decide (x.cps.toList < y.cps.toList))
theorem snd_ord {f : Int → Int → Bool} {g : Str → Str → Bool} : Snd2 X T W (fun x y H Q => rI0 (fun i j => .bl (f i j)) x y H Q ∨ ∃ i j, x = .str i ∧ y = .str j ∧ Q (.bl (g i j)) H) fun a b st => toD (hOrd f g a b st) := fun c G H σ st x y a b Q hd r1 r2 ok => by
  cases r1 <;> cases r2 <;> first | exact ok.elim | skip
  · exact .inl ⟨_, _, rfl, rfl, ok _ _ _ (Same.refl _) hd (.bl _)⟩
  · exact .inr ⟨_, _, rfl, rfl, ok _ _ _ (Same.refl _) hd (.bl _)⟩
/-- is None -/
def isNon : D → Bool
  | .non => true
  | _ => false
def hIsN (a b : D) (st : S) : R Bool := if isNon b then .ok (isNon a) st else .stuck
def hNotN (a b : D) (st : S) : R Bool := if isNon b then .ok (!isNon a) st else .stuck
theorem rep_non {K : PySem.W.Frag} {B : Option Addr} {G : Hp} {v : V} {d : D} (r : Rep K T B G v d) : decide (v = .non) = isNon d := by
  cases r <;> first | exact decide_eq_true rfl | exact decide_eq_false (fun z => by cases z)
theorem snd_isN : Snd2 X T W (fun x y H Q => y = .non ∧ Q (.bl (decide (x = .non))) H) fun a b st => toD (hIsN a b st) := fun c G H σ st x y a b Q hd r1 r2 ok => by
  replace ok : GOk X.K T W (relD X.K T) c G σ (toD (hIsN a b st)) Q := ok
  unfold hIsN at ok
  cases e : isNon b with
  | false => rw [e] at ok; exact ok.elim
  | true =>
    rw [e] at ok
    refine ⟨of_decide_eq_true ((rep_non r2).trans e), ?_⟩
    rw [rep_non r1]
    exact ok _ _ _ (Same.refl _) hd (.bl _)
theorem snd_notN : Snd2 X T W (fun x y H Q => y = .non ∧ Q (.bl (!decide (x = .non))) H) fun a b st => toD (hNotN a b st) := fun c G H σ st x y a b Q hd r1 r2 ok => by
  replace ok : GOk X.K T W (relD X.K T) c G σ (toD (hNotN a b st)) Q := ok
  unfold hNotN at ok
  cases e : isNon b with
  | false => rw [e] at ok; exact ok.elim
  | true =>
    rw [e] at ok
    refine ⟨of_decide_eq_true ((rep_non r2).trans e), ?_⟩
    rw [rep_non r1]
    exact ok _ _ _ (Same.refl _) hd (.bl _)
/-- in, of flat items -/
def flatD : D → Option V
  | .non => some .non
  | .bl b => some (.bl b)
  | .int i => some (.int i)
  | .str x => some (.str x)
  | _ => none
def flatDs : List D → Option (List V)
  | [] => some []
  | d :: ds => (flatD d).bind fun v => (flatDs ds).map fun vs => v :: vs
theorem flatD_rep {K : PySem.W.Frag} {B : Option Addr} {G : Hp} {v w : V} {d : D} (r : Rep K T B G v d) (h : flatD d = some w) : v = w ∧ flatV v = true := by
  cases r <;> simp [flatD] at h <;> subst h <;> exact ⟨rfl, rfl⟩
theorem flatDs_rep {K : PySem.W.Frag} {B : Option Addr} {G : Hp} : ∀ {vs ws : List V} {ds : List D}, Reps K T B G vs ds → flatDs ds = some ws → vs = ws ∧ vs.all flatV = true
  | _, _, _, .nil, h => by simp [flatDs] at h; subst h; exact ⟨rfl, rfl⟩
  | _, ws, _, .cons (d := d) (ds := ds) h r, e => by
    have e' : (flatD d).bind (fun v => (flatDs ds).map fun vs => v :: vs) = some ws := e
    cases q : flatD d with
    | none => rw [q] at e'; cases e'
    | some p =>
      cases q2 : flatDs ds with
      | none => rw [q, q2] at e'; cases e'
      | some ps2 =>
        rw [q, q2] at e'; cases e'
        obtain ⟨a1, a2⟩ := flatD_rep h q
        obtain ⟨b1, b2⟩ := flatDs_rep r q2
        subst a1 b1
        refine ⟨rfl, ?_⟩
        rw [List.all_cons, a2, b2]; rfl
def dIn (a b : D) : Option Bool := match b with
  | .ls ds => match flatD a, flatDs ds with
    | some v, some vs => some (inV v vs)
    | _, _ => none
  | .tu ds => match flatD a, flatDs ds with
    | some v, some vs => some (inV v vs)
    | _, _ => none
  | .str y => match a with
    | .str x => some (!(Builtin.Str.occurrences y x 0 y.length 1).isEmpty)
    | _ => none
  | _ => none
def hIn (a b : D) (st : S) : R Bool := match dIn a b with
  | some k => .ok k st
  | none => .stuck
def hNotIn (a b : D) (st : S) : R Bool := match dIn a b with
  | some k => .ok (!k) st
  | none => .stuck
theorem dIn_cases {K : PySem.W.Frag} {B : Option Addr} {G H : Hp} (s : Same G H) {x y : V} {a b : D} {k : Bool} (r1 : Rep K T B G x a) (r2 : Rep K T B G y b) (h : dIn a b = some k) :
    (∃ p xs, y = .ref p ∧ (SqL K H p xs ∨ SqT K H p xs) ∧ flatV x = true ∧ xs.all flatV = true ∧ k = inV x xs) ∨ ∃ i j, x = .str i ∧ y = .str j ∧ k = !(Builtin.Str.occurrences j i 0 j.length 1).isEmpty := by
  cases r2 with
  | ls hh r =>
    rename_i p vs ds
    have h' : (match flatD a, flatDs ds with | some v, some vs => some (inV v vs) | _, _ => none) = some k := h
    cases q : flatD a with
    | none => rw [q] at h'; cases h'
    | some v =>
      cases q2 : flatDs ds with
      | none => rw [q, q2] at h'; cases h'
      | some ws =>
        rw [q, q2] at h'; cases h'
        obtain ⟨a1, a2⟩ := flatD_rep r1 q
        obtain ⟨b1, b2⟩ := flatDs_rep r q2
        subst a1 b1
        exact .inl ⟨p, vs, rfl, .inl (SqL.of (s _ _ hh)), a2, b2, rfl⟩
  | tu hh r =>
    rename_i p vs ds
    have h' : (match flatD a, flatDs ds with | some v, some vs => some (inV v vs) | _, _ => none) = some k := h
    cases q : flatD a with
    | none => rw [q] at h'; cases h'
    | some v =>
      cases q2 : flatDs ds with
      | none => rw [q, q2] at h'; cases h'
      | some ws =>
        rw [q, q2] at h'; cases h'
        obtain ⟨a1, a2⟩ := flatD_rep r1 q
        obtain ⟨b1, b2⟩ := flatDs_rep r q2
        subst a1 b1
        exact .inl ⟨p, vs, rfl, .inr (Same.sqt s hh), a2, b2, rfl⟩
  | str z =>
    cases r1 <;> first | (cases h; done) | skip
    exact .inr ⟨_, _, rfl, rfl, (Option.some.inj h).symm⟩
  | non => cases h
  | bl _ => cases h
  | int _ => cases h
  | ro _ => cases h
  | box _ => cases h
  | ob _ _ _ => cases h
  | er0 _ _ => cases h
  | er1 _ _ _ _ => cases h
theorem snd_in : Snd2 X T W (fun x y H Q => rIn X.K false x y H Q ∨ ∃ i j, x = .str i ∧ y = .str j ∧ Q (.bl (!(Builtin.Str.occurrences j i 0 j.length 1).isEmpty)) H) fun a b st => toD (hIn a b st) := fun c G H σ st x y a b Q hd r1 r2 ok => by
  replace ok : GOk X.K T W (relD X.K T) c G σ (toD (hIn a b st)) Q := ok
  unfold hIn at ok
  cases e : dIn a b with
  | none => rw [e] at ok; exact ok.elim
  | some k =>
    rw [e] at ok
    have q := ok _ _ (.bl k) (Same.refl _) hd (.bl k)
    rcases dIn_cases hd.sub r1 r2 e with ⟨p, xs, rfl, h1, h2, h3, rfl⟩ | ⟨i, j, rfl, rfl, rfl⟩
    · exact .inl ⟨p, xs, rfl, h1, h2, h3, q⟩
    · exact .inr ⟨i, j, rfl, rfl, q⟩
theorem snd_notIn : Snd2 X T W (fun x y H Q => rIn X.K true x y H Q ∨ ∃ i j, x = .str i ∧ y = .str j ∧ Q (.bl (!(!(Builtin.Str.occurrences j i 0 j.length 1).isEmpty))) H) fun a b st => toD (hNotIn a b st) := fun c G H σ st x y a b Q hd r1 r2 ok => by
  replace ok : GOk X.K T W (relD X.K T) c G σ (toD (hNotIn a b st)) Q := ok
  unfold hNotIn at ok
  cases e : dIn a b with
  | none => rw [e] at ok; exact ok.elim
  | some k =>
    rw [e] at ok
    have q := ok _ _ (.bl (!k)) (Same.refl _) hd (.bl (!k))
    rcases dIn_cases hd.sub r1 r2 e with ⟨p, xs, rfl, h1, h2, h3, rfl⟩ | ⟨i, j, rfl, rfl, rfl⟩
    · exact .inl ⟨p, xs, rfl, h1, h2, h3, q⟩
    · exact .inr ⟨i, j, rfl, rfl, q⟩

theorem de_eq {a b : Expr} {fa fb : S → R D} {pos : Pos} (hu : X.A.units + 64 < cLine) (ha : DE X T W a fa) (hb : DE X T W b fb) : DE X T W (.Compare a [.Eq] [b] pos) (dOfB (dBinB hEq fa fb)) := de_cmp (op_eqD hu) (snd_eq hu) ha hb (nomark _)
theorem dt_eq {a b : Expr} {fa fb : S → R D} {pos : Pos} (hu : X.A.units + 64 < cLine) (ha : DE X T W a fa) (hb : DE X T W b fb) : DT X T W (.Compare a [.Eq] [b] pos) (dBinB hEq fa fb) := dt_cmp (op_eqD hu) (snd_eq hu) ha hb (nomark _)
theorem de_ne {a b : Expr} {fa fb : S → R D} {pos : Pos} (hu : X.A.units + 64 < cLine) (ha : DE X T W a fa) (hb : DE X T W b fb) : DE X T W (.Compare a [.NotEq] [b] pos) (dOfB (dBinB hNe fa fb)) := de_cmp (op_neD hu) (snd_ne hu) ha hb (nomark _)
theorem dt_ne {a b : Expr} {fa fb : S → R D} {pos : Pos} (hu : X.A.units + 64 < cLine) (ha : DE X T W a fa) (hb : DE X T W b fb) : DT X T W (.Compare a [.NotEq] [b] pos) (dBinB hNe fa fb) := dt_cmp (op_neD hu) (snd_ne hu) ha hb (nomark _)
theorem de_lt {a b : Expr} {fa fb : S → R D} {pos : Pos} (ha : DE X T W a fa) (hb : DE X T W b fb) : DE X T W (.Compare a [.Lt] [b] pos) (dOfB (dBinB hLt fa fb)) := de_cmp (op_lt.or op_lt_str) snd_ord ha hb (nomark _)
theorem dt_lt {a b : Expr} {fa fb : S → R D} {pos : Pos} (ha : DE X T W a fa) (hb : DE X T W b fb) : DT X T W (.Compare a [.Lt] [b] pos) (dBinB hLt fa fb) := dt_cmp (op_lt.or op_lt_str) snd_ord ha hb (nomark _)
theorem de_gt {a b : Expr} {fa fb : S → R D} {pos : Pos} (ha : DE X T W a fa) (hb : DE X T W b fb) : DE X T W (.Compare a [.Gt] [b] pos) (dOfB (dBinB hGt fa fb)) := de_cmp (op_gt.or op_gt_str) snd_ord ha hb (nomark _)
theorem dt_gt {a b : Expr} {fa fb : S → R D} {pos : Pos} (ha : DE X T W a fa) (hb : DE X T W b fb) : DT X T W (.Compare a [.Gt] [b] pos) (dBinB hGt fa fb) := dt_cmp (op_gt.or op_gt_str) snd_ord ha hb (nomark _)
theorem de_le {a b : Expr} {fa fb : S → R D} {pos : Pos} (ha : DE X T W a fa) (hb : DE X T W b fb) : DE X T W (.Compare a [.LtE] [b] pos) (dOfB (dBinB hLe fa fb)) := de_cmp (op_le.or op_le_str) snd_ord ha hb (nomark _)
theorem dt_le {a b : Expr} {fa fb : S → R D} {pos : Pos} (ha : DE X T W a fa) (hb : DE X T W b fb) : DT X T W (.Compare a [.LtE] [b] pos) (dBinB hLe fa fb) := dt_cmp (op_le.or op_le_str) snd_ord ha hb (nomark _)
theorem de_ge {a b : Expr} {fa fb : S → R D} {pos : Pos} (ha : DE X T W a fa) (hb : DE X T W b fb) : DE X T W (.Compare a [.GtE] [b] pos) (dOfB (dBinB hGe fa fb)) := de_cmp (op_ge.or op_ge_str) snd_ord ha hb (nomark _)
theorem dt_ge {a b : Expr} {fa fb : S → R D} {pos : Pos} (ha : DE X T W a fa) (hb : DE X T W b fb) : DT X T W (.Compare a [.GtE] [b] pos) (dBinB hGe fa fb) := dt_cmp (op_ge.or op_ge_str) snd_ord ha hb (nomark _)
theorem de_isN {a b : Expr} {fa fb : S → R D} {pos : Pos} (ha : DE X T W a fa) (hb : DE X T W b fb) : DE X T W (.Compare a [.Is] [b] pos) (dOfB (dBinB hIsN fa fb)) := de_cmp op_isN snd_isN ha hb (nomark _)
theorem dt_isN {a b : Expr} {fa fb : S → R D} {pos : Pos} (ha : DE X T W a fa) (hb : DE X T W b fb) : DT X T W (.Compare a [.Is] [b] pos) (dBinB hIsN fa fb) := dt_cmp op_isN snd_isN ha hb (nomark _)
theorem de_notN {a b : Expr} {fa fb : S → R D} {pos : Pos} (ha : DE X T W a fa) (hb : DE X T W b fb) : DE X T W (.Compare a [.IsNot] [b] pos) (dOfB (dBinB hNotN fa fb)) := de_cmp op_notN snd_notN ha hb (nomark _)
theorem dt_notN {a b : Expr} {fa fb : S → R D} {pos : Pos} (ha : DE X T W a fa) (hb : DE X T W b fb) : DT X T W (.Compare a [.IsNot] [b] pos) (dBinB hNotN fa fb) := dt_cmp op_notN snd_notN ha hb (nomark _)
theorem de_in {a b : Expr} {fa fb : S → R D} {pos : Pos} (ha : DE X T W a fa) (hb : DE X T W b fb) (hm : behindInMarks .In b = false := by rfl) : DE X T W (.Compare a [.In] [b] pos) (dOfB (dBinB hIn fa fb)) := de_cmp (op_in_seq.or op_in_str) snd_in ha hb hm
theorem dt_in {a b : Expr} {fa fb : S → R D} {pos : Pos} (ha : DE X T W a fa) (hb : DE X T W b fb) (hm : behindInMarks .In b = false := by rfl) : DT X T W (.Compare a [.In] [b] pos) (dBinB hIn fa fb) := dt_cmp (op_in_seq.or op_in_str) snd_in ha hb hm
theorem de_notIn {a b : Expr} {fa fb : S → R D} {pos : Pos} (ha : DE X T W a fa) (hb : DE X T W b fb) (hm : behindInMarks .NotIn b = false := by rfl) : DE X T W (.Compare a [.NotIn] [b] pos) (dOfB (dBinB hNotIn fa fb)) := de_cmp (op_notIn_seq.or op_notIn_str) snd_notIn ha hb hm
theorem dt_notIn {a b : Expr} {fa fb : S → R D} {pos : Pos} (ha : DE X T W a fa) (hb : DE X T W b fb) (hm : behindInMarks .NotIn b = false := by rfl) : DT X T W (.Compare a [.NotIn] [b] pos) (dBinB hNotIn fa fb) := dt_cmp (op_notIn_seq.or op_notIn_str) snd_notIn ha hb hm
end
end DL

/-! DLc: tests, displays, subscripts, slices, calls. -/
namespace DL
open PySem PySem.Spec PyProof.Rows L2
section
variable {X : Cx} {T : Tab} {W : WX}
/-! ### tests -/
def truD : D → Option Bool
  | .non => some false
  | .bl b => some b
  | .int i => some (i != 0)
  | .str y => if y.length ≤ 16777216 then some ((y.length : Int) != 0) else none
  | .ls xs => some (!xs.isEmpty)
  | .tu xs => some (!xs.isEmpty)
  | .ro xs => some (!xs.isEmpty)
  | _ => none
def hTru (d : D) (st : S) : R Bool := match truD d with
  | some k => .ok k st
  | none => .stuck
def dTru (f : S → R D) : S → R Bool := fun st => (f st).bind hTru
theorem Reps.isEmpty {K : PySem.W.Frag} {B : Option Addr} {G : Hp} {vs : List V} {ds : List D} (h : Reps K T B G vs ds) : vs.isEmpty = ds.isEmpty := by
  cases h <;> rfl
theorem truV_of {K : PySem.W.Frag} {B : Option Addr} {G H : Hp} (s : Same G H) {v : V} {d : D} {k : Bool} (r : Rep K T B G v d) (e : truD d = some k) : TruV K v H k := by
  cases r with
  | non => cases e; rfl
  | bl b => cases e; rfl
  | int i => cases e; rfl
  | str x =>
    have e' : (if x.length ≤ 16777216 then some ((x.length : Int) != 0) else none) = some k := e
    by_cases q : x.length ≤ 16777216
    · rw [if_pos q] at e'; cases e'; exact ⟨by rw [sizeLine_eq]; exact q, rfl⟩
    · rw [if_neg q] at e'; cases e'
  | ls h r => cases e; exact .inl ⟨_, SqL.of (s _ _ h), by rw [r.isEmpty]⟩
  | tu h r => cases e; exact .inr (.inl ⟨_, Same.sqt s h, by rw [r.isEmpty]⟩)
  | ro h => cases e; exact .inl ⟨_, s.seq h, by rw [List.isEmpty_map]⟩
  | box h => cases e
  | ob _ _ _ => cases e
  | er0 _ _ => cases e
  | er1 _ _ _ _ => cases e
theorem dt_tru {a : Expr} {fa : S → R D} (ha : DE X T W a fa) (he : ∀ whole, isTrue a X.env whole = (do let v ← whole; standAt a.pos; holding [v] (truthy v)) := by intro _; rfl) : DT X T W a (dTru fa) := by
  refine impT (pt_truth ha he) fun σ H Q ⟨c, G, st, hd, ok⟩ => ?_
  obtain ⟨c0, G0, st0, hd0, ok0⟩ := step (rel := relD X.K T) hd ok
  refine ⟨c0, G0, st0, hd0, ok0.imp fun x H1 ⟨G1, st1, a, s1, hd1, r1, ok1⟩ => ?_⟩
  unfold hTru at ok1
  cases e : truD a with
  | none => rw [e] at ok1; exact ok1.elim
  | some k => rw [e] at ok1; exact ⟨k, truV_of hd1.sub r1 e, ok1 _ _ _ (Same.refl _) hd1 rfl⟩
def dNot (f : S → R Bool) : S → R Bool := fun st => (f st).bind fun k st => .ok (!k) st
theorem dt_not {a : Expr} {f : S → R Bool} {pos : Pos} (ha : DT X T W a f) : DT X T W (.UnaryOp .Not a pos) (dNot f) := by
  refine impT (pt_not ha) fun σ H Q ⟨c, G, st, hd, ok⟩ => ?_
  obtain ⟨c0, G0, st0, hd0, ok0⟩ := step (rel := relB) hd ok
  exact ⟨c0, G0, st0, hd0, ok0.imp fun k H1 ⟨G1, st1, a, s1, hd1, r1, ok1⟩ => by cases r1; exact ok1 _ _ _ (Same.refl _) hd1 rfl⟩
def dAnd (f g : S → R Bool) : S → R Bool := fun st => (f st).bind fun k st => if k = true then g st else .ok false st
def dOr (f g : S → R Bool) : S → R Bool := fun st => (f st).bind fun k st => if k = true then .ok true st else g st
theorem dw_and1 {a : Expr} {f : S → R Bool} {pos : Pos} (ha : DT X T W a f) : DW X T W (.BoolOp .And [a] pos) f := pw_and1 ha
theorem dw_or1 {a : Expr} {f : S → R Bool} {pos : Pos} (ha : DT X T W a f) : DW X T W (.BoolOp .Or [a] pos) f := pw_or1 ha
theorem dw_and {a b : Expr} {rest : List Expr} {f g : S → R Bool} {pos : Pos} (ha : DT X T W a f) (hb : DW X T W (.BoolOp .And (b :: rest) pos) g) : DW X T W (.BoolOp .And (a :: b :: rest) pos) (dAnd f g) := by
  refine impW (pw_and ha hb) fun σ H Q ⟨c, G, st, hd, ok⟩ => ?_
  obtain ⟨c0, G0, st0, hd0, ok0⟩ := step (rel := relB) hd ok
  refine ⟨c0, G0, st0, hd0, ok0.imp fun k H1 ⟨G1, st1, a, s1, hd1, r1, ok1⟩ => ?_⟩
  cases r1
  cases k with
  | true => rw [if_pos rfl] at ok1 ⊢; exact ⟨_, G1, st1, hd1, ok1⟩
  | false => rw [if_neg Bool.false_ne_true] at ok1 ⊢; exact ok1 _ _ _ (Same.refl _) hd1 rfl
theorem dw_or {a b : Expr} {rest : List Expr} {f g : S → R Bool} {pos : Pos} (ha : DT X T W a f) (hb : DW X T W (.BoolOp .Or (b :: rest) pos) g) : DW X T W (.BoolOp .Or (a :: b :: rest) pos) (dOr f g) := by
  refine impW (pw_or ha hb) fun σ H Q ⟨c, G, st, hd, ok⟩ => ?_
  obtain ⟨c0, G0, st0, hd0, ok0⟩ := step (rel := relB) hd ok
  refine ⟨c0, G0, st0, hd0, ok0.imp fun k H1 ⟨G1, st1, a, s1, hd1, r1, ok1⟩ => ?_⟩
  cases r1
  cases k with
  | true => rw [if_pos rfl] at ok1 ⊢; exact ok1 _ _ _ (Same.refl _) hd1 rfl
  | false => rw [if_neg Bool.false_ne_true] at ok1 ⊢; exact ⟨_, G1, st1, hd1, ok1⟩
theorem dt_bool {e : Expr} {f : S → R Bool} (h : DW X T W e f) : DT X T W e f := PW.pt h
/-- as values -/
def dAndV (f g : S → R D) : S → R D := fun st => (f st).bind fun x st => (hTru x st).bind fun k st => if k = true then g st else .ok x st
def dOrV (f g : S → R D) : S → R D := fun st => (f st).bind fun x st => (hTru x st).bind fun k st => if k = true then .ok x st else g st
def dNotV (f : S → R D) : S → R D := fun st => (f st).bind fun x st => (hTru x st).bind fun k st => .ok (.bl (!k)) st
theorem de_one {op : BoolOp} {a : Expr} {f : S → R D} {pos : Pos} (ha : DE X T W a f) : DE X T W (.BoolOp op [a] pos) f := pe_one ha
theorem de_and {a b : Expr} {rest : List Expr} {f g : S → R D} {pos : Pos} (ha : DE X T W a f) (hb : DE X T W (.BoolOp .And (b :: rest) pos) g) : DE X T W (.BoolOp .And (a :: b :: rest) pos) (dAndV f g) := by
  refine impE (pe_andT ha hb) fun σ H Q ⟨c, G, st, hd, ok⟩ => ?_
  obtain ⟨c0, G0, st0, hd0, ok0⟩ := step (rel := relD X.K T) hd ok
  refine ⟨c0, G0, st0, hd0, ok0.imp fun x H1 ⟨G1, st1, a, s1, hd1, r1, ok1⟩ => ?_⟩
  unfold hTru at ok1
  cases e : truD a with
  | none => rw [e] at ok1; exact ok1.elim
  | some k =>
    rw [e] at ok1
    refine ⟨k, truV_of hd1.sub r1 e, ?_⟩
    replace ok1 : GOk X.K T W (relD X.K T) c G1 σ (if k = true then g st1 else .ok a st1) Q := ok1
    cases k with
    | true => rw [if_pos rfl] at ok1 ⊢; exact ⟨_, G1, st1, hd1, ok1⟩
    | false => rw [if_neg Bool.false_ne_true] at ok1 ⊢; exact ok1 _ _ _ (Same.refl _) hd1 r1
theorem de_or {a b : Expr} {rest : List Expr} {f g : S → R D} {pos : Pos} (ha : DE X T W a f) (hb : DE X T W (.BoolOp .Or (b :: rest) pos) g) : DE X T W (.BoolOp .Or (a :: b :: rest) pos) (dOrV f g) := by
  refine impE (pe_orT ha hb) fun σ H Q ⟨c, G, st, hd, ok⟩ => ?_
  obtain ⟨c0, G0, st0, hd0, ok0⟩ := step (rel := relD X.K T) hd ok
  refine ⟨c0, G0, st0, hd0, ok0.imp fun x H1 ⟨G1, st1, a, s1, hd1, r1, ok1⟩ => ?_⟩
  unfold hTru at ok1
  cases e : truD a with
  | none => rw [e] at ok1; exact ok1.elim
  | some k =>
    rw [e] at ok1
    refine ⟨k, truV_of hd1.sub r1 e, ?_⟩
    replace ok1 : GOk X.K T W (relD X.K T) c G1 σ (if k = true then .ok a st1 else g st1) Q := ok1
    cases k with
    | true => rw [if_pos rfl] at ok1 ⊢; exact ok1 _ _ _ (Same.refl _) hd1 r1
    | false => rw [if_neg Bool.false_ne_true] at ok1 ⊢; exact ⟨_, G1, st1, hd1, ok1⟩
theorem de_not {a : Expr} {f : S → R D} {pos : Pos} (ha : DE X T W a f) : DE X T W (.UnaryOp .Not a pos) (dNotV f) := by
  refine impE (pe_notT ha) fun σ H Q ⟨c, G, st, hd, ok⟩ => ?_
  obtain ⟨c0, G0, st0, hd0, ok0⟩ := step (rel := relD X.K T) hd ok
  refine ⟨c0, G0, st0, hd0, ok0.imp fun x H1 ⟨G1, st1, a, s1, hd1, r1, ok1⟩ => ?_⟩
  unfold hTru at ok1
  cases e : truD a with
  | none => rw [e] at ok1; exact ok1.elim
  | some k => rw [e] at ok1; exact ⟨k, truV_of hd1.sub r1 e, ok1 _ _ _ (Same.refl _) hd1 (.bl _)⟩
def dIfE (t : S → R Bool) (f g : S → R D) : S → R D := fun st => (t st).bind fun k st => if k = true then f st else g st
theorem de_ifE {t a b : Expr} {ft : S → R Bool} {f g : S → R D} {pos : Pos} (ht : DT X T W t ft) (ha : DE X T W a f) (hb : DE X T W b g) : DE X T W (.IfExp t a b pos) (dIfE ft f g) := by
  refine impE (pe_ifExp ht ha hb) fun σ H Q ⟨c, G, st, hd, ok⟩ => ?_
  obtain ⟨c0, G0, st0, hd0, ok0⟩ := step (rel := relB) hd ok
  refine ⟨c0, G0, st0, hd0, ok0.imp fun k H1 ⟨G1, st1, a, s1, hd1, r1, ok1⟩ => ?_⟩
  cases r1
  cases k with
  | true => rw [if_pos rfl] at ok1 ⊢; exact ⟨_, G1, st1, hd1, ok1⟩
  | false => rw [if_neg Bool.false_ne_true] at ok1 ⊢; exact ⟨_, G1, st1, hd1, ok1⟩
/-- a < b < c -/
def dChain (h h' : D → D → S → R Bool) (fa fb fc : S → R D) : S → R D := fun st => (fa st).bind fun x st => (fb st).bind fun y st => (h x y st).bind fun k st => if k = true then (fc st).bind fun z st => toD (h' y z st) else .ok (.bl false) st
theorem de_chain {op op' : CmpOp} {r r' : R2} {h h' : D → D → S → R Bool} {a b e : Expr} {fa fb fc : S → R D} {pos : Pos} (ho : OpR X (compareOp op) r) (ho' : OpR X (compareOp op') r')
    (sd : Snd2 X T W r fun a b st => toD (h a b st)) (sd' : Snd2 X T W r' fun a b st => toD (h' a b st))
    (ha : DE X T W a fa) (hb : DE X T W b fb) (hc : DE X T W e fc) (hm : lastMarks [op, op'] [b, e] = false := by with_unfolding_all rfl) : DE X T W (.Compare a [op, op'] [b, e] pos) (dChain h h' fa fb fc) := by
  refine impE (pe_chain ho ho' ha hb hc hm) fun σ H Q ⟨c, G, st, hd, ok⟩ => ?_
  obtain ⟨c0, G0, st0, hd0, ok0⟩ := step (rel := relD X.K T) hd ok
  refine ⟨c0, G0, st0, hd0, ok0.imp fun x H1 ⟨G1, st1, a, s1, hd1, r1, ok1⟩ => ?_⟩
  obtain ⟨c2, G2, st2, hd2, ok2⟩ := step (rel := relD X.K T) hd1 ok1
  refine ⟨c2, G2, st2, hd2, ok2.imp fun y H2 ⟨G3, st3, b, s3, hd3, r3, ok3⟩ => ?_⟩
  refine sd c G3 H2 σ st3 x y a b _ hd3 (r1.mono s3) r3 ?_
  have q : GOk X.K T W (relB) c G3 σ (h a b st3) (fun k H' => ∃ G4 st4, Same G3 G4 ∧ Holds X.K T c G4 H' σ st4 ∧ GOk X.K T W (relD X.K T) c G4 σ (if k = true then (fc st4).bind fun z st => toD (h' b z st) else .ok (.bl false) st4) Q) := by
    revert ok3
    cases h a b st3 with
    | ok k s4 => exact fun ok3 G' H' v s h e => by cases e; exact ⟨G', s4, s, h, GOk.mono s ok3⟩
    | err e s => exact fun ok3 => ok3
    | stuck => exact fun ok3 => ok3
  refine (GOk.ofB q).imp fun z H3 ⟨k, e, G4, st4, s4, hd4, ok4⟩ => ⟨k, e, ?_⟩
  cases k with
  | true =>
    rw [if_pos rfl] at ok4 ⊢
    obtain ⟨c5, G5, st5, hd5, ok5⟩ := step (rel := relD X.K T) hd4 ok4
    exact ⟨c5, G5, st5, hd5, ok5.imp fun z H4 ⟨G6, st6, d, s6, hd6, r6, ok6⟩ => sd' c G6 H4 σ st6 y z b d Q hd6 ((r3.mono s4).mono s6) r6 ok6⟩
  | false => rw [if_neg Bool.false_ne_true] at ok4 ⊢; exact ok4 _ _ _ (Same.refl _) hd4 (.bl _)

/-! ### displays -/
def dNil : S → R (List D) := fun st => .ok [] st
def dCons (f : S → R D) (g : S → R (List D)) : S → R (List D) := fun st => (f st).bind fun x st => (g st).bind fun xs st => .ok (x :: xs) st
theorem da_nil : DA X T W [] dNil := impA pa_nil fun σ H Q ⟨c, G, st, hd, ok⟩ => ok _ _ _ (Same.refl _) hd .nil
theorem da_cons {e : Expr} {es : List Expr} {f : S → R D} {g : S → R (List D)} (he : DE X T W e f) (hr : DA X T W es g) (hs : starEach (e :: es) X.env = (false, eval e X.env) :: starEach es X.env := by rfl) : DA X T W (e :: es) (dCons f g) := by
  refine impA (pa_cons he hr hs) fun σ H Q ⟨c, G, st, hd, ok⟩ => ?_
  obtain ⟨c0, G0, st0, hd0, ok0⟩ := step (rel := relD X.K T) hd ok
  refine ⟨c0, G0, st0, hd0, ok0.imp fun x H1 ⟨G1, st1, a, s1, hd1, r1, ok1⟩ => ?_⟩
  obtain ⟨c2, G2, st2, hd2, ok2⟩ := step (rel := relA X.K T) hd1 ok1
  exact ⟨c2, G2, st2, hd2, ok2.imp fun y H2 ⟨G3, st3, b, s3, hd3, r3, ok3⟩ => ok3 _ _ _ (Same.refl _) hd3 (.cons (r1.mono s3) r3)⟩
def hTu (xs : List D) (st : S) : R D := if xs.length ≤ 16777216 then .ok (.tu xs) st else .stuck
def hLs (xs : List D) (st : S) : R (List D) := if xs.length ≤ 16777216 then .ok xs st else .stuck
def dTup (g : S → R (List D)) : S → R D := fun st => (g st).bind hTu
def dLst (g : S → R (List D)) : S → R (List D) := fun st => (g st).bind hLs
theorem de_tup {es : List Expr} {g : S → R (List D)} {x1} {pos : Pos} (h : DA X T W es g) : DE X T W (.Tuple es x1 pos) (dTup g) := by
  refine impE (pe_tup h) fun σ H Q ⟨c, G, st, hd, ok⟩ => ?_
  obtain ⟨c0, G0, st0, hd0, ok0⟩ := step (rel := relA X.K T) hd ok
  refine ⟨c0, G0, st0, hd0, ok0.imp fun vs H1 ⟨G1, st1, a, s1, hd1, r1, ok1⟩ => ?_⟩
  unfold hTu at ok1
  by_cases q : a.length ≤ 16777216
  · rw [if_pos q] at ok1
    exact ⟨by rw [sizeLine_eq, r1.length]; exact q, fun p hp => ok1 _ _ _ (same_upd (hd1.gnone hp)) (hd1.lay _ hp) (.tu (.inl (.inl upd_same)) (r1.mono (same_upd (hd1.gnone hp))))⟩
  · rw [if_neg q] at ok1; exact ok1.elim
theorem df_lst {es : List Expr} {g : S → R (List D)} {pos : Pos} (h : DA X T W es g) : DF X T W (.List es pos) (dLst g) := by
  refine impE (pe_lst h) fun σ H Q ⟨c, G, st, hd, ok⟩ => ?_
  obtain ⟨c0, G0, st0, hd0, ok0⟩ := step (rel := relA X.K T) hd ok
  refine ⟨c0, G0, st0, hd0, ok0.imp fun vs H1 ⟨G1, st1, a, s1, hd1, r1, ok1⟩ => ?_⟩
  unfold hLs at ok1
  by_cases q : a.length ≤ 16777216
  · rw [if_pos q] at ok1
    refine ⟨by rw [sizeLine_eq, r1.length]; exact q, fun p hp => ?_⟩
    obtain ⟨h2, r2⟩ := hd1.fresh hp r1
    exact ok1 _ _ _ (Same.refl _) h2 r2
  · rw [if_neg q] at ok1; exact ok1.elim
/-- a new list, handed on -/
def dClose (f : S → R (List D)) : S → R D := fun st => (f st).bind fun ds st => .ok (.ls ds) st
theorem de_new {e : Expr} {f : S → R (List D)} (h : DF X T W e f) : DE X T W e (dClose f) := by
  refine impE h fun σ H Q ⟨c, G, st, hd, ok⟩ => ?_
  obtain ⟨c0, G0, st0, hd0, ok0⟩ := step (rel := relF X.K T) hd ok
  refine ⟨c0, G0, st0, hd0, ok0.imp fun v H1 ⟨G1, st1, a, s1, hd1, r1, ok1⟩ => ?_⟩
  obtain ⟨G2, s2, hd2, r2⟩ := r1.close hd1
  exact ok1 _ _ _ s2 hd2 r2
/-- xs + ys, kept -/
def hCat : D → D → S → R (List D)
  | .ls xs, .ls ys, st => if xs.length + ys.length ≤ 16777216 then .ok (xs ++ ys) st else .stuck
  | _, _, _ => .stuck
def dCat (fa fb : S → R D) : S → R (List D) := fun st => (fa st).bind fun x st => (fb st).bind fun y st => hCat x y st
theorem df_cat {a b : Expr} {fa fb : S → R D} {pos : Pos} (ha : DE X T W a fa) (hb : DE X T W b fb) : DF X T W (.BinOp a .Add b pos) (dCat fa fb) := by
  refine impE (pe_op op_cat ha hb) fun σ H Q ⟨c, G, st, hd, ok⟩ => ?_
  obtain ⟨c0, G0, st0, hd0, ok0⟩ := step (rel := relD X.K T) hd ok
  refine ⟨c0, G0, st0, hd0, ok0.imp fun x H1 ⟨G1, st1, a, s1, hd1, r1, ok1⟩ => ?_⟩
  obtain ⟨c2, G2, st2, hd2, ok2⟩ := step (rel := relD X.K T) hd1 ok1
  refine ⟨c2, G2, st2, hd2, ok2.imp fun y H2 ⟨G3, st3, b, s3, hd3, r3, ok3⟩ => ?_⟩
  replace r1 := r1.mono s3
  cases r1 with
  | @ls p vs ds h r =>
    cases r3 with
    | @ls p2 vs2 ds2 h2 r2 =>
      have ok' : GOk X.K T W (relF X.K T) c G3 σ (if ds.length + ds2.length ≤ 16777216 then .ok (ds ++ ds2) st3 else .stuck) Q := ok3
      by_cases q : ds.length + ds2.length ≤ 16777216
      · rw [if_pos q] at ok'
        refine ⟨_, _, _, _, rfl, rfl, hd3.sub _ _ h, hd3.sub _ _ h2, by rw [sizeLine_eq, r.length, r2.length]; exact q, fun l hl => ?_⟩
        obtain ⟨h4, r4⟩ := hd3.fresh hl (r.append r2)
        exact ok' _ _ _ (Same.refl _) h4 r4
      · rw [if_neg q] at ok'; exact ok'.elim
    | _ => exact ok3.elim
  | _ => cases r3 <;> exact ok3.elim

/-! ### subscripts -/
def ixD : D → D → Option D
  | .ls xs, .int i => atI xs i
  | .tu xs, .int i => atI xs i
  | .ro ns, .int i => (atI ns i).map .int
  | .str z, .int i => if z.length ≤ 16777216 then (atI z.cps.toList i).map fun c => .str ⟨#[c]⟩ else none
  | _, _ => none
def hIx (a b : D) (st : S) : R D := match a, b with
  | .box, .int i => match atI [st.bx.1, st.bx.2.1, st.bx.2.2] i with
    | some n => .ok (.int n) st
    | none => .stuck
  | a, b => match ixD a b with
    | some d => .ok d st
    | none => .stuck
theorem Reps.atI {K : PySem.W.Frag} {B : Option Addr} {G : Hp} {vs : List V} {ds : List D} {i : Int} {d : D} (r : Reps K T B G vs ds) (h : L2.atI ds i = some d) : ∃ v, L2.atI vs i = some v ∧ Rep K T B G v d := by
  unfold L2.atI at h ⊢
  rw [← r.length] at h
  cases e : ixN vs.length i with
  | none => rw [e] at h; cases h
  | some j =>
    rw [e] at h
    obtain ⟨v, e1, e2⟩ := r.get' (i := j) (d := d) h
    exact ⟨v, e1, e2⟩
theorem atI_map {α β : Type} (f : α → β) (xs : List α) (i : Int) : L2.atI (xs.map f) i = (L2.atI xs i).map f := by
  unfold L2.atI
  rw [List.length_map]
  cases ixN xs.length i with
  | none => rfl
  | some j => exact List.getElem?_map
theorem snd_ix : Snd2 X T W (rIx X.K) hIx := fun c G H σ st x y a b Q hd r1 r2 ok => by
  cases r2 with
  | int i =>
    cases r1 with
    | non => exact ok.elim
    | bl _ => exact ok.elim
    | int _ => exact ok.elim
    | ob _ _ _ => exact ok.elim
    | er0 _ _ => exact ok.elim
    | er1 _ _ _ _ => exact ok.elim
    | str z =>
      have ok' : GOk X.K T W (relD X.K T) c G σ (match (if z.length ≤ 16777216 then (atI z.cps.toList i).map fun c => D.str ⟨#[c]⟩ else none) with | some d => .ok d st | none => .stuck) Q := ok
      by_cases q : z.length ≤ 16777216
      · rw [if_pos q] at ok'
        cases e : L2.atI z.cps.toList i with
        | none => rw [e] at ok'; exact ok'.elim
        | some ch => rw [e] at ok'; exact .inr (.inr ⟨z, i, ch, rfl, rfl, by rw [sizeLine_eq]; exact q, e, ok' _ _ _ (Same.refl _) hd (.str _)⟩)
      · rw [if_neg q] at ok'; exact ok'.elim
    | ls h r =>
      rename_i p vs ds
      have ok' : GOk X.K T W (relD X.K T) c G σ (match L2.atI ds i with | some d => .ok d st | none => .stuck) Q := ok
      cases e : L2.atI ds i with
      | none => rw [e] at ok'; exact ok'.elim
      | some d =>
        rw [e] at ok'
        obtain ⟨v, e1, e2⟩ := r.atI e
        exact .inl ⟨p, vs, i, v, rfl, rfl, SqL.of (hd.sub _ _ h), e1, ok' _ _ _ (Same.refl _) hd e2⟩
    | tu h r =>
      rename_i p vs ds
      have ok' : GOk X.K T W (relD X.K T) c G σ (match L2.atI ds i with | some d => .ok d st | none => .stuck) Q := ok
      cases e : L2.atI ds i with
      | none => rw [e] at ok'; exact ok'.elim
      | some d =>
        rw [e] at ok'
        obtain ⟨v, e1, e2⟩ := r.atI e
        exact .inr (.inl ⟨p, vs, i, v, rfl, rfl, Same.sqt hd.sub h, e1, ok' _ _ _ (Same.refl _) hd e2⟩)
    | ro h =>
      rename_i p ns
      have ok' : GOk X.K T W (relD X.K T) c G σ (match (L2.atI ns i).map D.int with | some d => .ok d st | none => .stuck) Q := ok
      cases e : L2.atI ns i with
      | none => rw [e] at ok'; exact ok'.elim
      | some n =>
        rw [e] at ok'
        exact .inl ⟨p, _, i, .int n, rfl, rfl, hd.sub.seq h, by rw [atI_map, e]; rfl, ok' _ _ _ (Same.refl _) hd (.int _)⟩
    | box h =>
      rename_i p
      have ok' : GOk X.K T W (relD X.K T) c G σ (match L2.atI [st.bx.1, st.bx.2.1, st.bx.2.2] i with | some n => .ok (.int n) st | none => .stuck) Q := ok
      cases e : L2.atI [st.bx.1, st.bx.2.1, st.bx.2.2] i with
      | none => rw [e] at ok'; exact ok'.elim
      | some n =>
        rw [e] at ok'
        exact .inl ⟨p, [st.bx.1, st.bx.2.1, st.bx.2.2].map V.int, i, .int n, rfl, rfl, SqL.of (hd.box p h).1, by rw [atI_map, e]; rfl, ok' _ _ _ (Same.refl _) hd (.int _)⟩
  | non => cases r1 <;> exact ok.elim
  | bl _ => cases r1 <;> exact ok.elim
  | str _ => cases r1 <;> exact ok.elim
  | ls _ _ => cases r1 <;> exact ok.elim
  | tu _ _ => cases r1 <;> exact ok.elim
  | ro _ => cases r1 <;> exact ok.elim
  | box _ => cases r1 <;> exact ok.elim
  | ob _ _ _ => cases r1 <;> exact ok.elim
  | er0 _ _ => cases r1 <;> exact ok.elim
  | er1 _ _ _ _ => cases r1 <;> exact ok.elim
theorem de_ix {a b : Expr} {fa fb : S → R D} {pos : Pos} (ha : DE X T W a fa) (hb : DE X T W b fb) (hs : PlainIx b := by exact fun _ _ => rfl) : DE X T W (.Subscript a b pos) (dBin hIx fa fb) :=
  impE (pe_ix ix_seq ha hb hs) (bin_read (a := a) (b := b) snd_ix)
/-! ### slices -/
def dNoP : S → R (Option Int) := fun st => .ok none st
def dPart (f : S → R D) : S → R (Option Int) := fun st => (f st).bind fun d st => match d with
  | .int i => .ok (some i) st
  | _ => .stuck
theorem do_none : DO X T W none dNoP := ⟨fun pins s σ H Q I ⟨c, G, st, hd, ok⟩ => po_none.run pins s σ H Q I (ok _ _ _ (Same.refl _) hd rfl)⟩
theorem do_some {e : Expr} {f : S → R D} (h : DE X T W e f) : DO X T W (some e) (dPart f) := ⟨fun pins s σ H Q I ⟨c, G, st, hd, ok⟩ => (po_some h).run pins s σ H Q I (by
  obtain ⟨c0, G0, st0, hd0, ok0⟩ := step (rel := relD X.K T) hd ok
  refine ⟨c0, G0, st0, hd0, ok0.imp fun x H1 ⟨G1, st1, a, s1, hd1, r1, ok1⟩ => ?_⟩
  cases r1 <;> first | exact ok1.elim | skip
  exact ⟨_, rfl, ok1 _ _ _ (Same.refl _) hd1 rfl⟩)⟩
def cutD {α : Type} (xs : List α) (lo hi : Option Int) : List α := (xs.drop (HT.sIx xs.length 0 lo)).take (HT.sIx xs.length xs.length hi - HT.sIx xs.length 0 lo)
theorem Reps.cut {K : PySem.W.Frag} {B : Option Addr} {G : Hp} {vs : List V} {ds : List D} (r : Reps K T B G vs ds) (lo hi : Option Int) : Reps K T B G (cutV vs lo hi) (cutD ds lo hi) := by
  unfold cutV cutD
  rw [r.length]
  exact (r.drop _).take _
theorem cut_whole {α : Type} (xs : List α) (lo hi : Option Int) (h : HT.sIx xs.length 0 lo = 0 ∧ HT.sIx xs.length xs.length hi = xs.length) : cutD xs lo hi = xs := by
  unfold cutD
  rw [h.1, h.2]
  simp
theorem cut_map {α β : Type} (f : α → β) (xs : List α) (lo hi : Option Int) : cutD (xs.map f) lo hi = (cutD xs lo hi).map f := by
  unfold cutD
  rw [List.length_map, List.map_take, List.map_drop]
def sliceD (d : D) (lo hi : Option Int) : Option D := match d with
  | .ls xs => some (.ls (cutD xs lo hi))
  | .ro xs => some (.ls ((cutD xs lo hi).map .int))
  | .tu xs => some (.tu (cutD xs lo hi))
  | .str z => if z.length ≤ 16777216 then some (.str (cutS z lo hi)) else none
  | _ => none
def dSlice (f : S → R D) (l h : S → R (Option Int)) : S → R D := fun st => (f st).bind fun x st => (l st).bind fun lo st => (h st).bind fun hi st => match sliceD x lo hi with
  | some d => .ok d st
  | none => .stuck
theorem Reps.ints {K : PySem.W.Frag} {B : Option Addr} {G : Hp} : ∀ (ns : List Int), Reps K T B G (ns.map V.int) (ns.map D.int)
  | [] => .nil
  | n :: ns => .cons (.int n) (Reps.ints ns)
theorem de_slice {e : Expr} {lo hi : Option Expr} {f : S → R D} {l h : S → R (Option Int)} {pos p2 : Pos} (he : DE X T W e f) (hl : DO X T W lo l) (hh : DO X T W hi h) : DE X T W (.Subscript e (.Slice lo hi none p2) pos) (dSlice f l h) := by
  refine impE (pe_slice (sl_list.or (sl_tupA.or sl_str)) he hl hh) fun σ H Q ⟨c, G, st, hd, ok⟩ => ?_
  obtain ⟨c0, G0, st0, hd0, ok0⟩ := step (rel := relD X.K T) hd ok
  refine ⟨c0, G0, st0, hd0, ok0.imp fun x H1 ⟨G1, st1, a, s1, hd1, r1, ok1⟩ => ?_⟩
  obtain ⟨c2, G2, st2, hd2, ok2⟩ := step (rel := relO) hd1 ok1
  refine ⟨c2, G2, st2, hd2, ok2.imp fun y H2 ⟨G3, st3, b, s3, hd3, r3, ok3⟩ => ?_⟩
  cases r3
  obtain ⟨c4, G4, st4, hd4, ok4⟩ := step (rel := relO) hd3 ok3
  refine ⟨c4, G4, st4, hd4, ok4.imp fun z H3 ⟨G5, st5, b, s5, hd5, r5, ok5⟩ => ?_⟩
  cases r5
  replace r1 := (r1.mono s3).mono s5
  cases r1 with
  | str w =>
    have ok' : GOk X.K T W (relD X.K T) c G5 σ (match (if w.length ≤ 16777216 then some (D.str (cutS w y z)) else none) with | some d => .ok d st5 | none => .stuck) Q := ok5
    by_cases q : w.length ≤ 16777216
    · rw [if_pos q] at ok'
      exact .inr (.inr ⟨w, rfl, by rw [sizeLine_eq]; exact q, ok' _ _ _ (Same.refl _) hd5 (.str _)⟩)
    · rw [if_neg q] at ok'; exact ok'.elim
  | ls h r => exact .inl ⟨_, _, rfl, SqL.of (hd5.sub _ _ h), fun l hl => ok5 _ _ _ (same_upd (hd5.gnone hl)) (hd5.lay _ hl) (.ls upd_same ((r.cut y z).mono (same_upd (hd5.gnone hl))))⟩
  | tu h r =>
    refine .inr (.inl ⟨_, _, rfl, Same.sqt hd5.sub h, fun w => ok5 _ _ _ (Same.refl _) hd5 (.tu h ?_), fun w l hl => ok5 _ _ _ (same_upd (hd5.gnone hl)) (hd5.lay _ hl) (.tu (.inl (.inl upd_same)) ((r.cut y z).mono (same_upd (hd5.gnone hl))))⟩)
    rw [r.length] at w
    rw [cut_whole _ y z w]
    exact r
  | @ro p ns h =>
    refine .inl ⟨p, _, rfl, hd5.sub.seq h, fun l hl => ok5 _ _ _ (same_upd (hd5.gnone hl)) (hd5.lay _ hl) (.ls upd_same ?_)⟩
    rw [show cutV (ns.map V.int) y z = (cutD ns y z).map V.int from cut_map V.int ns y z]
    exact Reps.ints _
  | _ => exact ok5.elim
end
end DL

/-! DLd: calls, built-ins, what is walked. -/
namespace DL
open PySem PySem.Spec PyProof.Rows L2

/-! ### a def's promise -/
inductive FR where
  | ok (d : D) (b : Bx) | okF (ds : List D) (b : Bx) | err (e : Er) (b : Bx) | stuck
abbrev Fn := List D → Bx → FR
structure After (K : PySem.W.Frag) (T : Tab) (B : Option Addr) (G H G' H' : Hp) (b : Bx) : Prop where
  sG : Same G G'
  sub : Same G' H'
  new : ∀ a, G a = none → G' a ≠ none → H a = none
  frame : ∀ a o, H a = some o → B ≠ some a → H' a = some o
  box : ∀ p, B = some p → H' p = some (boxO b) ∧ G' p = none
def FOk (K : PySem.W.Frag) (T : Tab) (B : Option Addr) (G H : Hp) (r : FR) (Q : VK) (E : XK) : Prop := match r with
  | .ok d b => ∀ G' H' v, After K T B G H G' H' b → Rep K T B G' v d → Q v H'
  | .okF ds b => ∀ G' H' p vs, After K T B G H G' H' b → H' p = some (.lst vs) → G' p = none → H p = none → Reps K T B G' vs ds → Q (.ref p) H'
  | .err e b => ∀ G' H' cls dd, After K T B G H G' H' b → ErrAt K T B G' H' e cls dd → E cls dd H'
  | .stuck => False
def spD (K : PySem.W.Frag) (T : Tab) (n : Nat) (F : Fn) : Sp := fun vs H Q E => vs.length = n ∧ ∃ (B : Option Addr) (G : Hp) (ds : List D) (b : Bx), Same G H ∧ (∀ p, B = some p → H p = some (boxO b) ∧ G p = none) ∧ Reps K T B G vs ds ∧ FOk K T B G H (F ds b) Q E
def fromF (r : FR) (st : S) : R D := match r with
  | .ok d b => .ok d { st with bx := b }
  | .okF ds b => .ok (.ls ds) { st with bx := b }
  | .err e b => .err e { st with bx := b }
  | .stuck => .stuck
section
variable {K : PySem.W.Frag} {T : Tab} {W : WX} {c : Ctx} {G G' H H' : Hp} {σ : SV} {st : S}
theorem Holds.after (h : Holds K T c G H σ st) {b : Bx} (a : After K T c.B G H G' H' b) : Holds K T c G' H' σ { st with bx := b } where
  sub0 := h.sub0.trans a.sG
  sub := a.sub
  new := fun x e n => by
    cases q : G x with
    | none => exact h.h0 (a.new x q n)
    | some o => exact h.new x e (by rw [q]; exact fun z => by cases z)
  frame := fun x o e n => a.frame x o (h.frame x o e n) n
  len := h.len
  slot := fun i s e => by
    have o := h.slot i s e
    cases s with
    | un => trivial
    | val d => obtain ⟨v, e1, r⟩ := o; exact ⟨v, e1, r.mono a.sG⟩
    | own ds =>
      obtain ⟨p, vs, e1, e2, g, z, r⟩ := o
      refine ⟨p, vs, e1, a.frame p _ e2 (fun q => h.box0 p q z), ?_, z, r.mono a.sG⟩
      cases q : G' p with
      | none => rfl
      | some o => have := a.new p g (by rw [q]; exact fun z => by cases z); rw [e2] at this; cases this
  dist := h.dist
  box := a.box
  box0 := h.box0
/-- what a call hands back as new is nobody's -/
theorem Holds.handed (h : Holds K T c G H σ st) {b : Bx} (a : After K T c.B G H G' H' b) {p : Addr} {vs : List V} {ds : List D} (hp : H' p = some (.lst vs)) (g : G' p = none) (n : H p = none) (r : Reps K T c.B G' vs ds) : relF K T c G' H' σ { st with bx := b } (.ref p) ds := by
  refine ⟨p, vs, rfl, hp, g, h.h0 n, r, fun i es e q => ?_⟩
  obtain ⟨p2, vs2, e1, e2, _⟩ := h.slot i _ e
  rw [e1] at q
  cases q
  rw [n] at e2; cases e2
/-- the call of a def by its promise -/
theorem spD_use {n : Nat} {F : Fn} {vs : List V} {ds : List D} {Q : VK} (h : Holds K T c G H σ st) (r : Reps K T c.B G vs ds) (l : vs.length = n) (ok : GOk K T W (relD K T) c G σ (fromF (F ds st.bx) st) Q) :
    spD K T n F vs H Q (WE W σ) := by
  refine ⟨l, c.B, G, ds, st.bx, h.sub, h.box, r, ?_⟩
  revert ok
  cases F ds st.bx with
  | ok d b => exact fun ok G' H' v a r => ok G' H' v a.sG (h.after a) r
  | okF ds b =>
    intro ok G' H' p vs a hp g n r
    obtain ⟨G2, s2, h2, r2⟩ := (h.handed a hp g n r).close (h.after a)
    exact ok G2 H' (.ref p) (a.sG.trans s2) h2 r2
  | err e b => exact fun ok G' H' cls dd a r => ok G' H' cls dd a.sG (h.after a) r
  | stuck => exact fun ok => ok
end
section
variable {X : Cx} {T : Tab} {W : WX}
/-- a call: the written arguments, then the defaults -/
def dCall (n : Nat) (F : Fn) (dds : List D) (fa : S → R (List D)) : S → R D := fun st => (fa st).bind fun ds st => if (ds ++ dds).length = n then fromF (F (ds ++ dds) st.bx) st else .stuck
theorem de_call {k n : Nat} {F : Fn} {f : Addr} {fd : FuncData} {ps : List Str} {dvs : List V} {ds : List Value} {dds : List D} {x : Str} {p pos : Pos} {e : Expr} {es : List Expr} {fa : S → R (List D)}
    (G : FnOk X.prog X.w X.K X.mg X.base (L2.CX X.prog X.w) k f fd ps (spD X.K T n F)) (hr : Room k X.A) (hg : Gl X x) (hm : X.mg x = some (.ref f)) (hk : PySem.W.keepIn X.K (.ref f) = true) (hb : Binds X.K fd ps ds) (hd : Vals dvs ds)
    (hrd : ∀ B G, Reps X.K T B G dvs dds) (tk : Takes X W) (ha : DA X T W (e :: es) fa) (hdb : (x == ("__debug__" : Str)) = false := by decide) (he : starEach (e :: es) X.env = (false, eval e X.env) :: starEach es X.env := by rfl) (hpl : (backTo pos (starEach es X.env)).any (·.1) = false := by rfl) :
    DE X T W (.Call (.Name x p) (e :: es) [] pos) (dCall n F dds fa) := by
  refine impE (pe_callSD (E := WE W) G hr hg hm hk hb hd (passAt tk) ha hdb he hpl) fun σ H Q ⟨c, G, st, hd, ok⟩ => ?_
  obtain ⟨c0, G0, st0, hd0, ok0⟩ := step (rel := relA X.K T) hd ok
  refine ⟨c0, G0, st0, hd0, ok0.imp fun vs H1 ⟨G1, st1, as, s1, hd1, r1, ok1⟩ => ?_⟩
  have r2 := r1.append (hrd c.B G1)
  by_cases q : (as ++ dds).length = n
  · rw [if_pos q] at ok1
    exact spD_use hd1 r2 (r2.length.trans q) ok1
  · rw [if_neg q] at ok1; exact ok1.elim
theorem de_call0 {k n : Nat} {F : Fn} {f : Addr} {fd : FuncData} {ps : List Str} {dvs : List V} {ds : List Value} {dds : List D} {x : Str} {p pos : Pos}
    (G : FnOk X.prog X.w X.K X.mg X.base (L2.CX X.prog X.w) k f fd ps (spD X.K T n F)) (hr : Room k X.A) (hg : Gl X x) (hm : X.mg x = some (.ref f)) (hk : PySem.W.keepIn X.K (.ref f) = true) (hb : Binds X.K fd ps ds) (hd : Vals dvs ds)
    (hrd : ∀ B G, Reps X.K T B G dvs dds) (tk : Takes X W) (hdb : (x == ("__debug__" : Str)) = false := by decide) :
    DE X T W (.Call (.Name x p) [] [] pos) (dCall n F dds dNil) := by
  refine ⟨fun pins s σ H Q I ⟨c, G', st, hd', ok⟩ => ?_⟩
  refine wpAny_Call_Name_kw (ld_glob I hg hm ?_ hdb)
  refine PySem.W.callWith_K0 I.kIn hk ?_
  replace ok : GOk X.K T W (relD X.K T) c G' σ (if ([] ++ dds).length = n then fromF (F ([] ++ dds) st.bx) st else .stuck) Q := ok
  by_cases q : ([] ++ dds).length = n
  · rw [if_pos q] at ok
    exact run_fnSD (us := []) (E := WE W) G hr hb hd (passAt tk σ) I .nil (spD_use hd' (hrd c.B G') ((hrd c.B G').length.trans q) ok)
  · rw [if_neg q] at ok; exact ok.elim

/-! ### built-ins -/
def dCB (h : List D → S → R D) (fa : S → R (List D)) : S → R D := fun st => (fa st).bind h
def SndC (X : Cx) (T : Tab) (W : WX) (r : List V → Hp → VK → Prop) (h : List D → S → R D) : Prop :=
  ∀ (c : Ctx) (G H : Hp) (σ : SV) (st : S) (vs : List V) (ds : List D) (Q : VK), Holds X.K T c G H σ st → Reps X.K T c.B G vs ds → GOk X.K T W (relD X.K T) c G σ (h ds st) Q → r vs H Q
theorem cb_read {r : List V → Hp → VK → Prop} {h : List D → S → R D} {fa : S → R (List D)} (sd : SndC X T W r h) : ∀ σ H Q, gD X.K T W (relD X.K T) (dCB h fa) σ H Q → tCB r (gD X.K T W (relA X.K T) fa) σ H Q := fun σ H Q ⟨c, G, st, hd, ok⟩ => by
  obtain ⟨c0, G0, st0, hd0, ok0⟩ := step (rel := relA X.K T) hd ok
  exact ⟨c0, G0, st0, hd0, ok0.imp fun vs H1 ⟨G1, st1, a, s1, hd1, r1, ok1⟩ => sd c G1 H1 σ st1 vs a Q hd1 r1 ok1⟩
theorem de_callB {id : String} {r : List V → Hp → VK → Prop} {h : List D → S → R D} {x : Str} {p pos : Pos} {e : Expr} {es : List Expr} {fa : S → R (List D)} (hc : CallR X (.builtin id) r) (sd : SndC X T W r h) (hg : Gl X x) (hm : X.mg x = none) (hv : bootBuiltins x = some (.builtin id)) (ha : DA X T W (e :: es) fa)
    (hn : x ≠ "__name__" := by decide) (hdb : (x == ("__debug__" : Str)) = false := by decide) (he : starEach (e :: es) X.env = (false, eval e X.env) :: starEach es X.env := by rfl) (hpl : (backTo pos (starEach es X.env)).any (·.1) = false := by rfl) :
    DE X T W (.Call (.Name x p) (e :: es) [] pos) (dCB h fa) := impE (pe_callB hc hg hm hv ha hn hdb he hpl) (cb_read sd)
theorem de_callTy {Ty : String} {r : List V → Hp → VK → Prop} {h : List D → S → R D} {x : Str} {p pos : Pos} {e : Expr} {es : List Expr} {fa : S → R (List D)} (hc : CallR X (.type Ty) r) (sd : SndC X T W r h) (hg : Gl X x) (hm : X.mg x = none) (hv : bootBuiltins x = some (.type Ty)) (ha : DA X T W (e :: es) fa)
    (hn : x ≠ "__name__" := by decide) (hdb : (x == ("__debug__" : Str)) = false := by decide) (he : starEach (e :: es) X.env = (false, eval e X.env) :: starEach es X.env := by rfl) (hpl : (backTo pos (starEach es X.env)).any (·.1) = false := by rfl) :
    DE X T W (.Call (.Name x p) (e :: es) [] pos) (dCB h fa) := impE (pe_callTy hc hg hm hv ha hn hdb he hpl) (cb_read sd)
/-- len -/
def hLen : List D → S → R D
  | [.ls xs], st => .ok (.int xs.length) st
  | [.tu xs], st => .ok (.int xs.length) st
  | [.ro xs], st => .ok (.int xs.length) st
  | [.str z], st => if z.length ≤ 16777216 then .ok (.int z.length) st else .stuck
  | _, _ => .stuck
theorem snd_len : SndC X T W (fun xs H Q => (∃ p ys, xs = [.ref p] ∧ (SqL X.K H p ys ∨ SqT X.K H p ys) ∧ Q (.int ys.length) H) ∨ ∃ z, xs = [.str z] ∧ z.length ≤ sizeLine ∧ Q (.int z.length) H) hLen := fun c G H σ st vs ds Q hd r ok => by
  cases r with
  | nil => exact ok.elim
  | cons r1 r =>
    cases r with
    | cons _ _ => cases r1 <;> exact ok.elim
    | nil =>
      cases r1 with
      | @ls p vs ds h r => exact .inl ⟨p, vs, rfl, .inl (SqL.of (hd.sub _ _ h)), by rw [r.length]; exact ok _ _ _ (Same.refl _) hd (.int _)⟩
      | @tu p vs ds h r => exact .inl ⟨p, vs, rfl, .inr (Same.sqt hd.sub h), by rw [r.length]; exact ok _ _ _ (Same.refl _) hd (.int _)⟩
      | @ro p ns h => exact .inl ⟨p, _, rfl, .inl (hd.sub.seq h), by rw [List.length_map]; exact ok _ _ _ (Same.refl _) hd (.int _)⟩
      | str z =>
        have ok' : GOk X.K T W (relD X.K T) c G σ (if z.length ≤ 16777216 then .ok (.int z.length) st else .stuck) Q := ok
        by_cases q : z.length ≤ 16777216
        · rw [if_pos q] at ok'
          exact .inr ⟨z, rfl, by rw [sizeLine_eq]; exact q, ok' _ _ _ (Same.refl _) hd (.int _)⟩
        · rw [if_neg q] at ok'; exact ok'.elim
      | _ => exact ok.elim
theorem de_len {p pos : Pos} {e : Expr} {fa : S → R (List D)} (hg : Gl X "len") (hm : X.mg "len" = none) (ha : DA X T W [e] fa) (he : starEach [e] X.env = (false, eval e X.env) :: starEach [] X.env := by rfl) :
    DE X T W (.Call (.Name "len" p) [e] [] pos) (dCB hLen fa) := de_callB (call_len_seq.or call_len_str) snd_len hg hm PySem.boot_len ha (he := he)
/-- int(n), int(flag) -/
def hInt : List D → S → R D
  | [.int i], st => .ok (.int i) st
  | [.bl k], st => .ok (.int (if k then 1 else 0)) st
  | [.str a], st => match PySem.intText? a with
    | some n => if a.length ≤ 640 then .ok (.int n) st else .stuck
    | none => .stuck
  | _, _ => .stuck
theorem snd_int : SndC X T W (fun xs H Q => ((∃ i, xs = [.int i] ∧ Q (.int i) H) ∨ ∃ k, xs = [.bl k] ∧ Q (.int (if k then 1 else 0)) H) ∨ ∃ a n, xs = [.str a] ∧ PySem.intText? a = some n ∧ a.length ≤ 640 ∧ Q (.int n) H) hInt := fun c G H σ st vs ds Q hd r ok => by
  cases r with
  | nil => exact ok.elim
  | cons r1 r =>
    cases r with
    | cons _ _ => cases r1 <;> exact ok.elim
    | nil =>
      cases r1 with
      | int i => exact .inl (.inl ⟨i, rfl, ok _ _ _ (Same.refl _) hd (.int _)⟩)
      | bl k => exact .inl (.inr ⟨k, rfl, ok _ _ _ (Same.refl _) hd (.int _)⟩)
      | str a =>
        have ok' : GOk X.K T W (relD X.K T) c G σ (match PySem.intText? a with | some n => if a.length ≤ 640 then .ok (.int n) st else .stuck | none => .stuck) Q := ok
        cases e : PySem.intText? a with
        | none => rw [e] at ok'; exact ok'.elim
        | some n =>
          rw [e] at ok'
          dsimp only at ok'
          by_cases q : a.length ≤ 640
          · rw [if_pos q] at ok'
            exact .inr ⟨a, n, rfl, e, q, ok' _ _ _ (Same.refl _) hd (.int _)⟩
          · rw [if_neg q] at ok'; exact ok'.elim
      | _ => exact ok.elim
theorem boot_int' : bootBuiltins "int" = some (.type "int") := by decide +kernel
theorem de_intc {p pos : Pos} {e : Expr} {fa : S → R (List D)} (hg : Gl X "int") (hm : X.mg "int" = none) (ha : DA X T W [e] fa) (he : starEach [e] X.env = (false, eval e X.env) :: starEach [] X.env := by rfl) :
    DE X T W (.Call (.Name "int" p) [e] [] pos) (dCB hInt fa) := de_callTy (call_int1.or call_int_str) snd_int hg hm boot_int' ha (he := he)
/-- abs -/
def hAbs : List D → S → R D
  | [.int i], st => .ok (.int (if i < 0 then -i else i)) st
  | _, _ => .stuck
theorem snd_abs : SndC X T W (fun xs H Q => ∃ i, xs = [.int i] ∧ Q (.int (if i < 0 then -i else i)) H) hAbs := fun c G H σ st vs ds Q hd r ok => by
  cases r with
  | nil => exact ok.elim
  | cons r1 r =>
    cases r with
    | cons _ _ => cases r1 <;> exact ok.elim
    | nil =>
      cases r1 with
      | int i => exact ⟨i, rfl, ok _ _ _ (Same.refl _) hd (.int _)⟩
      | _ => exact ok.elim
theorem boot_abs' : bootBuiltins "abs" = some (.builtin "abs") := by decide +kernel
theorem de_abs {p pos : Pos} {e : Expr} {fa : S → R (List D)} (hg : Gl X "abs") (hm : X.mg "abs" = none) (ha : DA X T W [e] fa) (he : starEach [e] X.env = (false, eval e X.env) :: starEach [] X.env := by rfl) :
    DE X T W (.Call (.Name "abs" p) [e] [] pos) (dCB hAbs fa) := de_callB call_abs snd_abs hg hm boot_abs' ha (he := he)
/-- max, min of two -/
def h2 (g : Int → Int → Int) : List D → S → R D
  | [.int i, .int j], st => .ok (.int (g i j)) st
  | _, _ => .stuck
theorem snd_2 {g : Int → Int → Int} : SndC X T W (fun xs H Q => ∃ i j, xs = [.int i, .int j] ∧ Q (.int (g i j)) H) (h2 g) := fun c G H σ st vs ds Q hd r ok => by
  cases r with
  | nil => exact ok.elim
  | cons r1 r =>
    cases r with
    | nil => cases r1 <;> exact ok.elim
    | cons r2 r =>
      cases r with
      | cons _ _ => cases r1 <;> cases r2 <;> exact ok.elim
      | nil =>
        cases r1 with
        | int i =>
          cases r2 with
          | int j => exact ⟨i, j, rfl, ok _ _ _ (Same.refl _) hd (.int _)⟩
          | _ => exact ok.elim
        | _ => cases r2 <;> exact ok.elim
abbrev gMax (i j : Int) : Int := if j > i then j else i
abbrev gMin (i j : Int) : Int := if j < i then j else i
theorem boot_max' : bootBuiltins "max" = some (.builtin "max") := by decide +kernel
theorem boot_min' : bootBuiltins "min" = some (.builtin "min") := by decide +kernel
theorem de_max2 {p pos : Pos} {e e2 : Expr} {fa : S → R (List D)} (hc : X.calm = true) (hg : Gl X "max") (hm : X.mg "max" = none) (ha : DA X T W [e, e2] fa) (he : starEach [e, e2] X.env = (false, eval e X.env) :: starEach [e2] X.env := by rfl) (hpl : (backTo pos (starEach [e2] X.env)).any (·.1) = false := by rfl) :
    DE X T W (.Call (.Name "max" p) [e, e2] [] pos) (dCB (h2 gMax) fa) := de_callB (call_max2 hc) snd_2 hg hm boot_max' ha (he := he) (hpl := hpl)
theorem de_min2 {p pos : Pos} {e e2 : Expr} {fa : S → R (List D)} (hc : X.calm = true) (hg : Gl X "min") (hm : X.mg "min" = none) (ha : DA X T W [e, e2] fa) (he : starEach [e, e2] X.env = (false, eval e X.env) :: starEach [e2] X.env := by rfl) (hpl : (backTo pos (starEach [e2] X.env)).any (·.1) = false := by rfl) :
    DE X T W (.Call (.Name "min" p) [e, e2] [] pos) (dCB (h2 gMin) fa) := de_callB (call_min2 hc) snd_2 hg hm boot_min' ha (he := he) (hpl := hpl)
/-- list(xs): a new list -/
def hListOf : List D → S → R (List D)
  | [.ls xs], st => .ok xs st
  | [.tu xs], st => .ok xs st
  | [.ro xs], st => .ok (xs.map .int) st
  | _, _ => .stuck
def dCBF (h : List D → S → R (List D)) (fa : S → R (List D)) : S → R (List D) := fun st => (fa st).bind h
theorem boot_list' : bootBuiltins "list" = some (.type "list") := by decide +kernel
theorem boot_tuple' : bootBuiltins "tuple" = some (.type "tuple") := by decide +kernel
theorem df_list {p pos : Pos} {e : Expr} {fa : S → R (List D)} (hg : Gl X "list") (hm : X.mg "list" = none) (ha : DA X T W [e] fa) (he : starEach [e] X.env = (false, eval e X.env) :: starEach [] X.env := by rfl) :
    DF X T W (.Call (.Name "list" p) [e] [] pos) (dCBF hListOf fa) := by
  refine impE (pe_callTy call_list_of hg hm boot_list' ha (he := he)) fun σ H Q ⟨c, G, st, hd, ok⟩ => ?_
  obtain ⟨c0, G0, st0, hd0, ok0⟩ := step (rel := relA X.K T) hd ok
  refine ⟨c0, G0, st0, hd0, ok0.imp fun vs H1 ⟨G1, st1, a, s1, hd1, r, ok1⟩ => ?_⟩
  cases r with
  | nil => exact ok1.elim
  | cons r1 r =>
    cases r with
    | cons _ _ => cases r1 <;> exact ok1.elim
    | nil =>
      cases r1 with
      | @ls p vs ds h r =>
        refine ⟨p, vs, rfl, .inl (SqL.of (hd1.sub _ _ h)), fun l hl => ?_⟩
        obtain ⟨h4, r4⟩ := hd1.fresh hl r
        exact ok1 _ _ _ (Same.refl _) h4 r4
      | @tu p vs ds h r =>
        refine ⟨p, vs, rfl, .inr (Same.sqt hd1.sub h), fun l hl => ?_⟩
        obtain ⟨h4, r4⟩ := hd1.fresh hl r
        exact ok1 _ _ _ (Same.refl _) h4 r4
      | @ro p ns h =>
        refine ⟨p, _, rfl, .inl (hd1.sub.seq h), fun l hl => ?_⟩
        obtain ⟨h4, r4⟩ := hd1.fresh hl (Reps.ints ns)
        exact ok1 _ _ _ (Same.refl _) h4 r4
      | _ => exact ok1.elim
/-- tuple(xs) -/
def hTupOf : List D → S → R D
  | [.ls xs], st => .ok (.tu xs) st
  | [.tu xs], st => .ok (.tu xs) st
  | _, _ => .stuck
theorem snd_tupOf : SndC X T W (fun xs H Q => ∃ p ys, xs = [.ref p] ∧ ((SqL X.K H p ys ∧ ∀ l, H l = none → Q (.ref l) (upd H l (.tup ys))) ∨ (SqT X.K H p ys ∧ Q (.ref p) H))) hTupOf := fun c G H σ st vs ds Q hd r ok => by
  cases r with
  | nil => exact ok.elim
  | cons r1 r =>
    cases r with
    | cons _ _ => cases r1 <;> exact ok.elim
    | nil =>
      cases r1 with
      | @ls p vs ds h r => exact ⟨p, vs, rfl, .inl ⟨SqL.of (hd.sub _ _ h), fun l hl => ok _ _ _ (same_upd (hd.gnone hl)) (hd.lay _ hl) (.tu (.inl (.inl upd_same)) (r.mono (same_upd (hd.gnone hl))))⟩⟩
      | @tu p vs ds h r => exact ⟨p, vs, rfl, .inr ⟨Same.sqt hd.sub h, ok _ _ _ (Same.refl _) hd (.tu h r)⟩⟩
      | _ => exact ok.elim
theorem de_tupleOf {p pos : Pos} {e : Expr} {fa : S → R (List D)} (hg : Gl X "tuple") (hm : X.mg "tuple" = none) (ha : DA X T W [e] fa) (he : starEach [e] X.env = (false, eval e X.env) :: starEach [] X.env := by rfl) :
    DE X T W (.Call (.Name "tuple" p) [e] [] pos) (dCB hTupOf fa) := de_callTy call_tuple_of snd_tupOf hg hm boot_tuple' ha (he := he)
/-- all, any of a list of bools -/
def blD : D → Option Bool
  | .bl b => some b
  | _ => none
def blDs : List D → Option (List Bool)
  | [] => some []
  | d :: ds => (blD d).bind fun b => (blDs ds).map fun bs => b :: bs
theorem blDs_rep {K : PySem.W.Frag} {B : Option Addr} {G : Hp} : ∀ {vs : List V} {ds : List D} {bs : List Bool}, Reps K T B G vs ds → blDs ds = some bs → vs = bs.map V.bl
  | _, _, _, .nil, h => by simp [blDs] at h; subst h; rfl
  | _, _, bs, .cons (d := d) (ds := ds) h r, e => by
    have e' : (blD d).bind (fun b => (blDs ds).map fun bs => b :: bs) = some bs := e
    cases q : blD d with
    | none => rw [q] at e'; cases e'
    | some b =>
      cases q2 : blDs ds with
      | none => rw [q, q2] at e'; cases e'
      | some bs2 =>
        rw [q, q2] at e'; cases e'
        cases h <;> simp [blD] at q
        subst q
        rw [blDs_rep r q2]; rfl
def hAA (g : List Bool → Bool) : List D → S → R D
  | [.ls ds], st => match blDs ds with
    | some bs => .ok (.bl (g bs)) st
    | none => .stuck
  | _, _ => .stuck
theorem snd_aa {g : List Bool → Bool} : SndC X T W (fun vs H Q => ∃ (a : Addr) (bs : List Bool), vs = [V.ref a] ∧ SqL X.K H a (bs.map V.bl) ∧ Q (.bl (g bs)) H) (hAA g) := fun c G H σ st vs ds Q hd r ok => by
  cases r with
  | nil => exact ok.elim
  | cons r1 r =>
    cases r with
    | cons _ _ => cases r1 <;> exact ok.elim
    | nil =>
      cases r1 with
      | @ls p vs ds h r =>
        have ok' : GOk X.K T W (relD X.K T) c G σ (match blDs ds with | some bs => .ok (.bl (g bs)) st | none => .stuck) Q := ok
        cases e : blDs ds with
        | none => rw [e] at ok'; exact ok'.elim
        | some bs =>
          rw [e] at ok'
          refine ⟨p, bs, rfl, ?_, ok' _ _ _ (Same.refl _) hd (.bl _)⟩
          rw [← blDs_rep r e]
          exact SqL.of (hd.sub _ _ h)
      | _ => exact ok.elim
abbrev hAll := hAA fun bs => bs.all id
abbrev hAny := hAA fun bs => bs.any id
theorem boot_all' : bootBuiltins "all" = some (.builtin "all") := by decide +kernel
theorem boot_any' : bootBuiltins "any" = some (.builtin "any") := by decide +kernel
theorem de_all {p pos : Pos} {e : Expr} {fa : S → R (List D)} (hc : X.calm = true) (hg : Gl X "all") (hm : X.mg "all" = none) (ha : DA X T W [e] fa) (he : starEach [e] X.env = (false, eval e X.env) :: starEach [] X.env := by rfl) :
    DE X T W (.Call (.Name "all" p) [e] [] pos) (dCB hAll fa) := de_callB (cr_all hc) snd_aa hg hm boot_all' ha (he := he)
theorem de_any {p pos : Pos} {e : Expr} {fa : S → R (List D)} (hc : X.calm = true) (hg : Gl X "any") (hm : X.mg "any" = none) (ha : DA X T W [e] fa) (he : starEach [e] X.env = (false, eval e X.env) :: starEach [] X.env := by rfl) :
    DE X T W (.Call (.Name "any" p) [e] [] pos) (dCB hAny fa) := de_callB (cr_any hc) snd_aa hg hm boot_any' ha (he := he)
/-- sum of a list of ints -/
def intDs : List D → Option (List Int)
  | [] => some []
  | d :: ds => match d with
    | .int i => (intDs ds).map fun is => i :: is
    | _ => none
theorem intDs_rep {K : PySem.W.Frag} {B : Option Addr} {G : Hp} : ∀ {vs : List V} {ds : List D} {bs : List Int}, Reps K T B G vs ds → intDs ds = some bs → vs = bs.map V.int
  | _, _, _, .nil, h => by simp [intDs] at h; subst h; rfl
  | _, _, bs, .cons (d := d) (ds := ds) h r, e => by
    cases h <;> first | (simp [intDs] at e; done) | skip
    rename_i i
    have e' : ((intDs ds).map fun is => i :: is) = some bs := e
    cases q2 : intDs ds with
    | none => rw [q2] at e'; cases e'
    | some bs2 =>
      rw [q2] at e'; cases e'
      rw [intDs_rep r q2]; rfl
def hSum : List D → S → R D
  | [.ls ds], st => match intDs ds with
    | some is => .ok (.int is.sum) st
    | none => .stuck
  | _, _ => .stuck
theorem snd_sum : SndC X T W (rSum X.K) hSum := fun c G H σ st vs ds Q hd r ok => by
  cases r with
  | nil => exact ok.elim
  | cons r1 r =>
    cases r with
    | cons _ _ => cases r1 <;> exact ok.elim
    | nil =>
      cases r1 with
      | @ls p vs ds h r =>
        have ok' : GOk X.K T W (relD X.K T) c G σ (match intDs ds with | some is => .ok (.int is.sum) st | none => .stuck) Q := ok
        cases e : intDs ds with
        | none => rw [e] at ok'; exact ok'.elim
        | some bs =>
          rw [e] at ok'
          refine ⟨p, bs, rfl, ?_, ok' _ _ _ (Same.refl _) hd (.int _)⟩
          rw [← intDs_rep r e]
          exact SqL.of (hd.sub _ _ h)
      | _ => exact ok.elim
theorem boot_sum' : bootBuiltins "sum" = some (.builtin "sum") := by decide +kernel
theorem de_sum {p pos : Pos} {e : Expr} {fa : S → R (List D)} (hc : X.calm = true) (hg : Gl X "sum") (hm : X.mg "sum" = none) (ha : DA X T W [e] fa) (he : starEach [e] X.env = (false, eval e X.env) :: starEach [] X.env := by rfl) :
    DE X T W (.Call (.Name "sum" p) [e] [] pos) (dCB hSum fa) := de_callB (cr_sum hc) snd_sum hg hm boot_sum' ha (he := he)
end
end DL

/-! DLe: what is walked; statements; loops; comprehensions; a def's body. -/
namespace DL
open PySem PySem.Spec PyProof.Rows L2

/-! ### what is walked -/
def relI (K : PySem.W.Frag) (T : Tab) : Rel (List D) It := fun c G _ _ _ J ds => ∀ (c' : Ctx) (G' H' : Hp) (σ' : SV) (st' : S), c'.B = c.B → Same G G' → Holds K T c' G' H' σ' st' →
  J.stop ds.length H' ∧ ∀ (i : Nat) (d : D), ds[i]? = some d → J.go i H' ∧ ∀ x H2, J.yld i H' x H2 → ∃ G2, Same G' G2 ∧ Same H' H2 ∧ Holds K T c' G2 H2 σ' st' ∧ Rep K T c.B G2 x d
def DI (X : Cx) (T : Tab) (W : WX) (tg iter : Expr) (f : S → R (List D)) : Prop := PI X tg iter (gD X.K T W (relI X.K T) f)
theorem impI {X : Cx} {tg iter : Expr} {t t' : TI} (h : PI X tg iter t) (q : ∀ σ H Q, t' σ H Q → t σ H Q) : PI X tg iter t' := ⟨fun pins s σ H Q I k => h.run pins s σ H Q I (q σ H Q k)⟩
def iAny (K : PySem.W.Frag) (te : TE) : TI := fun σ H R => te σ H fun x H1 => (∃ a, x = .ref a ∧ (∃ xs, SqL K H1 a xs) ∧ R (Itl K a) H1) ∨ (∃ a, x = .ref a ∧ (∃ xs, SqT K H1 a xs) ∧ R (Itt K a) H1) ∨ ∃ z, x = .str z ∧ R (Its z) H1
theorem pi_any {X : Cx} {tg e : Expr} {te : TE} (hl : PE X e te) : PI X tg e (iAny X.K te) := by
  refine ⟨fun pins s σ H R I h => ?_⟩
  refine thn (hl.run pins s σ H _ I h) fun v s1 ⟨x, H1, I1, r1, q1⟩ => ?_
  rcases q1 with ⟨a, e, ⟨xs, hq⟩, q⟩ | ⟨a, e, ⟨xs, hq⟩, q⟩ | ⟨z, e, q⟩
  · subst e
    cases r1
    obtain ⟨its, rv, p, hz⟩ := I1.list hq
    refine wpAny_pyIter_list p.isList ?_
    refine ⟨s1.heap.objs.size, [s1.heap.objs.size], _, _, H1, rfl, I1.kept (t' := s1.toks) fun b o e => Heap.get?_push_of_some _ e, turn_list a _, ⟨_, Heap.get?_push_size _ rfl, rfl, rfl⟩, fun b hb => ?_, q⟩
    have e : b = s1.heap.objs.size := by simpa using hb
    subst e
    exact I1.fpOk (Nat.le_refl _) (I1.hok.fresh (Nat.le_refl _))
  · subst e
    cases r1
    obtain ⟨its, rv, p, hz⟩ := I1.tuple hq
    refine wpAny_pyIter_tuple (show s1.heap.IsTuple a its.toArray from p) ?_
    refine ⟨s1.heap.objs.size, [s1.heap.objs.size], _, _, H1, rfl, I1.kept (t' := s1.toks) fun b o e => Heap.get?_push_of_some _ e, turn_tuple a _, ⟨_, Heap.get?_push_size _ rfl, rfl, rfl⟩, fun b hb => ?_, q⟩
    have e : b = s1.heap.objs.size := by simpa using hb
    subst e
    exact I1.fpOk (Nat.le_refl _) (I1.hok.fresh (Nat.le_refl _))
  · subst e
    obtain ⟨t, rfl⟩ := r1
    cases ha : z.cps.all (· < 128)
    · exact wpAny_pyIter_wide ha (pi_one (tk := s1.toks) I1 _ (turn_str _ z t "str_iterator" (.inr rfl)) ⟨_, Heap.get?_push_size _ rfl, rfl, rfl⟩ q)
    · exact wpAny_pyIter_ascii ha (pi_one (tk := s1.toks) I1 _ (turn_str _ z t "str_ascii_iterator" (.inl rfl)) ⟨_, Heap.get?_push_size _ rfl, rfl, rfl⟩ q)
section
variable {X : Cx} {T : Tab} {W : WX}
def signs (z : Str) : List D := z.cps.toList.map fun c => .str ⟨#[c]⟩
def seqD : D → Option (List D)
  | .ls xs => some xs
  | .tu xs => some xs
  | .ro ns => some (ns.map .int)
  | .str z => some (signs z)
  | _ => none
def hSeq (d : D) (st : S) : R (List D) := match seqD d with
  | some ds => .ok ds st
  | none => .stuck
def dSeqI (f : S → R D) : S → R (List D) := fun st => (f st).bind hSeq
theorem relI_list {K : PySem.W.Frag} {c : Ctx} {G H : Hp} {σ : SV} {st : S} {a : Addr} {xs : List V} {ds : List D} (h : SqL K G a xs) (r : Reps K T c.B G xs ds) : relI K T c G H σ st (Itl K a) ds := fun c' G' H' σ' st' eB s hd => by
  have hq : SqL K H' a xs := hd.sub.seq (s.seq h)
  refine ⟨⟨xs, hq, Nat.le_of_eq r.length⟩, fun i d e => ?_⟩
  obtain ⟨v, e1, e2⟩ := r.get' e
  refine ⟨⟨xs, v, hq, e1⟩, fun x H2 ⟨e3, e4⟩ => ?_⟩
  subst e3
  have e5 := e4 xs hq
  rw [e1] at e5
  cases e5
  exact ⟨G', Same.refl _, Same.refl _, hd, e2.mono s⟩
theorem relI_tup {K : PySem.W.Frag} {c : Ctx} {G H : Hp} {σ : SV} {st : S} {a : Addr} {xs : List V} {ds : List D} (h : SqT K G a xs) (r : Reps K T c.B G xs ds) : relI K T c G H σ st (Itt K a) ds := fun c' G' H' σ' st' eB s hd => by
  have hq : SqT K H' a xs := Same.sqt hd.sub (Same.sqt s h)
  refine ⟨⟨xs, hq, Nat.le_of_eq r.length⟩, fun i d e => ?_⟩
  obtain ⟨v, e1, e2⟩ := r.get' e
  refine ⟨⟨xs, v, hq, e1⟩, fun x H2 ⟨e3, e4⟩ => ?_⟩
  subst e3
  have e5 := e4 xs hq
  rw [e1] at e5
  cases e5
  exact ⟨G', Same.refl _, Same.refl _, hd, e2.mono s⟩
theorem relI_str {K : PySem.W.Frag} {c : Ctx} {G H : Hp} {σ : SV} {st : S} {z : Str} : relI K T c G H σ st (Its z) (signs z) := fun c' G' H' σ' st' eB s hd => by
  refine ⟨by show z.cps.size ≤ (signs z).length; unfold signs; simp, fun i d e => ?_⟩
  unfold signs at e
  rw [List.getElem?_map] at e
  cases q : z.cps.toList[i]? with
  | none => rw [q] at e; cases e
  | some ch =>
    rw [q] at e
    cases e
    have q' : z.cps[i]? = some ch := by rw [← Array.getElem?_toList]; exact q
    refine ⟨by show i < z.cps.size; exact (Array.getElem?_eq_some_iff.mp q').1, fun x H2 ⟨e3, ch2, e4, e5⟩ => ?_⟩
    subst e3 e5
    rw [q'] at e4
    cases e4
    exact ⟨G', Same.refl _, Same.refl _, hd, .str _⟩
theorem di_seq {tg e : Expr} {f : S → R D} (h : DE X T W e f) : DI X T W tg e (dSeqI f) := by
  refine impI (pi_any h) fun σ H Q ⟨c, G, st, hd, ok⟩ => ?_
  obtain ⟨c0, G0, st0, hd0, ok0⟩ := step (rel := relD X.K T) hd ok
  refine ⟨c0, G0, st0, hd0, ok0.imp fun x H1 ⟨G1, st1, a, s1, hd1, r1, ok1⟩ => ?_⟩
  cases r1 with
  | @ls p vs ds h r => exact .inl ⟨p, rfl, ⟨vs, SqL.of (hd1.sub _ _ h)⟩, ok1 _ _ _ (Same.refl _) hd1 (relI_list (SqL.of h) r)⟩
  | @tu p vs ds h r => exact .inr (.inl ⟨p, rfl, ⟨vs, Same.sqt hd1.sub h⟩, ok1 _ _ _ (Same.refl _) hd1 (relI_tup h r)⟩)
  | @ro p ns h => exact .inl ⟨p, rfl, ⟨_, hd1.sub.seq h⟩, ok1 _ _ _ (Same.refl _) hd1 (relI_list h (Reps.ints ns))⟩
  | str z => exact .inr (.inr ⟨z, rfl, ok1 _ _ _ (Same.refl _) hd1 relI_str⟩)
  | _ => exact ok1.elim
/-- range -/
def rangeD (lo : Int) (n : Nat) : List D := (List.range n).map fun i => .int (lo + (i : Nat))
def hRange1 : List D → S → R (List D)
  | [.int j], st => if -4611686018427387904 ≤ j ∧ j < 4611686018427387904 then .ok (rangeD 0 j.toNat) st else .stuck
  | _, _ => .stuck
def hRange2 : List D → S → R (List D)
  | [.int i, .int j], st => if -4611686018427387904 ≤ i ∧ i < 4611686018427387904 ∧ -4611686018427387904 ≤ j ∧ j < 4611686018427387904 then .ok (rangeD i (j - i).toNat) st else .stuck
  | _, _ => .stuck
theorem relI_range {K : PySem.W.Frag} {c : Ctx} {G H : Hp} {σ : SV} {st : S} {lo : Int} {n : Nat} : relI K T c G H σ st (Itr lo n) (rangeD lo n) := fun c' G' H' σ' st' eB s hd => by
  refine ⟨by show n ≤ (rangeD lo n).length; unfold rangeD; simp, fun i d e => ?_⟩
  unfold rangeD at e
  rw [List.getElem?_map] at e
  cases q : (List.range n)[i]? with
  | none => rw [q] at e; cases e
  | some k =>
    rw [q] at e
    cases e
    have q1 : i < n := by have := (List.getElem?_eq_some_iff.mp q).1; simpa using this
    have q2 : k = i := by rw [List.getElem?_range q1] at q; exact (Option.some.inj q).symm
    subst q2
    refine ⟨q1, fun x H2 ⟨e3, e4⟩ => ?_⟩
    subst e3 e4
    exact ⟨G', Same.refl _, Same.refl _, hd, .int _⟩
theorem di_range1 {tg a : Expr} {fa : S → R (List D)} {p pos : Pos} (hg : Gl X "range") (hm : X.mg "range" = none) (ha : DA X T W [a] fa) (hs : starEach [a] X.env = [(false, eval a X.env)] := by rfl) : DI X T W tg (.Call (.Name "range" p) [a] [] pos) (dCBF hRange1 fa) := by
  refine impI (pi_range1 hg hm ha hs) fun σ H Q ⟨c, G, st, hd, ok⟩ => ?_
  obtain ⟨c0, G0, st0, hd0, ok0⟩ := step (rel := relA X.K T) hd ok
  refine ⟨c0, G0, st0, hd0, ok0.imp fun x H1 ⟨G1, st1, a, s1, hd1, r1, ok1⟩ => ?_⟩
  cases r1 with
  | nil => exact ok1.elim
  | cons r1 r =>
    cases r with
    | cons _ _ => cases r1 <;> exact ok1.elim
    | nil =>
      cases r1 with
      | int j =>
        have ok' : GOk X.K T W (relI X.K T) c G1 σ (if -4611686018427387904 ≤ j ∧ j < 4611686018427387904 then .ok (rangeD 0 j.toNat) st1 else .stuck) Q := ok1
        by_cases q : -4611686018427387904 ≤ j ∧ j < 4611686018427387904
        · rw [if_pos q] at ok'
          exact ⟨j, rfl, q.1, q.2, ok' _ _ _ (Same.refl _) hd1 relI_range⟩
        · rw [if_neg q] at ok'; exact ok'.elim
      | _ => exact ok1.elim
theorem di_range2 {tg a b : Expr} {fa : S → R (List D)} {p pos : Pos} (hg : Gl X "range") (hm : X.mg "range" = none) (ha : DA X T W [a, b] fa) (hs : starEach [a, b] X.env = [(false, eval a X.env), (false, eval b X.env)] := by rfl) (hs2 : starEach [b] X.env = [(false, eval b X.env)] := by rfl) :
    DI X T W tg (.Call (.Name "range" p) [a, b] [] pos) (dCBF hRange2 fa) := by
  refine impI (pi_range2 hg hm ha hs hs2) fun σ H Q ⟨c, G, st, hd, ok⟩ => ?_
  obtain ⟨c0, G0, st0, hd0, ok0⟩ := step (rel := relA X.K T) hd ok
  refine ⟨c0, G0, st0, hd0, ok0.imp fun x H1 ⟨G1, st1, a, s1, hd1, r1, ok1⟩ => ?_⟩
  cases r1 with
  | nil => exact ok1.elim
  | cons r1 r =>
    cases r with
    | nil => cases r1 <;> exact ok1.elim
    | cons r2 r =>
      cases r with
      | cons _ _ => cases r1 <;> cases r2 <;> exact ok1.elim
      | nil =>
        cases r1 with
        | int i =>
          cases r2 with
          | int j =>
            have ok' : GOk X.K T W (relI X.K T) c G1 σ (if -4611686018427387904 ≤ i ∧ i < 4611686018427387904 ∧ -4611686018427387904 ≤ j ∧ j < 4611686018427387904 then .ok (rangeD i (j - i).toNat) st1 else .stuck) Q := ok1
            by_cases q : -4611686018427387904 ≤ i ∧ i < 4611686018427387904 ∧ -4611686018427387904 ≤ j ∧ j < 4611686018427387904
            · rw [if_pos q] at ok'
              exact ⟨i, j, rfl, q, ok' _ _ _ (Same.refl _) hd1 relI_range⟩
            · rw [if_neg q] at ok'; exact ok'.elim
          | _ => exact ok1.elim
        | _ => cases r2 <;> exact ok1.elim
/-- zip of two lists, of two tuples -/
def zipD (xs ys : List D) : List D := (xs.zip ys).map fun p => .tu [p.1, p.2]
def hZip : List D → S → R (List D)
  | [.ls xs, .ls ys], st => .ok (zipD xs ys) st
  | [.tu xs, .tu ys], st => .ok (zipD xs ys) st
  | _, _ => .stuck
theorem zipD_get {xs ys : List D} {i : Nat} {d : D} (h : (zipD xs ys)[i]? = some d) : ∃ a b, xs[i]? = some a ∧ ys[i]? = some b ∧ d = .tu [a, b] := by
  unfold zipD at h
  rw [List.getElem?_map] at h
  cases q : (xs.zip ys)[i]? with
  | none => rw [q] at h; cases h
  | some p =>
    rw [q] at h
    cases h
    obtain ⟨a, b⟩ := p
    rw [List.getElem?_zip_eq_some] at q
    exact ⟨a, b, q.1, q.2, rfl⟩
theorem relI_zip {K : PySem.W.Frag} {c : Ctx} {G H : Hp} {σ : SV} {st : S} {a b : Addr} {xs ys : List V} {ds es : List D} (h : G a = some (.lst xs)) (h2 : G b = some (.lst ys)) (r : Reps K T c.B G xs ds) (r2 : Reps K T c.B G ys es) : relI K T c G H σ st (Itz K a b) (zipD ds es) := fun c' G' H' σ' st' eB s hd => by
  have hq : SqL K H' a xs := SqL.of (hd.sub _ _ (s _ _ h))
  have hq2 : SqL K H' b ys := SqL.of (hd.sub _ _ (s _ _ h2))
  refine ⟨⟨xs, ys, hq, hq2, ?_⟩, fun i d e => ?_⟩
  · unfold zipD
    rw [List.length_map, List.length_zip, r.length, r2.length]
    omega
  · obtain ⟨d1, d2, e1, e2, rfl⟩ := zipD_get e
    obtain ⟨v1, f1, g1⟩ := r.get' e1
    obtain ⟨v2, f2, g2⟩ := r2.get' e2
    refine ⟨⟨xs, ys, v1, v2, hq, hq2, f1, f2⟩, fun x H2 ⟨t, x1, x2, ex, nt, eH, y1, y2⟩ => ?_⟩
    have z1 := y1 xs hq
    rw [f1] at z1; cases z1
    have z2 := y2 ys hq2
    rw [f2] at z2; cases z2
    subst ex eH
    have sg := same_upd (o := .tup [v1, v2]) (hd.gnone nt)
    exact ⟨_, sg, same_upd nt, hd.lay _ nt, .tu (.inl (.inl upd_same)) (.cons ((g1.mono s).mono sg) (.cons ((g2.mono s).mono sg) .nil))⟩
theorem relI_zipT {K : PySem.W.Frag} {c : Ctx} {G H : Hp} {σ : SV} {st : S} {a b : Addr} {xs ys : List V} {ds es : List D} (h : SqT K G a xs) (h2 : SqT K G b ys) (r : Reps K T c.B G xs ds) (r2 : Reps K T c.B G ys es) : relI K T c G H σ st (RZ.ItzT K a b) (zipD ds es) := fun c' G' H' σ' st' eB s hd => by
  have hq : SqT K H' a xs := Same.sqt hd.sub (Same.sqt s h)
  have hq2 : SqT K H' b ys := Same.sqt hd.sub (Same.sqt s h2)
  refine ⟨⟨xs, ys, hq, hq2, ?_⟩, fun i d e => ?_⟩
  · unfold zipD
    rw [List.length_map, List.length_zip, r.length, r2.length]
    omega
  · obtain ⟨d1, d2, e1, e2, rfl⟩ := zipD_get e
    obtain ⟨v1, f1, g1⟩ := r.get' e1
    obtain ⟨v2, f2, g2⟩ := r2.get' e2
    refine ⟨⟨xs, ys, v1, v2, hq, hq2, f1, f2⟩, fun x H2 ⟨t, x1, x2, ex, nt, eH, y1, y2⟩ => ?_⟩
    have z1 := y1 xs hq
    rw [f1] at z1; cases z1
    have z2 := y2 ys hq2
    rw [f2] at z2; cases z2
    subst ex eH
    have sg := same_upd (o := .tup [v1, v2]) (hd.gnone nt)
    exact ⟨_, sg, same_upd nt, hd.lay _ nt, .tu (.inl (.inl upd_same)) (.cons ((g1.mono s).mono sg) (.cons ((g2.mono s).mono sg) .nil))⟩
theorem di_zip {e e2 : Expr} {fa : S → R (List D)} {p pos tpos : Pos} {elts : List Expr} {kk : Nat} (hg : Gl X "zip") (hm : X.mg "zip" = none) (ha : DA X T W [e, e2] fa)
    (hs : starEach [e, e2] X.env = (false, eval e X.env) :: starEach [e2] X.env := by rfl) (hpl : (backTo pos (starEach [e2] X.env)).any (·.1) = false := by rfl) :
    DI X T W (.Tuple elts kk tpos) (.Call (.Name "zip" p) [e, e2] [] pos) (dCBF hZip fa) := by
  refine impI (RZ.pi_zipA hg hm ha hs hpl) fun σ H Q ⟨c, G, st, hd, ok⟩ => ?_
  obtain ⟨c0, G0, st0, hd0, ok0⟩ := step (rel := relA X.K T) hd ok
  refine ⟨c0, G0, st0, hd0, ok0.imp fun x H1 ⟨G1, st1, a, s1, hd1, r1, ok1⟩ => ?_⟩
  cases r1 with
  | nil => exact ok1.elim
  | cons r1 r =>
    cases r with
    | nil => cases r1 <;> exact ok1.elim
    | cons r2 r =>
      cases r with
      | cons _ _ => cases r1 <;> cases r2 <;> exact ok1.elim
      | nil =>
        cases r1 with
        | @ls p vs ds h r =>
          cases r2 with
          | @ls p2 vs2 ds2 h2 r2 => exact ⟨p, p2, vs, vs2, rfl, .inl ⟨SqL.of (hd1.sub _ _ h), SqL.of (hd1.sub _ _ h2), ok1 _ _ _ (Same.refl _) hd1 (relI_zip h h2 r r2)⟩⟩
          | _ => exact ok1.elim
        | @tu p vs ds h r =>
          cases r2 with
          | @tu p2 vs2 ds2 h2 r2 => exact ⟨p, p2, vs, vs2, rfl, .inr ⟨Same.sqt hd1.sub h, Same.sqt hd1.sub h2, ok1 _ _ _ (Same.refl _) hd1 (relI_zipT h h2 r r2)⟩⟩
          | _ => exact ok1.elim
        | _ => cases r2 <;> exact ok1.elim
/-- enumerate of a list -/
def enumD : Nat → List D → List D
  | _, [] => []
  | k, d :: ds => .tu [.int k, d] :: enumD (k + 1) ds
theorem enumD_get : ∀ {ds : List D} {k i : Nat} {d : D}, (enumD k ds)[i]? = some d → ∃ a, ds[i]? = some a ∧ d = .tu [.int ((k + i : Nat) : Int), a]
  | [], _, _, _, h => by simp [enumD] at h
  | a :: ds, k, 0, d, h => by
    have e : D.tu [.int (k : Nat), a] = d := Option.some.inj h
    subst e
    exact ⟨a, rfl, rfl⟩
  | a :: ds, k, i + 1, d, h => by
    obtain ⟨b, e1, e2⟩ := enumD_get (ds := ds) (k := k + 1) (i := i) (d := d) h
    refine ⟨b, e1, ?_⟩
    rw [e2, show k + 1 + i = k + (i + 1) by omega]
theorem enumD_len : ∀ (ds : List D) (k : Nat), (enumD k ds).length = ds.length
  | [], _ => rfl
  | a :: ds, k => congrArg (· + 1) (enumD_len ds (k + 1))
def hEnum : List D → S → R (List D)
  | [.ls xs], st => .ok (enumD 0 xs) st
  | _, _ => .stuck
theorem relI_enum {K : PySem.W.Frag} {c : Ctx} {G H : Hp} {σ : SV} {st : S} {a : Addr} {xs : List V} {ds : List D} (h : G a = some (.lst xs)) (r : Reps K T c.B G xs ds) : relI K T c G H σ st (Ite K a) (enumD 0 ds) := fun c' G' H' σ' st' eB s hd => by
  have hq : SqL K H' a xs := SqL.of (hd.sub _ _ (s _ _ h))
  refine ⟨⟨xs, hq, by rw [enumD_len, r.length]; exact Nat.le_refl _⟩, fun i d e => ?_⟩
  obtain ⟨d1, e1, rfl⟩ := enumD_get e
  obtain ⟨v1, f1, g1⟩ := r.get' e1
  refine ⟨⟨xs, v1, hq, f1⟩, fun x H2 ⟨t, x1, ex, nt, eH, y1⟩ => ?_⟩
  have z1 := y1 xs hq
  rw [f1] at z1; cases z1
  subst ex eH
  have sg := same_upd (o := .tup [.int (i : Nat), v1]) (hd.gnone nt)
  refine ⟨_, sg, same_upd nt, hd.lay _ nt, .tu (.inl (.inl upd_same)) (.cons ?_ (.cons ((g1.mono s).mono sg) .nil))⟩
  rw [Nat.zero_add]
  exact .int _
theorem di_enumL {e : Expr} {fa : S → R (List D)} {p pos tpos : Pos} {elts : List Expr} {kk : Nat} (hg : Gl X "enumerate") (hm : X.mg "enumerate" = none) (ha : DA X T W [e] fa) (hs : starEach [e] X.env = [(false, eval e X.env)] := by rfl) :
    DI X T W (.Tuple elts kk tpos) (.Call (.Name "enumerate" p) [e] [] pos) (dCBF hEnum fa) := by
  refine impI (pi_enum hg hm ha hs) fun σ H Q ⟨c, G, st, hd, ok⟩ => ?_
  obtain ⟨c0, G0, st0, hd0, ok0⟩ := step (rel := relA X.K T) hd ok
  refine ⟨c0, G0, st0, hd0, ok0.imp fun x H1 ⟨G1, st1, a, s1, hd1, r1, ok1⟩ => ?_⟩
  cases r1 with
  | nil => exact ok1.elim
  | cons r1 r =>
    cases r with
    | cons _ _ => cases r1 <;> exact ok1.elim
    | nil =>
      cases r1 with
      | @ls p vs ds h r => exact ⟨p, vs, rfl, SqL.of (hd1.sub _ _ h), ok1 _ _ _ (Same.refl _) hd1 (relI_enum h r)⟩
      | _ => exact ok1.elim
end
end DL

/-! DLf: statements, loops. -/
namespace DL
open PySem PySem.Spec PyProof.Rows L2
inductive Out where
  | nx | rt (d : D) | rtF (ds : List D) | bk | ct
def SOk (K : PySem.W.Frag) (T : Tab) (W : WX) (c : Ctx) (G : Hp) (r : R Out) (E : Ends) : Prop := match r with
  | .ok .nx st => ∀ G' H' σ', Same G G' → Holds K T c G' H' σ' st → E.nx σ' H'
  | .ok (.rt d) st => ∀ G' H' σ' v, Same G G' → Holds K T c G' H' σ' st → Rep K T c.B G' v d → E.rt v H'
  | .ok (.rtF ds) st => ∀ G' H' σ' v, Same G G' → Holds K T c G' H' σ' st → relF K T c G' H' σ' st v ds → E.rt v H'
  | .ok .bk st => ∀ G' H' σ', Same G G' → Holds K T c G' H' σ' st → E.bk σ' H'
  | .ok .ct st => ∀ G' H' σ', Same G G' → Holds K T c G' H' σ' st → E.ct σ' H'
  | .err e st => ∀ G' H' σ' cls d, Same G G' → Holds K T c G' H' σ' st → ErrAt K T c.B G' H' e cls d → W cls d σ' H'
  | .stuck => False
def tD (K : PySem.W.Frag) (T : Tab) (W : WX) (f : S → R Out) : TS := fun E σ H => ∃ c G st, Holds K T c G H σ st ∧ SOk K T W c G (f st) E
def DS (X : Cx) (T : Tab) (W : WX) (s : Stmt) (f : S → R Out) : Prop := PS X s (tD X.K T W f)
def DSs (X : Cx) (T : Tab) (W : WX) (s : List Stmt) (f : S → R Out) : Prop := PSs X s (tD X.K T W f)
section
variable {K : PySem.W.Frag} {T : Tab} {W : WX} {c : Ctx} {G G' H H' : Hp} {σ : SV} {st : S} {α β : Type} {rel : Rel α β} {E : Ends}
theorem SOk.mono {r : R Out} (s : Same G G') (h : SOk K T W c G r E) : SOk K T W c G' r E := by
  cases r with
  | ok o st =>
    cases o with
    | nx => exact fun G2 H2 σ2 s2 => h G2 H2 σ2 (s.trans s2)
    | bk => exact fun G2 H2 σ2 s2 => h G2 H2 σ2 (s.trans s2)
    | ct => exact fun G2 H2 σ2 s2 => h G2 H2 σ2 (s.trans s2)
    | rt d => exact fun G2 H2 σ2 v s2 => h G2 H2 σ2 v (s.trans s2)
    | rtF d => exact fun G2 H2 σ2 v s2 => h G2 H2 σ2 v (s.trans s2)
  | err e st => exact fun G2 H2 σ2 cls d s2 => h G2 H2 σ2 cls d (s.trans s2)
  | stuck => exact h
theorem stepS {f : S → R α} {g : α → S → R Out} (hd : Holds K T c G H σ st) (ok : SOk K T W c G ((f st).bind g) E) :
    gD K T W rel f σ H (fun x H1 => ∃ G1 st1 a, Same G G1 ∧ Holds K T c G1 H1 σ st1 ∧ rel c G1 H1 σ st1 x a ∧ SOk K T W c G1 (g a st1) E) := by
  refine ⟨c, G, st, hd, ?_⟩
  generalize f st = r at ok
  cases r with
  | ok a st1 => exact fun G1 H1 x s h r => ⟨G1, st1, a, s, h, r, SOk.mono s ok⟩
  | err e st1 => exact fun G1 H1 cls d s h r => ok G1 H1 σ cls d s h r
  | stuck => exact ok
/-- a statement, then more -/
def oBind (r : R Out) (g : S → R Out) : R Out := match r with
  | .ok .nx st => g st
  | r => r
theorem SOk.seq {r : R Out} {g : S → R Out} (ok : SOk K T W c G (oBind r g) E) : SOk K T W c G r { E with nx := tD K T W g E } := by
  cases r with
  | ok o st =>
    cases o with
    | nx => exact fun G2 H2 σ2 s2 h2 => ⟨c, G2, st, h2, SOk.mono s2 ok⟩
    | bk => exact ok
    | ct => exact ok
    | rt d => exact ok
    | rtF d => exact ok
  | err e st => exact ok
  | stuck => exact ok
/-! ### stores -/
theorem Holds.putVal (h : Holds K T c G H σ st) {v : V} {d : D} (r : Rep K T c.B G v d) (i : Nat) : Holds K T c G H (σ.set i (some v)) (st.put i (.val d)) where
  sub0 := h.sub0
  sub := h.sub
  new := h.new
  frame := h.frame
  len := by show (σ.set i _).length = (st.env.set i _).length; rw [List.length_set, List.length_set]; exact h.len
  slot := fun j s q => by
    have q' : (st.env.set i (.val d))[j]? = some s := q
    by_cases w : i = j
    · subst w
      by_cases hi : i < st.env.length
      · rw [List.getElem?_set_self hi] at q'
        cases q'
        exact ⟨v, List.getElem?_set_self (by rw [h.len]; exact hi), r⟩
      · rw [List.getElem?_eq_none (by rw [List.length_set]; omega)] at q'; cases q'
    · rw [List.getElem?_set_ne w] at q'
      rw [List.getElem?_set_ne w]
      exact h.slot j s q'
  dist := fun j k p ds es q1 q2 e1 e2 => by
    have q1' : (st.env.set i (.val d))[j]? = _ := q1
    have q2' : (st.env.set i (.val d))[k]? = _ := q2
    have nj : i ≠ j := fun w => by
      subst w
      by_cases hi : i < st.env.length
      · rw [List.getElem?_set_self hi] at q1'; cases q1'
      · rw [List.getElem?_eq_none (by rw [List.length_set]; omega)] at q1'; cases q1'
    have nk : i ≠ k := fun w => by
      subst w
      by_cases hi : i < st.env.length
      · rw [List.getElem?_set_self hi] at q2'; cases q2'
      · rw [List.getElem?_eq_none (by rw [List.length_set]; omega)] at q2'; cases q2'
    rw [List.getElem?_set_ne nj] at q1' e1
    rw [List.getElem?_set_ne nk] at q2' e2
    exact h.dist j k p ds es q1' q2' e1 e2
  box := h.box
  box0 := h.box0
theorem Holds.putOwn (h : Holds K T c G H σ st) {v : V} {ds : List D} (r : relF K T c G H σ st v ds) (i : Nat) : Holds K T c G H (σ.set i (some v)) (st.put i (.own ds)) := by
  obtain ⟨p, vs, rfl, hp, g, z, rs, nd⟩ := r
  exact {
    sub0 := h.sub0
    sub := h.sub
    new := h.new
    frame := h.frame
    len := by show (σ.set i _).length = (st.env.set i _).length; rw [List.length_set, List.length_set]; exact h.len
    slot := fun j s q => by
      have q' : (st.env.set i (.own ds))[j]? = some s := q
      by_cases w : i = j
      · subst w
        by_cases hi : i < st.env.length
        · rw [List.getElem?_set_self hi] at q'
          cases q'
          exact ⟨p, vs, List.getElem?_set_self (by rw [h.len]; exact hi), hp, g, z, rs⟩
        · rw [List.getElem?_eq_none (by rw [List.length_set]; omega)] at q'; cases q'
      · rw [List.getElem?_set_ne w] at q'
        rw [List.getElem?_set_ne w]
        exact h.slot j s q'
    dist := fun j k p2 ds2 es q1 q2 e1 e2 => by
      have q1' : (st.env.set i (.own ds))[j]? = _ := q1
      have q2' : (st.env.set i (.own ds))[k]? = _ := q2
      have big : ∀ j : Nat, i = j → ∀ x, (st.env.set i (.own ds))[j]? = some x → i < st.env.length := fun j w x q => by
        subst w
        have := (List.getElem?_eq_some_iff.mp q).1
        rw [List.length_set] at this; exact this
      by_cases wj : i = j
      · by_cases wk : i = k
        · exact wj.symm.trans wk
        · have hi := big j wj _ q1'
          subst wj
          rw [List.getElem?_set_self (by rw [h.len]; exact hi)] at e1
          cases e1
          rw [List.getElem?_set_ne wk] at q2' e2
          exact absurd e2 (nd k es q2')
      · by_cases wk : i = k
        · have hi := big k wk _ q2'
          subst wk
          rw [List.getElem?_set_self (by rw [h.len]; exact hi)] at e2
          cases e2
          rw [List.getElem?_set_ne wj] at q1' e1
          exact absurd e1 (nd j ds2 q1')
        · rw [List.getElem?_set_ne wj] at q1' e1
          rw [List.getElem?_set_ne wk] at q2' e2
          exact h.dist j k p2 ds2 es q1' q2' e1 e2
    box := h.box
    box0 := h.box0 }
/-- an own list changes -/
theorem Holds.setOwn (h : Holds K T c G H σ st) {i : Nat} {ds es : List D} {p : Addr} {vs : List V} (e : st.env[i]? = some (.own ds)) (e1 : σ[i]? = some (some (.ref p))) (r : Reps K T c.B G vs es) :
    Holds K T c G (upd H p (.lst vs)) σ (st.put i (.own es)) := by
  obtain ⟨p2, vs2, f1, hp, g, z, rs⟩ := h.slot i _ e
  rw [e1] at f1
  cases f1
  have hi : i < st.env.length := (List.getElem?_eq_some_iff.mp e).1
  exact {
    sub0 := h.sub0
    sub := fun a o q => by
      have ne : a ≠ p := fun w => by subst w; rw [g] at q; cases q
      rw [upd_ne ne]; exact h.sub _ _ q
    new := h.new
    frame := fun a o q b => by
      have ne : a ≠ p := fun w => by subst w; rw [z] at q; cases q
      rw [upd_ne ne]; exact h.frame a o q b
    len := by show _ = (st.env.set i _).length; rw [List.length_set]; exact h.len
    slot := fun j s q => by
      have q' : (st.env.set i (.own es))[j]? = some s := q
      by_cases w : i = j
      · subst w
        rw [List.getElem?_set_self hi] at q'
        cases q'
        exact ⟨p, vs, e1, upd_same, g, z, r⟩
      · rw [List.getElem?_set_ne w] at q'
        have o := h.slot j s q'
        cases s with
        | un => trivial
        | val d => exact o
        | own es2 =>
          obtain ⟨p3, vs3, a1, a2, a3, a4, a5⟩ := o
          have ne : p3 ≠ p := fun t => by subst t; exact w (h.dist i j p3 ds es2 e q' e1 a1)
          exact ⟨p3, vs3, a1, by rw [upd_ne ne]; exact a2, a3, a4, a5⟩
    dist := fun j k p3 ds3 es3 q1 q2 a1 a2 => by
      have own : ∀ (j : Nat) (x : List D), (st.put i (.own es)).env[j]? = some (.own x) → ∃ y, st.env[j]? = some (.own y) := fun j x q => by
        have q' : (st.env.set i (.own es))[j]? = some (.own x) := q
        by_cases w : i = j
        · subst w; exact ⟨_, e⟩
        · rw [List.getElem?_set_ne w] at q'; exact ⟨x, q'⟩
      obtain ⟨y1, b1⟩ := own j ds3 q1
      obtain ⟨y2, b2⟩ := own k es3 q2
      exact h.dist j k p3 y1 y2 b1 b2 a1 a2
    box := fun b q => by
      obtain ⟨x, y⟩ := h.box b q
      have ne : b ≠ p := fun t => by subst t; exact h.box0 b q z
      exact ⟨by rw [upd_ne ne]; exact x, y⟩
    box0 := h.box0 }
/-- the box changes -/
theorem Holds.setBox (h : Holds K T c G H σ st) {p : Addr} (e : c.B = some p) (b : Bx) : Holds K T c G (upd H p (boxO b)) σ { st with bx := b } where
  sub0 := h.sub0
  sub := fun a o q => by
    have ne : a ≠ p := fun w => by subst w; rw [(h.box a e).2] at q; cases q
    rw [upd_ne ne]; exact h.sub _ _ q
  new := h.new
  frame := fun a o q n => by
    have ne : a ≠ p := fun w => by subst w; exact n e
    rw [upd_ne ne]; exact h.frame a o q n
  len := h.len
  slot := fun j s q => by
    have o := h.slot j s q
    cases s with
    | un => trivial
    | val d => exact o
    | own es =>
      obtain ⟨p3, vs3, a1, a2, a3, a4, a5⟩ := o
      have ne : p3 ≠ p := fun t => by subst t; exact h.box0 p3 e a4
      exact ⟨p3, vs3, a1, by rw [upd_ne ne]; exact a2, a3, a4, a5⟩
  dist := h.dist
  box := fun q w => by
    rw [e] at w
    cases w
    exact ⟨upd_same, (h.box p e).2⟩
  box0 := h.box0
end
section
variable {X : Cx} {T : Tab} {W : WX}
/-! ### blocks -/
def dNext : S → R Out := fun st => .ok .nx st
def dSeq (f g : S → R Out) : S → R Out := fun st => oBind (f st) g
theorem dss_nil : DSs X T W [] dNext := impSs pss_nil fun E σ H ⟨c, G, st, hd, ok⟩ => ok _ _ _ (Same.refl _) hd
theorem dss_cons {s : Stmt} {rest : List Stmt} {f g : S → R Out} (h1 : DS X T W s f) (h2 : DSs X T W rest g) : DSs X T W (s :: rest) (dSeq f g) := impSs (pss_cons h1 h2) fun E σ H ⟨c, G, st, hd, ok⟩ => ⟨c, G, st, hd, SOk.seq ok⟩
theorem dss_one {s : Stmt} {f : S → R Out} (h : DS X T W s f) : DSs X T W [s] f := pss_one h
theorem ds_pass {pos : Pos} : DS X T W (.Pass pos) dNext := impS ps_pass fun E σ H ⟨c, G, st, hd, ok⟩ => ok _ _ _ (Same.refl _) hd
def dBreak : S → R Out := fun st => .ok .bk st
def dCont : S → R Out := fun st => .ok .ct st
theorem ds_break {pos : Pos} : DS X T W (.Break pos) dBreak := impS ps_break fun E σ H ⟨c, G, st, hd, ok⟩ => ok _ _ _ (Same.refl _) hd
theorem ds_cont {pos : Pos} : DS X T W (.Continue pos) dCont := impS ps_continue fun E σ H ⟨c, G, st, hd, ok⟩ => ok _ _ _ (Same.refl _) hd
theorem ds_doc {x : Str} {j : Nat} {pos pos' : Pos} : DS X T W (.Expr (.Constant (.str x) j pos) pos') dNext := impS ps_doc fun E σ H ⟨c, G, st, hd, ok⟩ => ok _ _ _ (Same.refl _) hd
def dDrop (f : S → R D) : S → R Out := fun st => (f st).bind fun _ st => .ok .nx st
theorem ds_expr {e : Expr} {f : S → R D} {pos : Pos} (he : DE X T W e f) (hs : swapsWith e none pos.line X.env = pure false := by rfl) : DS X T W (.Expr e pos) (dDrop f) := impS (ps_expr he hs) fun E σ H ⟨c, G, st, hd, ok⟩ => by
  obtain ⟨c0, G0, st0, hd0, ok0⟩ := stepS (rel := relD X.K T) hd ok
  exact ⟨c0, G0, st0, hd0, ok0.imp fun x H1 ⟨G1, st1, a, s1, hd1, r1, ok1⟩ => ok1 _ _ _ (Same.refl _) hd1⟩
def dRet (f : S → R D) : S → R Out := fun st => (f st).bind fun d st => .ok (.rt d) st
theorem ds_ret {e : Expr} {f : S → R D} {pos : Pos} (he : DE X T W e f) : DS X T W (.Return (some e) pos) (dRet f) := impS (ps_ret he) fun E σ H ⟨c, G, st, hd, ok⟩ => by
  obtain ⟨c0, G0, st0, hd0, ok0⟩ := stepS (rel := relD X.K T) hd ok
  exact ⟨c0, G0, st0, hd0, ok0.imp fun x H1 ⟨G1, st1, a, s1, hd1, r1, ok1⟩ => ok1 _ _ _ _ (Same.refl _) hd1 r1⟩
def dRetF (f : S → R (List D)) : S → R Out := fun st => (f st).bind fun ds st => .ok (.rtF ds) st
theorem ds_retF {e : Expr} {f : S → R (List D)} {pos : Pos} (he : DF X T W e f) : DS X T W (.Return (some e) pos) (dRetF f) := impS (ps_ret he) fun E σ H ⟨c, G, st, hd, ok⟩ => by
  obtain ⟨c0, G0, st0, hd0, ok0⟩ := stepS (rel := relF X.K T) hd ok
  exact ⟨c0, G0, st0, hd0, ok0.imp fun x H1 ⟨G1, st1, a, s1, hd1, r1, ok1⟩ => ok1 _ _ _ _ (Same.refl _) hd1 r1⟩
theorem ds_retN {pos : Pos} : DS X T W (.Return none pos) (dRet (dC .non)) := impS ps_retN fun E σ H ⟨c, G, st, hd, ok⟩ => ok _ _ _ _ (Same.refl _) hd .non
def dIf (t : S → R Bool) (f g : S → R Out) : S → R Out := fun st => (t st).bind fun k st => if k = true then f st else g st
theorem ds_if {e : Expr} {a b : List Stmt} {t : S → R Bool} {f g : S → R Out} {pos : Pos} (ht : DT X T W e t) (ha : DSs X T W a f) (hb : DSs X T W b g) : DS X T W (.If e a b pos) (dIf t f g) := impS (ps_if ht ha hb) fun E σ H ⟨c, G, st, hd, ok⟩ => by
  obtain ⟨c0, G0, st0, hd0, ok0⟩ := stepS (rel := relB) hd ok
  refine ⟨c0, G0, st0, hd0, ok0.imp fun k H1 ⟨G1, st1, a, s1, hd1, r1, ok1⟩ => ?_⟩
  cases r1
  cases k with
  | true => rw [if_pos rfl] at ok1 ⊢; exact ⟨_, G1, st1, hd1, ok1⟩
  | false => rw [if_neg Bool.false_ne_true] at ok1 ⊢; exact ⟨_, G1, st1, hd1, ok1⟩
def dSet (i : Nat) (f : S → R D) : S → R Out := fun st => (f st).bind fun d st => .ok .nx (st.put i (.val d))
def dOwn (i : Nat) (f : S → R (List D)) : S → R Out := fun st => (f st).bind fun ds st => .ok .nx (st.put i (.own ds))
theorem ds_set {i : Nat} {x : Str} {e : Expr} {f : S → R D} {pos pos' : Pos} (hN : X.N.Nodup) (hi : X.N[i]? = some x) (hx : Loc X.env.scope x) (he : DE X T W e f) (hs : swapsWith e (some (.Name x pos')) pos.line X.env = pure false := by rfl)
    (hf : X.fn x = true ∨ X.env.scope.names.lookup x = some .local := by first | exact .inl rfl | exact .inr rfl | assumption) : DS X T W (.Assign [.Name x pos'] e pos) (dSet i f) := impS (ps_set hN hi hx he hs hf) fun E σ H ⟨c, G, st, hd, ok⟩ => by
  obtain ⟨c0, G0, st0, hd0, ok0⟩ := stepS (rel := relD X.K T) hd ok
  exact ⟨c0, G0, st0, hd0, ok0.imp fun x H1 ⟨G1, st1, a, s1, hd1, r1, ok1⟩ => ok1 _ _ _ (Same.refl _) (hd1.putVal r1 i)⟩
theorem ds_own {i : Nat} {x : Str} {e : Expr} {f : S → R (List D)} {pos pos' : Pos} (hN : X.N.Nodup) (hi : X.N[i]? = some x) (hx : Loc X.env.scope x) (he : DF X T W e f) (hs : swapsWith e (some (.Name x pos')) pos.line X.env = pure false := by rfl)
    (hf : X.fn x = true ∨ X.env.scope.names.lookup x = some .local := by first | exact .inl rfl | exact .inr rfl | assumption) : DS X T W (.Assign [.Name x pos'] e pos) (dOwn i f) := impS (ps_set hN hi hx he hs hf) fun E σ H ⟨c, G, st, hd, ok⟩ => by
  obtain ⟨c0, G0, st0, hd0, ok0⟩ := stepS (rel := relF X.K T) hd ok
  exact ⟨c0, G0, st0, hd0, ok0.imp fun x H1 ⟨G1, st1, a, s1, hd1, r1, ok1⟩ => ok1 _ _ _ (Same.refl _) (hd1.putOwn r1 i)⟩
/-- x.append(e), x one's own list -/
def dApp (i : Nat) (f : S → R D) : S → R Out := fun st => match st.env[i]? with
  | some (.own _) => (f st).bind fun d st => match st.env[i]? with
    | some (.own ds) => if ds.length < 16777216 then .ok .nx (st.put i (.own (ds ++ [d]))) else .stuck
    | _ => .stuck
  | _ => .stuck
theorem ds_append {i : Nat} {o e : Expr} {f : S → R D} {pos apos cpos : Pos} (ho : PE X o (tVar i)) (he : DE X T W e f) (hn : starEach [e] X.env = (false, eval e X.env) :: starEach [] X.env := by rfl)
    (hp : PS X (.Expr (.Call (.Attribute o "append" apos) [e] [] cpos) pos) (tDrop (tBM X.K "list" rAppend (tVar i) (tCons (gD X.K T W (relD X.K T) f) tNil)))) :
    DS X T W (.Expr (.Call (.Attribute o "append" apos) [e] [] cpos) pos) (dApp i f) := impS hp fun E σ H ⟨c, G, st, hd, ok⟩ => by
  unfold dApp at ok
  cases q : st.env[i]? with
  | none => rw [q] at ok; exact ok.elim
  | some s =>
    rw [q] at ok
    cases s with
    | un => exact ok.elim
    | val d => exact ok.elim
    | own ds =>
      obtain ⟨p, vs, e1, e2, g, z, r⟩ := hd.slot i _ q
      refine ⟨.ref p, e1, .inl ⟨rfl, vs, SqL.of e2⟩, ?_⟩
      obtain ⟨c0, G0, st0, hd0, ok0⟩ := stepS (rel := relD X.K T) hd ok
      refine ⟨c0, G0, st0, hd0, ok0.imp fun x H1 ⟨G1, st1, a, s1, hd1, r1, ok1⟩ => ?_⟩
      cases q1 : st1.env[i]? with
      | none => rw [q1] at ok1; exact ok1.elim
      | some s =>
        rw [q1] at ok1
        cases s with
        | un => exact ok1.elim
        | val d => exact ok1.elim
        | own ds1 =>
          obtain ⟨p2, vs2, f1, f2, g2, z2, r2⟩ := hd1.slot i _ q1
          rw [e1] at f1
          cases f1
          dsimp only at ok1
          by_cases w : ds1.length < 16777216
          · rw [if_pos w] at ok1
            exact ⟨p, vs2, x, rfl, rfl, f2, by rw [sizeLine_eq, r2.length]; exact w, ok1 _ _ _ (Same.refl _) (hd1.setOwn q1 e1 (r2.append (.one r1)))⟩
          · rw [if_neg w] at ok1; exact ok1.elim
/-- x[k] = e, x one's own list, or the box -/
def dSetIx (i : Nat) (f g : S → R D) : S → R Out := fun st => (f st).bind fun d st => match st.env[i]? with
  | some (.own _) => (g st).bind fun k st => match st.env[i]?, k with
    | some (.own ds), .int k => match ixN ds.length k with
      | some j => .ok .nx (st.put i (.own (ds.set j d)))
      | none => .stuck
    | _, _ => .stuck
  | some (.val .box) => (g st).bind fun k st => match k, d with
    | .int k, .int n => if k = 0 then .ok .nx { st with bx := (n, st.bx.2.1, st.bx.2.2) } else if k = 1 then .ok .nx { st with bx := (st.bx.1, n, st.bx.2.2) } else if k = 2 then .ok .nx { st with bx := (st.bx.1, st.bx.2.1, n) } else .stuck
    | _, _ => .stuck
  | _ => .stuck
theorem ds_setIx {i : Nat} {o k e : Expr} {f g : S → R D} {pos p1 : Pos} (ho : PE X o (tVar i)) (hk : DE X T W k g) (he : DE X T W e f)
    (hp : PS X (.Assign [.Subscript o k p1] e pos) (tAsg (gD X.K T W (relD X.K T) f) (gSub (tVar i) (gD X.K T W (relD X.K T) g) rSetL))) : DS X T W (.Assign [.Subscript o k p1] e pos) (dSetIx i f g) := impS hp fun E σ H ⟨c, G, st, hd, ok⟩ => by
  obtain ⟨c0, G0, st0, hd0, ok0⟩ := stepS (rel := relD X.K T) hd ok
  refine ⟨c0, G0, st0, hd0, ok0.imp fun x H1 ⟨G1, st1, a, s1, hd1, r1, ok1⟩ => ?_⟩
  cases q : st1.env[i]? with
  | none => rw [q] at ok1; exact ok1.elim
  | some s =>
    rw [q] at ok1
    cases s with
    | un => exact ok1.elim
    | own ds =>
      obtain ⟨p, vs, e1, e2, gg, z, r⟩ := hd1.slot i _ q
      refine ⟨.ref p, e1, ?_⟩
      obtain ⟨c2, G2, st2, hd2, ok2⟩ := stepS (rel := relD X.K T) hd1 ok1
      refine ⟨c2, G2, st2, hd2, ok2.imp fun y H2 ⟨G3, st3, b, s3, hd3, r3, ok3⟩ => ?_⟩
      cases q1 : st3.env[i]? with
      | none => rw [q1] at ok3; exact ok3.elim
      | some s =>
        rw [q1] at ok3
        cases s with
        | un => exact ok3.elim
        | val d => exact ok3.elim
        | own ds1 =>
          obtain ⟨p2, vs2, f1, f2, g2, z2, r2⟩ := hd3.slot i _ q1
          rw [e1] at f1
          cases f1
          cases r3 with
          | int kk =>
            dsimp only at ok3
            cases w : ixN ds1.length kk with
            | none => rw [w] at ok3; exact ok3.elim
            | some j =>
              rw [w] at ok3
              exact ⟨p, vs2, kk, j, rfl, rfl, f2, by rw [r2.length]; exact w, ok3 _ _ _ (Same.refl _) (hd3.setOwn q1 e1 (r2.set (r1.mono s3) j))⟩
          | _ => exact ok3.elim
    | val d =>
      cases d with
      | box =>
        obtain ⟨v, e1, rb⟩ := hd1.slot i _ q
        cases rb with
        | @box p hb =>
          refine ⟨.ref p, e1, ?_⟩
          obtain ⟨c2, G2, st2, hd2, ok2⟩ := stepS (rel := relD X.K T) hd1 ok1
          refine ⟨c2, G2, st2, hd2, ok2.imp fun y H2 ⟨G3, st3, b, s3, hd3, r3, ok3⟩ => ?_⟩
          have hbx := (hd3.box p hb).1
          cases r3 with
          | int kk =>
            cases r1 with
            | int n =>
              replace ok3 : SOk X.K T W c G3 (if kk = 0 then .ok .nx { st3 with bx := (n, st3.bx.2.1, st3.bx.2.2) } else if kk = 1 then .ok .nx { st3 with bx := (st3.bx.1, n, st3.bx.2.2) } else if kk = 2 then .ok .nx { st3 with bx := (st3.bx.1, st3.bx.2.1, n) } else .stuck) E := ok3
              by_cases k0 : kk = 0
              · subst k0
                rw [if_pos rfl] at ok3
                exact ⟨p, _, 0, 0, rfl, rfl, hbx, rfl, ok3 _ _ _ (Same.refl _) (hd3.setBox hb (n, st3.bx.2.1, st3.bx.2.2))⟩
              · rw [if_neg k0] at ok3
                by_cases k1 : kk = 1
                · subst k1
                  rw [if_pos rfl] at ok3
                  exact ⟨p, _, 1, 1, rfl, rfl, hbx, rfl, ok3 _ _ _ (Same.refl _) (hd3.setBox hb (st3.bx.1, n, st3.bx.2.2))⟩
                · rw [if_neg k1] at ok3
                  by_cases k2 : kk = 2
                  · subst k2
                    rw [if_pos rfl] at ok3
                    exact ⟨p, _, 2, 2, rfl, rfl, hbx, rfl, ok3 _ _ _ (Same.refl _) (hd3.setBox hb (st3.bx.1, st3.bx.2.1, n))⟩
                  · rw [if_neg k2] at ok3; exact ok3.elim
            | _ => exact ok3.elim
          | _ => exact ok3.elim
      | _ => exact ok1.elim
/-! ### targets -/
inductive Tg where
  | nm (i : Nat) | tp (is : List Nat) | np (i : Nat) (is : List Nat) | pn (is : List Nat) (i : Nat)
def gNames : List Nat → TGs
  | [] => gNil
  | i :: is => gCons (gName i) (gNames is)
def gUn (K : PySem.W.Frag) (n : Nat) (t : TGs) : TG := fun v σ H Q => ∃ a xs, v = .ref a ∧ (SqT K H a xs ∨ SqL K H a xs) ∧ xs.length = n ∧ t xs σ H Q
def tgT (K : PySem.W.Frag) : Tg → TG
  | .nm i => gName i
  | .tp is => gUn K is.length (gNames is)
  | .np i is => gUn K 2 (gCons (gName i) (gCons (gUn K is.length (gNames is)) gNil))
  | .pn is i => gUn K 2 (gCons (gUn K is.length (gNames is)) (gCons (gName i) gNil))
def DG (X : Cx) (tg : Expr) (k : Tg) : Prop := PG X tg (tgT X.K k)
def putAll : List Nat → List D → S → S
  | i :: is, d :: ds, st => putAll is ds (st.put i (.val d))
  | _, _, st => st
def setAll : List Nat → List V → SV → SV
  | i :: is, v :: vs, σ => setAll is vs (σ.set i (some v))
  | _, _, σ => σ
def tgD : Tg → D → S → R Unit
  | .nm i, d, st => .ok () (st.put i (.val d))
  | .tp is, .tu ds, st => if ds.length = is.length then .ok () (putAll is ds st) else .stuck
  | .tp is, .ls ds, st => if ds.length = is.length then .ok () (putAll is ds st) else .stuck
  | .np i is, .tu [x, .tu ds], st => if ds.length = is.length then .ok () (putAll is ds (st.put i (.val x))) else .stuck
  | .np i is, .tu [x, .ls ds], st => if ds.length = is.length then .ok () (putAll is ds (st.put i (.val x))) else .stuck
  | .pn is i, .tu [.tu ds, x], st => if ds.length = is.length then .ok () ((putAll is ds st).put i (.val x)) else .stuck
  | .pn is i, .tu [.ls ds, x], st => if ds.length = is.length then .ok () ((putAll is ds st).put i (.val x)) else .stuck
  | _, _, _ => .stuck
theorem gNames_run {Q : SV → Hp → Prop} : ∀ {is : List Nat} {vs : List V} {σ : SV} {H : Hp}, vs.length = is.length → Q (setAll is vs σ) H → gNames is vs σ H Q
  | [], [], σ, H, _, q => ⟨rfl, q⟩
  | i :: is, v :: vs, σ, H, l, q => ⟨v, vs, rfl, gNames_run (is := is) (vs := vs) (by simpa using l) q⟩
  | [], _ :: _, _, _, l, _ => by simp at l
  | _ :: _, [], _, _, l, _ => by simp at l
theorem Holds.putAll {K : PySem.W.Frag} {c : Ctx} {G H : Hp} : ∀ {is : List Nat} {vs : List V} {ds : List D} {σ : SV} {st : S}, Holds K T c G H σ st → Reps K T c.B G vs ds → Holds K T c G H (setAll is vs σ) (DL.putAll is ds st)
  | [], _, _, _, _, h, _ => h
  | i :: is, _, _, _, _, h, .nil => h
  | i :: is, _, _, _, _, h, .cons r rs => Holds.putAll (is := is) (h.putVal r i) rs
theorem tg_run {K : PySem.W.Frag} {c : Ctx} {G H : Hp} {σ : SV} {st st' : S} {v : V} {d : D} {k : Tg} {Q : SV → Hp → Prop} (hd : Holds K T c G H σ st) (r : Rep K T c.B G v d) (e : tgD k d st = .ok () st') (q : ∀ σ', Holds K T c G H σ' st' → Q σ' H) : tgT K k v σ H Q := by
  cases k with
  | nm i => cases e; exact q _ (hd.putVal r i)
  | tp is =>
    cases r with
    | @tu p vs ds h rs =>
      have e' : (if ds.length = is.length then R.ok () (DL.putAll is ds st) else .stuck) = .ok () st' := e
      by_cases l : ds.length = is.length
      · rw [if_pos l] at e'; cases e'
        exact ⟨p, vs, rfl, .inl (Same.sqt hd.sub h), rs.length.trans l, gNames_run (rs.length.trans l) (q _ (hd.putAll rs))⟩
      · rw [if_neg l] at e'; cases e'
    | @ls p vs ds h rs =>
      have e' : (if ds.length = is.length then R.ok () (DL.putAll is ds st) else .stuck) = .ok () st' := e
      by_cases l : ds.length = is.length
      · rw [if_pos l] at e'; cases e'
        exact ⟨p, vs, rfl, .inr (SqL.of (hd.sub _ _ h)), rs.length.trans l, gNames_run (rs.length.trans l) (q _ (hd.putAll rs))⟩
      · rw [if_neg l] at e'; cases e'
    | _ => cases e
  | np i is =>
    cases r with
    | @tu p ws ds h rs =>
      cases rs with
      | nil => cases e
      | cons r1 rs =>
        cases rs with
        | nil => cases r1 <;> cases e
        | cons r2 rs =>
          cases rs with
          | cons _ _ => cases r1 <;> cases r2 <;> cases e
          | nil =>
            cases r2 with
            | @tu p2 us es h2 rs2 =>
              have e' : (if es.length = is.length then R.ok () (DL.putAll is es (st.put i (.val _))) else .stuck) = .ok () st' := e
              by_cases l : es.length = is.length
              · rw [if_pos l] at e'; cases e'
                exact ⟨p, _, rfl, .inl (Same.sqt hd.sub h), rfl, _, _, rfl, _, _, rfl, ⟨p2, us, rfl, .inl (Same.sqt hd.sub h2), rs2.length.trans l, gNames_run (rs2.length.trans l) ⟨rfl, q _ (Holds.putAll (hd.putVal r1 i) rs2)⟩⟩⟩
              · rw [if_neg l] at e'; cases e'
            | @ls p2 us es h2 rs2 =>
              have e' : (if es.length = is.length then R.ok () (DL.putAll is es (st.put i (.val _))) else .stuck) = .ok () st' := e
              by_cases l : es.length = is.length
              · rw [if_pos l] at e'; cases e'
                exact ⟨p, _, rfl, .inl (Same.sqt hd.sub h), rfl, _, _, rfl, _, _, rfl, ⟨p2, us, rfl, .inr (SqL.of (hd.sub _ _ h2)), rs2.length.trans l, gNames_run (rs2.length.trans l) ⟨rfl, q _ (Holds.putAll (hd.putVal r1 i) rs2)⟩⟩⟩
              · rw [if_neg l] at e'; cases e'
            | _ => cases r1 <;> cases e
    | _ => cases e
  | pn is i =>
    cases r with
    | @tu p ws ds h rs =>
      cases rs with
      | nil => cases e
      | cons r1 rs =>
        cases rs with
        | nil => cases r1 <;> cases e
        | cons r2 rs =>
          cases rs with
          | cons _ _ => cases r1 <;> cases r2 <;> cases e
          | nil =>
            cases r1 with
            | @tu p2 us es h2 rs2 =>
              have e' : (if es.length = is.length then R.ok () ((DL.putAll is es st).put i (.val _)) else .stuck) = .ok () st' := e
              by_cases l : es.length = is.length
              · rw [if_pos l] at e'; cases e'
                exact ⟨p, _, rfl, .inl (Same.sqt hd.sub h), rfl, _, _, rfl, ⟨p2, us, rfl, .inl (Same.sqt hd.sub h2), rs2.length.trans l, gNames_run (rs2.length.trans l) ⟨_, _, rfl, ⟨rfl, q _ ((hd.putAll rs2).putVal r2 i)⟩⟩⟩⟩
              · rw [if_neg l] at e'; cases e'
            | @ls p2 us es h2 rs2 =>
              have e' : (if es.length = is.length then R.ok () ((DL.putAll is es st).put i (.val _)) else .stuck) = .ok () st' := e
              by_cases l : es.length = is.length
              · rw [if_pos l] at e'; cases e'
                exact ⟨p, _, rfl, .inl (Same.sqt hd.sub h), rfl, _, _, rfl, ⟨p2, us, rfl, .inr (SqL.of (hd.sub _ _ h2)), rs2.length.trans l, gNames_run (rs2.length.trans l) ⟨_, _, rfl, ⟨rfl, q _ ((hd.putAll rs2).putVal r2 i)⟩⟩⟩⟩
              · rw [if_neg l] at e'; cases e'
            | _ => cases r2 <;> cases e
    | _ => cases e
theorem tgD_noerr {k : Tg} {d : D} {st : S} : (∃ st', tgD k d st = .ok () st') ∨ tgD k d st = .stuck := by
  unfold tgD
  split <;> first | exact .inl ⟨_, rfl⟩ | exact .inr rfl | skip
  all_goals
    split
    · exact .inl ⟨_, rfl⟩
    · exact .inr rfl
theorem dg_name {i : Nat} {x : Str} {pos : Pos} (hN : X.N.Nodup) (hi : X.N[i]? = some x) (hx : Loc X.env.scope x) (hf : X.fn x = true ∨ X.env.scope.names.lookup x = some .local := by first | exact .inl rfl | exact .inr rfl | assumption) : DG X (.Name x pos) (.nm i) := pg_name hN hi hx hf
theorem dg_tup {es : List Expr} {k : Nat} {is : List Nat} {pos : Pos} (h1 : PG X (.Tuple es k pos) (gTup X.K is.length (gNames is))) (h2 : PG X (.Tuple es k pos) (gUnl X.K is.length (gNames is))) : DG X (.Tuple es k pos) (.tp is) :=
  ⟨fun pins s σ H v u Q I r ⟨a, xs, e, hq, l, q⟩ => hq.elim (fun z => h1.run pins s σ H v u Q I r ⟨a, xs, e, z, l, q⟩) fun z => h2.run pins s σ H v u Q I r ⟨a, xs, e, z, l, q⟩⟩
/-- i, (a, b, ..) and (a, b, ..), i -/
theorem dg_two {es : List Expr} {k : Nat} {t : TGs} {pos : Pos} {g : Tg} (e : tgT X.K g = gUn X.K 2 t) (h1 : PG X (.Tuple es k pos) (gTup X.K 2 t)) (h2 : PG X (.Tuple es k pos) (gUnl X.K 2 t)) : DG X (.Tuple es k pos) g := by
  unfold DG
  rw [e]
  exact ⟨fun pins s σ H v u Q I r ⟨a, xs, e, hq, l, q⟩ => hq.elim (fun z => h1.run pins s σ H v u Q I r ⟨a, xs, e, z, l, q⟩) fun z => h2.run pins s σ H v u Q I r ⟨a, xs, e, z, l, q⟩⟩
/-- a, b = e -/
def dUnpack (k : Tg) (f : S → R D) : S → R Out := fun st => (f st).bind fun d st => (tgD k d st).bind fun _ st => .ok .nx st
theorem ds_asg {tg e : Expr} {k : Tg} {f : S → R D} {pos : Pos} (he : DE X T W e f) (hg : DG X tg k) (hs : swapsWithSole [tg] e pos.line X.env = pure false := by rfl) (hw : swappedStores [tg] e X.env = pure none := by rfl) (h1 : (assignEach [tg] X.env).map (·.2) = [assign tg X.env] := by rfl) :
    DS X T W (.Assign [tg] e pos) (dUnpack k f) := impS (ps_asg he hg hs hw h1) fun E σ H ⟨c, G, st, hd, ok⟩ => by
  obtain ⟨c0, G0, st0, hd0, ok0⟩ := stepS (rel := relD X.K T) hd ok
  refine ⟨c0, G0, st0, hd0, ok0.imp fun x H1 ⟨G1, st1, a, s1, hd1, r1, ok1⟩ => ?_⟩
  rcases tgD_noerr (k := k) (d := a) (st := st1) with ⟨st2, e2⟩ | e2
  · rw [e2] at ok1
    exact tg_run hd1 r1 e2 fun σ' h => ok1 _ _ _ (Same.refl _) h
  · rw [e2] at ok1; exact ok1.elim
/-! ### for -/
def forD (k : Tg) (b : S → R Out) : List D → S → R Out
  | [], st => .ok .nx st
  | d :: ds, st => (tgD k d st).bind fun _ st => match b st with
    | .ok .nx st => forD k b ds st
    | .ok .ct st => forD k b ds st
    | .ok .bk st => .ok .nx st
    | r => r
def dFor (k : Tg) (i : S → R (List D)) (b : S → R Out) : S → R Out := fun st => (i st).bind fun ds st => forD k b ds st
theorem ds_for {tg iter : Expr} {body : List Stmt} {k : Tg} {i : S → R (List D)} {b : S → R Out} {pos : Pos} (hp : PassesOwn (model X.prog X.w) X.A X.env X.xe) (hc : X.calm = true) (hi : DI X T W tg iter i) (hg : DG X tg k) (hb : DSs X T W body b)
    (hs : ∀ x, foldedSetIterable iter X.env x = pure x := by intro _; rfl) : DS X T W (.For tg iter body [] pos) (dFor k i b) := impS (ps_for hp hc hi hg hb hs) fun E σ H ⟨c, G, st, hd, ok⟩ => by
  obtain ⟨c0, G0, st0, hd0, ok0⟩ := stepS (rel := relI X.K T) hd ok
  refine ⟨c0, G0, st0, hd0, ok0.imp fun J H1 ⟨G1, st1, ds, s1, hd1, r1, ok1⟩ => ?_⟩
  refine ⟨fun i m σ H => m = ds.length - i ∧ i ≤ ds.length ∧ ∃ G' st', Same G1 G' ∧ Holds X.K T c G' H σ st' ∧ SOk X.K T W c G' (forD k b (ds.drop i) st') E, ⟨ds.length, by simp, Nat.zero_le _, G1, st1, Same.refl _, hd1, ok1⟩, ?_⟩
  rintro i m σ H ⟨rfl, hi, G', st', s', hd', ok'⟩
  obtain ⟨rs, rg⟩ := r1 c G' H σ st' rfl s' hd'
  by_cases hlt : i < ds.length
  · have e0 : ds[i]? = some ds[i] := List.getElem?_eq_getElem hlt
    obtain ⟨g1, g2⟩ := rg i _ e0
    have ed : ds.drop i = ds[i] :: ds.drop (i + 1) := List.drop_eq_getElem_cons hlt
    rw [ed] at ok'
    refine .inr ⟨g1, fun σ' H' => ∃ G2 st2, Same G1 G2 ∧ Holds X.K T c G2 H' σ' st2 ∧ SOk X.K T W c G2 (forD k b (ds.drop (i + 1)) st2) E, fun σ' H' ⟨G2, st2, a1, a2, a3⟩ => ⟨ds.length - (i + 1), by omega, rfl, hlt, G2, st2, a1, a2, a3⟩, fun x H' y => ?_⟩
    obtain ⟨G2, s2, s2', hd2, r2⟩ := g2 x H' y
    rcases tgD_noerr (k := k) (d := ds[i]) (st := st') with ⟨st2, e2⟩ | e2
    · have ok2 : SOk X.K T W c G' (match b st2 with | .ok .nx st => forD k b (ds.drop (i + 1)) st | .ok .ct st => forD k b (ds.drop (i + 1)) st | .ok .bk st => .ok .nx st | r => r) E := by
        have := ok'
        unfold forD at this
        rw [e2] at this
        exact this
      refine tg_run hd2 r2 e2 fun σ2 h2 => ⟨c, G2, st2, h2, ?_⟩
      have ok3 := SOk.mono s2 ok2
      revert ok3
      cases b st2 with
      | ok o st3 =>
        cases o with
        | nx => exact fun ok3 G3 H3 σ3 s3 h3 => ⟨G3, st3, (s'.trans s2).trans s3, h3, SOk.mono s3 ok3⟩
        | ct => exact fun ok3 G3 H3 σ3 s3 h3 => ⟨G3, st3, (s'.trans s2).trans s3, h3, SOk.mono s3 ok3⟩
        | bk => exact fun ok3 => ok3
        | rt d => exact fun ok3 => ok3
        | rtF d => exact fun ok3 => ok3
      | err e st => exact fun ok3 => ok3
      | stuck => exact fun ok3 => ok3
    · unfold forD at ok'
      rw [e2] at ok'; exact ok'.elim
  · have e : i = ds.length := by omega
    subst e
    rw [List.drop_length] at ok'
    exact .inl ⟨rs, ok' _ _ _ (Same.refl _) hd'⟩
end
end DL

/-! DLg: comprehensions, pairs of targets, a def's body. -/
namespace DL
open PySem PySem.Spec PyProof.Rows L2
abbrev W0 : WX := fun _ _ _ _ => False
section
variable {K : PySem.W.Frag} {T : Tab} {W : WX} {c : Ctx} {G G' H H' : Hp} {σ σ' : SV} {st : S}
/-! ### a block of its own: as within a call -/
def Sl.hide : Sl → Sl
  | .own _ => .un
  | s => s
def S.hide (st : S) : S := { st with env := st.env.map Sl.hide }
def inner (c : Ctx) (G H : Hp) : Ctx := ⟨c.B, H, G⟩
theorem Holds.enter (h : Holds K T c G H σ st) : Holds K T (inner c G H) G H σ st.hide where
  sub0 := Same.refl _
  sub := h.sub
  new := fun a e n => absurd e n
  frame := fun a o e _ => e
  len := by show _ = (st.env.map Sl.hide).length; rw [List.length_map]; exact h.len
  slot := fun i s e => by
    have e' : (st.env.map Sl.hide)[i]? = some s := e
    rw [List.getElem?_map] at e'
    cases q : st.env[i]? with
    | none => rw [q] at e'; cases e'
    | some s' =>
      rw [q] at e'
      cases e'
      have o := h.slot i s' q
      cases s' with
      | un => trivial
      | val d => exact o
      | own ds => trivial
  dist := fun i j p ds es e1 => by
    have e' : (st.env.map Sl.hide)[i]? = some (.own ds) := e1
    rw [List.getElem?_map] at e'
    cases q : st.env[i]? with
    | none => rw [q] at e'; cases e'
    | some s' => rw [q] at e'; cases s' <;> cases e'
  box := h.box
  box0 := fun p e n => by have := (h.box p e).1; rw [show H p = none from n] at this; cases this
theorem Holds.leave {G' H' : Hp} {σ' : SV} {st' : S} (h : Holds K T c G H σ st) (h' : Holds K T (inner c G H) G' H' σ' st') : Holds K T c G' H' σ { st with bx := st'.bx } :=
  h.after (b := st'.bx) ⟨h'.sub0, h'.sub, h'.new, h'.frame, h'.box⟩
theorem Holds.forget {σ' : SV} {env' : List Sl} (h : Holds K T c G H σ st) (l : σ'.length = σ.length) (l2 : env'.length = st.env.length) (w : ∀ (i : Nat) s, env'[i]? = some s → s = .un ∨ (st.env[i]? = some s ∧ σ'[i]? = σ[i]?)) : Holds K T c G H σ' { st with env := env' } where
  sub0 := h.sub0
  sub := h.sub
  new := h.new
  frame := h.frame
  len := by rw [l, h.len]; exact l2.symm
  slot := fun i s e => by
    rcases w i s e with z | ⟨z1, z2⟩
    · subst z; trivial
    · rw [z2]; exact h.slot i s z1
  dist := fun i j p ds es e1 e2 a1 a2 => by
    rcases w i _ e1 with z | ⟨z1, z2⟩
    · cases z
    · rcases w j _ e2 with y | ⟨y1, y2⟩
      · cases y
      · rw [z2] at a1
        rw [y2] at a2
        exact h.dist i j p ds es z1 y1 a1 a2
  box := h.box
  box0 := h.box0
def wipeS (env : List Sl) : List Nat → List Sl
  | [] => env
  | v :: vs => (wipeS env vs).set v .un
theorem wipeS_length (env : List Sl) : ∀ vs : List Nat, (wipeS env vs).length = env.length
  | [] => rfl
  | v :: vs => by unfold wipeS; rw [List.length_set, wipeS_length env vs]
theorem wipeS_get (env : List Sl) : ∀ (vs : List Nat) (i : Nat) (s : Sl), (wipeS env vs)[i]? = some s → s = .un ∨ (env[i]? = some s ∧ i ∉ vs)
  | [], i, s, e => .inr ⟨e, by simp⟩
  | v :: vs, i, s, e => by
    unfold wipeS at e
    by_cases q : v = i
    · subst q
      by_cases l : v < (wipeS env vs).length
      · rw [List.getElem?_set_self l] at e; exact .inl (Option.some.inj e).symm
      · rw [List.getElem?_eq_none (by rw [List.length_set]; omega)] at e; cases e
    · rw [List.getElem?_set_ne q] at e
      rcases wipeS_get env vs i s e with z | ⟨z1, z2⟩
      · exact .inl z
      · exact .inr ⟨z1, by simp only [List.mem_cons, not_or]; exact ⟨fun y => q y.symm, z2⟩⟩
theorem Holds.wiped (h : Holds K T c G H σ st) (vs : List Nat) : Holds K T c G H (wipe σ vs) { st with env := wipeS st.env vs } :=
  h.forget (wipe_length σ vs) (wipeS_length _ vs) fun i s e => by
    rcases wipeS_get _ vs i s e with z | ⟨z1, z2⟩
    · exact .inl z
    · exact .inr ⟨z1, wipe_out z2⟩
/-- a list that nobody knows changes -/
theorem Holds.poke (h : Holds K T c G H σ st) {p : Addr} {vs : List V} {o : HO} (hp : H p = some (.lst vs)) (g : G p = none) (z : c.H0 p = none) (nd : ∀ (i : Nat) (es : List D), st.env[i]? = some (.own es) → σ[i]? ≠ some (some (.ref p))) : Holds K T c G (upd H p o) σ st where
  sub0 := h.sub0
  sub := fun a u q => by
    have ne : a ≠ p := fun w => by subst w; rw [g] at q; cases q
    rw [upd_ne ne]; exact h.sub _ _ q
  new := h.new
  frame := fun a u q b => by
    have ne : a ≠ p := fun w => by subst w; rw [z] at q; cases q
    rw [upd_ne ne]; exact h.frame a u q b
  len := h.len
  slot := fun j s q => by
    have u := h.slot j s q
    cases s with
    | un => trivial
    | val d => exact u
    | own es =>
      obtain ⟨p3, vs3, a1, a2, a3, a4, a5⟩ := u
      have ne : p3 ≠ p := fun t => by subst t; exact nd j es q a1
      exact ⟨p3, vs3, a1, by rw [upd_ne ne]; exact a2, a3, a4, a5⟩
  dist := h.dist
  box := fun b q => by
    obtain ⟨x, y⟩ := h.box b q
    have ne : b ≠ p := fun t => by subst t; exact h.box0 b q z
    exact ⟨by rw [upd_ne ne]; exact x, y⟩
  box0 := h.box0
end
/-- one turn's value: none where the test says no -/
def turnD (k : Tg) (vs : List Nat) (t : S → R Bool) (e : S → R D) (d : D) (st : S) : R (Option D) :=
  (tgD k d { st.hide with env := wipeS st.hide.env vs }).bind fun _ s2 => (t s2).bind fun b s3 => if b = true then (e s3).bind fun y s4 => .ok (some y) s4 else .ok none s3
def compD (k : Tg) (vs : List Nat) (t : S → R Bool) (e : S → R D) : List D → List D → S → R (List D)
  | [], acc, st => .ok acc st
  | d :: ds, acc, st => match turnD k vs t e d st with
    | .ok (some y) s => if acc.length < 16777216 then compD k vs t e ds (acc ++ [y]) { st with bx := s.bx } else .stuck
    | .ok none s => compD k vs t e ds acc { st with bx := s.bx }
    | _ => .stuck
def dComp (k : Tg) (vs : List Nat) (i : S → R (List D)) (t : S → R Bool) (e : S → R D) : S → R (List D) := fun st => (i st).bind fun ds st => compD k vs t e ds [] st
def tgIn (vs : List Nat) : Tg → Prop
  | .nm i => i ∈ vs
  | .tp is => ∀ i ∈ is, i ∈ vs
  | .np i is => i ∈ vs ∧ ∀ j ∈ is, j ∈ vs
  | .pn is i => i ∈ vs ∧ ∀ j ∈ is, j ∈ vs
instance (vs : List Nat) (k : Tg) : Decidable (tgIn vs k) := match k with
  | .nm i => inferInstanceAs (Decidable (i ∈ vs))
  | .tp is => inferInstanceAs (Decidable (∀ i ∈ is, i ∈ vs))
  | .np i is => inferInstanceAs (Decidable (i ∈ vs ∧ ∀ j ∈ is, j ∈ vs))
  | .pn is i => inferInstanceAs (Decidable (i ∈ vs ∧ ∀ j ∈ is, j ∈ vs))
section
variable {X : Cx} {T : Tab}
def DTs (X : Cx) (T : Tab) (ifs : List Expr) (f : S → R Bool) : Prop := PTs X ifs (gD X.K T W0 relB f)
def dYes : S → R Bool := fun st => .ok true st
theorem dts_nil : DTs X T [] dYes := ⟨fun pins s σ H Q I ⟨c, G, st, hd, ok⟩ => pts_nil.run pins s σ H Q I (ok _ _ _ (Same.refl _) hd rfl)⟩
theorem dts_one {e : Expr} {f : S → R Bool} (h : DT X T W0 e f) : DTs X T [e] f := ⟨fun pins s σ H Q I q => (pts_one h).run pins s σ H Q I q⟩
theorem wipe_set {σ : SV} {i : Nat} {v : Option V} : ∀ {vs : List Nat}, i ∈ vs → wipe (σ.set i v) vs = wipe σ vs
  | [], h => by simp at h
  | w :: vs, h => by
    unfold wipe
    by_cases q : i = w
    · subst q
      by_cases m : i ∈ vs
      · rw [wipe_set m]
      · rw [wipe_set_out m, List.set_set]
    · have m : i ∈ vs := by rcases List.mem_cons.mp h with z | z; exact absurd z q; exact z
      rw [wipe_set m]
where
  wipe_set_out {σ : SV} {i : Nat} {v : Option V} : ∀ {vs : List Nat}, i ∉ vs → wipe (σ.set i v) vs = (wipe σ vs).set i v
  | [], _ => rfl
  | w :: vs, h => by
    unfold wipe
    have h1 : i ≠ w := fun z => h (by simp [z])
    have h2 : i ∉ vs := fun z => h (by simp [z])
    rw [wipe_set_out h2, List.set_comm _ _ h1]
theorem wipe_setAll {vs : List Nat} : ∀ {is : List Nat} {ws : List V} {σ : SV}, (∀ i ∈ is, i ∈ vs) → wipe (setAll is ws σ) vs = wipe σ vs
  | [], _, _, _ => rfl
  | _ :: _, [], _, _ => rfl
  | i :: is, w :: ws, σ, h => by
    show wipe (setAll is ws (σ.set i (some w))) vs = _
    rw [wipe_setAll (is := is) (ws := ws) fun j hj => h j (List.mem_cons_of_mem _ hj), wipe_set (h i List.mem_cons_self)]
theorem wipe_wipe {σ : SV} {i : Nat} : ∀ {vs : List Nat} {ws : List Nat}, (∀ v ∈ ws, v ∈ vs) → wipe (wipe σ ws) vs = wipe σ vs
  | vs, [], _ => rfl
  | vs, w :: ws, h => by
    show wipe ((wipe σ ws).set w none) vs = _
    rw [wipe_set (h w List.mem_cons_self), wipe_wipe (i := i) fun v hv => h v (List.mem_cons_of_mem _ hv)]
theorem tg_run2 {K : PySem.W.Frag} {c : Ctx} {G H : Hp} {σ : SV} {st st' : S} {v : V} {d : D} {k : Tg} {vs : List Nat} {Q : SV → Hp → Prop} (hk : tgIn vs k) (hd : Holds K T c G H σ st) (r : Rep K T c.B G v d) (e : tgD k d st = .ok () st') (q : ∀ σ', wipe σ' vs = wipe σ vs → Holds K T c G H σ' st' → Q σ' H) : tgT K k v σ H Q := by
  cases k with
  | nm i => cases e; exact q _ (wipe_set hk) (hd.putVal r i)
  | tp is =>
    cases r with
    | @tu p ws ds h rs =>
      have e' : (if ds.length = is.length then R.ok () (DL.putAll is ds st) else .stuck) = .ok () st' := e
      by_cases l : ds.length = is.length
      · rw [if_pos l] at e'; cases e'
        exact ⟨p, ws, rfl, .inl (Same.sqt hd.sub h), rs.length.trans l, gNames_run (rs.length.trans l) (q _ (wipe_setAll hk) (hd.putAll rs))⟩
      · rw [if_neg l] at e'; cases e'
    | @ls p ws ds h rs =>
      have e' : (if ds.length = is.length then R.ok () (DL.putAll is ds st) else .stuck) = .ok () st' := e
      by_cases l : ds.length = is.length
      · rw [if_pos l] at e'; cases e'
        exact ⟨p, ws, rfl, .inr (SqL.of (hd.sub _ _ h)), rs.length.trans l, gNames_run (rs.length.trans l) (q _ (wipe_setAll hk) (hd.putAll rs))⟩
      · rw [if_neg l] at e'; cases e'
    | _ => cases e
  | np i is =>
    cases r with
    | @tu p ws ds h rs =>
      cases rs with
      | nil => cases e
      | cons r1 rs =>
        cases rs with
        | nil => cases r1 <;> cases e
        | cons r2 rs =>
          cases rs with
          | cons _ _ => cases r1 <;> cases r2 <;> cases e
          | nil =>
            cases r2 with
            | @tu p2 us es h2 rs2 =>
              have e' : (if es.length = is.length then R.ok () (DL.putAll is es (st.put i (.val _))) else .stuck) = .ok () st' := e
              by_cases l : es.length = is.length
              · rw [if_pos l] at e'; cases e'
                exact ⟨p, _, rfl, .inl (Same.sqt hd.sub h), rfl, _, _, rfl, _, _, rfl, ⟨p2, us, rfl, .inl (Same.sqt hd.sub h2), rs2.length.trans l, gNames_run (rs2.length.trans l) ⟨rfl, q _ ((wipe_setAll hk.2).trans (wipe_set hk.1)) (Holds.putAll (hd.putVal r1 i) rs2)⟩⟩⟩
              · rw [if_neg l] at e'; cases e'
            | @ls p2 us es h2 rs2 =>
              have e' : (if es.length = is.length then R.ok () (DL.putAll is es (st.put i (.val _))) else .stuck) = .ok () st' := e
              by_cases l : es.length = is.length
              · rw [if_pos l] at e'; cases e'
                exact ⟨p, _, rfl, .inl (Same.sqt hd.sub h), rfl, _, _, rfl, _, _, rfl, ⟨p2, us, rfl, .inr (SqL.of (hd.sub _ _ h2)), rs2.length.trans l, gNames_run (rs2.length.trans l) ⟨rfl, q _ ((wipe_setAll hk.2).trans (wipe_set hk.1)) (Holds.putAll (hd.putVal r1 i) rs2)⟩⟩⟩
              · rw [if_neg l] at e'; cases e'
            | _ => cases r1 <;> cases e
    | _ => cases e
  | pn is i =>
    cases r with
    | @tu p ws ds h rs =>
      cases rs with
      | nil => cases e
      | cons r1 rs =>
        cases rs with
        | nil => cases r1 <;> cases e
        | cons r2 rs =>
          cases rs with
          | cons _ _ => cases r1 <;> cases r2 <;> cases e
          | nil =>
            cases r1 with
            | @tu p2 us es h2 rs2 =>
              have e' : (if es.length = is.length then R.ok () ((DL.putAll is es st).put i (.val _)) else .stuck) = .ok () st' := e
              by_cases l : es.length = is.length
              · rw [if_pos l] at e'; cases e'
                exact ⟨p, _, rfl, .inl (Same.sqt hd.sub h), rfl, _, _, rfl, ⟨p2, us, rfl, .inl (Same.sqt hd.sub h2), rs2.length.trans l, gNames_run (rs2.length.trans l) ⟨_, _, rfl, ⟨rfl, q _ ((wipe_set hk.1).trans (wipe_setAll hk.2)) ((hd.putAll rs2).putVal r2 i)⟩⟩⟩⟩
              · rw [if_neg l] at e'; cases e'
            | @ls p2 us es h2 rs2 =>
              have e' : (if es.length = is.length then R.ok () ((DL.putAll is es st).put i (.val _)) else .stuck) = .ok () st' := e
              by_cases l : es.length = is.length
              · rw [if_pos l] at e'; cases e'
                exact ⟨p, _, rfl, .inl (Same.sqt hd.sub h), rfl, _, _, rfl, ⟨p2, us, rfl, .inr (SqL.of (hd.sub _ _ h2)), rs2.length.trans l, gNames_run (rs2.length.trans l) ⟨_, _, rfl, ⟨rfl, q _ ((wipe_set hk.1).trans (wipe_setAll hk.2)) ((hd.putAll rs2).putVal r2 i)⟩⟩⟩⟩
              · rw [if_neg l] at e'; cases e'
            | _ => cases r2 <;> cases e
    | _ => cases e
/-- the reading of a comprehension -/
theorem comp_read {W : WX} {k : Tg} {vs : List Nat} {i : S → R (List D)} {t : S → R Bool} {e : S → R D} (hk : tgIn vs k) : ∀ σ H Q, gD X.K T W (relF X.K T) (dComp k vs i t e) σ H Q → tLc (gD X.K T W (relI X.K T) i) (tgT X.K k) (gD X.K T W0 relB t) (gD X.K T W0 (relD X.K T) e) vs σ H Q := by
  intro σ H Q ⟨c, G, st, hd, ok⟩
  obtain ⟨c0, G0, st0, hd0, ok0⟩ := step (rel := relI X.K T) hd ok
  refine ⟨c0, G0, st0, hd0, ok0.imp fun J H1 ⟨G1, st1, ds, s1, hd1, r1, ok1⟩ => ?_⟩
  intro L hL
  obtain ⟨hf, rf⟩ := hd1.fresh hL (.nil)
  -- the invariant
  refine ⟨fun j m H => m = ds.length - j ∧ j ≤ ds.length ∧ ∃ G' b acc, Same G1 G' ∧ Holds X.K T c G' H σ { st1 with bx := b } ∧ relF X.K T c G' H σ { st1 with bx := b } (.ref L) acc ∧ GOk X.K T W (relF X.K T) c G' σ (compD k vs t e (ds.drop j) acc { st1 with bx := b }) Q,
    ⟨ds.length, by simp, Nat.zero_le _, G1, st1.bx, [], Same.refl _, hf, rf, ok1⟩, ?_⟩
  rintro j m H2 ⟨rfl, hj, G', b, acc, s', hd', rf', ok'⟩
  obtain ⟨rs, rg⟩ := r1 (inner c G' H2) G' H2 σ ({ st1 with bx := b } : S).hide rfl s' hd'.enter
  by_cases hlt : j < ds.length
  · have e0 : ds[j]? = some ds[j] := List.getElem?_eq_getElem hlt
    obtain ⟨g1, g2⟩ := rg j _ e0
    have ed : ds.drop j = ds[j] :: ds.drop (j + 1) := List.drop_eq_getElem_cons hlt
    rw [ed] at ok'
    refine .inr ⟨g1, fun H' => ∃ G' b acc, Same G1 G' ∧ Holds X.K T c G' H' σ { st1 with bx := b } ∧ relF X.K T c G' H' σ { st1 with bx := b } (.ref L) acc ∧ GOk X.K T W (relF X.K T) c G' σ (compD k vs t e (ds.drop (j + 1)) acc { st1 with bx := b }) Q,
      fun H' ⟨Ga, ba, acca, a1, a2, a3, a4⟩ => ⟨ds.length - (j + 1), by omega, rfl, hlt, Ga, ba, acca, a1, a2, a3, a4⟩, fun x H' y => ?_⟩
    obtain ⟨G2, s2, s2', hd2, r2⟩ := g2 x H' y
    have hw := hd2.wiped vs
    -- what the turn gives
    obtain ⟨p0, ws, eL, hL2, gL, zL, rL, ndL⟩ := rf'
    cases eL
    -- behind the turn
    have back : ∀ {G3 H3 : Hp} {σ3 : SV} {s3 : S}, Same G2 G3 → Holds X.K T (inner c G' H2) G3 H3 σ3 s3 → Holds X.K T c G3 H3 σ { st1 with bx := s3.bx } ∧ H3 L = some (.lst ws) ∧ G3 L = none ∧ Reps X.K T c.B G3 ws acc := fun {G3 H3 σ3 s3} s3s h3 => by
      refine ⟨hd'.leave h3, h3.frame L _ hL2 (fun q => hd'.box0 L q zL), ?_, rL.mono (s2.trans s3s)⟩
      cases q : G3 L with
      | none => rfl
      | some o =>
        have z : H2 L = none := h3.new L gL (by rw [q]; exact fun z => by cases z)
        rw [hL2] at z; cases z
    have turnok : (∃ y s, turnD k vs t e ds[j] { st1 with bx := b } = .ok (some y) s ∧ acc.length < 16777216 ∧ GOk X.K T W (relF X.K T) c G' σ (compD k vs t e (ds.drop (j + 1)) (acc ++ [y]) { st1 with bx := s.bx }) Q) ∨
        (∃ s, turnD k vs t e ds[j] { st1 with bx := b } = .ok none s ∧ GOk X.K T W (relF X.K T) c G' σ (compD k vs t e (ds.drop (j + 1)) acc { st1 with bx := s.bx }) Q) := by
      have ok2 := ok'
      unfold compD at ok2
      revert ok2
      cases turnD k vs t e ds[j] { st1 with bx := b } with
      | ok o s =>
        cases o with
        | none => exact fun ok2 => .inr ⟨s, rfl, ok2⟩
        | some y =>
          intro ok2
          dsimp only at ok2
          by_cases q : acc.length < 16777216
          · rw [if_pos q] at ok2; exact .inl ⟨y, s, rfl, q, ok2⟩
          · rw [if_neg q] at ok2; exact ok2.elim
      | err er s => exact fun ok2 => ok2.elim
      | stuck => exact fun ok2 => ok2.elim
    rcases tgD_noerr (k := k) (d := ds[j]) (st := { ({ st1 with bx := b } : S).hide with env := wipeS ({ st1 with bx := b } : S).hide.env vs }) with ⟨st2, e2⟩ | e2
    rotate_left
    · exfalso
      rcases turnok with ⟨y, s, q, _⟩ | ⟨s, q, _⟩
      · unfold turnD at q; rw [e2] at q; cases q
      · unfold turnD at q; rw [e2] at q; cases q
    refine tg_run2 hk hw r2 e2 fun σ2 hσ h2 => ⟨hσ.trans (wipe_wipe (i := 0) fun v hv => hv), ?_⟩
    refine ⟨inner c G' H2, G2, st2, h2, ?_⟩
    unfold turnD at turnok
    rw [e2] at turnok
    replace turnok : (∃ y s, ((t st2).bind fun b s3 => if b = true then (e s3).bind fun y s4 => R.ok (some y) s4 else .ok none s3) = .ok (some y) s ∧ acc.length < 16777216 ∧ GOk X.K T W (relF X.K T) c G' σ (compD k vs t e (ds.drop (j + 1)) (acc ++ [y]) { st1 with bx := s.bx }) Q) ∨
        (∃ s, ((t st2).bind fun b s3 => if b = true then (e s3).bind fun y s4 => R.ok (some y) s4 else .ok none s3) = .ok none s ∧ GOk X.K T W (relF X.K T) c G' σ (compD k vs t e (ds.drop (j + 1)) acc { st1 with bx := s.bx }) Q) := turnok
    cases ht : t st2 with
    | stuck => rw [ht] at turnok; rcases turnok with ⟨_, _, q, _⟩ | ⟨_, q, _⟩ <;> cases q
    | err _ _ => rw [ht] at turnok; rcases turnok with ⟨_, _, q, _⟩ | ⟨_, q, _⟩ <;> cases q
    | ok bb s3 =>
      rw [ht] at turnok
      replace turnok : (∃ y s, (if bb = true then (e s3).bind fun y s4 => R.ok (some y) s4 else .ok none s3) = .ok (some y) s ∧ acc.length < 16777216 ∧ GOk X.K T W (relF X.K T) c G' σ (compD k vs t e (ds.drop (j + 1)) (acc ++ [y]) { st1 with bx := s.bx }) Q) ∨
        (∃ s, (if bb = true then (e s3).bind fun y s4 => R.ok (some y) s4 else .ok none s3) = .ok none s ∧ GOk X.K T W (relF X.K T) c G' σ (compD k vs t e (ds.drop (j + 1)) acc { st1 with bx := s.bx }) Q) := turnok
      intro G3 H3 v s3s h3 ev
      cases ev
      cases bb with
      | false =>
        rw [if_neg Bool.false_ne_true] at turnok ⊢
        rcases turnok with ⟨_, _, q, _⟩ | ⟨s, q, ok3⟩
        · cases q
        · cases q
          obtain ⟨b1, b2, b3, b4⟩ := back s3s h3
          exact ⟨G3, s3.bx, acc, (s'.trans s2).trans s3s, b1, ⟨L, ws, rfl, b2, b3, zL, b4, ndL⟩, GOk.mono (s2.trans s3s) ok3⟩
      | true =>
        rw [if_pos rfl] at turnok ⊢
        refine ⟨inner c G' H2, G3, s3, h3, ?_⟩
        cases he : e s3 with
        | stuck => rw [he] at turnok; rcases turnok with ⟨_, _, q, _⟩ | ⟨_, q, _⟩ <;> cases q
        | err _ _ => rw [he] at turnok; rcases turnok with ⟨_, _, q, _⟩ | ⟨_, q, _⟩ <;> cases q
        | ok y s4 =>
          rw [he] at turnok
          intro G4 H4 v s4s h4 rv
          obtain ⟨b1, b2, b3, b4⟩ := back (s3s.trans s4s) h4
          rcases turnok with ⟨y', s, q, la, ok3⟩ | ⟨_, q, _⟩
          · cases q
            refine ⟨ws, b2, by rw [sizeLine_eq, b4.length]; exact la, G4, s4.bx, acc ++ [y], ((s'.trans s2).trans s3s).trans s4s, b1.poke b2 b3 zL ndL, ⟨L, _, rfl, upd_same, b3, zL, b4.append (.one rv), ndL⟩, GOk.mono ((s2.trans s3s).trans s4s) ok3⟩
          · cases q
  · have ej : j = ds.length := by omega
    subst ej
    rw [List.drop_length] at ok'
    exact .inl ⟨rs, ok' _ _ _ (Same.refl _) hd' rf'⟩
theorem df_comp {W : WX} {elt tg iter : Expr} {ifs : List Expr} {scope : Scope} {own : List (Str × Nat)} {pos : Pos} {k : Tg} {i : S → R (List D)} {t : S → R Bool} {e : S → R D} (hc : X.calm = true) (hN : X.N.Nodup) (hi : DI X T W tg iter i) (ok : BlkOk X.N X.env.scope scope own)
    (hk : tgIn (own.map (·.2)) k)
    (hg : ∀ (s : Shared) (H : Hp) (C : Addr) (cl : List (Str × Addr)) (fp : List Addr), DG (X.blk s H scope (compEnvC scope cl C X.env) fp) tg k) (ht : ∀ (s : Shared) (H : Hp) (C : Addr) (cl : List (Str × Addr)) (fp : List Addr), DTs (X.blk s H scope (compEnvC scope cl C X.env) fp) T ifs t)
    (he : ∀ (s : Shared) (H : Hp) (C : Addr) (cl : List (Str × Addr)) (fp : List Addr), DE (X.blk s H scope (compEnvC scope cl C X.env) fp) T W0 elt e) (hs : ∀ x, foldedSetIterable iter X.env x = pure x := by intro _; rfl) :
    DF X T W (.ListComp elt [⟨tg, iter, ifs, 0⟩] scope pos) (dComp k (own.map (·.2)) i t e) := impE (pe_lc (g := tgT X.K k) (tt := gD X.K T W0 relB t) (te := gD X.K T W0 (relD X.K T) e) hc hN hi ok hg ht he hs) (comp_read hk)
/-- y = [..], kept or closed -/
theorem ds_ownLc {W : WX} {j : Nat} {y : Str} {py : Pos} {elt tg iter : Expr} {ifs : List Expr} {scope : Scope} {own : List (Str × Nat)} {pos spos : Pos} {k : Tg} {i : S → R (List D)} {t : S → R Bool} {e : S → R D} (hc : X.calm = true) (hN : X.N.Nodup) (hy : X.N[j]? = some y) (hyl : X.env.scope.names.lookup y = some .local)
    (hsw : swapsWith (.ListComp elt [⟨tg, iter, ifs, 0⟩] scope pos) (some (.Name y py)) spos.line X.env = pure true) (hi : DI X T W tg iter i) (ok : BlkOk X.N X.env.scope scope own)
    (hk : tgIn (own.map (·.2)) k)
    (hg : ∀ (s : Shared) (H : Hp) (C : Addr) (cl : List (Str × Addr)) (fp : List Addr), DG (X.blk s H scope (compEnvC scope cl C X.env) fp) tg k) (ht : ∀ (s : Shared) (H : Hp) (C : Addr) (cl : List (Str × Addr)) (fp : List Addr), DTs (X.blk s H scope (compEnvC scope cl C X.env) fp) T ifs t)
    (he : ∀ (s : Shared) (H : Hp) (C : Addr) (cl : List (Str × Addr)) (fp : List Addr), DE (X.blk s H scope (compEnvC scope cl C X.env) fp) T W0 elt e) (hs : ∀ x, foldedSetIterable iter X.env x = pure x := by intro _; rfl) :
    DS X T W (.Assign [.Name y py] (.ListComp elt [⟨tg, iter, ifs, 0⟩] scope pos) spos) (dOwn j (dComp k (own.map (·.2)) i t e)) := impS (ps_setLc (g := tgT X.K k) (tt := gD X.K T W0 relB t) (te := gD X.K T W0 (relD X.K T) e) hc hN hy hyl hsw hi ok hg ht he hs) fun E σ H ⟨c, G, st, hd, ok⟩ => by
  obtain ⟨c0, G0, st0, hd0, ok0⟩ := stepS (rel := relF X.K T) hd ok
  exact comp_read hk σ H _ ⟨c0, G0, st0, hd0, ok0.imp fun x H1 ⟨G1, st1, a, s1, hd1, r1, ok1⟩ => ok1 _ _ _ (Same.refl _) (hd1.putOwn r1 j)⟩
theorem ds_setLc {W : WX} {j : Nat} {y : Str} {py : Pos} {elt tg iter : Expr} {ifs : List Expr} {scope : Scope} {own : List (Str × Nat)} {pos spos : Pos} {k : Tg} {i : S → R (List D)} {t : S → R Bool} {e : S → R D} (hc : X.calm = true) (hN : X.N.Nodup) (hy : X.N[j]? = some y) (hyl : X.env.scope.names.lookup y = some .local)
    (hsw : swapsWith (.ListComp elt [⟨tg, iter, ifs, 0⟩] scope pos) (some (.Name y py)) spos.line X.env = pure true) (hi : DI X T W tg iter i) (ok : BlkOk X.N X.env.scope scope own)
    (hk : tgIn (own.map (·.2)) k)
    (hg : ∀ (s : Shared) (H : Hp) (C : Addr) (cl : List (Str × Addr)) (fp : List Addr), DG (X.blk s H scope (compEnvC scope cl C X.env) fp) tg k) (ht : ∀ (s : Shared) (H : Hp) (C : Addr) (cl : List (Str × Addr)) (fp : List Addr), DTs (X.blk s H scope (compEnvC scope cl C X.env) fp) T ifs t)
    (he : ∀ (s : Shared) (H : Hp) (C : Addr) (cl : List (Str × Addr)) (fp : List Addr), DE (X.blk s H scope (compEnvC scope cl C X.env) fp) T W0 elt e) (hs : ∀ x, foldedSetIterable iter X.env x = pure x := by intro _; rfl) :
    DS X T W (.Assign [.Name y py] (.ListComp elt [⟨tg, iter, ifs, 0⟩] scope pos) spos) (dSet j (dClose (dComp k (own.map (·.2)) i t e))) := impS (ps_setLc (g := tgT X.K k) (tt := gD X.K T W0 relB t) (te := gD X.K T W0 (relD X.K T) e) hc hN hy hyl hsw hi ok hg ht he hs) fun E σ H ⟨c, G, st, hd, ok⟩ => by
  have ok' : SOk X.K T W c G ((dComp k (own.map (·.2)) i t e st).bind fun ds st => .ok .nx (st.put j (.val (.ls ds)))) E := by
    have z : dSet j (dClose (dComp k (own.map (·.2)) i t e)) st = ((dComp k (own.map (·.2)) i t e st).bind fun ds st => .ok .nx (st.put j (.val (.ls ds)))) := by
      unfold dSet dClose R.bind
      cases dComp k (own.map (·.2)) i t e st <;> rfl
    rw [z] at ok; exact ok
  obtain ⟨c0, G0, st0, hd0, ok0⟩ := stepS (rel := relF X.K T) hd ok'
  refine comp_read hk σ H _ ⟨c0, G0, st0, hd0, ok0.imp fun x H1 ⟨G1, st1, a, s1, hd1, r1, ok1⟩ => ?_⟩
  obtain ⟨G2, s2, hd2, r2⟩ := r1.close hd1
  exact ok1 _ _ _ s2 (hd2.putVal r2 j)
end

/-! ### a def -/
section
variable {P : Program} {w : World} {K : PySem.W.Frag} {mg : Str → Option Value} {base : Heap} {T : Tab}
def runFn (n N : Nat) (f : S → R Out) : Fn := fun ds b => if ds.length = n then match f ⟨ds.map Sl.val ++ List.replicate (N - n) Sl.un, b⟩ with
  | .ok .nx s => .ok .non s.bx
  | .ok (.rt d) s => .ok d s.bx
  | .ok (.rtF ds) s => .okF ds s.bx
  | .err e s => .err e s.bx
  | _ => .stuck
  else .stuck
abbrev wOf (E : XK) : WX := fun cls d _ H => E cls d H
theorem holds_start {B : Option Addr} {G H : Hp} {vs : List V} {ds : List D} {b : Bx} {N : Nat} (s : Same G H) (hb : ∀ p, B = some p → H p = some (boxO b) ∧ G p = none) (r : Reps K T B G vs ds) :
    Holds K T ⟨B, H, G⟩ G H (vs.map some ++ List.replicate N none) ⟨ds.map Sl.val ++ List.replicate N Sl.un, b⟩ where
  sub0 := Same.refl _
  sub := s
  new := fun a e n => absurd e n
  frame := fun a o e _ => e
  len := by simp [r.length]
  slot := fun i s e => by
    have e' : (ds.map Sl.val ++ List.replicate N Sl.un)[i]? = some s := e
    by_cases hi : i < ds.length
    · rw [List.getElem?_append_left (by simpa using hi), List.getElem?_map, List.getElem?_eq_getElem hi] at e'
      cases e'
      obtain ⟨v, e1, e2⟩ := r.get' (List.getElem?_eq_getElem hi)
      refine ⟨v, ?_, e2⟩
      rw [List.getElem?_append_left (by rw [List.length_map, r.length]; exact hi), List.getElem?_map, e1]; rfl
    · rw [List.getElem?_append_right (by simpa using hi), List.getElem?_replicate] at e'
      split at e'
      · cases e'; trivial
      · cases e'
  dist := fun i j p xs ys e => by
    have e' : (ds.map Sl.val ++ List.replicate N Sl.un)[i]? = some (.own xs) := e
    by_cases hi : i < ds.length
    · rw [List.getElem?_append_left (by simpa using hi), List.getElem?_map, List.getElem?_eq_getElem hi] at e'
      cases e'
    · rw [List.getElem?_append_right (by simpa using hi), List.getElem?_replicate] at e'
      split at e' <;> cases e'
  box := hb
  box0 := fun p e n => by have := (hb p e).1; rw [show H p = none from n] at this; cases this
/-- THE RULE for a def -/
theorem fn_ok {x qual : Str} {stm : Stmt} {f : Addr} {fd : FuncData} {N ps : List Str} {k : Nat} {body : S → R Out} (F : Fun K x qual stm f fd) (Sc : FnScope N ps (defScope stm))
    (hb : ∀ (X : Cx) (W : WX), X.prog = P → X.w = w → X.K = K → X.mg = mg → X.base = base → X.N = N → X.env.scope = defScope stm → X.calm = true → (∀ x, X.fn x = true) → Room k X.A → X.stack = X.env :: X.outer → X.env.frame = some X.env.locals → X.ex = [] → PassesOwn (model X.prog X.w) X.A X.env X.xe → Takes X W →
      (∃ (cdv : Value) (A : Around) (outer : List Env) (s : Shared) (H : Hp) (E : XK), X = cxOf (L2.CX P w) P w K mg base N qual (defScope stm) f cdv A outer s H E) → DSs X T W (defBody stm) body) :
    FnOk P w K mg base (L2.CX P w) (k + 1) f fd ps (spD K T ps.length (runFn ps.length N.length body)) := by
  refine F.okX Sc (fun vs H Q E h => h.1) (fun cdv A outer s H vs Q E hr h => ?_)
  obtain ⟨hl, B, G, ds, b, sm, hbx, r, ok⟩ := h
  refine ⟨_, hb (cxOf (L2.CX P w) P w K mg base N qual (defScope stm) f cdv A outer s H E) (wOf E) rfl rfl rfl rfl rfl rfl rfl rfl (fun _ => rfl) hr rfl rfl rfl ?_ ?_ ⟨cdv, A, outer, s, H, E, rfl⟩, ?_⟩
  · exact passes_of rfl
  · exact takes_of rfl rfl rfl rfl
  · refine ⟨⟨B, H, G⟩, G, ⟨ds.map Sl.val ++ List.replicate (N.length - ps.length) Sl.un, b⟩, ?_, ?_⟩
    · show Holds K T _ G H (L2.start N vs) _
      unfold L2.start
      rw [hl]
      exact holds_start sm hbx r
    · unfold runFn at ok
      rw [if_pos (r.length.symm.trans hl)] at ok
      have fin : ∀ {G' H' : Hp} {σ' : SV} {st' : S}, Same G G' → Holds K T ⟨B, H, G⟩ G' H' σ' st' → After K T B G H G' H' st'.bx := fun s' h' => ⟨h'.sub0, h'.sub, h'.new, h'.frame, h'.box⟩
      revert ok
      cases body ⟨ds.map Sl.val ++ List.replicate (N.length - ps.length) Sl.un, b⟩ with
      | ok o st' =>
        cases o with
        | nx => exact fun ok G' H' σ' s' h' => ok G' H' .non (fin s' h') .non
        | rt d => exact fun ok G' H' σ' v s' h' r' => ok G' H' v (fin s' h') r'
        | rtF ds2 =>
          intro ok G' H' σ' v s' h' r'
          obtain ⟨p, vs', rfl, hp', gp', z, rs, _⟩ := r'
          exact ok G' H' p vs' (fin s' h') hp' gp' z rs
        | bk => exact fun ok => ok.elim
        | ct => exact fun ok => ok.elim
      | err e st' => exact fun ok G' H' σ' cls d s' h' er => ok G' H' cls d (fin s' h') er
      | stuck => exact fun ok => ok.elim
end
end DL

/-! DLh: reading one's own list; two targets; pop; isinstance of built-in types; texts. -/
namespace DL
open PySem PySem.Spec PyProof.Rows L2
section
variable {K : PySem.W.Frag} {T : Tab} {W : WX} {c : Ctx} {G G' H H' : Hp} {σ σ' : SV} {st : S}
theorem flat_low {v w : V} {d : D} (r : Rep K T c.B G' v d) (h : flatD d = some w) : Rep K T c.B G v d := by
  cases r <;> simp [flatD] at h <;> constructor
/-- what a read of one's own list leaves -/
theorem Holds.lent (h : Holds K T c G H σ st) {p : Addr} {vs : List V} {G' H' : Hp} {σ' : SV} {st' : S} (gp : G p = none) (h' : Holds K T (inner c (upd G p (.lst vs)) H) G' H' σ' st') : Holds K T c G H' σ { st with bx := st'.bx } :=
  h.after (b := st'.bx) ⟨Same.refl _, fun a o e => h'.sub _ _ (h'.sub0 _ _ (same_upd gp _ _ e)), fun a e n => absurd e n, h'.frame, fun p e => ⟨(h'.box p e).1, (h.box p e).2⟩⟩
end
section
variable {X : Cx} {T : Tab} {W : WX}
def dLend (i : Nat) (f : S → R D) : S → R D := fun st => match st.env[i]? with
  | some (.own ds) => match f (st.put i (.val (.ls ds))).hide with
    | .ok d s => if (flatD d).isSome then .ok d { st with bx := s.bx } else .stuck
    | _ => .stuck
  | _ => .stuck
theorem de_lend (i : Nat) {e : Expr} {f : S → R D} (h : DE X T W e f) : DE X T W e (dLend i f) := impE h fun σ H Q ⟨c, G, st, hd, ok⟩ => by
  unfold dLend at ok
  cases q : st.env[i]? with
  | none => rw [q] at ok; exact ok.elim
  | some s =>
    rw [q] at ok
    cases s with
    | un => exact ok.elim
    | val d => exact ok.elim
    | own ds =>
      obtain ⟨p, vs, e1, e2, r, g, h2⟩ := hd.freeze q
      refine ⟨_, _, _, h2.enter, ?_⟩
      dsimp only at ok
      revert ok
      cases f (st.put i (.val (.ls ds))).hide with
      | ok d s =>
        intro ok G' H' v s1 h' r'
        dsimp only at ok
        cases w : flatD d with
        | none => rw [w] at ok; exact ok.elim
        | some u => rw [w] at ok; exact ok _ _ _ (Same.refl _) (hd.lent g h') (flat_low r' w)
      | err _ _ => exact fun ok => ok.elim
      | stuck => exact fun ok => ok.elim
def dLendB (i : Nat) (f : S → R Bool) : S → R Bool := fun st => match st.env[i]? with
  | some (.own ds) => match f (st.put i (.val (.ls ds))).hide with
    | .ok k s => .ok k { st with bx := s.bx }
    | _ => .stuck
  | _ => .stuck
theorem dt_lend (i : Nat) {e : Expr} {f : S → R Bool} (h : DT X T W e f) : DT X T W e (dLendB i f) := impT h fun σ H Q ⟨c, G, st, hd, ok⟩ => by
  unfold dLendB at ok
  cases q : st.env[i]? with
  | none => rw [q] at ok; exact ok.elim
  | some s =>
    rw [q] at ok
    cases s with
    | un => exact ok.elim
    | val d => exact ok.elim
    | own ds =>
      obtain ⟨p, vs, e1, e2, r, g, h2⟩ := hd.freeze q
      refine ⟨_, _, _, h2.enter, ?_⟩
      dsimp only at ok
      revert ok
      cases f (st.put i (.val (.ls ds))).hide with
      | ok d s =>
        intro ok G' H' v s1 h' r'
        cases r'
        exact ok _ _ _ (Same.refl _) (hd.lent g h') rfl
      | err _ _ => exact fun ok => ok.elim
      | stuck => exact fun ok => ok.elim
/-- y.pop(k), y one's own list -/
def dPop (i : Nat) (f : S → R D) : S → R D := fun st => match st.env[i]? with
  | some (.own _) => (f st).bind fun k st => match st.env[i]?, k with
    | some (.own ds), .int k => if 0 ≤ k ∧ k < 9223372036854775808 then match ds[k.toNat]? with
      | some d => .ok d (st.put i (.own (ds.eraseIdx k.toNat)))
      | none => .stuck
      else .stuck
    | _, _ => .stuck
  | _ => .stuck
theorem de_pop {i : Nat} {o e : Expr} {f : S → R D} {apos cpos : Pos} (ho : PE X o (tVar i)) (he : DE X T W e f)
    (hp : PE X (.Call (.Attribute o "pop" apos) [e] [] cpos) (tBM X.K "list" rPopAt (tVar i) (tCons (gD X.K T W (relD X.K T) f) tNil))) : DE X T W (.Call (.Attribute o "pop" apos) [e] [] cpos) (dPop i f) := impE hp fun σ H Q ⟨c, G, st, hd, ok⟩ => by
  unfold dPop at ok
  cases q : st.env[i]? with
  | none => rw [q] at ok; exact ok.elim
  | some s =>
    rw [q] at ok
    cases s with
    | un => exact ok.elim
    | val d => exact ok.elim
    | own ds =>
      obtain ⟨p, vs, e1, e2, g, z, r⟩ := hd.slot i _ q
      refine ⟨.ref p, e1, .inl ⟨rfl, vs, SqL.of e2⟩, ?_⟩
      obtain ⟨c0, G0, st0, hd0, ok0⟩ := step (rel := relD X.K T) hd ok
      refine ⟨c0, G0, st0, hd0, ok0.imp fun x H1 ⟨G1, st1, a, s1, hd1, r1, ok1⟩ => ?_⟩
      cases q1 : st1.env[i]? with
      | none => rw [q1] at ok1; exact ok1.elim
      | some s =>
        rw [q1] at ok1
        cases s with
        | un => exact ok1.elim
        | val d => exact ok1.elim
        | own ds1 =>
          obtain ⟨p2, vs2, f1, f2, g2, z2, r2⟩ := hd1.slot i _ q1
          rw [e1] at f1
          cases f1
          cases r1 with
          | int k =>
            dsimp only at ok1
            by_cases w : 0 ≤ k ∧ k < 9223372036854775808
            · rw [if_pos w] at ok1
              cases y : ds1[k.toNat]? with
              | none => rw [y] at ok1; exact ok1.elim
              | some d =>
                rw [y] at ok1
                obtain ⟨v, y1, y2⟩ := r2.get' y
                have hlt : k.toNat < vs2.length := (List.getElem?_eq_some_iff.mp y1).1
                have hq : seqIndex? k vs2.length = some k.toNat := (ixN_seq (show ixN vs2.length k = some k.toNat by unfold ixN; rw [if_pos w.1, if_pos (by omega)])).1
                exact ⟨p, vs2, k, k.toNat, v, rfl, rfl, f2, by omega, w.2, hq, y1, ok1 _ _ _ (Same.refl _) (hd1.setOwn q1 e1 (r2.eraseIdx _)) y2⟩
            · rw [if_neg w] at ok1; exact ok1.elim
          | _ => exact ok1.elim
/-! ### a, b = x, y: both sides written -/
section
variable {α β : Type}
/-- how a value is put down -/
structure Put (K : PySem.W.Frag) (T : Tab) (α : Type) where
  rel : Rel α V
  sl : α → Sl
  put : ∀ {c : Ctx} {G H : Hp} {σ : SV} {st : S} {v : V} {a : α}, Holds K T c G H σ st → rel c G H σ st v a → ∀ i, Holds K T c G H (σ.set i (some v)) (st.put i (sl a))
def putV (K : PySem.W.Frag) (T : Tab) : Put K T D := ⟨relD K T, .val, fun h r i => h.putVal r i⟩
def putO (K : PySem.W.Frag) (T : Tab) : Put K T (List D) := ⟨relF K T, .own, fun h r i => h.putOwn r i⟩
def dPar (i j : Nat) (sa : α → Sl) (sb : β → Sl) (f : S → R α) (g : S → R β) : S → R Out := fun st => (f st).bind fun a st => (g st).bind fun b st => .ok .nx ((st.put i (sa a)).put j (sb b))
theorem dPar_vv (K : PySem.W.Frag) {i j : Nat} {f g : S → R D} (E : Ends) (σ : SV) (H : Hp) (h : tD K T W (dPar i j .val .val f g) E σ H) : tPar i j (tCons (gD K T W (relD K T) f) (tCons (gD K T W (relD K T) g) tNil)) E σ H := by
  obtain ⟨c, G, st, hd, ok⟩ := h
  obtain ⟨c0, G0, st0, hd0, ok0⟩ := stepS (rel := relD K T) hd ok
  refine ⟨c0, G0, st0, hd0, ok0.imp fun x H1 ⟨G1, st1, a, s1, hd1, r1, ok1⟩ => ?_⟩
  obtain ⟨c2, G2, st2, hd2, ok2⟩ := stepS (rel := relD K T) hd1 ok1
  exact ⟨c2, G2, st2, hd2, ok2.imp fun y H2 ⟨G3, st3, b, s3, hd3, r3, ok3⟩ => ⟨x, y, rfl, ok3 _ _ _ (Same.refl _) ((hd3.putVal (r1.mono s3) i).putVal r3 j)⟩⟩
theorem dPar_vo (K : PySem.W.Frag) {i j : Nat} {f : S → R D} {g : S → R (List D)} (hij : i ≠ j) (E : Ends) (σ : SV) (H : Hp) (h : tD K T W (dPar i j .val .own f g) E σ H) : tPar i j (tCons (gD K T W (relD K T) f) (tCons (gD K T W (relF K T) g) tNil)) E σ H := by
  obtain ⟨c, G, st, hd, ok⟩ := h
  obtain ⟨c0, G0, st0, hd0, ok0⟩ := stepS (rel := relD K T) hd ok
  refine ⟨c0, G0, st0, hd0, ok0.imp fun x H1 ⟨G1, st1, a, s1, hd1, r1, ok1⟩ => ?_⟩
  obtain ⟨c2, G2, st2, hd2, ok2⟩ := stepS (rel := relF K T) hd1 ok1
  refine ⟨c2, G2, st2, hd2, ok2.imp fun y H2 ⟨G3, st3, b, s3, hd3, r3, ok3⟩ => ⟨x, y, rfl, ok3 _ _ _ (Same.refl _) ((hd3.putVal (r1.mono s3) i).putOwn ?_ j)⟩⟩
  obtain ⟨p, vs, ev, hp, g1, z, rs, nd⟩ := r3
  refine ⟨p, vs, ev, hp, g1, z, rs, fun k es e q => ?_⟩
  have e' : (st3.env.set i (.val a))[k]? = some (.own es) := e
  have nk : i ≠ k := fun w => by
    subst w
    by_cases hi : i < st3.env.length
    · rw [List.getElem?_set_self hi] at e'; cases e'
    · rw [List.getElem?_eq_none (by rw [List.length_set]; omega)] at e'; cases e'
  rw [List.getElem?_set_ne nk] at e' q
  exact nd k es e' q
theorem dPar_ov (K : PySem.W.Frag) {i j : Nat} {f : S → R (List D)} {g : S → R D} (hij : i ≠ j) (E : Ends) (σ : SV) (H : Hp) (h : tD K T W (dPar i j .own .val f g) E σ H) : tPar i j (tCons (gD K T W (relF K T) f) (tCons (gD K T W (relD K T) g) tNil)) E σ H := by
  obtain ⟨c, G, st, hd, ok⟩ := h
  obtain ⟨c0, G0, st0, hd0, ok0⟩ := stepS (rel := relF K T) hd ok
  refine ⟨c0, G0, st0, hd0, ok0.imp fun x H1 ⟨G1, st1, a, s1, hd1, r1, ok1⟩ => ?_⟩
  obtain ⟨p, vs, ev, hp, gp, z, rs, nd⟩ := r1
  subst ev
  have hg := hd1.guard hp gp z nd
  have g0 : c.G0 p = none := by
    cases q : c.G0 p with
    | none => rfl
    | some o => have := hd1.sub0 _ _ q; rw [gp] at this; cases this
  have nb : c.B ≠ some p := fun q => hd1.box0 p q z
  refine ⟨c.guard p vs, G1, st1, hg, ?_⟩
  replace ok1 : SOk K T W c G1 ((g st1).bind fun b st => .ok .nx ((st.put i (.own a)).put j (.val b))) E := ok1
  revert ok1
  cases g st1 with
  | stuck => exact fun ok1 => ok1.elim
  | err e s =>
    intro ok1 G' H' cls d s' h' er
    have h2 := (h'.unguard z nb (h'.gfree g0)).1
    exact ok1 G' H' σ cls d s' h2 er
  | ok b st2 =>
    intro ok1 G' H' y s' h' r'
    obtain ⟨h2, hp2, nd2⟩ := h'.unguard z nb (h'.gfree g0)
    have rf : relF K T c G' H' σ st2 (.ref p) a := ⟨p, vs, rfl, hp2, h'.gfree g0, z, rs.mono s', nd2⟩
    exact ⟨.ref p, y, rfl, ok1 G' H' _ s' ((h2.putOwn rf i).putVal r' j)⟩
theorem dPar_oo (K : PySem.W.Frag) {i j : Nat} {f : S → R (List D)} {g : S → R (List D)} (hij : i ≠ j) (E : Ends) (σ : SV) (H : Hp) (h : tD K T W (dPar i j .own .own f g) E σ H) : tPar i j (tCons (gD K T W (relF K T) f) (tCons (gD K T W (relF K T) g) tNil)) E σ H := by
  obtain ⟨c, G, st, hd, ok⟩ := h
  obtain ⟨c0, G0, st0, hd0, ok0⟩ := stepS (rel := relF K T) hd ok
  refine ⟨c0, G0, st0, hd0, ok0.imp fun x H1 ⟨G1, st1, a, s1, hd1, r1, ok1⟩ => ?_⟩
  obtain ⟨p, vs, ev, hp, gp, z, rs, nd⟩ := r1
  subst ev
  have hg := hd1.guard hp gp z nd
  have g0 : c.G0 p = none := by
    cases q : c.G0 p with
    | none => rfl
    | some o => have := hd1.sub0 _ _ q; rw [gp] at this; cases this
  have nb : c.B ≠ some p := fun q => hd1.box0 p q z
  refine ⟨c.guard p vs, G1, st1, hg, ?_⟩
  replace ok1 : SOk K T W c G1 ((g st1).bind fun b st => .ok .nx ((st.put i (.own a)).put j (.own b))) E := ok1
  revert ok1
  cases g st1 with
  | stuck => exact fun ok1 => ok1.elim
  | err e s =>
    intro ok1 G' H' cls d s' h' er
    have h2 := (h'.unguard z nb (h'.gfree g0)).1
    exact ok1 G' H' σ cls d s' h2 er
  | ok b st2 =>
    intro ok1 G' H' y s' h' r'
    obtain ⟨h2, hp2, nd2⟩ := h'.unguard z nb (h'.gfree g0)
    have rf : relF K T c G' H' σ st2 (.ref p) a := ⟨p, vs, rfl, hp2, h'.gfree g0, z, rs.mono s', nd2⟩
    obtain ⟨p2, vs2, ev2, hp3, gp3, z3, rs3, nd3⟩ := r'
    subst ev2
    have ne : p2 ≠ p := fun t => by
      subst t
      have hH : (c.guard p2 vs).H0 p2 = upd c.H0 p2 (.lst vs) p2 := rfl
      rw [hH, upd_same] at z3; cases z3
    have z4 : c.H0 p2 = none := by
      have hH : (c.guard p vs).H0 p2 = upd c.H0 p (.lst vs) p2 := rfl
      rw [hH, upd_ne ne] at z3; exact z3
    refine ⟨.ref p, .ref p2, rfl, ok1 G' H' _ s' ((h2.putOwn rf i).putOwn ⟨p2, vs2, rfl, hp3, gp3, z4, rs3, fun k es e q => ?_⟩ j)⟩
    have e' : (st2.env.set i (.own a))[k]? = some (.own es) := e
    by_cases w : i = k
    · subst w
      by_cases hi : i < σ.length
      · rw [List.getElem?_set_self hi] at q; cases q; exact ne rfl
      · rw [List.getElem?_eq_none (by rw [List.length_set]; omega)] at q; cases q
    · rw [List.getElem?_set_ne w] at e' q
      exact nd3 k es e' q
end
theorem ds_par {i j : Nat} {x y : Str} {a b : Expr} {α β : Type} {sa : α → Sl} {sb : β → Sl} {f : S → R α} {g : S → R β} {ta tb : TE} {px py pt : Pos} {kt k2 pt2} {pos : Pos} (hc : X.calm = true) (hN : X.N.Nodup) (hi : X.N[i]? = some x) (hj : X.N[j]? = some y) (hij : i ≠ j)
    (hx : X.env.scope.names.lookup x = some .local) (hy : X.env.scope.names.lookup y = some .local) (ha : PE X a ta) (hb : PE X b tb)
    (hr : ∀ E σ H, tD X.K T W (dPar i j sa sb f g) E σ H → tPar i j (tCons ta (tCons tb tNil)) E σ H)
    (h1 : starEach [a, b] X.env = (false, eval a X.env) :: starEach [b] X.env) (h2 : starEach [b] X.env = (false, eval b X.env) :: starEach [] X.env)
    (hw : swappedStores [.Tuple [.Name x px, .Name y py] kt pt] (.Tuple [a, b] k2 pt2) X.env = pure (some [x, y]))
    (hs : swapsWithSole [.Tuple [.Name x px, .Name y py] kt pt] (.Tuple [a, b] k2 pt2) pos.line X.env = pure false) :
    DS X T W (.Assign [.Tuple [.Name x px, .Name y py] kt pt] (.Tuple [a, b] k2 pt2) pos) (dPar i j sa sb f g) := impS (ps_par hc hN hi hj hij hx hy (pa_cons ha (pa_cons hb pa_nil h2) h1) hw hs) hr
/-! ### isinstance of built-in types -/
def kindD : D → Option Nat
  | .non => some 0
  | .bl _ => some 1
  | .int _ => some 2
  | .str _ => some 3
  | .ls _ => some 4
  | .tu _ => some 5
  | .box => some 4
  | _ => none
/-- a built-in type by number -/
def tyName : Nat → String
  | 0 => "NoneType"
  | 1 => "bool"
  | 2 => "int"
  | 3 => "str"
  | 4 => "list"
  | _ => "tuple"
def isKind (k t : Nat) : Bool := k == t || (k == 1 && t == 2)
theorem kit_kinds : ∀ k, k < 6 → ∀ t, t < 6 → kitB (tyName k) (tyName t) = some (isKind k t) := by decide +kernel
theorem kindD_lt {d : D} {k : Nat} (h : kindD d = some k) : k < 6 := by
  cases d <;> simp [kindD] at h <;> omega
theorem kindD_ty {K : PySem.W.Frag} {c : Ctx} {G H : Hp} {σ : SV} {st : S} (hd : Holds K T c G H σ st) {v : V} {d : D} {k : Nat} (r : Rep K T c.B G v d) (h : kindD d = some k) : TyX K H v (.type (tyName k)) := by
  cases r with
  | non => cases h; exact .base .non
  | bl b => cases h; exact .base (.bl b)
  | int i => cases h; exact .base (.int i)
  | str x => cases h; exact .base (.str x)
  | ls e _ => cases h; exact .base (.lst (hd.sub _ _ e))
  | tu e _ =>
    cases h
    rcases e with (e | ⟨o, e⟩) | ⟨o, its, n, e1, e2, _⟩
    · exact .base (.tup (hd.sub _ _ e))
    · exact .fTuple (hd.sub _ _ e)
    · exact .kTuple e1 e2
  | box e => cases h; exact .base (.lst (hd.box _ e).1)
  | ro _ => cases h
  | ob _ _ _ => cases h
  | er0 _ _ => cases h
  | er1 _ _ _ _ => cases h
def hIsi (t : Nat) (d : D) (st : S) : R D := match kindD d with
  | some k => .ok (.bl (isKind k t)) st
  | none => .stuck
def dIsi (t : Nat) (f : S → R D) : S → R D := fun st => (f st).bind fun d st => hIsi t d st
theorem boot_isi : bootBuiltins "isinstance" = some (.builtin "isinstance") := by decide +kernel
theorem de_isi {t : Nat} {e : Expr} {f : S → R D} {x : Str} {p p2 pos : Pos} (ht : t < 6) (hg : Gl X "isinstance") (hm : X.mg "isinstance" = none) (he : DE X T W e f) (hc : PE X (.Name x p2) (tC (.ty (tyName t))))
    (h1 : starEach [e, .Name x p2] X.env = (false, eval e X.env) :: starEach [.Name x p2] X.env := by rfl) (h2 : starEach [.Name x p2] X.env = (false, eval (.Name x p2) X.env) :: starEach [] X.env := by rfl) (hpl : (backTo pos (starEach [.Name x p2] X.env)).any (·.1) = false := by rfl) :
    DE X T W (.Call (.Name "isinstance" p) [e, .Name x p2] [] pos) (dIsi t f) := impE (pe_callB call_isi hg hm boot_isi (pa_cons he (pa_cons hc pa_nil h2) h1) (hpl := hpl) (he := h1)) fun σ H Q ⟨c, G, st, hd, ok⟩ => by
  obtain ⟨c0, G0, st0, hd0, ok0⟩ := step (rel := relD X.K T) hd ok
  refine ⟨c0, G0, st0, hd0, ok0.imp fun v H1 ⟨G1, st1, a, s1, hd1, r1, ok1⟩ => ?_⟩
  unfold hIsi at ok1
  cases q : kindD a with
  | none => rw [q] at ok1; exact ok1.elim
  | some k =>
    rw [q] at ok1
    exact ⟨v, _, _, _, isKind k t, rfl, .ty _, kindD_ty hd1 r1 q, kit_ty (kit_kinds k (kindD_lt q) t ht), ok1 _ _ _ (Same.refl _) hd1 (.bl _)⟩
def hIsi2 (t u : Nat) (d : D) (st : S) : R D := match kindD d with
  | some k => .ok (.bl (isKind k t || isKind k u)) st
  | none => .stuck
def dIsi2 (t u : Nat) (f : S → R D) : S → R D := fun st => (f st).bind fun d st => hIsi2 t u d st
theorem kit_any2 {K : PySem.W.Frag} {k t u : Nat} (hk : k < 6) (ht : t < 6) (hu : u < 6) : PySem.W.kitAny K (.type (tyName k)) [.type (tyName t), .type (tyName u)] = some (isKind k t || isKind k u) := by
  have e1 : PySem.W.kitOne K (.type (tyName k)) (.type (tyName t)) = some (isKind k t) := kit_ty (kit_kinds k hk t ht)
  have e2 : PySem.W.kitOne K (.type (tyName k)) (.type (tyName u)) = some (isKind k u) := kit_ty (kit_kinds k hk u hu)
  refine kitAny_cons e1 (fun h => ?_) fun h => by rw [h]; rfl
  rw [h, Bool.false_or]
  exact kitAny_cons e2 (fun h2 => by rw [h2]; exact kitAny_nil) fun h2 => h2
theorem de_isi2 {t u : Nat} {e : Expr} {f : S → R D} {x y : Str} {p p2 p3 p4 pos : Pos} {kk} (ht : t < 6) (hu : u < 6) (hg : Gl X "isinstance") (hm : X.mg "isinstance" = none) (he : DE X T W e f) (hc : PE X (.Name x p2) (tC (.ty (tyName t)))) (hc2 : PE X (.Name y p3) (tC (.ty (tyName u))))
    (h1 : starEach [e, .Tuple [.Name x p2, .Name y p3] kk p4] X.env = (false, eval e X.env) :: starEach [.Tuple [.Name x p2, .Name y p3] kk p4] X.env := by rfl) (h2 : starEach [.Tuple [.Name x p2, .Name y p3] kk p4] X.env = (false, eval (.Tuple [.Name x p2, .Name y p3] kk p4) X.env) :: starEach [] X.env := by rfl)
    (h3 : starEach [.Name x p2, .Name y p3] X.env = (false, eval (.Name x p2) X.env) :: starEach [.Name y p3] X.env := by rfl) (h4 : starEach [.Name y p3] X.env = (false, eval (.Name y p3) X.env) :: starEach [] X.env := by rfl) (hpl : (backTo pos (starEach [.Tuple [.Name x p2, .Name y p3] kk p4] X.env)).any (·.1) = false := by rfl) :
    DE X T W (.Call (.Name "isinstance" p) [e, .Tuple [.Name x p2, .Name y p3] kk p4] [] pos) (dIsi2 t u f) := impE (pe_callB call_isiT hg hm boot_isi (pa_cons he (pa_cons (pe_tup (pa_cons hc (pa_cons hc2 pa_nil h4) h3)) pa_nil h2) h1) (hpl := hpl) (he := h1)) fun σ H Q ⟨c, G, st, hd, ok⟩ => by
  obtain ⟨c0, G0, st0, hd0, ok0⟩ := step (rel := relD X.K T) hd ok
  refine ⟨c0, G0, st0, hd0, ok0.imp fun v H1 ⟨G1, st1, a, s1, hd1, r1, ok1⟩ => ?_⟩
  unfold hIsi2 at ok1
  cases q : kindD a with
  | none => rw [q] at ok1; exact ok1.elim
  | some k =>
    rw [q] at ok1
    refine ⟨by show 2 ≤ sizeLine; decide, fun l hl => ?_⟩
    have hl2 := hd1.lay (.tup [.ty (tyName t), .ty (tyName u)]) hl
    exact ⟨v, l, _, _, _, _, rfl, upd_same, .cons (.ty _) (.cons (.ty _) .nil), kindD_ty hl2 (r1.mono (same_upd (hd1.gnone hl))) q, kit_any2 (kindD_lt q) ht hu, ok1 _ _ _ (same_upd (hd1.gnone hl)) hl2 (.bl _)⟩
end
end DL

/-! DLi: short words for a text's defs. -/
namespace DL
open PySem PySem.Spec PyProof.Rows L2
section
variable {X : Cx} {T : Tab} {W : WX}
/-- xs or ys, both new -/
def dOrF (f g : S → R (List D)) : S → R (List D) := fun st => (f st).bind fun ds st => if ds.isEmpty = true then g st else .ok ds st
theorem df_one {op : BoolOp} {a : Expr} {f : S → R (List D)} {pos : Pos} (ha : DF X T W a f) : DF X T W (.BoolOp op [a] pos) f := pe_one ha
theorem df_or {a b : Expr} {rest : List Expr} {f g : S → R (List D)} {pos : Pos} (ha : DF X T W a f) (hb : DF X T W (.BoolOp .Or (b :: rest) pos) g) : DF X T W (.BoolOp .Or (a :: b :: rest) pos) (dOrF f g) := by
  refine impE (pe_orT ha hb) fun σ H Q ⟨c, G, st, hd, ok⟩ => ?_
  obtain ⟨c0, G0, st0, hd0, ok0⟩ := step (rel := relF X.K T) hd ok
  refine ⟨c0, G0, st0, hd0, ok0.imp fun x H1 ⟨G1, st1, ds, s1, hd1, r1, ok1⟩ => ?_⟩
  obtain ⟨p, vs, rfl, hp, gp, z, rs, nd⟩ := r1
  refine ⟨!vs.isEmpty, .inl ⟨vs, SqL.of hp, rfl⟩, ?_⟩
  rw [rs.isEmpty]
  cases e : ds.isEmpty with
  | true =>
    rw [e, if_pos rfl] at ok1
    show if (!true) = true then _ else _
    rw [if_neg (by decide)]
    exact ⟨_, G1, st1, hd1, ok1⟩
  | false =>
    rw [e, if_neg (by decide)] at ok1
    show if (!false) = true then _ else _
    rw [if_pos (by decide)]
    exact ok1 _ _ _ (Same.refl _) hd1 ⟨p, vs, rfl, hp, gp, z, rs, nd⟩
abbrev hEnumA := hEnum
theorem di_enum {e : Expr} {fa : S → R (List D)} {p pos tpos : Pos} {elts : List Expr} {kk : Nat} (hg : Gl X "enumerate") (hm : X.mg "enumerate" = none) (ha : DA X T W [e] fa) (hs : starEach [e] X.env = [(false, eval e X.env)] := by rfl) :
    DI X T W (.Tuple elts kk tpos) (.Call (.Name "enumerate" p) [e] [] pos) (dCBF hEnumA fa) := di_enumL hg hm ha hs
end
/-- the built-in names that the text leaves as they are -/
structure Bi (mg : Str → Option Value) : Prop where
  len : mg "len" = none
  int : mg "int" = none
  abs : mg "abs" = none
  list : mg "list" = none
  tuple : mg "tuple" = none
  range : mg "range" = none
  zip : mg "zip" = none
  enumerate : mg "enumerate" = none
  isinstance : mg "isinstance" = none
  str : mg "str" = none
  bool : mg "bool" = none
  all : mg "all" = none
  any : mg "any" = none
  sum : mg "sum" = none
  min : mg "min" = none
  max : mg "max" = none
  sorted : mg "sorted" = none
  reversed : mg "reversed" = none
  ValueError : mg "ValueError" = none
  LookupError : mg "LookupError" = none
  set : mg "set" = none
section
variable {P : Program} {w : World} {K : PySem.W.Frag} {mg : Str → Option Value} {base : Heap} {T : Tab}
/-- a def that stands under its name, by its promise -/
structure DefAt (P : Program) (w : World) (K : PySem.W.Frag) (mg : Str → Option Value) (base : Heap) (T : Tab) (x : Str) (ps : List Str) (n k : Nat) (F : Fn) : Prop where
  ex : ∃ (f : Addr) (fd : FuncData), FnOk P w K mg base (L2.CX P w) k f fd ps (spD K T n F) ∧ mg x = some (.ref f) ∧ PySem.W.keepIn K (.ref f) = true ∧ Binds K fd ps []
theorem DefAt.of {x : Str} {ps : List Str} {n k : Nat} {F : Fn} {f : Addr} {fd : FuncData} (h : FnOk P w K mg base (L2.CX P w) k f fd ps (spD K T n F)) (hm : mg x = some (.ref f)) (kp : PySem.W.keepIn K (.ref f) = true) (b : Binds K fd ps []) : DefAt P w K mg base T x ps n k F := ⟨f, fd, h, hm, kp, b⟩
theorem fn_never {k n : Nat} {f : Addr} {fd : FuncData} {ps : List Str} (hn : n = ps.length) : FnOk P w K mg base (L2.CX P w) k f fd ps (spD K T n fun _ _ => .stuck) :=
  ⟨fun vs H Q E h => h.1.trans hn, fun A outer s H args us vs Q E hr he hb hv hs => by obtain ⟨_, _, _, _, _, _, _, _, z⟩ := hs; exact z.elim⟩
theorem fn_okj {x qual : Str} {stm : Stmt} {f : Addr} {fd : FuncData} {N ps : List Str} {k : Nat} {body : S → R Out} (F : Fun K x qual stm f fd) (Sc : FnScope N ps (defScope stm))
    (hb : ∀ (cdv : Value) (A : Around) (outer : List Env) (s : Shared) (H : Hp) (E : XK) (W : WX), Room k (A.deeper (envOfC qual (defScope stm) s.heap.objs.size f cdv)) →
      PassesOwn (model P w) (cxOf (L2.CX P w) P w K mg base N qual (defScope stm) f cdv A outer s H E).A (cxOf (L2.CX P w) P w K mg base N qual (defScope stm) f cdv A outer s H E).env (cxOf (L2.CX P w) P w K mg base N qual (defScope stm) f cdv A outer s H E).xe →
      Takes (cxOf (L2.CX P w) P w K mg base N qual (defScope stm) f cdv A outer s H E) W → DSs (cxOf (L2.CX P w) P w K mg base N qual (defScope stm) f cdv A outer s H E) T W (defBody stm) body) :
    FnOk P w K mg base (L2.CX P w) (k + 1) f fd ps (spD K T ps.length (runFn ps.length N.length body)) :=
  fn_ok F Sc fun X W _ _ _ _ _ _ _ _ _ hr _ _ _ hp tk ⟨cdv, A, outer, s, H, E, e⟩ => by subst e; exact hb cdv A outer s H E W hr hp tk
end
section
variable {X : Cx} {T : Tab} {W : WX}
theorem de_callD {k n j : Nat} {F : Fn} {ps : List Str} {x : Str} {p pos : Pos} {e : Expr} {es : List Expr} {fa : S → R (List D)}
    (h : DefAt X.prog X.w X.K X.mg X.base T x ps n k F) (hr : Room j X.A) (hj : k ≤ j) (tk : Takes X W) (ha : DA X T W (e :: es) fa) (hg : Gl X x := by rfl) (hdb : (x == ("__debug__" : Str)) = false := by decide) (he : starEach (e :: es) X.env = (false, eval e X.env) :: starEach es X.env := by rfl) (hpl : (backTo pos (starEach es X.env)).any (·.1) = false := by rfl) :
    DE X T W (.Call (.Name x p) (e :: es) [] pos) (dCall n F [] fa) := by
  obtain ⟨f, fd, ok, hm, hk, hb⟩ := h.ex
  exact de_call ok (hr.mono hj) hg hm hk hb .nil (fun _ _ => .nil) tk ha hdb he hpl
theorem de_callD0 {k n j : Nat} {F : Fn} {ps : List Str} {x : Str} {p pos : Pos}
    (h : DefAt X.prog X.w X.K X.mg X.base T x ps n k F) (hr : Room j X.A) (hj : k ≤ j) (tk : Takes X W) (hg : Gl X x := by rfl) (hdb : (x == ("__debug__" : Str)) = false := by decide) :
    DE X T W (.Call (.Name x p) [] [] pos) (dCall n F [] dNil) := by
  obtain ⟨f, fd, ok, hm, hk, hb⟩ := h.ex
  exact de_call0 ok (hr.mono hj) hg hm hk hb .nil (fun _ _ => .nil) tk hdb

/-- f(g(..)), g's new list the box of f -/
def dCallBox (n : Nat) (F : Fn) (m : Nat) (Gf : Fn) (fa : S → R (List D)) : S → R D := fun st => (fa st).bind fun ds st => if ds.length = m ∧ n = 1 then match Gf ds st.bx with
  | .okF [.int a, .int b, .int c] b' => match F [.box] (a, b, c) with
    | .ok (.bl k) _ => .ok (.bl k) { st with bx := b' }
    | _ => .stuck
  | _ => .stuck
  else .stuck
theorem de_callBox {k k2 n m j : Nat} {F Gf : Fn} {ps ps2 : List Str} {x y : Str} {p p2 pos pos2 : Pos} {e : Expr} {es : List Expr} {fa : S → R (List D)}
    (h : DefAt X.prog X.w X.K X.mg X.base T x ps n k F) (h2 : DefAt X.prog X.w X.K X.mg X.base T y ps2 m k2 Gf) (hr : Room j X.A) (hj : k ≤ j) (hj2 : k2 ≤ j) (tk : Takes X W) (ha : DA X T W (e :: es) fa) (hg : Gl X x := by rfl) (hg2 : Gl X y := by rfl) (hdb : (x == ("__debug__" : Str)) = false := by decide) (hdb2 : (y == ("__debug__" : Str)) = false := by decide)
    (he : starEach (e :: es) X.env = (false, eval e X.env) :: starEach es X.env := by rfl) (hpl : (backTo pos2 (starEach es X.env)).any (·.1) = false := by rfl)
    (he2 : starEach [.Call (.Name y p2) (e :: es) [] pos2] X.env = (false, eval (.Call (.Name y p2) (e :: es) [] pos2) X.env) :: starEach [] X.env := by rfl) (hpl2 : (backTo pos (starEach [] X.env)).any (·.1) = false := by rfl) :
    DE X T W (.Call (.Name x p) [.Call (.Name y p2) (e :: es) [] pos2] [] pos) (dCallBox n F m Gf fa) := by
  obtain ⟨f, fd, ok, hm, hk, hb⟩ := h.ex
  obtain ⟨f2, fd2, ok2, hm2, hk2, hb2⟩ := h2.ex
  refine impE (pe_callSD (E := WE W) ok (hr.mono hj) hg hm hk hb .nil (passAt tk) (pa_cons (pe_callSD (E := WE W) ok2 (hr.mono hj2) hg2 hm2 hk2 hb2 .nil (passAt tk) ha hdb2 he hpl) pa_nil he2) hdb (by rfl) hpl2) fun σ H Q ⟨c, G, st, hd, okQ⟩ => ?_
  obtain ⟨c0, G0, st0, hd0, ok0⟩ := step (rel := relA X.K T) hd okQ
  refine ⟨c0, G0, st0, hd0, ok0.imp fun vs H1 ⟨G1, st1, as, s1, hd1, r1, ok1⟩ => ?_⟩
  show spD X.K T m Gf (vs ++ []) H1 _ _
  rw [List.append_nil]
  by_cases q : as.length = m ∧ n = 1
  · rw [if_pos q] at ok1
    refine ⟨r1.length.trans q.1, c.B, G1, as, st1.bx, hd1.sub, hd1.box, r1, ?_⟩
    revert ok1
    cases Gf as st1.bx with
    | stuck => exact fun ok1 => ok1.elim
    | err _ _ => exact fun ok1 => ok1.elim
    | ok _ _ => exact fun ok1 => ok1.elim
    | okF l b' =>
      intro ok1 G' H' pb vsb a hp g nn r
      match l, r, ok1 with
      | [.int i1, .int i2, .int i3], .cons (.int _) (.cons (.int _) (.cons (.int _) .nil)), ok1 =>
        show spD X.K T n F [.ref pb] H' _ _
        refine ⟨q.2.symm, some pb, fun _ => none, [.box], (i1, i2, i3), (fun a o z => nomatch z), (fun p e => by cases e; exact ⟨hp, rfl⟩), .cons (.box rfl) .nil, ?_⟩
        replace ok1 : GOk X.K T W (relD X.K T) c G1 σ (match F [.box] (i1, i2, i3) with | .ok (.bl k) _ => .ok (.bl k) { st1 with bx := b' } | _ => .stuck) Q := ok1
        revert ok1
        cases F [.box] (i1, i2, i3) with
        | stuck => exact fun ok1 => ok1.elim
        | err _ _ => exact fun ok1 => ok1.elim
        | okF _ _ => exact fun ok1 => ok1.elim
        | ok d bb =>
          cases d with
          | bl k =>
            intro ok1 G2 H2 v a2 r2
            cases r2
            refine ok1 G1 H2 (.bl k) (Same.refl _) (hd1.after (b := b') ⟨Same.refl _, fun x o z => ?_, fun x z w => absurd z w, fun x o z w => ?_, fun x z => ?_⟩) (.bl k)
            · have z1 := hd1.sub _ _ z
              have nx : some pb ≠ some x := fun y => by cases y; rw [nn] at z1; cases z1
              refine a2.frame x o ?_ nx
              exact a.sub _ _ (a.sG _ _ z)
            · have nx : some pb ≠ some x := fun y => by cases y; rw [nn] at z; cases z
              exact a2.frame x o (a.frame x o z w) nx
            · obtain ⟨z1, z2⟩ := a.box x z
              have nx : some pb ≠ some x := fun y => by
                cases y
                have := (hd1.box _ z).1
                rw [nn] at this; cases this
              exact ⟨a2.frame x _ z1 nx, (hd1.box x z).2⟩
          | _ => exact fun ok1 => ok1.elim
  · rw [if_neg q] at ok1; exact ok1.elim
end
end DL

/-! DLj: errors of own classes: made, raised, caught, read, asked for their class. -/
namespace DL
open PySem PySem.Spec PyProof.Rows L2
section
variable {X : Cx} {pins : List (Addr × Obj)} {σ : SV} {H : Hp} {s : Shared} {a : Addr} {o : HO}
theorem trk_ne {b : Addr} {u : HO} (hx : H a = none ∨ ∃ φ, H a = some (.ext φ)) (e : H b = some u) (d : ∀ φ, u ≠ .ext φ) : b ≠ a := fun z => by
  subst z
  rcases hx with q | ⟨φ, q⟩
  · rw [e] at q; cases q
  · rw [e] at q; exact d φ (Option.some.inj q)
/-- an object that stands is known from now on (anew) -/
theorem inv_track (I : Inv X pins σ H s) (h0 : H a = none → X.s_0.heap.get? a = none) (hx : H a = none ∨ ∃ φ, H a = some (.ext φ)) (nL : a ≠ X.env.locals) (nC : ∀ x c, X.env.cells.lookup x = some c → c ≠ a) (nP : ∀ p ∈ X.pn ++ pins, p.1 ≠ a)
    (new : ObjOk X.prog X.w (upd H a o) s.heap a o) : Inv X pins σ (upd H a o) s where
  ok := I.ok
  os := I.os
  bare := I.bare
  base := {
    keep := I.base.keep
    slot := I.base.slot
    free := fun b u e n hb => by
      have q := I.base.free b u e n hb
      rw [upd_ne (show b ≠ a from fun z => by subst z; rw [h0 q] at e; cases e)]
      exact q
    there := I.base.there
    tups := fun b xs e => by
      have q := I.base.tups b xs e
      rw [upd_ne (trk_ne hx q fun φ z => nomatch z)]; exact q
    frzs := fun b u v e => by
      have q := I.base.frzs b u v e
      rw [upd_ne (trk_ne hx q fun φ z => nomatch z)]; exact q
    tbls := fun b ps e => by
      obtain ⟨m, q⟩ := I.base.tbls b ps e
      exact ⟨m, by rw [upd_ne (trk_ne hx q fun φ z => nomatch z)]; exact q⟩ }
  loc := I.loc
  cell := I.cell
  free := by rw [upd_ne (Ne.symm nL)]; exact I.free
  freeC := fun x c e => by rw [upd_ne (nC x c e)]; exact I.freeC x c e
  pin := fun p hp => by
    obtain ⟨e, n, r⟩ := I.pin p hp
    exact ⟨e, by rw [upd_ne (nP p hp)]; exact n, r⟩
  hok := fun b u q => by
    by_cases hb : b = a
    · subst hb; rw [upd_same] at q; cases q; exact new
    · rw [upd_ne hb] at q
      refine (I.hok b u q).stay (fun c v _ z => z) (fun c z => ?_) fun c xs z => ?_
      · rw [upd_ne (trk_ne hx z fun φ y => nomatch y)]; exact z
      · rw [upd_ne (trk_ne hx z fun φ y => nomatch y)]; exact z
  len := I.len
theorem exV_ok {P : Program} {w : World} {h : Heap} {C : Addr} {d : Option Addr} {oe : Obj} {vs : Array Value} (e : h.get? a = some oe) (c : oe.cls = .ref C) (dd : oe.dict = d) (f : oe.data = .fields vs) : ObjOk P w H h a (exV a C d) :=
  ⟨⟨oe, vs, e, c, dd, f⟩, ⟨oe, e⟩, fun _ _ ⟨o, v, q, r⟩ k => ⟨o, v, k o q, r⟩⟩
theorem exV_at {P : Program} {w : World} {h : Heap} {C : Addr} {d : Option Addr} (hok : HOk P w H h) (e : H a = some (exV a C d)) : ∃ (oe : Obj) (vs : Array Value), h.get? a = some oe ∧ oe.cls = .ref C ∧ oe.dict = d ∧ oe.data = .fields vs := (hok a _ e).1
end
/-- what the written part says of an own error class -/
structure ErC (K : PySem.W.Frag) (C : Addr) : Prop where
  x : ExcC K C
  tyC : PySem.W.typeIn K (.ref C) = some (.type "type")
  kC : PySem.W.keepIn K (.ref C) = true
/-- .. of one without an __init__, by its name -/
structure Er0At (K : PySem.W.Frag) (mg : Str → Option Value) (T : Tab) (x : Str) (c : Nat) : Prop where
  e : ErC K (T.C c)
  g : mg x = some (.ref (T.C c))
  n : T.fld c = []
  q : PySem.W.excIn K (T.C c) [.type "ValueError", .type "Exception", .type "BaseException", .type "object"] "ValueError.__new__" = true
/-- .. of one with the one field nm -/
structure Er1At (P : Program) (w : World) (K : PySem.W.Frag) (mg : Str → Option Value) (base : Heap) (T : Tab) (x nm : Str) (c : Nat) : Prop where
  e : ErC K (T.C c)
  g : mg x = some (.ref (T.C c))
  n : T.fld c = [nm]
  o : OexC K (T.C c)
  no : PySem.W.findIn K (.ref (T.C c)) nm = some none
  init : ∃ (fI : Addr) (fd : FuncData), PySem.W.findIn K (.ref (T.C c)) "__init__" = some (some (.ref fI)) ∧ PySem.W.typeIn K (.ref fI) = some (.type "function") ∧
    FnOk P w K mg base CX0 1 fI fd ["self", nm] (fun vs H Q _ => ∃ (a : Addr) (y : V), vs = [.ref a, y] ∧ H a = some (exo a (T.C c) none) ∧ ∀ dx, H dx = none → dx ≠ a → Q .non (upd (upd H dx (exd dx [(nm, y)])) a (exo a (T.C c) (some dx)))) ∧ Binds K fd ["self", nm] [] ∧ ∀ (s : Shared) (u v : Value), BindsTo s fd ⟨[u], [(nm, v)]⟩ [("self", u), (nm, v)]
/-- the promise of such an __init__ -/
abbrev spEr (C : Addr) (nm : Str) : Sp := fun vs H Q _ => ∃ (a : Addr) (y : V), vs = [.ref a, y] ∧ H a = some (exo a C none) ∧ ∀ dx, H dx = none → dx ≠ a → Q .non (upd (upd H dx (exd dx [(nm, y)])) a (exo a C (some dx)))
theorem er_read {K : PySem.W.Frag} {C : Addr} {nm : Str} (o : OexC K C) (no : PySem.W.findIn K (.ref C) nm = some none) {vs : List V} {H : Hp} {Q : VK} {E : XK} (h : spEr C nm vs H Q E) :
    tOst K nm (tVar 0) (tVar 1) { nx := fun _ H' => Q .non H', rt := Q } (L2.start ["self", nm] vs) H := by
  obtain ⟨a, y, rfl, ea, q⟩ := h
  exact ⟨y, rfl, .ref a, rfl, a, C, rfl, o, no, .inl ⟨ea, fun dx n ne => q dx n ne⟩⟩
theorem er_len {C : Addr} {nm : Str} : ∀ vs H Q E, spEr C nm vs H Q E → vs.length = (["self", nm] : List Str).length := fun vs H Q E ⟨a, y, e, _⟩ => by rw [e]; rfl
section
variable {X : Cx} {T : Tab} {W : WX}
/-! ### an error as a value -/
def dMk (c : Nat) (f : S → R D) : S → R D := fun st => (f st).bind fun d st => .ok (.er c [d]) st
theorem de_mk1 {x nm : Str} {c j : Nat} {p pos : Pos} {e : Expr} {f : S → R D} (h : Er1At X.prog X.w X.K X.mg X.base T x nm c) (hr : Room (j + 2) X.A) (he : DE X T W e f) (hg : Gl X x := by rfl) (hdb : (x == ("__debug__" : Str)) = false := by decide)
    (hs : starEach [e] X.env = (false, eval e X.env) :: starEach [] X.env := by rfl) (hpl : (backTo pos (starEach [] X.env)).any (·.1) = false := by rfl) : DE X T W (.Call (.Name x p) [e] [] pos) (dMk c f) := by
  refine ⟨fun pins s σ H Q I ⟨c0, G, st, hd, ok⟩ => ?_⟩
  obtain ⟨fI, fd, iC, tI, F1, hb, hkb⟩ := h.init
  obtain ⟨nm', q, N, bs, bm, sn, sub, ab, col, dd, k0, k1, k2, k3, k5, hC, hbm⟩ := h.o.cls
  have ha : PA X [e] (tCons (gD X.K T W (relD X.K T) f) tNil) := pa_cons he pa_nil hs
  refine wpAny_Call_Name_kw (ld_glob I hg h.g ?_ hdb)
  obtain ⟨c1, G1, st1, hd1, ok1⟩ := step (rel := relD X.K T) hd ok
  refine PySem.W.callWith_K (h₀ := X.base) I.ok.mod.kin h.e.kC (thn (ha.run pos pins s σ H (fun vs H1 => ∃ v, vs = [v] ∧ ∃ G1 st1 a, Same G G1 ∧ Holds X.K T c0 G1 H1 σ st1 ∧ relD X.K T c0 G1 H1 σ st1 v a ∧ GOk X.K T W (relD X.K T) c0 G1 σ (.ok (.er c [a]) st1) Q) I ⟨c1, G1, st1, hd1, ok1.imp fun v H1 z => ⟨v, rfl, z⟩⟩) fun us s1 ⟨vs, H1, I1, r1, v, ev, G2, st2, d, s2, hd2, r2, ok2⟩ => ⟨I1.kIn, ?_⟩) hs hpl
  subst ev
  show wpAny _ _ (call (.ref (T.C c)) us) _ _ _
  obtain ⟨hp, g, dr, tk, os⟩ := s1
  have hsz : hp.objs.size ≤ hp.objs.size + 1 := Nat.le_succ _
  have hn : H1 (hp.objs.size + 1) = none := I1.hok.fresh hsz
  have kk : ∀ b o, hp.get? b = some o → ((hp.push (PySem.W.kdv_tup us)).push (PySem.HandSPX.excO (T.C c) hp.objs.size)).get? b = some o := fun b o e => Heap.get?_push_of_some _ (Heap.get?_push_of_some _ e)
  have hget : ((hp.push (PySem.W.kdv_tup us)).push (PySem.HandSPX.excO (T.C c) hp.objs.size)).get? (hp.objs.size + 1) = some (PySem.HandSPX.excO (T.C c) hp.objs.size) := by heap_get
  have I2 : Inv X pins σ (upd H1 (hp.objs.size + 1) (exo (hp.objs.size + 1) (T.C c) none)) ⟨(hp.push (PySem.W.kdv_tup us)).push (PySem.HandSPX.excO (T.C c) hp.objs.size), g, dr, tk, os⟩ :=
    I1.laid (t' := tk) (a := hp.objs.size + 1) (o := exo (hp.objs.size + 1) (T.C c) none) (h' := (hp.push (PySem.W.kdv_tup us)).push (PySem.HandSPX.excO (T.C c) hp.objs.size)) kk hsz (exo_ok hget)
  have rr : Vals [V.ref (hp.objs.size + 1), v] (Value.ref (hp.objs.size + 1) :: us) := .cons rfl r1
  have hus : us.length ≤ sizeLine := by
    rw [← Paired.length r1, sizeLine_eq]
    exact (by decide : 1 ≤ 16777216)
  have hul : (Value.ref (hp.objs.size + 1) :: us).length = 2 := by rw [← rr.length]; rfl
  have nL : hp.objs.size + 1 ≠ X.env.locals := fun z => by
    have := I1.lt
    rw [← z] at this
    exact absurd (Nat.lt_of_lt_of_le this hsz) (Nat.lt_irrefl _)
  refine wpAny_call (PySem.HandSPX.call_own F.excBase_ValueError (fun Y => PySem.HandSPX.refsVE_contains Y bm hbm) (I1.kIn _ _ hC) (PySem.W.looks_findIn I1.kIn iC) (fun self => PySem.W.bind_fn I1.kIn self tI) hus
    (codeAny_mono (F1.run _ X.stack _ _ ⟨Value.ref (hp.objs.size + 1) :: us, []⟩ (Value.ref (hp.objs.size + 1) :: us) _ (fun u H2 => u = .non ∧ ∃ dx, H1 dx = none ∧ dx ≠ hp.objs.size + 1 ∧ H2 = upd (upd (upd H1 (hp.objs.size + 1) (exo (hp.objs.size + 1) (T.C c) none)) dx (exd dx [(nm, v)])) (hp.objs.size + 1) (exo (hp.objs.size + 1) (T.C c) (some dx))) (fun _ _ _ => False) ((hr.mono (by omega)).make (T.C c) us []) (I2.env0.make (T.C c) us [])
      (by simpa using hb _ (Value.ref (hp.objs.size + 1) :: us) I2.kIn (by simpa using hul)) rr ⟨_, v, rfl, upd_same, fun dx n ne => ⟨rfl, dx, by rw [upd_ne ne] at n; exact n, ne, rfl⟩⟩) fun r s' hq' => ?_))
  cases r with
  | error er => exact hq'.elim
  | ok fl =>
    cases fl with
    | ret u =>
      obtain ⟨u2, H2, os2, bare2, un2, hok2, rv, eu, dx, n1, ne, eH⟩ := hq'
      subst eu
      refine ⟨rv, ?_⟩
      obtain ⟨h2, g2, d2, t2, os'⟩ := s'
      have I3 : Inv X pins σ H2 ⟨h2, g2, d2, t2, os'⟩ := I2.call' (ch := []) os2 un2 hok2 bare2 (fun b z => absurd z (by simp))
      have ea : H2 (hp.objs.size + 1) = some (exo (hp.objs.size + 1) (T.C c) (some dx)) := by rw [eH, upd_same]
      have ed : H2 dx = some (exd dx [(nm, v)]) := by rw [eH, upd_ne ne, upd_same]
      obtain ⟨t0, hoe⟩ := exo_at hok2 ea
      obtain ⟨mA, hns, rel⟩ := exd_at hok2 ed
      have free : ∀ {b : Addr} {φ : Heap → Prop}, H2 b = some (.ext φ) → (∀ x c', X.env.cells.lookup x = some c' → c' ≠ b) ∧ (∀ p ∈ X.pn ++ pins, p.1 ≠ b) ∧ b ≠ X.env.locals := fun {b φ} eb => by
        refine ⟨fun x c' z y => ?_, fun p hp' y => ?_, fun y => ?_⟩
        · have := I3.freeC x c' z
          rw [y, eb] at this; cases this
        · have := (I3.pin p hp').2.1
          rw [y, eb] at this; cases this
        · have := I3.free
          rw [← y, eb] at this; cases this
      obtain ⟨nC, nP, nL2⟩ := free ea
      have I4 := inv_track (o := exV (hp.objs.size + 1) (T.C c) (some dx)) I3 (fun z => by rw [ea] at z; cases z) (.inr ⟨_, ea⟩) nL2 nC nP (exV_ok hoe rfl rfl rfl)
      have ed4 : (upd H2 (hp.objs.size + 1) (exV (hp.objs.size + 1) (T.C c) (some dx))) dx = some (exd dx [(nm, v)]) := by rw [upd_ne ne]; exact ed
      obtain ⟨nC', nP', nL'⟩ := free ed
      have I5 := inv_track (o := .xd [(nm, v)]) I4 (fun z => by rw [ed4] at z; cases z) (.inr ⟨_, ed4⟩) nL' nC' nP' ⟨mA, hns, rel⟩
      -- what is known now
      have eH5 : upd (upd H2 (hp.objs.size + 1) (exV (hp.objs.size + 1) (T.C c) (some dx))) dx (.xd [(nm, v)]) = upd (upd H1 dx (.xd [(nm, v)])) (hp.objs.size + 1) (exV (hp.objs.size + 1) (T.C c) (some dx)) := by
        rw [eH]
        funext b
        by_cases b1 : b = dx
        · subst b1; rw [upd_same, upd_ne ne, upd_same]
        · by_cases b2 : b = hp.objs.size + 1
          · subst b2; rw [upd_ne b1, upd_same, upd_same]
          · rw [upd_ne b1, upd_ne b2, upd_ne b2, upd_ne b1, upd_ne b2, upd_ne b2, upd_ne b1]
      rw [eH5] at I5
      have hd5 := hd2.lay (.xd [(nm, v)]) n1
      have n2 : (upd H1 dx (.xd [(nm, v)])) (hp.objs.size + 1) = none := by rw [upd_ne (Ne.symm ne)]; exact hn
      have hd6 := hd5.lay (exV (hp.objs.size + 1) (T.C c) (some dx)) n2
      have sA := same_upd (o := .xd [(nm, v)]) (hd2.gnone n1)
      have sB := same_upd (o := exV (hp.objs.size + 1) (T.C c) (some dx)) (hd5.gnone n2)
      exact ⟨.ref (hp.objs.size + 1), _, I5, rfl, ok2 _ _ _ (sA.trans sB) hd6 (.er1 upd_same h.n (by rw [upd_ne ne, upd_same]) ((r2.mono sA).mono sB))⟩
    | next => exact False.elim hq'
    | brk => exact False.elim hq'
    | cont => exact False.elim hq'

/-! ### raised -/
def dRaise (c : Nat) (f : S → R D) : S → R Out := fun st => (f st).bind fun d st => .err ⟨c, [d]⟩ st
theorem ds_raise1 {x nm : Str} {c j : Nat} {p pos pos2 : Pos} {e : Expr} {f : S → R D} (h : Er1At X.prog X.w X.K X.mg X.base T x nm c) (hc : X.calm = true) (hr : Room (j + 2) X.A) (tk : Takes X W) (he : DE X T W e f) (hg : Gl X x := by rfl) (hdb : (x == ("__debug__" : Str)) = false := by decide)
    (hs : starEach [e] X.env = (false, eval e X.env) :: starEach [] X.env := by rfl) (hpl : (backTo pos (starEach [] X.env)).any (·.1) = false := by rfl) : DS X T W (.Raise (some (.Call (.Name x p) [e] [] pos)) none pos2) (dRaise c f) := by
  obtain ⟨fI, fd, iC, tI, F1, hb, hkb⟩ := h.init
  refine impS (ps_raise hc tk (pmk_oex h.o iC tI F1 (hr.mono (by omega)) hb .nil pass0 hg h.g (pa_cons he pa_nil hs) hdb hs hpl)) fun E σ H ⟨c0, G, st, hd, ok⟩ => ?_
  obtain ⟨c1, G1, st1, hd1, ok1⟩ := stepS (rel := relD X.K T) hd ok
  refine ⟨c1, G1, st1, hd1, ok1.imp fun v H1 ⟨G2, st2, d, s2, hd2, r2, ok2⟩ => ⟨by show 1 ≤ 1000; decide, fun a hn => ⟨a, v, rfl, upd_same, fun dx n ne => ?_⟩⟩⟩
  have n1 : H1 dx = none := by rw [upd_ne ne] at n; exact n
  refine ⟨rfl, dx, [(nm, v)], upd_same, by rw [upd_ne ne, upd_same], n1, ?_⟩
  have eH : upd (del (upd (upd (upd H1 a (exo a (T.C c) none)) dx (exd dx [(nm, v)])) a (exo a (T.C c) (some dx))) a) dx (.xd [(nm, v)]) = upd H1 dx (.xd [(nm, v)]) := by
    funext b
    by_cases b1 : b = dx
    · subst b1; rw [upd_same, upd_same]
    · by_cases b2 : b = a
      · subst b2; rw [upd_ne b1, upd_ne b1, del_same, hn]
      · rw [upd_ne b1, upd_ne b1, del_ne b2, upd_ne b2, upd_ne b1, upd_ne b2]
  rw [eH]
  have sA := same_upd (o := .xd [(nm, v)]) (hd2.gnone n1)
  exact ok2 _ _ _ _ _ sA (hd2.lay (.xd [(nm, v)]) n1) ⟨rfl, rfl, dx, nm, v, rfl, h.n, upd_same, r2.mono sA⟩
/-- a class without an __init__, called without arguments -/
theorem own0_run {x : Str} {c : Nat} {p pos : Pos} {pins : List (Addr × Obj)} {s : Shared} {σ : SV} {H : Hp} {Q : Value → Shared → Prop} (h : Er0At X.K X.mg T x c) (I : Inv X pins σ H s) (hg : Gl X x) (hdb : (x == ("__debug__" : Str)) = false)
    (q : ∀ h' e, Heap.MadeExcOf s.heap h' e (.ref (T.C c)) [] → Q (.ref e) { s with heap := h' }) : wpAny (model X.prog X.w) X.A (eval (.Call (.Name x p) [] [] pos) X.env) Q X.xe s := by
  refine wpAny_Call_Name_kw (ld_glob I hg h.g ?_ hdb)
  refine PySem.W.callWith_K0 I.kIn h.e.kC ?_
  show wpAny _ _ (call (.ref (T.C c)) []) _ _ _
  obtain ⟨bm, N, nm, qn, bs, hdct, sn, sub, ab, col, dd, k0, k1, k2, k3, k5, mN, hC, hN, hni, tl⟩ := exc_obj I.kIn h.q
  obtain ⟨hp, g, dr, tk, os⟩ := s
  exact wpAny_call_exc_subT PySem.F.excBase_ValueError tl hC hN hni (fun h' e hm => q h' e hm) (by show 0 ≤ sizeLine; exact Nat.zero_le _)
def dMk0 (c : Nat) : S → R D := fun st => .ok (.er c []) st
theorem de_mk0 {x : Str} {c : Nat} {p pos : Pos} (h : Er0At X.K X.mg T x c) (hg : Gl X x := by rfl) (hdb : (x == ("__debug__" : Str)) = false := by decide) : DE X T W (.Call (.Name x p) [] [] pos) (dMk0 c) := by
  refine ⟨fun pins s σ H Q I ⟨c0, G, st, hd, ok⟩ => own0_run h I hg hdb fun h' e hm => ?_⟩
  obtain ⟨t, he, _, _⟩ := hm.there
  have hn : H e = none := I.hok.gone hm.new
  have I1 := I.laidN (t' := s.toks) (o := exV e (T.C c) none) hm.keeps hm.new hn (exV_ok he rfl rfl rfl)
  have sA := same_upd (o := exV e (T.C c) none) (hd.gnone hn)
  exact ⟨.ref e, _, I1, rfl, ok _ _ _ sA (hd.lay _ hn) (.er0 upd_same h.n)⟩
def dRaise0 (c : Nat) : S → R Out := fun st => .err ⟨c, []⟩ st
theorem ds_raise0 {x : Str} {c : Nat} {p pos pos2 : Pos} (h : Er0At X.K X.mg T x c) (hc : X.calm = true) (tk : Takes X W) (hg : Gl X x := by rfl) (hdb : (x == ("__debug__" : Str)) = false := by decide) : DS X T W (.Raise (some (.Call (.Name x p) [] [] pos)) none pos2) (dRaise0 c) := by
  have hm : PMk X (.Call (.Name x p) [] [] pos) (fun _ H Q => Q (.ref (T.C c)) none H) := fun pins s σ H Q I q => own0_run h I hg hdb fun h' e hm => mk_of I hm (raises_own h.e.x.hs h.e.tyC) q (I.hok.gone hm.new)
  exact impS (ps_raise hc tk hm) fun E σ H ⟨c0, G, st, hd, ok⟩ => ok _ _ _ _ _ (Same.refl _) hd ⟨rfl, rfl, h.n⟩
/-! ### a field read -/
def dAttrE (c : Nat) (f : S → R D) : S → R D := fun st => (f st).bind fun d st => match d with
  | .er c' [v] => if c' = c then .ok v st else .stuck
  | _ => .stuck
theorem de_attrE {x nm : Str} {c : Nat} {e : Expr} {pos : Pos} {f : S → R D} (h : Er1At X.prog X.w X.K X.mg X.base T x nm c) (he : DE X T W e f) (hb : attributeBase e nm X.env (eval e X.env) = eval e X.env := by rfl) : DE X T W (.Attribute e nm pos) (dAttrE c f) := by
  refine ⟨fun pins s σ H Q I ⟨c0, G, st, hd, ok⟩ => attr_of hb ?_⟩
  obtain ⟨c1, G1, st1, hd1, ok1⟩ := step (rel := relD X.K T) hd ok
  refine thn (he.run pins s σ H _ I ⟨c1, G1, st1, hd1, ok1⟩) fun u s1 ⟨v, H1, I1, rv, G2, st2, d, s2, hd2, r2, ok2⟩ => ?_
  cases r2 with
  | @er1 a dd c' nm' v2 f2 h1 hn hdd r =>
    replace ok2 : GOk X.K T W (relD X.K T) c0 G2 σ (if c' = c then .ok f2 st2 else .stuck) Q := ok2
    by_cases ec : c' = c
    · rw [if_pos ec] at ok2
      subst ec
      rw [h.n] at hn
      cases hn
      obtain rfl : u = Value.ref a := rv
      obtain ⟨oe, vs, g1, g2, g3, g4⟩ := exV_at I1.hok (hd2.sub _ _ h1)
      obtain ⟨mA, hns, hr⟩ := (show ObjOk X.prog X.w H1 s1.heap dd (.xd [(nm, v2)]) from I1.hok dd _ (hd2.sub _ _ hdd))
      obtain ⟨od, ho, hl⟩ := lookIn_ns hns
      have l : List.lookup nm [(nm, v2)] = some v2 := by simp [List.lookup]
      obtain ⟨u2, hu, ru⟩ := RelO.some_of (v := v2) (o := mA nm) (by rw [← l]; exact hr nm)
      have J : PySem.W.InstAt s1.heap a oe (T.C c') (some od) := ⟨g1, g2, by unfold PySem.W.notCls; rw [g4] <;> rfl, by rw [g3]; exact ho⟩
      exact HandSPX.exc_get I1.kIn J h.e.x.hg h.e.x.hk h.e.x.hs (PySem.W.findObj_own h.e.x.hd h.no rfl (by rw [hl, hu])) (handed_of ru) ⟨v2, H1, I1.tok _, ru, ok2 _ _ _ (Same.refl _) hd2 r⟩
    · rw [if_neg ec] at ok2; exact ok2.elim
  | _ => exact ok2.elim
/-! ### isinstance of an error -/
/-- what isinstance tells of the error classes, asked for u -/
structure IsTab (K : PySem.W.Frag) (T : Tab) (n : Nat) (u : Value) (tbl : Nat → Bool) : Prop where
  t : ∀ c, c < n → PySem.W.kitOne K (.ref (T.C c)) u = some (tbl c)
  e : ∀ c, c < n → ErC K (T.C c)
def dIsE (n : Nat) (tbl : Nat → Bool) (f : S → R D) : S → R D := fun st => (f st).bind fun d st => match d with
  | .er c _ => if c < n then .ok (.bl (tbl c)) st else .stuck
  | _ => .stuck
theorem kit_exc {K : PySem.W.Frag} {C a : Addr} (E : ExcC K C) {ox : Obj} {od : Option Obj} : PySem.W.KitX K (.ref a) (.ref C) (fun h => PySem.W.InstAt h a ox C od) where
  ty := fun _ _ _ I => I.type
  it := fun _ _ X _ => by
    obtain ⟨cdD, hcD, _⟩ := PySem.W.any_some E.hd
    unfold PySem.W.clsIn at hcD
    split at hcD
    · rename_i c' d' cd' sl' ho
      intro A' Q' E' s' k q
      unfold isType loadHead
      exact wpAny_bind (wpAny_loadPart (k _ _ (X _ _ ho)) (wpAny_pure q))
    · cases hcD
  ne := fun h tp dd its n sl X htp => by
    obtain ⟨cdD, hcD, _⟩ := PySem.W.any_some E.hd
    refine Bool.eq_false_iff.mpr fun q => ?_
    have e : C = tp := Value.ref.inj (beq_iff_eq.mp q)
    subst e
    unfold PySem.W.clsIn at hcD
    split at hcD
    · rename_i c' d' cd' sl' ho
      have z := (X _ _ ho).symm.trans htp
      cases z
    · cases hcD
  ca := fun X I k => PySem.W.kx_classE X I E.hg E.hk E.hs (PySem.W.findObj_dataE (by obtain ⟨cd, hc, _⟩ := PySem.W.any_some E.hd; rw [hc]; rfl) E.ha E.hn E.ht) E.hm k
theorem call_isV {cv : Value} {c : V} (hcv : ∀ u, RelV c u → u = cv) : CallR X (.builtin "isinstance") (fun xs H Q => ∃ (a C : Addr) (d : Option Addr) (b : Bool), xs = [.ref a, c] ∧ H a = some (exV a C d) ∧ (∀ dd, d = some dd → ∃ fs, H dd = some (.xd fs)) ∧ ExcC X.K C ∧ PySem.W.kitOne X.K (.ref C) cv = some b ∧ Q (.bl b) H) := by
  intro pins s σ H xs us Q I r h
  obtain ⟨a, C, d, b, rfl, ha, hdd, E, k, q⟩ := h
  cases r with
  | cons rx rr =>
    cases rr with
    | cons rt rr =>
      cases rr
      cases rx
      have ec := hcv _ rt
      subst ec
      obtain ⟨oe, vs, g1, g2, g3, g4⟩ := exV_at I.hok ha
      have J : ∃ od, PySem.W.InstAt s.heap a oe C od := by
        cases d with
        | none => exact ⟨none, g1, g2, by unfold PySem.W.notCls; rw [g4] <;> rfl, by rw [g3]; trivial⟩
        | some dd =>
          obtain ⟨fs, hf⟩ := hdd dd rfl
          obtain ⟨mA, hns, _⟩ := (show ObjOk X.prog X.w H s.heap dd (.xd fs) from I.hok dd _ hf)
          obtain ⟨od, ho, _⟩ := lookIn_ns hns
          exact ⟨some od, g1, g2, by unfold PySem.W.notCls; rw [g4] <;> rfl, by rw [g3]; exact ho⟩
      obtain ⟨od, J⟩ := J
      exact PySem.W.kia_one (kit_exc E) I.kIn J k (fun z => nomatch z) fun tk => ⟨.bl b, H, I.kept (t' := tk) fun _ _ z => z, rfl, q⟩
theorem de_isE {n : Nat} {u : Value} {cv : V} {tbl : Nat → Bool} {e e2 : Expr} {f : S → R D} {p pos : Pos} (h : IsTab X.K T n u tbl) (hu : ∀ v, RelV cv v → v = u) (hg : Gl X "isinstance") (hm : X.mg "isinstance" = none) (he : DE X T W e f) (hc : PE X e2 (tC cv))
    (h1 : starEach [e, e2] X.env = (false, eval e X.env) :: starEach [e2] X.env := by rfl) (h2 : starEach [e2] X.env = (false, eval e2 X.env) :: starEach [] X.env := by rfl) (hpl : (backTo pos (starEach [e2] X.env)).any (·.1) = false := by rfl) :
    DE X T W (.Call (.Name "isinstance" p) [e, e2] [] pos) (dIsE n tbl f) := impE (pe_callB (call_isV hu) hg hm boot_isi (pa_cons he (pa_cons hc pa_nil h2) h1) (hpl := hpl) (he := h1)) fun σ H Q ⟨c, G, st, hd, ok⟩ => by
  obtain ⟨c0, G0, st0, hd0, ok0⟩ := step (rel := relD X.K T) hd ok
  refine ⟨c0, G0, st0, hd0, ok0.imp fun v H1 ⟨G1, st1, a, s1, hd1, r1, ok1⟩ => ?_⟩
  cases r1 with
  | @er0 ad cc h0 hn =>
    replace ok1 : GOk X.K T W (relD X.K T) c G1 σ (if cc < n then .ok (.bl (tbl cc)) st1 else .stuck) Q := ok1
    by_cases q : cc < n
    · rw [if_pos q] at ok1
      exact ⟨ad, _, none, tbl cc, rfl, hd1.sub _ _ h0, (fun dd z => nomatch z), (h.e cc q).x, h.t cc q, ok1 _ _ _ (Same.refl _) hd1 (.bl _)⟩
    · rw [if_neg q] at ok1; exact ok1.elim
  | @er1 ad dd cc nm v2 f2 h0 hn hdd r =>
    replace ok1 : GOk X.K T W (relD X.K T) c G1 σ (if cc < n then .ok (.bl (tbl cc)) st1 else .stuck) Q := ok1
    by_cases q : cc < n
    · rw [if_pos q] at ok1
      exact ⟨ad, _, some dd, tbl cc, rfl, hd1.sub _ _ h0, (fun dd' z => by cases z; exact ⟨_, hd1.sub _ _ hdd⟩), (h.e cc q).x, h.t cc q, ok1 _ _ _ (Same.refl _) hd1 (.bl _)⟩
    · rw [if_neg q] at ok1; exact ok1.elim
  | _ => exact ok1.elim
end
end DL

/-! DLk: own errors made with their field by name. -/
namespace PySem
namespace DLX
open HandSPX
open Builtin Builtin.ObjectAttr
section
variable {M : Model} {A : Around} {E : Value → Shared → Prop} {h : Heap} {g : Array GenState} {d : Drawn} {t : Nat} {os : OsState}
variable {nm q : Str} {C N : Addr} {bs bm bmB : List Value} {hdct : Bool} {sn : List Str} {sub : List Value} {ab : Bool} {col : Option Bool} {dd : Option Addr} {k0 k1 k2 k3 k5 : Option Value} {B newId initId : String}
theorem check_new_kw (F : ExcBaseFacts B newId initId bmB) (hT : ∀ X : String, bm.contains (.type X) = bmB.contains (.type X)) {kw : List (Str × Value)} {Q : Unit → Shared → Prop}
    (hC : h.get? C = some (excClassObj nm q C N bs bm hdct sn sub ab col dd k0 k1 k2 k3 k5 newId)) (hq : Q () ⟨h, g, d, t, os⟩) : wpAny M A (checkBuiltinCall newId ⟨[.ref C], kw⟩) Q E ⟨h, g, d, t, os⟩ := by
  have hcont : (Value.ref C :: bm).contains (.type B) = true := by rw [List.contains_cons, hT, F.hasB, Bool.or_true]
  have hstar := F.noStar
  simp only [checkBuiltinCall, F.newKind, F.newSplit, F.newRow]
  repeat (first | refine wpAny_loadPart_at hC ?_ | (refine wpAny_isSubtype_exc hC ?_; rw [hcont]) | refine wpAny_staticBase_exc hC ?_ | refine wpAny_madeBy_exc hC ?_ | simp only [bne_self_eq_false, Bool.false_eq_true, if_false] | wp_step)
  exact hq
end
section
variable {prog : Program} {w : World} {A : Around} {E : Value → Shared → Prop} {R : Result → Shared → Prop} {h : Heap} {g : Array GenState} {d : Drawn} {t : Nat} {os : OsState}
variable {nm q : Str} {C N : Addr} {bs bm bmB : List Value} {hdct : Bool} {sn : List Str} {sub : List Value} {ab : Bool} {col : Option Bool} {dd : Option Addr} {k0 k1 k2 k3 k5 : Option Value} {B newId initId : String}
theorem new_kw (F : ExcBaseFacts B newId initId bmB) (hT : ∀ X : String, bm.contains (.type X) = bmB.contains (.type X)) {kw : List (Str × Value)}
    (hC : h.get? C = some (excClassObj nm q C N bs bm hdct sn sub ab col dd k0 k1 k2 k3 k5 newId))
    (hq : R (.ok (.ret (.ref (h.objs.size + 1)))) ⟨(h.push { cls := .type "tuple", data := .seq ([] : List Value).toArray }).push
      { cls := .ref C, data := .fields #[.ref h.objs.size, .none, .none, .none, .bool false, .none] }, g, d, t, os⟩) :
    codeAny (model prog w) A (.builtin newId ⟨[.ref C], kw⟩) R ⟨h, g, d, t, os⟩ := by
  have hends := F.ends
  have hcB : (Value.ref C :: bm).contains (.type B) = true := by rw [List.contains_cons, hT, F.hasB, Bool.or_true]
  have hcA : (Value.ref C :: bm).contains (.type "AttributeError") = false := by rw [List.contains_cons, hT, F.noAttr]; rfl
  have hcN : (Value.ref C :: bm).contains (.type "NameError") = false := by rw [List.contains_cons, hT, F.noName]; rfl
  refine codeAny_builtinAt F.entry ?_
  unfold Builtin.«BaseException.__new__»
  refine wpAt_bind ?_
  show wpAt _ _ _ (stack >>= _) _ _ _
  refine wpAt_bind (wpAt_stack fun p below => wpAt_of_wpAny ?_)
  wp_walk
  refine wpAt_of_wpAny ?_
  rw [F.owner]
  repeat (first | with_reducible refine wpAny_madeHere_exc F.canon hC ?_ | with_reducible refine wpAny_loadPart_at hC ?_ | (with_reducible refine wpAny_isSubtype_exc hC ?_; first | rw [hcB] | rw [hcA] | rw [hcN]) | wp_step)
  show R _ _
  rw [Heap.size_push]
  exact hq
theorem type_call_kw (F : ExcBaseFacts B newId initId bmB) (hT : ∀ X : String, bm.contains (.type X) = bmB.contains (.type X)) {kw : List (Str × Value)} {fI : Addr} {Q : Fin → Shared → Prop}
    (hC : h.get? C = some (excClassObj nm q C N bs bm hdct sn sub ab col dd k0 k1 k2 k3 k5 newId))
    (hi : W.Looks (model prog w) h (typeLookup (.ref C) "__init__") (some (.ref fI))) (hb : ∀ self, W.Looks (model prog w) h (bindSpecial (.ref fI) self) (.ref fI, [self])) (hk : kw ≠ [])
    (hq : codeAny (model prog w) A (.call (.ref fI) ⟨[.ref (h.objs.size + 1)], kw⟩)
      (fun r s' => match r with | .ok (.ret v) => v = .none ∧ Q (.done (.ret (.ref (h.objs.size + 1)))) s' | .ok _ => False | .error e => E e s')
      ⟨(h.push (W.kdv_tup [])).push (excO C h.objs.size), g, d, t, os⟩) :
    wpAny (model prog w) A (Builtin.«type.__call__» ⟨[.ref C], kw⟩) Q E ⟨h, g, d, t, os⟩ := by
  repeat (first | with_reducible refine wpAny_loadPart_at hC ?_ | with_reducible refine wpAny_madeBy_exc hC ?_ | wp_step)
  refine codeAny_call_builtin_code (Code.quiet_builtin _ F.quiet) (check_new_kw F hT hC ?_)
  refine new_kw F hT hC ?_
  show wpAny _ _ _ _ _ _
  have k : ∀ b o, h.get? b = some o → ((h.push (W.kdv_tup [])).push (excO C h.objs.size)).get? b = some o := fun b o e => Heap.get?_push_of_some _ (Heap.get?_push_of_some _ e)
  have hC₁ := k _ _ hC
  have hget : ((h.push (W.kdv_tup [])).push (excO C h.objs.size)).get? (h.objs.size + 1) = some (excO C h.objs.size) := by heap_get
  have hcC : (Value.ref C :: bm).contains (.ref C) = true := by simp
  have i1 := hi.keeps k
  have b1 := (hb (.ref (h.objs.size + 1))).keeps k
  unfold isInstance
  repeat (first | with_reducible refine wpAny_loadPart_at hget ?_ | (with_reducible refine wpAny_isSubtype_exc hC₁ ?_; rw [hcC]) | wp_step)
  show wpAny _ _ (typeLookup (.ref C) _) _ _ _
  refine i1.at ?_
  refine wpAny_holding (wpAny_bind (b1.at ?_))
  refine wpAny_bind (wpAny_call (codeAny_mono hq fun r s' z => ?_))
  rcases r with e | (v | _ | _ | _) <;> first | exact z | exact z.elim | skip
  obtain ⟨rfl, z⟩ := z
  first
    | exact wpAny_pure (wpAny_pure z)
    | (wp_walk; exact z)
theorem check_type_call_kw {kw : List (Str × Value)} {Q : Unit → Shared → Prop} (hC : h.get? C = some (excClassObj nm q C N bs bm hdct sn sub ab col dd k0 k1 k2 k3 k5 newId))
    (hq : Q () ⟨h, g, d, t, os⟩) : wpAny (model prog w) A (checkBuiltinCall "type.__call__" ⟨[.ref C], kw⟩) Q E ⟨h, g, d, t, os⟩ := by
  have f3 := tc_sub
  have hT : (⟨h, g, d, t, os⟩ : Shared).TypeIs (.ref C) "type" := ⟨_, hC, rfl⟩
  simp only [checkBuiltinCall, tc_kind, tc_split]
  repeat (any_goals (first | assumption | with_reducible refine wpAny_loadPart_at hC ?_ | with_reducible refine wpAny_onRaise ?_ | with_reducible refine wpAny_map ?_ | wp_step))
theorem call_kw (F : ExcBaseFacts B newId initId bmB) (hT : ∀ X : String, bm.contains (.type X) = bmB.contains (.type X)) {kw : List (Str × Value)} {fI : Addr}
    (hC : h.get? C = some (excClassObj nm q C N bs bm hdct sn sub ab col dd k0 k1 k2 k3 k5 newId))
    (hi : W.Looks (model prog w) h (typeLookup (.ref C) "__init__") (some (.ref fI))) (hb : ∀ self, W.Looks (model prog w) h (bindSpecial (.ref fI) self) (.ref fI, [self])) (hk : kw ≠ [])
    (hq : codeAny (model prog w) (A.under (.builtin "type.__call__" ⟨[.ref C], kw⟩)) (.call (.ref fI) ⟨[.ref (h.objs.size + 1)], kw⟩) (W.InitBack (h.objs.size + 1) R)
      ⟨(h.push (W.kdv_tup [])).push (excO C h.objs.size), g, d, t, os⟩) :
    codeAny (model prog w) A (.call (.ref C) ⟨[], kw⟩) R ⟨h, g, d, t, os⟩ := by
  have f1 := tc_lookup
  have f2 := tc_bind (.ref C)
  have hTy : (⟨h, g, d, t, os⟩ : Shared).TypeIs (.ref C) "type" := ⟨_, hC, rfl⟩
  refine codeAny_of_tree ?_
  show wpAny _ _ (callAny (.ref C) _) _ _ _
  repeat (any_goals (first | assumption | with_reducible refine wpAny_loadPart_at hC ?_ | wp_step))
  refine ⟨rfl, ?_⟩
  refine codeAny_call_builtin_at (Code.quiet_builtin _ (by decide +kernel)) entry_typeCall (check_type_call_kw hC (type_call_kw F hT hC hi hb hk ?_))
  refine codeAny_mono hq fun r s' z => ?_
  rcases r with e | (v | _ | _ | _) <;> exact z
end
end DLX
end PySem

namespace DL
open PySem PySem.Spec PyProof.Rows L2
section
variable {X : Cx} {T : Tab} {W : WX}
theorem de_mk1k {x nm : Str} {c j : Nat} {p pos : Pos} {e : Expr} {kp : Pos} {f : S → R D} (h : Er1At X.prog X.w X.K X.mg X.base T x nm c) (hr : Room (j + 2) X.A) (he : DE X T W e f) (hg : Gl X x := by rfl) (hdb : (x == ("__debug__" : Str)) = false := by decide)
    (hall : (backToKw pos (keywordEach [⟨some nm, e, kp⟩] X.env)).all (·.1.isSome) = true := by rfl) (hks : (backToKw pos (keywordEach [⟨some nm, e, kp⟩] X.env)).filterMap (·.1) = [nm] := by rfl)
    (hpl : ((backTo pos (starEach [] X.env)).any (·.1) || (backToKw pos (keywordEach [⟨some nm, e, kp⟩] X.env)).any (·.1.isNone)) = false := by rfl) : DE X T W (.Call (.Name x p) [] [⟨some nm, e, kp⟩] pos) (dMk c f) := by
  refine ⟨fun pins s σ H Q I ⟨c0, G, st, hd, ok⟩ => ?_⟩
  obtain ⟨fI, fd, iC, tI, F1, hb, hkb⟩ := h.init
  obtain ⟨nm', q, N, bs, bm, sn, sub, ab, col, dd, k0, k1, k2, k3, k5, hC, hbm⟩ := h.o.cls
  have ha : PK X [⟨some nm, e, kp⟩] (tCons (gD X.K T W (relD X.K T) f) tNil) := pk_cons he pk_nil
  refine wpAny_Call_Name_kw (ld_glob I hg h.g ?_ hdb)
  obtain ⟨c1, G1, st1, hd1, ok1⟩ := step (rel := relD X.K T) hd ok
  refine PySem.W.callWith_KW0 (h₀ := X.base) I.ok.mod.kin h.e.kC hall (thn (ha.run pos pins s σ H (fun vs H1 => ∃ v, vs = [v] ∧ ∃ G1 st1 a, Same G G1 ∧ Holds X.K T c0 G1 H1 σ st1 ∧ relD X.K T c0 G1 H1 σ st1 v a ∧ GOk X.K T W (relD X.K T) c0 G1 σ (.ok (.er c [a]) st1) Q) I ⟨c1, G1, st1, hd1, ok1.imp fun v H1 z => ⟨v, rfl, z⟩⟩) fun us s1 ⟨vs, H1, I1, r1, v, ev, G2, st2, d, s2, hd2, r2, ok2⟩ => ⟨I1.kIn, ?_⟩) hpl
  subst ev
  rw [hks]
  obtain ⟨u1, rfl⟩ : ∃ u1, us = [u1] := by
    cases r1 with
    | cons _ rn => cases rn; exact ⟨_, rfl⟩
  show wpAny _ _ (call (.ref (T.C c)) [] [(nm, u1)]) _ _ _
  obtain ⟨hp, g, dr, tk, os⟩ := s1
  have hsz : hp.objs.size ≤ hp.objs.size + 1 := Nat.le_succ _
  have hn : H1 (hp.objs.size + 1) = none := I1.hok.fresh hsz
  have kk : ∀ b o, hp.get? b = some o → ((hp.push (PySem.W.kdv_tup [])).push (PySem.HandSPX.excO (T.C c) hp.objs.size)).get? b = some o := fun b o e => Heap.get?_push_of_some _ (Heap.get?_push_of_some _ e)
  have hget : ((hp.push (PySem.W.kdv_tup [])).push (PySem.HandSPX.excO (T.C c) hp.objs.size)).get? (hp.objs.size + 1) = some (PySem.HandSPX.excO (T.C c) hp.objs.size) := by heap_get
  have I2 : Inv X pins σ (upd H1 (hp.objs.size + 1) (exo (hp.objs.size + 1) (T.C c) none)) ⟨(hp.push (PySem.W.kdv_tup [])).push (PySem.HandSPX.excO (T.C c) hp.objs.size), g, dr, tk, os⟩ :=
    I1.laid (t' := tk) (a := hp.objs.size + 1) (o := exo (hp.objs.size + 1) (T.C c) none) (h' := (hp.push (PySem.W.kdv_tup [])).push (PySem.HandSPX.excO (T.C c) hp.objs.size)) kk hsz (exo_ok hget)
  have rr : Vals [V.ref (hp.objs.size + 1), v] [Value.ref (hp.objs.size + 1), u1] := .cons rfl r1
  have nL : hp.objs.size + 1 ≠ X.env.locals := fun z => by
    have := I1.lt
    rw [← z] at this
    exact absurd (Nat.lt_of_lt_of_le this hsz) (Nat.lt_irrefl _)
  refine wpAny_call (PySem.DLX.call_kw F.excBase_ValueError (fun Y => PySem.HandSPX.refsVE_contains Y bm hbm) (I1.kIn _ _ hC) (PySem.W.looks_findIn I1.kIn iC) (fun self => PySem.W.bind_fn I1.kIn self tI) (by simp)
    (codeAny_mono (F1.run _ X.stack _ _ ⟨[Value.ref (hp.objs.size + 1)], [(nm, u1)]⟩ [Value.ref (hp.objs.size + 1), u1] _ (fun u H2 => u = .non ∧ ∃ dx, H1 dx = none ∧ dx ≠ hp.objs.size + 1 ∧ H2 = upd (upd (upd H1 (hp.objs.size + 1) (exo (hp.objs.size + 1) (T.C c) none)) dx (exd dx [(nm, v)])) (hp.objs.size + 1) (exo (hp.objs.size + 1) (T.C c) (some dx))) (fun _ _ _ => False) ((hr.mono (by omega)).make (T.C c) [] [(nm, u1)]) (I2.env0.make (T.C c) [] [(nm, u1)])
      (hkb _ _ _) rr ⟨_, v, rfl, upd_same, fun dx n ne => ⟨rfl, dx, by rw [upd_ne ne] at n; exact n, ne, rfl⟩⟩) fun r s' hq' => ?_))
  cases r with
  | error er => exact hq'.elim
  | ok fl =>
    cases fl with
    | ret u =>
      obtain ⟨u2, H2, os2, bare2, un2, hok2, rv, eu, dx, n1, ne, eH⟩ := hq'
      subst eu
      refine ⟨rv, ?_⟩
      obtain ⟨h2, g2, d2, t2, os'⟩ := s'
      have I3 : Inv X pins σ H2 ⟨h2, g2, d2, t2, os'⟩ := I2.call' (ch := []) os2 un2 hok2 bare2 (fun b z => absurd z (by simp))
      have ea : H2 (hp.objs.size + 1) = some (exo (hp.objs.size + 1) (T.C c) (some dx)) := by rw [eH, upd_same]
      have ed : H2 dx = some (exd dx [(nm, v)]) := by rw [eH, upd_ne ne, upd_same]
      obtain ⟨t0, hoe⟩ := exo_at hok2 ea
      obtain ⟨mA, hns, rel⟩ := exd_at hok2 ed
      have free : ∀ {b : Addr} {φ : Heap → Prop}, H2 b = some (.ext φ) → (∀ x c', X.env.cells.lookup x = some c' → c' ≠ b) ∧ (∀ p ∈ X.pn ++ pins, p.1 ≠ b) ∧ b ≠ X.env.locals := fun {b φ} eb => by
        refine ⟨fun x c' z y => ?_, fun p hp' y => ?_, fun y => ?_⟩
        · have := I3.freeC x c' z
          rw [y, eb] at this; cases this
        · have := (I3.pin p hp').2.1
          rw [y, eb] at this; cases this
        · have := I3.free
          rw [← y, eb] at this; cases this
      obtain ⟨nC, nP, nL2⟩ := free ea
      have I4 := inv_track (o := exV (hp.objs.size + 1) (T.C c) (some dx)) I3 (fun z => by rw [ea] at z; cases z) (.inr ⟨_, ea⟩) nL2 nC nP (exV_ok hoe rfl rfl rfl)
      have ed4 : (upd H2 (hp.objs.size + 1) (exV (hp.objs.size + 1) (T.C c) (some dx))) dx = some (exd dx [(nm, v)]) := by rw [upd_ne ne]; exact ed
      obtain ⟨nC', nP', nL'⟩ := free ed
      have I5 := inv_track (o := .xd [(nm, v)]) I4 (fun z => by rw [ed4] at z; cases z) (.inr ⟨_, ed4⟩) nL' nC' nP' ⟨mA, hns, rel⟩
      -- what is known now
      have eH5 : upd (upd H2 (hp.objs.size + 1) (exV (hp.objs.size + 1) (T.C c) (some dx))) dx (.xd [(nm, v)]) = upd (upd H1 dx (.xd [(nm, v)])) (hp.objs.size + 1) (exV (hp.objs.size + 1) (T.C c) (some dx)) := by
        rw [eH]
        funext b
        by_cases b1 : b = dx
        · subst b1; rw [upd_same, upd_ne ne, upd_same]
        · by_cases b2 : b = hp.objs.size + 1
          · subst b2; rw [upd_ne b1, upd_same, upd_same]
          · rw [upd_ne b1, upd_ne b2, upd_ne b2, upd_ne b1, upd_ne b2, upd_ne b2, upd_ne b1]
      rw [eH5] at I5
      have hd5 := hd2.lay (.xd [(nm, v)]) n1
      have n2 : (upd H1 dx (.xd [(nm, v)])) (hp.objs.size + 1) = none := by rw [upd_ne (Ne.symm ne)]; exact hn
      have hd6 := hd5.lay (exV (hp.objs.size + 1) (T.C c) (some dx)) n2
      have sA := same_upd (o := .xd [(nm, v)]) (hd2.gnone n1)
      have sB := same_upd (o := exV (hp.objs.size + 1) (T.C c) (some dx)) (hd5.gnone n2)
      exact ⟨.ref (hp.objs.size + 1), _, I5, rfl, ok2 _ _ _ (sA.trans sB) hd6 (.er1 upd_same h.n (by rw [upd_ne ne, upd_same]) ((r2.mono sA).mono sB))⟩
    | next => exact False.elim hq'
    | brk => exact False.elim hq'
    | cont => exact False.elim hq'
end
end DL

/-! DLl: fields of errors of several classes; facts of the written part as truth values; the end. -/
namespace DL
open PySem PySem.Spec PyProof.Rows L2
section
variable {X : Cx} {T : Tab} {W : WX}
def dAttrEs (cs : List Nat) (f : S → R D) : S → R D := fun st => (f st).bind fun d st => match d with
  | .er c' [v] => if c' ∈ cs then .ok v st else .stuck
  | _ => .stuck
theorem de_attrEs {nm : Str} {cs : List Nat} {e : Expr} {pos : Pos} {f : S → R D} (h : ∀ c ∈ cs, ∃ x, Er1At X.prog X.w X.K X.mg X.base T x nm c) (he : DE X T W e f) (hb : attributeBase e nm X.env (eval e X.env) = eval e X.env := by rfl) : DE X T W (.Attribute e nm pos) (dAttrEs cs f) := by
  refine ⟨fun pins s σ H Q I ⟨c0, G, st, hd, ok⟩ => attr_of hb ?_⟩
  obtain ⟨c1, G1, st1, hd1, ok1⟩ := step (rel := relD X.K T) hd ok
  refine thn (he.run pins s σ H _ I ⟨c1, G1, st1, hd1, ok1⟩) fun u s1 ⟨v, H1, I1, rv, G2, st2, d, s2, hd2, r2, ok2⟩ => ?_
  cases r2 with
  | @er1 a dd c' nm' v2 f2 h1 hn hdd r =>
    replace ok2 : GOk X.K T W (relD X.K T) c0 G2 σ (if c' ∈ cs then .ok f2 st2 else .stuck) Q := ok2
    by_cases ec : c' ∈ cs
    · rw [if_pos ec] at ok2
      obtain ⟨x, h⟩ := h c' ec
      rw [h.n] at hn
      cases hn
      obtain rfl : u = Value.ref a := rv
      obtain ⟨oe, vs, g1, g2, g3, g4⟩ := exV_at I1.hok (hd2.sub _ _ h1)
      obtain ⟨mA, hns, hr⟩ := (show ObjOk X.prog X.w H1 s1.heap dd (.xd [(nm, v2)]) from I1.hok dd _ (hd2.sub _ _ hdd))
      obtain ⟨od, ho, hl⟩ := lookIn_ns hns
      have l : List.lookup nm [(nm, v2)] = some v2 := by simp [List.lookup]
      obtain ⟨u2, hu, ru⟩ := RelO.some_of (v := v2) (o := mA nm) (by rw [← l]; exact hr nm)
      have J : PySem.W.InstAt s1.heap a oe (T.C c') (some od) := ⟨g1, g2, by unfold PySem.W.notCls; rw [g4] <;> rfl, by rw [g3]; exact ho⟩
      exact HandSPX.exc_get I1.kIn J h.e.x.hg h.e.x.hk h.e.x.hs (PySem.W.findObj_own h.e.x.hd h.no rfl (by rw [hl, hu])) (handed_of ru) ⟨v2, H1, I1.tok _, ru, ok2 _ _ _ (Same.refl _) hd2 r⟩
    · rw [if_neg ec] at ok2; exact ok2.elim
  | _ => exact ok2.elim
/-- the class x as the second argument of isinstance -/
structure IsAt (K : PySem.W.Frag) (mg : Str → Option Value) (T : Tab) (n : Nat) (x : Str) (tbl : Nat → Bool) : Prop where
  ex : ∃ a, mg x = some (.ref a) ∧ IsTab K T n (.ref a) tbl
theorem de_isOwn {n : Nat} {tbl : Nat → Bool} {e : Expr} {x : Str} {f : S → R D} {p p2 pos : Pos} (h : IsAt X.K X.mg T n x tbl) (hg : Gl X "isinstance") (hm : X.mg "isinstance" = none) (he : DE X T W e f) (hgx : Gl X x := by rfl) (hdb : (x == ("__debug__" : Str)) = false := by decide)
    (h1 : starEach [e, .Name x p2] X.env = (false, eval e X.env) :: starEach [.Name x p2] X.env := by rfl) (h2 : starEach [.Name x p2] X.env = (false, eval (.Name x p2) X.env) :: starEach [] X.env := by rfl) (hpl : (backTo pos (starEach [.Name x p2] X.env)).any (·.1) = false := by rfl) :
    DE X T W (.Call (.Name "isinstance" p) [e, .Name x p2] [] pos) (dIsE n tbl f) := by
  obtain ⟨a, g, t⟩ := h.ex
  exact de_isE (cv := .ref a) t (fun v r => r) hg hm he (pe_glob hgx g rfl hdb) h1 h2 hpl
theorem de_isBi {n : Nat} {tbl : Nat → Bool} {e : Expr} {x : Str} {ty : String} {f : S → R D} {p p2 pos : Pos} (h : IsTab X.K T n (.type ty) tbl) (hv : bootBuiltins x = some (.type ty)) (hmx : X.mg x = none) (hg : Gl X "isinstance") (hm : X.mg "isinstance" = none) (he : DE X T W e f) (hgx : Gl X x := by rfl) (hn : x ≠ "__name__" := by decide) (hdb : (x == ("__debug__" : Str)) = false := by decide)
    (h1 : starEach [e, .Name x p2] X.env = (false, eval e X.env) :: starEach [.Name x p2] X.env := by rfl) (h2 : starEach [.Name x p2] X.env = (false, eval (.Name x p2) X.env) :: starEach [] X.env := by rfl) (hpl : (backTo pos (starEach [.Name x p2] X.env)).any (·.1) = false := by rfl) :
    DE X T W (.Call (.Name "isinstance" p) [e, .Name x p2] [] pos) (dIsE n tbl f) :=
  de_isE (cv := .ty ty) h (fun v r => r) hg hm he (pe_bltn hgx hmx hv rfl hn hdb) h1 h2 hpl
end
/-! ### facts as truth values -/
def erCB (K : PySem.W.Frag) (D : Addr) : Bool :=
  decide (PySem.W.findIn K (.ref D) "__getattribute__" = some (some (.builtin "BaseException.__getattribute__"))) && (decide (PySem.W.findIn K (.ref D) "__getattr__" = some none) && (decide (PySem.W.subIn K (.ref D) (.type "BaseException") = some true) && (PySem.W.hasDictIn K D &&
  (decide (PySem.W.findIn K (.ref D) "__class__" = some (some (.builtin "object.__class__"))) && (decide (PySem.W.specialIn K (.builtin "object.__class__") "__get__" = some (some (.builtin "getset_descriptor.__get__"))) && (decide (PySem.W.takesIn K (.builtin "object.__class__") = some true) &&
  (decide (PySem.W.mroIn K D (.type "object") = some true) && (decide (PySem.W.typeIn K (.ref D) = some (.type "type")) && PySem.W.keepIn K (.ref D)))))))))
theorem erCB_ok {K : PySem.W.Frag} {D : Addr} (h : erCB K D = true) : ErC K D := by
  unfold erCB at h
  simp only [Bool.and_eq_true, decide_eq_true_eq] at h
  obtain ⟨h1, h2, h3, h4, h5, h6, h7, h8, h9, h10⟩ := h
  exact ⟨⟨h1, h2, h3, h4, h5, h6, h7, h8⟩, h9, h10⟩
def allErB (K : PySem.W.Frag) (cs : List Addr) : Bool := cs.all (erCB K)
def tabOf (cs : List Addr) (fl : List (List Str)) : Tab := ⟨fun c => cs.getD c 0, fun c => fl.getD c []⟩
theorem allErB_ok {K : PySem.W.Frag} {cs : List Addr} {fl : List (List Str)} (h : allErB K cs = true) : ∀ c, c < cs.length → ErC K ((tabOf cs fl).C c) := fun c hc => by
  have := List.all_eq_true.mp h (cs.getD c 0) (by rw [List.getD_eq_getElem?_getD, List.getElem?_eq_getElem hc]; exact List.getElem_mem hc)
  exact erCB_ok this
def isTabB (K : PySem.W.Frag) (cs : List Addr) (u : Value) (tbl : List Bool) : Bool := (List.range cs.length).all fun c => decide (PySem.W.kitOne K (.ref (cs.getD c 0)) u = some (tbl.getD c false))
theorem isTabB_ok {K : PySem.W.Frag} {cs : List Addr} {fl : List (List Str)} {u : Value} {tbl : List Bool} (he : allErB K cs = true) (h : isTabB K cs u tbl = true) : IsTab K (tabOf cs fl) cs.length u (fun c => tbl.getD c false) where
  t := fun c hc => of_decide_eq_true (List.all_eq_true.mp h c (List.mem_range.mpr hc))
  e := allErB_ok he
/-! ### the end: the law over the script -/
def spLaw (K : PySem.W.Frag) : Sp := fun vs H Q _ => ∃ (a : Addr) (ns : List Int), vs = [.ref a] ∧ SqL K H a (ns.map V.int) ∧ ns.length ≤ 63 ∧ ∀ H', Q (.bl true) H'
theorem law_ok {P : Program} {w : World} {K : PySem.W.Frag} {mg : Str → Option Value} {base : Heap} {T : Tab} {k : Nat} {f : Addr} {fd : FuncData} {x : Str} {F : Fn} (h : FnOk P w K mg base (L2.CX P w) k f fd [x] (spD K T 1 F))
    (hF : ∀ ns : List Int, ns.length ≤ 63 → ∃ b', F [.ro ns] (0, 0, 0) = .ok (.bl true) b') : FnOk P w K mg base (L2.CX P w) k f fd [x] (spLaw K) := h.imp fun vs H Q E ⟨a, ns, e, hs, hl, q⟩ => by
  subst e
  obtain ⟨b', e⟩ := hF ns hl
  refine ⟨rfl, none, fun b => if b = a then H a else none, [.ro ns], (0, 0, 0), fun b o z => ?_, (fun p z => nomatch z), .cons (.ro ?_) .nil, ?_⟩
  · by_cases hb : b = a
    · subst hb; replace z : (if b = b then H b else none) = some o := z; rw [if_pos rfl] at z; exact z
    · replace z : (if b = a then H a else none) = some o := z; rw [if_neg hb] at z; cases z
  · rcases hs with (z | ⟨o, z⟩) | z
    · exact .inl (.inl (by show (if a = a then H a else none) = _; rw [if_pos rfl]; exact z))
    · exact .inl (.inr ⟨o, by show (if a = a then H a else none) = _; rw [if_pos rfl]; exact z⟩)
    · exact .inr z
  · rw [e]
    intro G' H' v _ r
    cases r
    exact q H'
end DL

/-! DLm: rules for reckoning with what the layer says. -/
namespace DL
open PySem PySem.Spec PyProof.Rows L2
section
variable {α β : Type}
theorem bind_ok {a : α} {s : S} {g : α → S → R β} : (R.ok a s).bind g = g a s := rfl
theorem bind_err {e : Er} {s : S} {g : α → S → R β} : (R.err e s : R α).bind g = .err e s := rfl
theorem bind_stuck {g : α → S → R β} : (R.stuck : R α).bind g = .stuck := rfl
theorem oBind_nx {s : S} {g : S → R Out} : oBind (.ok .nx s) g = g s := rfl
theorem oBind_rt {d : D} {s : S} {g : S → R Out} : oBind (.ok (.rt d) s) g = .ok (.rt d) s := rfl
theorem oBind_rtF {d : List D} {s : S} {g : S → R Out} : oBind (.ok (.rtF d) s) g = .ok (.rtF d) s := rfl
theorem oBind_bk {s : S} {g : S → R Out} : oBind (.ok .bk s) g = .ok .bk s := rfl
theorem oBind_ct {s : S} {g : S → R Out} : oBind (.ok .ct s) g = .ok .ct s := rfl
theorem oBind_err {e : Er} {s : S} {g : S → R Out} : oBind (.err e s) g = .err e s := rfl
theorem fromF_ok {d : D} {b : Bx} {st : S} : fromF (.ok d b) st = .ok d { st with bx := b } := rfl
theorem fromF_okF {d : List D} {b : Bx} {st : S} : fromF (.okF d b) st = .ok (.ls d) { st with bx := b } := rfl
theorem fromF_err {e : Er} {b : Bx} {st : S} : fromF (.err e b) st = .err e { st with bx := b } := rfl
theorem hMulI_l {i j : Int} {st : S} (h : -18446744073709551616 < i ∧ i < 18446744073709551616) : hMulI i j st = .ok (.int (i * j)) st := if_pos (.inl h)
theorem hMulI_r {i j : Int} {st : S} (h : -18446744073709551616 < j ∧ j < 18446744073709551616) : hMulI i j st = .ok (.int (i * j)) st := if_pos (.inr h)
end
theorem run_rt {n N : Nat} {f : S → R Out} {ds : List D} {b : Bx} {d : D} {s : S} (hl : ds.length = n) (h : f ⟨ds.map Sl.val ++ List.replicate (N - n) Sl.un, b⟩ = .ok (.rt d) s) : runFn n N f ds b = .ok d s.bx := by
  unfold runFn; rw [if_pos hl, h]
theorem run_rtF {n N : Nat} {f : S → R Out} {ds es : List D} {b : Bx} {s : S} (hl : ds.length = n) (h : f ⟨ds.map Sl.val ++ List.replicate (N - n) Sl.un, b⟩ = .ok (.rtF es) s) : runFn n N f ds b = .okF es s.bx := by
  unfold runFn; rw [if_pos hl, h]
theorem run_nx {n N : Nat} {f : S → R Out} {ds : List D} {b : Bx} {s : S} (hl : ds.length = n) (h : f ⟨ds.map Sl.val ++ List.replicate (N - n) Sl.un, b⟩ = .ok .nx s) : runFn n N f ds b = .ok .non s.bx := by
  unfold runFn; rw [if_pos hl, h]
theorem run_err {n N : Nat} {f : S → R Out} {ds : List D} {b : Bx} {e : Er} {s : S} (hl : ds.length = n) (h : f ⟨ds.map Sl.val ++ List.replicate (N - n) Sl.un, b⟩ = .err e s) : runFn n N f ds b = .err e s.bx := by
  unfold runFn; rw [if_pos hl, h]
theorem seq_nx {f g : S → R Out} {st st1 : S} (h : f st = .ok .nx st1) : dSeq f g st = g st1 := by unfold dSeq; rw [h, oBind_nx]
theorem seq_rt {f g : S → R Out} {st st1 : S} {d : D} (h : f st = .ok (.rt d) st1) : dSeq f g st = .ok (.rt d) st1 := by unfold dSeq; rw [h, oBind_rt]
theorem seq_err {f g : S → R Out} {st st1 : S} {e : Er} (h : f st = .err e st1) : dSeq f g st = .err e st1 := by unfold dSeq; rw [h, oBind_err]
/-! ### loops -/
theorem forD_nil {k : Tg} {b : S → R Out} {st : S} : forD k b [] st = .ok .nx st := rfl
theorem forD_nx {k : Tg} {b : S → R Out} {d : D} {ds : List D} {st st1 st2 : S} (h1 : tgD k d st = .ok () st1) (h2 : b st1 = .ok .nx st2) : forD k b (d :: ds) st = forD k b ds st2 := by
  show (tgD k d st).bind _ = _
  rw [h1, bind_ok, h2]
theorem forD_ct {k : Tg} {b : S → R Out} {d : D} {ds : List D} {st st1 st2 : S} (h1 : tgD k d st = .ok () st1) (h2 : b st1 = .ok .ct st2) : forD k b (d :: ds) st = forD k b ds st2 := by
  show (tgD k d st).bind _ = _
  rw [h1, bind_ok, h2]
theorem forD_bk {k : Tg} {b : S → R Out} {d : D} {ds : List D} {st st1 st2 : S} (h1 : tgD k d st = .ok () st1) (h2 : b st1 = .ok .bk st2) : forD k b (d :: ds) st = .ok .nx st2 := by
  show (tgD k d st).bind _ = _
  rw [h1, bind_ok, h2]
theorem forD_rt {k : Tg} {b : S → R Out} {d v : D} {ds : List D} {st st1 st2 : S} (h1 : tgD k d st = .ok () st1) (h2 : b st1 = .ok (.rt v) st2) : forD k b (d :: ds) st = .ok (.rt v) st2 := by
  show (tgD k d st).bind _ = _
  rw [h1, bind_ok, h2]
theorem forD_err {k : Tg} {b : S → R Out} {d : D} {e : Er} {ds : List D} {st st1 st2 : S} (h1 : tgD k d st = .ok () st1) (h2 : b st1 = .err e st2) : forD k b (d :: ds) st = .err e st2 := by
  show (tgD k d st).bind _ = _
  rw [h1, bind_ok, h2]
/-! ### comprehensions -/
theorem compD_map {k : Tg} {vs : List Nat} {t : S → R Bool} {e : S → R D} {f : D → D} {st : S} : ∀ {ds acc : List D}, (∀ d ∈ ds, ∃ env', turnD k vs t e d st = .ok (some (f d)) ⟨env', st.bx⟩) → acc.length + ds.length ≤ 16777216 → compD k vs t e ds acc st = .ok (acc ++ ds.map f) st
  | [], acc, _, _ => by simp [compD]
  | d :: ds, acc, h, l => by
    obtain ⟨env', e1⟩ := h d List.mem_cons_self
    have l1 : acc.length < 16777216 := by simp at l; omega
    unfold compD
    rw [e1]
    show (if acc.length < 16777216 then compD k vs t e ds (acc ++ [f d]) st else .stuck) = _
    rw [if_pos l1, compD_map (fun d' h' => h d' (List.mem_cons_of_mem _ h')) (by simp at l ⊢; omega)]
    simp
/-- by places -/
theorem compD_mapI {k : Tg} {vs : List Nat} {t : S → R Bool} {e : S → R D} {st : S} {gs : List D} : ∀ {ds acc : List D}, ds.length = gs.length → (∀ (i : Nat) (d g : D), ds[i]? = some d → gs[i]? = some g → ∃ env', turnD k vs t e d st = .ok (some g) ⟨env', st.bx⟩) → acc.length + ds.length ≤ 16777216 → compD k vs t e ds acc st = .ok (acc ++ gs) st := by
  induction gs with
  | nil =>
    intro ds acc hl h l
    have : ds = [] := List.length_eq_zero_iff.mp hl
    subst this
    simp [compD]
  | cons g gs ih =>
    intro ds acc hl h l
    cases ds with
    | nil => simp at hl
    | cons d ds =>
      obtain ⟨env', e1⟩ := h 0 d g rfl rfl
      have l1 : acc.length < 16777216 := by simp at l; omega
      unfold compD
      rw [e1]
      show (if acc.length < 16777216 then compD k vs t e ds (acc ++ [g]) st else .stuck) = _
      rw [if_pos l1, ih (by simpa using hl) (fun i d' g' h1 h2 => h (i + 1) d' g' h1 h2) (by simp at l ⊢; omega)]
      simp
theorem blDs_true : ∀ {ds : List D}, (∀ d ∈ ds, d = .bl true) → blDs ds = some (List.replicate ds.length true)
  | [], _ => rfl
  | d :: ds, h => by
    have e := h d List.mem_cons_self
    subst e
    show (blD (.bl true)).bind (fun b => (blDs ds).map fun bs => b :: bs) = _
    rw [blDs_true fun d' h' => h d' (List.mem_cons_of_mem _ h')]
    rfl
theorem all_rep (n : Nat) : (List.replicate n true).all id = true := by induction n with
  | zero => rfl
  | succ n ih => rw [List.replicate_succ, List.all_cons, ih]; rfl
/-- all of a list of nothing but True -/
theorem hAll_true {ds : List D} {st : S} (h : ∀ d ∈ ds, d = .bl true) : hAll [.ls ds] st = .ok (.bl true) st := by
  show (match blDs ds with | some bs => R.ok (D.bl (bs.all id)) st | none => .stuck) = _
  rw [blDs_true h]
  show R.ok (D.bl ((List.replicate ds.length true).all id)) st = _
  rw [all_rep]
/-! ### the box -/
/-- so many draws are left -/
def Gd (m : Nat) (b : Bx) : Prop := 0 ≤ b.1 ∧ 0 ≤ b.2.1 ∧ b.2.1 < 4611686018427387904 ∧ 0 ≤ b.2.2 ∧ b.2.2 + m ≤ 1000000
theorem Gd.less {m n : Nat} {b : Bx} (h : Gd m b) (l : n ≤ m) : Gd n b := ⟨h.1, h.2.1, h.2.2.1, h.2.2.2.1, by have := h.2.2.2.2; omega⟩
/-- a draw below n -/
def Takes1 (F : Fn) : Prop := ∀ (n : Int) (m : Nat) (b : Bx), 0 < n → n < 18446744073709551616 → Gd (m + 1) b → ∃ k b', F [.box, .int n] b = .ok (.int k) b' ∧ 0 ≤ k ∧ k < n ∧ Gd m b'
theorem log_small {n : Int} (h0 : 0 < n) (h : n < 18446744073709551616) : n.natAbs.log2 < 9000 := by
  have : n.natAbs.log2 < 64 := by
    rw [Nat.log2_lt (by omega)]
    omega
  omega
theorem hDiv_ok {i j : Int} {st : S} (h0 : 0 < j) (h : j < 18446744073709551616) : hDiv (.int i) (.int j) st = .ok (.int (i / j)) st := if_pos ⟨h0, log_small h0 h⟩
theorem hMod_ok {i j : Int} {st : S} (h0 : 0 < j) : hMod (.int i) (.int j) st = .ok (.int (i % j)) st := if_pos h0
end DL

/-! DLn: one rule for each piece, to reckon without unfolding what it is made of. -/
namespace DL
open PySem PySem.Spec PyProof.Rows L2
section
variable {st st1 st2 st3 : S} {x y z d : D} {xs ys ds : List D} {f g fa fb fc : S → R D} {fs gs : S → R (List D)} {t u : S → R Bool}
theorem dV_ok {i : Nat} (h : st.env[i]? = some (.val d)) : dV i st = .ok d st := by unfold dV; rw [h]
theorem dC_ok : dC d st = .ok d st := rfl
theorem dBin_ok {h : D → D → S → R D} {r : R D} (h1 : fa st = .ok x st1) (h2 : fb st1 = .ok y st2) (h3 : h x y st2 = r) : dBin h fa fb st = r := by unfold dBin; rw [h1, bind_ok, h2, bind_ok, h3]
theorem dBinB_ok {h : D → D → S → R Bool} {r : R Bool} (h1 : fa st = .ok x st1) (h2 : fb st1 = .ok y st2) (h3 : h x y st2 = r) : dBinB h fa fb st = r := by unfold dBinB; rw [h1, bind_ok, h2, bind_ok, h3]
theorem dOfB_ok {k : Bool} (h1 : t st = .ok k st1) : dOfB t st = .ok (.bl k) st1 := by unfold dOfB; rw [h1]; rfl
theorem dUn_ok {h : D → S → R D} {r : R D} (h1 : fa st = .ok x st1) (h3 : h x st1 = r) : dUn h fa st = r := by unfold dUn; rw [h1, bind_ok, h3]
theorem dTru_ok {r : R Bool} (h1 : f st = .ok x st1) (h2 : hTru x st1 = r) : dTru f st = r := by unfold dTru; rw [h1, bind_ok, h2]
theorem dTru_bl {k : Bool} (h1 : f st = .ok (.bl k) st1) : dTru f st = .ok k st1 := dTru_ok h1 rfl
theorem dNot_ok {k : Bool} (h1 : t st = .ok k st1) : dNot t st = .ok (!k) st1 := by unfold dNot; rw [h1, bind_ok]
theorem dAnd_t {r : R Bool} (h1 : t st = .ok true st1) (h2 : u st1 = r) : dAnd t u st = r := by unfold dAnd; rw [h1, bind_ok, if_pos rfl, h2]
theorem dAnd_f (h1 : t st = .ok false st1) : dAnd t u st = .ok false st1 := by unfold dAnd; rw [h1, bind_ok, if_neg Bool.false_ne_true]
theorem dOr_t (h1 : t st = .ok true st1) : dOr t u st = .ok true st1 := by unfold dOr; rw [h1, bind_ok, if_pos rfl]
theorem dOr_f {r : R Bool} (h1 : t st = .ok false st1) (h2 : u st1 = r) : dOr t u st = r := by unfold dOr; rw [h1, bind_ok, if_neg Bool.false_ne_true, h2]
theorem dAndV_t {r : R D} (h1 : f st = .ok x st1) (h0 : hTru x st1 = .ok true st1) (h2 : g st1 = r) : dAndV f g st = r := by unfold dAndV; rw [h1, bind_ok, h0, bind_ok, if_pos rfl, h2]
theorem dAndV_f (h1 : f st = .ok x st1) (h0 : hTru x st1 = .ok false st1) : dAndV f g st = .ok x st1 := by unfold dAndV; rw [h1, bind_ok, h0, bind_ok, if_neg Bool.false_ne_true]
theorem dOrV_t (h1 : f st = .ok x st1) (h0 : hTru x st1 = .ok true st1) : dOrV f g st = .ok x st1 := by unfold dOrV; rw [h1, bind_ok, h0, bind_ok, if_pos rfl]
theorem dOrV_f {r : R D} (h1 : f st = .ok x st1) (h0 : hTru x st1 = .ok false st1) (h2 : g st1 = r) : dOrV f g st = r := by unfold dOrV; rw [h1, bind_ok, h0, bind_ok, if_neg Bool.false_ne_true, h2]
theorem dNotV_ok {k : Bool} (h1 : f st = .ok x st1) (h0 : hTru x st1 = .ok k st1) : dNotV f st = .ok (.bl (!k)) st1 := by unfold dNotV; rw [h1, bind_ok, h0, bind_ok]
theorem dIfE_t {r : R D} (h1 : t st = .ok true st1) (h2 : f st1 = r) : dIfE t f g st = r := by unfold dIfE; rw [h1, bind_ok, if_pos rfl, h2]
theorem dIfE_f {r : R D} (h1 : t st = .ok false st1) (h2 : g st1 = r) : dIfE t f g st = r := by unfold dIfE; rw [h1, bind_ok, if_neg Bool.false_ne_true, h2]
theorem dNil_ok : dNil st = .ok [] st := rfl
theorem dCons_ok (h1 : f st = .ok x st1) (h2 : fs st1 = .ok xs st2) : dCons f fs st = .ok (x :: xs) st2 := by unfold dCons; rw [h1, bind_ok, h2, bind_ok]
theorem dTup_ok (h1 : fs st = .ok xs st1) (h2 : xs.length ≤ 16777216) : dTup fs st = .ok (.tu xs) st1 := by
  unfold dTup; rw [h1, bind_ok]; exact if_pos h2
theorem dLst_ok (h1 : fs st = .ok xs st1) (h2 : xs.length ≤ 16777216) : dLst fs st = .ok xs st1 := by
  unfold dLst; rw [h1, bind_ok]; exact if_pos h2
theorem dClose_ok (h1 : fs st = .ok xs st1) : dClose fs st = .ok (.ls xs) st1 := by unfold dClose; rw [h1, bind_ok]
theorem dCat_ok {r : R (List D)} (h1 : fa st = .ok x st1) (h2 : fb st1 = .ok y st2) (h3 : hCat x y st2 = r) : dCat fa fb st = r := by unfold dCat; rw [h1, bind_ok, h2, bind_ok, h3]
theorem dNoP_ok : dNoP st = .ok none st := rfl
theorem dPart_ok {i : Int} (h1 : f st = .ok (.int i) st1) : dPart f st = .ok (some i) st1 := by unfold dPart; rw [h1, bind_ok]
theorem dSlice_ok {lo hi : S → R (Option Int)} {l h : Option Int} (h1 : f st = .ok x st1) (h2 : lo st1 = .ok l st2) (h3 : hi st2 = .ok h st3) (h4 : sliceD x l h = some y) : dSlice f lo hi st = .ok y st3 := by
  unfold dSlice; rw [h1, bind_ok, h2, bind_ok, h3, bind_ok, h4]
theorem dCall_ok {n : Nat} {F : Fn} {b : Bx} (h1 : fs st = .ok xs st1) (hn : xs.length = n) (h2 : F xs st1.bx = .ok d b) : dCall n F [] fs st = .ok d { st1 with bx := b } := by
  unfold dCall; rw [h1, bind_ok, List.append_nil, if_pos hn, h2]; rfl
theorem dCall_okF {n : Nat} {F : Fn} {b : Bx} (h1 : fs st = .ok xs st1) (hn : xs.length = n) (h2 : F xs st1.bx = .okF ds b) : dCall n F [] fs st = .ok (.ls ds) { st1 with bx := b } := by
  unfold dCall; rw [h1, bind_ok, List.append_nil, if_pos hn, h2]; rfl
theorem dCall_err {n : Nat} {F : Fn} {b : Bx} {e : Er} (h1 : fs st = .ok xs st1) (hn : xs.length = n) (h2 : F xs st1.bx = .err e b) : dCall n F [] fs st = .err e { st1 with bx := b } := by
  unfold dCall; rw [h1, bind_ok, List.append_nil, if_pos hn, h2]; rfl
theorem dCB_ok {h : List D → S → R D} {r : R D} (h1 : fs st = .ok xs st1) (h2 : h xs st1 = r) : dCB h fs st = r := by unfold dCB; rw [h1, bind_ok, h2]
theorem dCBF_ok {h : List D → S → R (List D)} {r : R (List D)} (h1 : fs st = .ok xs st1) (h2 : h xs st1 = r) : dCBF h fs st = r := by unfold dCBF; rw [h1, bind_ok, h2]
theorem dSeqI_ok {r : R (List D)} (h1 : f st = .ok x st1) (h2 : hSeq x st1 = r) : dSeqI f st = r := by unfold dSeqI; rw [h1, bind_ok, h2]
theorem dRet_ok (h1 : f st = .ok d st1) : dRet f st = .ok (.rt d) st1 := by unfold dRet; rw [h1, bind_ok]
theorem dRetF_ok (h1 : fs st = .ok ds st1) : dRetF fs st = .ok (.rtF ds) st1 := by unfold dRetF; rw [h1, bind_ok]
theorem dIf_t {a c : S → R Out} {r : R Out} (h1 : t st = .ok true st1) (h2 : a st1 = r) : dIf t a c st = r := by unfold dIf; rw [h1, bind_ok, if_pos rfl, h2]
theorem dIf_f {a c : S → R Out} {r : R Out} (h1 : t st = .ok false st1) (h2 : c st1 = r) : dIf t a c st = r := by unfold dIf; rw [h1, bind_ok, if_neg Bool.false_ne_true, h2]
theorem dSet_ok {i : Nat} (h1 : f st = .ok d st1) : dSet i f st = .ok .nx (st1.put i (.val d)) := by unfold dSet; rw [h1, bind_ok]
theorem dOwn_ok {i : Nat} (h1 : fs st = .ok ds st1) : dOwn i fs st = .ok .nx (st1.put i (.own ds)) := by unfold dOwn; rw [h1, bind_ok]
theorem dUnpack_ok {k : Tg} (h1 : f st = .ok d st1) (h2 : tgD k d st1 = .ok () st2) : dUnpack k f st = .ok .nx st2 := by unfold dUnpack; rw [h1, bind_ok, h2, bind_ok]
theorem dFor_ok {k : Tg} {b : S → R Out} {r : R Out} (h1 : fs st = .ok ds st1) (h2 : forD k b ds st1 = r) : dFor k fs b st = r := by unfold dFor; rw [h1, bind_ok, h2]
theorem dComp_ok {k : Tg} {vs : List Nat} {e : S → R D} {r : R (List D)} (h1 : fs st = .ok ds st1) (h2 : compD k vs t e ds [] st1 = r) : dComp k vs fs t e st = r := by unfold dComp; rw [h1, bind_ok, h2]
theorem dPar_ok {α β : Type} {i j : Nat} {sa : α → Sl} {sb : β → Sl} {p : S → R α} {q : S → R β} {a : α} {b : β} (h1 : p st = .ok a st1) (h2 : q st1 = .ok b st2) : dPar i j sa sb p q st = .ok .nx ((st2.put i (sa a)).put j (sb b)) := by unfold dPar; rw [h1, bind_ok, h2, bind_ok]
theorem dMk_ok {c : Nat} (h1 : f st = .ok d st1) : dMk c f st = .ok (.er c [d]) st1 := by unfold dMk; rw [h1, bind_ok]
theorem dRaise_ok {c : Nat} (h1 : f st = .ok d st1) : dRaise c f st = .err ⟨c, [d]⟩ st1 := by unfold dRaise; rw [h1, bind_ok]
theorem dIsE_ok {n c : Nat} {tbl : Nat → Bool} (h1 : f st = .ok (.er c ds) st1) (h2 : c < n) : dIsE n tbl f st = .ok (.bl (tbl c)) st1 := by
  unfold dIsE; rw [h1, bind_ok]; exact if_pos h2
theorem dAttrEs_ok {c : Nat} {cs : List Nat} (h1 : f st = .ok (.er c [d]) st1) (h2 : c ∈ cs) : dAttrEs cs f st = .ok d st1 := by
  unfold dAttrEs; rw [h1, bind_ok]; exact if_pos h2
theorem hAdd_ls (h : xs.length + ys.length ≤ 16777216) : hAdd (.ls xs) (.ls ys) st = .ok (.ls (xs ++ ys)) st := if_pos h
theorem hAdd_int {i j : Int} : hAdd (.int i) (.int j) st = .ok (.int (i + j)) st := rfl
theorem hPow_ok {i j : Int} (h : 0 ≤ j) (h2 : j ≤ 1000000) (h3 : i.natAbs < 18446744073709551616) : hPow (.int i) (.int j) st = .ok (.int (i ^ j.toNat)) st := if_pos ⟨h, h2, h3⟩
theorem hRange1_eq (j : Int) (st : S) : hRange1 [.int j] st = if -4611686018427387904 ≤ j ∧ j < 4611686018427387904 then .ok (rangeD 0 j.toNat) st else .stuck := rfl
theorem hRange1_ok {j : Int} (h : 0 ≤ j) (h2 : j ≤ 16777216) : hRange1 [.int j] st = .ok (rangeD 0 j.toNat) st := by
  rw [hRange1_eq, if_pos ⟨by omega, by omega⟩]
theorem hRange1_nat {n : Nat} (h : n ≤ 16777216) : hRange1 [.int (n : Nat)] st = .ok (rangeD 0 n) st := by
  rw [hRange1_ok (by omega) (by omega), Int.toNat_natCast]
end
end DL

/-! DLp: a suite that keeps the error: from here on the error is known as a value. -/
namespace DL
open PySem PySem.Spec PyProof.Rows L2
/-- what is wished of an error of the body where the suite keeps it; the name's slot is i -/
def wKeep (K : PySem.W.Frag) (c : Value) (i : Nat) (ts : Addr → Value → Option Addr → TS) (Wo : WX) (D : Ends) : WX := fun cls d σ H =>
  ∃ C yes, cls = .ref C ∧ PySem.W.exmOne K cls c = some yes ∧ (yes = false → Wo cls d σ H) ∧
    (yes = true → ∀ q, H q = none → ts q cls d
      { nx := fun σ1 H1 => D.nx (σ1.set i none) (upd H1 q (exV q C d)), rt := fun _ _ => False, bk := fun _ _ => False, ct := fun _ _ => False } (σ.set i (some (.ref q))) H)
section
variable {X : Cx} {x n : Str} {c : Value} {C0 : Addr} {i : Nat} {body suite : List Stmt} {st0 : Stmt} {np p1 p2 : Pos} {tb : WX → TS} {ts : Addr → Value → Option Addr → TS} {Wo : WX}
/-- behind the suite: the error is tracked, the name is gone -/
theorem kept {pins : List (Addr × Obj)} {σ : SV} {H : Hp} {s sI : Shared} {q C : Addr} {oe : Obj} {d : Option Addr} {vs : Array Value} {Q : Shared → Prop}
    (J0 : ∃ σ0 H0, Inv X pins σ0 H0 sI) (hex : X.ex = []) (new : sI.heap.get? q = none) (I : Inv (X.suite q ((q, oe) :: (X.pn ++ pins))) [] σ H s) (ok : X.Ok) (hz : Zc (.ref C) d oe) (hd : oe.data = .fields vs)
    (hN : X.N.Nodup) (hi : X.N[i]? = some n) (hl : X.env.kindOf n = some .local) (h : ∀ s2, Inv X pins (σ.set i none) (upd H q (exV q C d)) s2 → Q s2) :
    wpAny (model X.prog X.w) X.A (do bindName X.env n .none; unbindBehindTheSuite X.env n p2) (fun _ s2 => Q s2) X.xe s := by
  obtain ⟨σ0, H0, J⟩ := J0
  obtain ⟨e1, e2, e3, e4, e5⟩ := I.pin (q, oe) (by simp)
  have I0 := I.unsuite ok
  have tr := inv_track (o := exV q C d) (a := q) I0 (fun _ => by
    cases z : X.s_0.heap.get? q with
    | none => rfl
    | some o =>
      obtain ⟨o2, z2⟩ := J.base.there q o z (by rw [hex]; exact List.not_mem_nil)
      rw [new] at z2; cases z2) (.inl e2) e3 (fun y cc hy ec => by
      obtain ⟨v, oc, hc1, hc2⟩ := I0.cell y cc hy
      rw [ec] at hc1
      rw [e1] at hc1; cases hc1
      exact e5 _ hc2) (fun p hp ep => by
      have := (J.pin p hp).1
      rw [ep, new] at this; cases this) (exV_ok e1 hz.1 hz.2 hd)
  exact gone_ok tr hN hi hl h
/-- what stands behind an error of the body: it is noted, it lands, the handler is asked -/
abbrev landsAt (X : Cx) (pins : List (Addr × Obj)) (D : Ends) (hd : ExceptHandler) : Value → Shared → Prop := fun e sA =>
  wpAny (model X.prog X.w) X.A (noteFrame e X.env)
    (fun _ sB => wpAny (model X.prog X.w) X.A (setFlight e none)
      (fun _ sC => wpAny (model X.prog X.w) X.A (handleBy e X.env [hd]) (SP X pins D) X.xe sC) X.xe sB) X.xe sA
/-- no frame of the stack is an error -/
theorem no_frame {B h : Heap} {l : List Env} {q : Addr} {o : Obj} {vs : Array Value} (ff : h.FunFrames B l) (e : h.get? q = some o) (d : o.data = .fields vs) : q ∉ frs l := fun hm => by
  obtain ⟨_, o2, e2, nf⟩ := ff.mem hm
  rw [e] at e2
  cases e2
  exact nf _ d
theorem ps_keep (stk : X.stack = X.env :: X.outer) (fr : X.env.frame = some X.env.locals) (hex : X.ex = []) (nd : X.N.Nodup) (hi : X.N[i]? = some n) (hl : X.env.kindOf n = some .local) (hc : Names X x c) (tk : Takes X Wo)
    (hb : ∀ (W : WX) (pn : List (Addr × Obj)) (xe : Value → Shared → Prop), Takes (X.tr pn xe) W → PassesOwn (model X.prog X.w) X.A X.env xe → PSs (X.tr pn xe) body (tb W))
    (hk : ∀ (q : Addr) (oe : Obj) (cls : Value) (d : Option Addr) (pn : List (Addr × Obj)), Zc cls d oe → (∃ vs, oe.data = .fields vs) → PSs (X.suite q ((q, oe) :: pn)) (st0 :: suite) (ts q cls d)) :
    PS X (.Try body [.ExceptHandler (some (.Name x np)) (some n) (st0 :: suite) p2] [] [] p1) (fun D σ H => tb (wKeep X.K c i ts Wo D) D σ H) := by
  refine ⟨fun pins s σ H D I h => wpAny_Try_except ?_⟩
  have ok := I.ok
  have frA : X.A.frames = some (X.env :: X.outer) := by rw [ok.frames, stk]
  have lo : Loc X.env.scope n := .inl hl
  refine wpAny_mono ((hb (wKeep X.K c i ts Wo D) (X.pn ++ pins) (landsAt X pins D (.ExceptHandler (some (.Name x np)) (some n) (st0 :: suite) p2)) (fun u s2 err => ?_) PassesOwn.looking).run [] s σ H D (I.toTry _) h) (fun f s2 z => ?_) (fun _ _ z => z)
  · obtain ⟨q, B, sI, pn2, σ2, H2, cls, d, rfl, Jt, nb, up, sky, na, os, ag, C, yes, rfl, ey, hno, hyes⟩ := err
    have J : Inv X pins σ2 H2 sI := Jt.ofTry ok
    replace sky : Sky B (X.env :: X.outer) q (Zc (.ref C) d) X.env.locals s2.heap := by rw [← stk]; exact sky
    show wpAny (model X.prog X.w) X.A (noteFrame (.ref q) X.env) _ _ _
    refine Sky.land Zc.steady frA fr sky fun hA flA upA => ?_
    have JA : Inv X pins σ2 H2 { s2 with heap := hA } := J.landed nb flA.1 (up.trans upA) os ag
    obtain ⟨oA, vA, gA, zA, dA⟩ := flA.there
    have nf := no_frame flA.2.2.1 gA dA
    have nL : q ≠ X.env.locals := fun z => nf (List.mem_filterMap.mpr ⟨X.env, List.mem_cons_self, by rw [fr, z]⟩)
    have nF : q ∉ X.fs := fun hm => by
      obtain ⟨en, he, z⟩ := List.mem_filterMap.mp hm
      exact nf (List.mem_filterMap.mpr ⟨en, List.mem_cons_of_mem _ he, z⟩)
    have new : sI.heap.get? q = none := by
      cases z : sI.heap.get? q with
      | none => rfl
      | some o =>
        have z2 := nb q o z (by rw [stk]; exact nf)
        rw [flA.2.1] at z2; cases z2
    have SA := JA.suite gA dA na nL nF
    refine wpAny_handleBy_cons (codeAny_handlers_test ?_) (by intro z; cases z)
    have ty : PySem.W.Looks (model X.prog X.w) hA (typeOf (.ref q)) (.ref C) := fun A Q E s k z => wpAny_typeOf_ref (k _ _ gA) (by rw [zA.1]; exact z)
    have mt := PySem.W.exm_one (M := model X.prog X.w) JA.kIn ty ey
    have named : ∀ {Q : Value → Shared → Prop} {E : Value → Shared → Prop}, Q c { s2 with heap := hA } → wpAny (model X.prog X.w) (X.A.mark (some (.ref q))) (eval (.Name x np) X.env) Q E { s2 with heap := hA } := fun {Q E} z => by
      obtain ⟨hg, hdb, hm | ⟨hm, hv, hnn⟩⟩ := hc
      · exact ld_glob (X := X.suite q ((q, oA) :: (X.pn ++ pins))) SA hg hm z hdb
      · exact ld_blt (X := X.suite q ((q, oA) :: (X.pn ++ pins))) SA hg hm hv z hnn hdb
    refine named (mt.here ?_)
    cases yes with
    | true =>
      refine codeAny_handlers_suite_as (HandSPX.lands_againZ flA fun hB flB upB => ?_)
      have JB : Inv X pins σ2 H2 { s2 with heap := hB } := J.landed nb flB.1 ((up.trans upA).trans upB) os ag
      obtain ⟨oB, vB, gB, zB, dB⟩ := flB.there
      refine store_ok (X := X.suite q ((q, oB) :: (X.pn ++ pins))) (v := .ref q) (JB.suite gB dB na nL nF) nd hi lo rfl (fun s5 S5 => ?_) (.inr hl)
      refine wpAny_mono ((hk q oB (.ref C) d (X.pn ++ pins) zB ⟨_, dB⟩).run [] s5 _ H2 _ S5 (hyes rfl q na)) (fun f s6 z => ?_) (fun _ _ z => False.elim z)
      cases f with
      | next =>
        obtain ⟨σ6, H6, S6, z⟩ := z
        exact kept ⟨_, _, J⟩ hex new S6 ok zB dB nd hi hl fun s7 J7 => ⟨_, _, J7, z⟩
      | brk => obtain ⟨_, _, _, z⟩ := z; exact z.elim
      | cont => obtain ⟨_, _, _, z⟩ := z; exact z.elim
      | ret u => obtain ⟨_, _, _, _, _, z⟩ := z; exact z.elim
    | false =>
      show wpAny _ X.A (handleBy (.ref q) X.env []) _ _ _
      refine wpAny_handleBy_nil ?_
      obtain ⟨_, _, _, oe, vs, tb1, _, _, g1, _, d1, at1, _⟩ := id flA
      unfold PySem.passOn
      refine wpAny_bind (wpAny_field g1 d1 at1 ?_)
      rw [if_neg (show ¬ ((Value.ref tb1 == Value.none) = true) from by simp)]
      have onward : wpAny (model X.prog X.w) X.A (setFlight (.ref q) X.env.frame) (fun _ s4 => wpAny (model X.prog X.w) X.A (throw (.ref q) : Sem Flow) (SP X pins D) X.xe s4) X.xe { s2 with heap := hA } := by
        rw [fr]
        exact HandSPX.setFlight_upZ flA fun hC heldC upC => wpAny_throw (tk _ _ ⟨q, B, sI, pins, σ2, H2, .ref C, d, rfl, J, nb, (up.trans upA).trans upC, .inr (.inr (by rw [stk]; exact heldC)), na, os, ag, hno rfl⟩)
      first
        | exact wpAny_bind (wpAny_pure (wpAny_bind onward))
        | exact wpAny_bind onward
  · cases f with
    | next => obtain ⟨σ2, H2, J, z⟩ := z; exact wpAny_execs_nil ⟨σ2, H2, J.ofTry ok, z⟩
    | brk => obtain ⟨σ2, H2, J, z⟩ := z; exact ⟨σ2, H2, J.ofTry ok, z⟩
    | cont => obtain ⟨σ2, H2, J, z⟩ := z; exact ⟨σ2, H2, J.ofTry ok, z⟩
    | ret u => obtain ⟨v, σ2, H2, J, r, z⟩ := z; exact ⟨v, σ2, H2, J.ofTry ok, r, z⟩
end
section
variable {K : PySem.W.Frag} {T : Tab} {c : Ctx} {G H : Hp} {σ : SV} {st : S}
theorem Holds.putUn (h : Holds K T c G H σ st) (i : Nat) (x : Option V) : Holds K T c G H (σ.set i x) (st.put i .un) where
  sub0 := h.sub0
  sub := h.sub
  new := h.new
  frame := h.frame
  len := by show (σ.set i _).length = (st.env.set i _).length; rw [List.length_set, List.length_set]; exact h.len
  slot := fun j s q => by
    have q' : (st.env.set i .un)[j]? = some s := q
    by_cases w : i = j
    · subst w
      by_cases hi : i < st.env.length
      · rw [List.getElem?_set_self hi] at q'
        cases q'
        trivial
      · rw [List.getElem?_eq_none (by rw [List.length_set]; omega)] at q'; cases q'
    · rw [List.getElem?_set_ne w] at q'
      rw [List.getElem?_set_ne w]
      exact h.slot j s q'
  dist := fun j k p ds es q1 q2 e1 e2 => by
    have q1' : (st.env.set i .un)[j]? = _ := q1
    have q2' : (st.env.set i .un)[k]? = _ := q2
    have nj : i ≠ j := fun w => by
      subst w
      by_cases hi : i < st.env.length
      · rw [List.getElem?_set_self hi] at q1'; cases q1'
      · rw [List.getElem?_eq_none (by rw [List.length_set]; omega)] at q1'; cases q1'
    have nk : i ≠ k := fun w => by
      subst w
      by_cases hi : i < st.env.length
      · rw [List.getElem?_set_self hi] at q2'; cases q2'
      · rw [List.getElem?_eq_none (by rw [List.length_set]; omega)] at q2'; cases q2'
    rw [List.getElem?_set_ne nj] at q1' e1
    rw [List.getElem?_set_ne nk] at q2' e2
    exact h.dist j k p ds es q1' q2' e1 e2
  box := h.box
  box0 := h.box0
/-- an error as a value, once its object is known -/
theorem rep_of_err {e : Er} {cls : Value} {d : Option Addr} {q : Addr} (h : ErrAt K T c.B G H e cls d) (n : G q = none) : cls = .ref (T.C e.c) ∧ Rep K T c.B (upd G q (exV q (T.C e.c) d)) (.ref q) (.er e.c e.fs) := by
  obtain ⟨ec, h⟩ := h
  refine ⟨ec, ?_⟩
  have s1 : Same G (upd G q (exV q (T.C e.c) d)) := same_upd n
  obtain ⟨k, fs⟩ := e
  cases fs with
  | nil =>
    obtain ⟨rfl, h2⟩ := h
    exact .er0 upd_same h2
  | cons f r =>
    obtain ⟨rfl, dd, nm, v, rfl, h3, h4, h5⟩ := h
    exact .er1 upd_same h3 (s1 _ _ h4) (h5.mono s1)
end
/-- the class of a handler: which classes it takes -/
structure XTab (K : PySem.W.Frag) (T : Tab) (m : Nat) (u : Value) (tbl : Nat → Bool) : Prop where
  t : ∀ c, c < m → PySem.W.exmOne K (.ref (T.C c)) u = some (tbl c)
/-- try: .. / except X as n: y = n -/
def dTry (tbl : Nat → Bool) (m iy iN : Nat) (f : S → R Out) : S → R Out := fun st => match f st with
  | .err e st1 => if e.c < m ∧ iN < st1.env.length then (if tbl e.c = true then .ok .nx ((st1.put iy (.val (.er e.c e.fs))).put iN .un) else .err e st1) else .stuck
  | .ok o st1 => .ok o st1
  | .stuck => .stuck
section
variable {X : Cx} {T : Tab} {W : WX}
theorem ds_keep {x n y : Str} {u : Value} {m iy iN : Nat} {tbl : Nat → Bool} {body : List Stmt} {f : S → R Out} {np p1 p2 py pn p3 : Pos} (stk : X.stack = X.env :: X.outer) (fr : X.env.frame = some X.env.locals) (hex : X.ex = []) (nd : X.N.Nodup)
    (hi : X.N[iN]? = some n) (hl : X.env.kindOf n = some .local) (hc : Names X x u) (tk : Takes X W) (xt : XTab X.K T m u tbl)
    (hb : ∀ (W : WX) (pn : List (Addr × Obj)) (xe : Value → Shared → Prop), Takes (X.tr pn xe) W → PassesOwn (model X.prog X.w) X.A X.env xe → DSs (X.tr pn xe) T W body f)
    (hiy : X.N[iy]? = some y) (hly : Loc X.env.scope y) (ne : iy ≠ iN) (hv : Vis X.env.scope n) (hd : (n == ("__debug__" : Str)) = false := by decide) (hcd : (n == ("__classdict__" : Str)) = false := by decide)
    (hsw : swapsWith (.Name n pn) (some (.Name y py)) p3.line X.env = pure false := by rfl) (hf : X.fn y = true ∨ X.env.scope.names.lookup y = some .local := by first | exact .inl rfl | exact .inr rfl | assumption) :
    DS X T W (.Try body [.ExceptHandler (some (.Name x np)) (some n) [.Assign [.Name y py] (.Name n pn) p3] p2] [] [] p1) (dTry tbl m iy iN f) := by
  refine impS (ps_keep (c := u) (i := iN) (Wo := W) (tb := fun W => tD X.K T W f) (ts := fun _ _ _ => tAsg (tVar iN) (gName iy)) stk fr hex nd hi hl hc tk hb (fun q oe cls d pn _ _ => pss_one (ps_set (X := X.suite q ((q, oe) :: pn)) nd hiy hly (pe_var (X := X.suite q ((q, oe) :: pn)) hi hv hd hcd) hsw hf))) fun E σ H ⟨c, G, st, h, ok⟩ => ⟨c, G, st, h, ?_⟩
  unfold dTry at ok
  cases z : f st with
  | stuck => rw [z] at ok; exact ok
  | ok o st1 => rw [z] at ok; cases o <;> exact ok
  | err e st1 =>
    rw [z] at ok
    replace ok : SOk X.K T W c G (if e.c < m ∧ iN < st1.env.length then (if tbl e.c = true then .ok .nx ((st1.put iy (.val (.er e.c e.fs))).put iN .un) else .err e st1) else .stuck) E := ok
    intro G1 H1 σ1 cls d s1 hd1 er
    by_cases lt : e.c < m ∧ iN < st1.env.length
    · rw [if_pos lt] at ok
      obtain ⟨ec, rest⟩ := id er
      subst ec
      refine ⟨_, tbl e.c, rfl, xt.t _ lt.1, fun no => ?_, fun yes q hq => ?_⟩
      · rw [no, if_neg Bool.false_ne_true] at ok
        exact ok G1 H1 σ1 _ d s1 hd1 er
      · rw [yes, if_pos rfl] at ok
        have gn := hd1.gnone hq
        obtain ⟨_, rp⟩ := rep_of_err (c := c) er gn
        have hd2 := hd1.lay (exV q (T.C e.c) d) hq
        have hd3 := (hd2.putVal rp iy).putUn iN none
        have li : iN < σ1.length := by rw [hd1.len]; exact lt.2
        refine ⟨.ref q, List.getElem?_set_self li, ?_⟩
        show E.nx (((σ1.set iN (some (.ref q))).set iy (some (.ref q))).set iN none) _
        rw [List.set_comm _ _ (Ne.symm ne), List.set_set]
        exact ok _ _ _ (s1.trans (same_upd gn)) hd3
    · rw [if_neg lt] at ok
      exact ok.elim
end
end DL

/-! DLq: texts: join, split, upper, a number as a text, f-strings. -/
namespace DL
open PySem PySem.Spec PyProof.Rows L2
/-- a list of nothing but texts -/
def strsD : List D → Option (List Str)
  | [] => some []
  | .str a :: ds => (strsD ds).map (a :: ·)
  | _ :: _ => none
theorem strsD_map : ∀ (ys : List Str), strsD (ys.map .str) = some ys
  | [] => rfl
  | a :: ys => by show (strsD (ys.map .str)).map (a :: ·) = _; rw [strsD_map ys]; rfl
theorem reps_strs {K : PySem.W.Frag} {T : Tab} {B : Option Addr} {G : Hp} : ∀ {vs : List V} {ds : List D} {ys : List Str}, Reps K T B G vs ds → strsD ds = some ys → vs = ys.map V.str
  | _, _, _, .nil, h => by cases h; rfl
  | _, _, ys, .cons (ds := ds) r1 r, h => by
    cases r1 with
    | str a =>
      replace h : (strsD ds).map (a :: ·) = some ys := h
      cases e : strsD ds with
      | none => rw [e] at h; cases h
      | some zs =>
        rw [e] at h
        cases h
        rw [reps_strs r e]; rfl
    | _ => cases h
theorem Reps.strs {K : PySem.W.Frag} {T : Tab} {B : Option Addr} {G : Hp} : ∀ (ys : List Str), Reps K T B G (ys.map V.str) (ys.map D.str)
  | [] => .nil
  | a :: ys => .cons (.str a) (Reps.strs ys)
/-- a method of a text with one argument -/
def dM1 {α : Type} (h : Str → D → S → R α) (fa fb : S → R D) : S → R α := fun st => (fa st).bind fun x st => match x with
  | .str a => (fb st).bind fun y st => h a y st
  | _ => .stuck
def dM0 {α : Type} (h : Str → S → R α) (fa : S → R D) : S → R α := fun st => (fa st).bind fun x st => match x with
  | .str a => h a st
  | _ => .stuck
section
variable {X : Cx} {T : Tab} {W : WX} {α β : Type} {rel : Rel α V}
theorem m1_read {r : V → List V → Hp → VK → Prop} {h : Str → D → S → R α} {fa fb : S → R D}
    (sd : ∀ (c : Ctx) (G H : Hp) (σ : SV) (st : S) (a : Str) (y : V) (b : D) (Q : VK), Holds X.K T c G H σ st → Rep X.K T c.B G y b → GOk X.K T W rel c G σ (h a b st) Q → r (.str a) [y] H Q) :
    ∀ σ H Q, gD X.K T W rel (dM1 h fa fb) σ H Q → tM1 r (gD X.K T W (relD X.K T) fa) (gD X.K T W (relD X.K T) fb) σ H Q := by
  intro σ H Q ⟨c, G, st, hd, ok⟩
  obtain ⟨c0, G0, st0, hd0, ok0⟩ := step (rel := relD X.K T) hd ok
  refine ⟨c0, G0, st0, hd0, ok0.imp fun x H1 ⟨G1, st1, a, s1, hd1, r1, ok1⟩ => ?_⟩
  cases r1 with
  | str a =>
    replace ok1 : GOk X.K T W rel c G1 σ ((fb st1).bind fun y st => h a y st) Q := ok1
    obtain ⟨c2, G2, st2, hd2, ok2⟩ := step (rel := relD X.K T) hd1 ok1
    exact ⟨⟨a, rfl⟩, c2, G2, st2, hd2, ok2.imp fun y H2 ⟨G3, st3, b, s3, hd3, r3, ok3⟩ => sd c G3 H2 σ st3 a y b Q hd3 r3 ok3⟩
  | _ => exact ok1.elim
theorem m0_read {r : V → List V → Hp → VK → Prop} {h : Str → S → R α} {fa : S → R D}
    (sd : ∀ (c : Ctx) (G H : Hp) (σ : SV) (st : S) (a : Str) (Q : VK), Holds X.K T c G H σ st → GOk X.K T W rel c G σ (h a st) Q → r (.str a) [] H Q) :
    ∀ σ H Q, gD X.K T W rel (dM0 h fa) σ H Q → tM0 r (gD X.K T W (relD X.K T) fa) σ H Q := by
  intro σ H Q ⟨c, G, st, hd, ok⟩
  obtain ⟨c0, G0, st0, hd0, ok0⟩ := step (rel := relD X.K T) hd ok
  refine ⟨c0, G0, st0, hd0, ok0.imp fun x H1 ⟨G1, st1, a, s1, hd1, r1, ok1⟩ => ?_⟩
  cases r1 with
  | str a => exact ⟨⟨a, rfl⟩, sd c G1 H1 σ st1 a Q hd1 ok1⟩
  | _ => exact ok1.elim
/-- sep.join(xs) -/
def hJoinL (a : Str) (ds : List D) (st : S) : R D := match strsD ds with
  | some ys => if (ys.map (·.length)).sum + ys.length * a.length ≤ 16777216 then .ok (.str (Txt.join a ys)) st else .stuck
  | none => .stuck
def hJoin (a : Str) : D → S → R D
  | .ls ds, st => hJoinL a ds st
  | .tu ds, st => hJoinL a ds st
  | _, _ => .stuck
theorem joinL_ok {c : Ctx} {G : Hp} {σ : SV} {st : S} {a : Str} {vs : List V} {ds : List D} {Q : VK} (h : GOk X.K T W (relD X.K T) c G σ (hJoinL a ds st) Q) (r : Reps X.K T c.B G vs ds) {H : Hp} (hd : Holds X.K T c G H σ st) :
    ∃ ys : List Str, vs = ys.map V.str ∧ (ys.map (·.length)).sum + ys.length * a.length ≤ 16777216 ∧ Q (.str (Txt.join a ys)) H := by
  unfold hJoinL at h
  cases e : strsD ds with
  | none => rw [e] at h; exact h.elim
  | some ys =>
    rw [e] at h
    replace h : GOk X.K T W (relD X.K T) c G σ (if (ys.map (·.length)).sum + ys.length * a.length ≤ 16777216 then .ok (.str (Txt.join a ys)) st else .stuck) Q := h
    by_cases z : (ys.map (·.length)).sum + ys.length * a.length ≤ 16777216
    · rw [if_pos z] at h
      exact ⟨ys, reps_strs r e, z, h _ _ _ (Same.refl _) hd (.str _)⟩
    · rw [if_neg z] at h; exact h.elim
theorem de_join {o e : Expr} {fa fb : S → R D} {apos pos : Pos} (ho : DE X T W o fa) (he : DE X T W e fb) (hs : starEach [e] X.env = [(false, eval e X.env)] := by rfl) (hbase : attributeBase o "join" X.env (eval o X.env) = eval o X.env := by rfl) (hline : (apos.endLine == pos.line) = true := by rfl) :
    DE X T W (.Call (.Attribute o "join" apos) [e] [] pos) (dM1 hJoin fa fb) :=
  impE (pe_join ho he hs hbase hline) (m1_read fun c G H σ st a y b Q hd rb ok => by
    cases rb with
    | @ls p vs ds hp r =>
      obtain ⟨ys, rfl, h1, h2⟩ := joinL_ok ok r hd
      exact ⟨a, p, ys, rfl, rfl, .inl (SqL.of (hd.sub _ _ hp)), h1, h2⟩
    | @tu p vs ds hp r =>
      obtain ⟨ys, rfl, h1, h2⟩ := joinL_ok ok r hd
      exact ⟨a, p, ys, rfl, rfl, .inr (Same.sqt hd.sub hp), h1, h2⟩
    | _ => exact ok.elim)
/-- text.split(sep) -/
def hSplit (a : Str) : D → S → R (List D)
  | .str b, st => if (b.length == 0) = false ∧ a.length + 2 ≤ 16777216 then .ok ((Txt.split a b).map .str) st else .stuck
  | _, _ => .stuck
theorem df_split {o e : Expr} {fa fb : S → R D} {apos pos : Pos} (ho : DE X T W o fa) (he : DE X T W e fb) (hs : starEach [e] X.env = [(false, eval e X.env)] := by rfl) (hbase : attributeBase o "split" X.env (eval o X.env) = eval o X.env := by rfl) (hline : (apos.endLine == pos.line) = true := by rfl) :
    DF X T W (.Call (.Attribute o "split" apos) [e] [] pos) (dM1 hSplit fa fb) :=
  impE (pe_split ho he hs hbase hline) (m1_read fun c G H σ st a y b Q hd rb ok => by
    cases rb with
    | str b =>
      replace ok : GOk X.K T W (relF X.K T) c G σ (if (b.length == 0) = false ∧ a.length + 2 ≤ 16777216 then .ok ((Txt.split a b).map .str) st else .stuck) Q := ok
      by_cases z : (b.length == 0) = false ∧ a.length + 2 ≤ 16777216
      · rw [if_pos z] at ok
        refine ⟨a, b, rfl, rfl, z.1, by rw [sizeLine_eq]; exact z.2, fun p hp => ?_⟩
        obtain ⟨h4, r4⟩ := hd.fresh hp (Reps.strs (Txt.split a b))
        exact ok _ _ _ (Same.refl _) h4 r4
      · rw [if_neg z] at ok; exact ok.elim
    | _ => exact ok.elim)
/-- text.upper() -/
def hUpper (a : Str) (st : S) : R D := if a.length ≤ 5592405 then .ok (.str (Txt.upper a)) st else .stuck
theorem de_upper {o : Expr} {fa : S → R D} {apos pos : Pos} (ho : DE X T W o fa) (hbase : attributeBase o "upper" X.env (eval o X.env) = eval o X.env := by rfl) (hline : (apos.endLine == pos.line) = true := by rfl) :
    DE X T W (.Call (.Attribute o "upper" apos) [] [] pos) (dM0 hUpper fa) :=
  impE (pe_upper ho hbase hline) (m0_read fun c G H σ st a Q hd ok => by
    unfold hUpper at ok
    by_cases z : a.length ≤ 5592405
    · rw [if_pos z] at ok; exact ⟨a, rfl, rfl, z, ok _ _ _ (Same.refl _) hd (.str _)⟩
    · rw [if_neg z] at ok; exact ok.elim)
/-- str(n) -/
def hStr : List D → S → R D
  | [.int i], st => if i.natAbs.log2 < 1920 then .ok (.str (toString i)) st else .stuck
  | _, _ => .stuck
theorem snd_str : SndC X T W (fun xs H Q => ∃ i, xs = [.int i] ∧ i.natAbs.log2 < 1920 ∧ Q (.str (toString i)) H) hStr := fun c G H σ st vs ds Q hd r ok => by
  cases r with
  | nil => exact ok.elim
  | cons r1 r =>
    cases r with
    | cons _ _ => cases r1 <;> exact ok.elim
    | nil =>
      cases r1 with
      | int i =>
        replace ok : GOk X.K T W (relD X.K T) c G σ (if i.natAbs.log2 < 1920 then .ok (.str (toString i)) st else .stuck) Q := ok
        by_cases z : i.natAbs.log2 < 1920
        · rw [if_pos z] at ok; exact ⟨i, rfl, z, ok _ _ _ (Same.refl _) hd (.str _)⟩
        · rw [if_neg z] at ok; exact ok.elim
      | _ => exact ok.elim
theorem boot_str' : bootBuiltins "str" = some (.type "str") := by decide +kernel
theorem de_strc {p pos : Pos} {e : Expr} {fa : S → R (List D)} (hg : Gl X "str") (hm : X.mg "str" = none) (ha : DA X T W [e] fa) (he : starEach [e] X.env = (false, eval e X.env) :: starEach [] X.env := by rfl) :
    DE X T W (.Call (.Name "str" p) [e] [] pos) (dCB hStr fa) := de_callTy call_str_int snd_str hg hm boot_str' ha (he := he)
/-! ### f-strings: texts and numbers one behind the other -/
def hFmt : D → S → R D
  | .str y, st => if y.length ≤ 16777216 then .ok (.str y) st else .stuck
  | .int i, st => if i.natAbs.log2 < 1920 then .ok (.str (toString i)) st else .stuck
  | _, _ => .stuck
def dFmt (f : S → R D) : S → R D := fun st => (f st).bind hFmt
theorem dj_fmt {e : Expr} {f : S → R D} {pos : Pos} (he : DE X T W e f) : DE X T W (.FormattedValue e (-1) none pos) (dFmt f) :=
  impE (pe_fmt he) fun σ H Q ⟨c, G, st, hd, ok⟩ => by
    obtain ⟨c0, G0, st0, hd0, ok0⟩ := step (rel := relD X.K T) hd ok
    refine ⟨c0, G0, st0, hd0, ok0.imp fun x H1 ⟨G1, st1, a, s1, hd1, r1, ok1⟩ => ?_⟩
    cases r1 with
    | str y =>
      replace ok1 : GOk X.K T W (relD X.K T) c G1 σ (if y.length ≤ 16777216 then .ok (.str y) st1 else .stuck) Q := ok1
      by_cases z : y.length ≤ 16777216
      · rw [if_pos z] at ok1; exact .inl ⟨y, rfl, by rw [sizeLine_eq]; exact z, ok1 _ _ _ (Same.refl _) hd1 (.str _)⟩
      · rw [if_neg z] at ok1; exact ok1.elim
    | int i =>
      replace ok1 : GOk X.K T W (relD X.K T) c G1 σ (if i.natAbs.log2 < 1920 then .ok (.str (toString i)) st1 else .stuck) Q := ok1
      by_cases z : i.natAbs.log2 < 1920
      · rw [if_pos z] at ok1; exact .inr ⟨i, rfl, z, ok1 _ _ _ (Same.refl _) hd1 (.str _)⟩
      · rw [if_neg z] at ok1; exact ok1.elim
    | _ => exact ok1.elim
inductive DJ (X : Cx) (T : Tab) (W : WX) : List Expr → List (S → R D) → Prop where
  | nil : DJ X T W [] []
  | cons {e : Expr} {f : S → R D} {es : List Expr} {fs : List (S → R D)} (h : DE X T W e f) (r : DJ X T W es fs) : DJ X T W (e :: es) (f :: fs)
theorem DJ.pj {es : List Expr} {fs : List (S → R D)} (h : DJ X T W es fs) : PJ X es (fs.map fun f => gD X.K T W (relD X.K T) f) := by
  induction h with
  | nil => exact .nil
  | cons h r ih => exact .cons h ih
def joinedD : List (S → R D) → Str → S → R D
  | [], acc, st => .ok (.str acc) st
  | f :: fs, acc, st => (f st).bind fun x st => match x with
    | .str y => if (acc ++ y).length ≤ 16777216 then joinedD fs (acc ++ y) st else .stuck
    | _ => .stuck
def dJoined (fs : List (S → R D)) : S → R D := joinedD fs Str.empty
theorem joined_read : ∀ {fs : List (S → R D)} {acc : Str} {c : Ctx} {G H : Hp} {σ : SV} {st : S} {Q : VK}, Holds X.K T c G H σ st → GOk X.K T W (relD X.K T) c G σ (joinedD fs acc st) Q →
    tJs (fs.map fun f => gD X.K T W (relD X.K T) f) acc σ H fun out H1 => Q (.str out) H1
  | [], acc, c, G, H, σ, st, Q, hd, ok => ok _ _ _ (Same.refl _) hd (.str _)
  | f :: fs, acc, c, G, H, σ, st, Q, hd, ok => by
    obtain ⟨c0, G0, st0, hd0, ok0⟩ := step (rel := relD X.K T) hd ok
    refine ⟨c0, G0, st0, hd0, ok0.imp fun x H1 ⟨G1, st1, a, s1, hd1, r1, ok1⟩ => ?_⟩
    cases r1 with
    | str y =>
      replace ok1 : GOk X.K T W (relD X.K T) c G1 σ (if (acc ++ y).length ≤ 16777216 then joinedD fs (acc ++ y) st1 else .stuck) Q := ok1
      by_cases z : (acc ++ y).length ≤ 16777216
      · rw [if_pos z] at ok1; exact ⟨y, rfl, by rw [sizeLine_eq]; exact z, joined_read hd1 ok1⟩
      · rw [if_neg z] at ok1; exact ok1.elim
    | _ => exact ok1.elim
theorem de_joined {v1 v2 : Expr} {rest : List Expr} {fs : List (S → R D)} {pos : Pos} (h : DJ X T W (v1 :: v2 :: rest) fs) : DE X T W (.JoinedStr (v1 :: v2 :: rest) pos) (dJoined fs) :=
  impE (pe_joined h.pj) fun σ H Q ⟨c, G, st, hd, ok⟩ => joined_read hd ok
end
end DL

/-! DLr: calls by names; a try at a named class. -/
namespace DL
open PySem PySem.Spec PyProof.Rows L2
/-- those at these places -/
def pickL {α : Type} (idx : List Nat) (xs : List α) : List α := idx.filterMap (xs[·]?)
def pickK {α : Type} (np nk : Nat) (idx : List Nat) (us ws : List α) : List α := if us.length = np ∧ ws.length = nk then pickL idx (us ++ ws) else []
theorem vals_get : ∀ {vs : List V} {us : List Value} (i : Nat), Vals vs us → (vs[i]? = none ∧ us[i]? = none) ∨ ∃ v u, vs[i]? = some v ∧ us[i]? = some u ∧ RelV v u
  | _, _, _, .nil => .inl ⟨rfl, rfl⟩
  | _, _, 0, .cons h r => .inr ⟨_, _, rfl, rfl, h⟩
  | _, _, i + 1, .cons h r => by simpa using vals_get i r
theorem vals_pick {vs : List V} {us : List Value} (r : Vals vs us) : ∀ idx : List Nat, Vals (pickL idx vs) (pickL idx us)
  | [] => .nil
  | i :: idx => by
    unfold pickL
    rcases vals_get i r with ⟨h1, h2⟩ | ⟨v, u, h1, h2, h3⟩
    · rw [List.filterMap_cons_none h1, List.filterMap_cons_none h2]; exact vals_pick r idx
    · rw [List.filterMap_cons_some h1, List.filterMap_cons_some h2]; exact .cons h3 (vals_pick r idx)
theorem vals_app : ∀ {vs : List V} {us : List Value} {zs : List V} {ws : List Value}, Vals vs us → Vals zs ws → Vals (vs ++ zs) (us ++ ws)
  | _, _, _, _, .nil, h => h
  | _, _, _, _, .cons h r, h2 => .cons h (vals_app r h2)
theorem vals_pickK {np nk : Nat} {idx : List Nat} {vs : List V} {us : List Value} {zs : List V} {ws : List Value} (r : Vals vs us) (rz : Vals zs ws) : Vals (pickK np nk idx vs zs) (pickK np nk idx us ws) := by
  unfold pickK
  rw [r.length, rz.length]
  split
  · exact vals_pick (vals_app r rz) idx
  · exact .nil
section
variable {K : PySem.W.Frag} {T : Tab} {B : Option Addr} {G : Hp}
theorem reps_get : ∀ {vs : List V} {ds : List D} (i : Nat), Reps K T B G vs ds → (vs[i]? = none ∧ ds[i]? = none) ∨ ∃ v d, vs[i]? = some v ∧ ds[i]? = some d ∧ Rep K T B G v d
  | _, _, _, .nil => .inl ⟨rfl, rfl⟩
  | _, _, 0, .cons h r => .inr ⟨_, _, rfl, rfl, h⟩
  | _, _, i + 1, .cons h r => by simpa using reps_get i r
theorem reps_pick {vs : List V} {ds : List D} (r : Reps K T B G vs ds) : ∀ idx : List Nat, Reps K T B G (pickL idx vs) (pickL idx ds)
  | [] => .nil
  | i :: idx => by
    unfold pickL
    rcases reps_get i r with ⟨h1, h2⟩ | ⟨v, u, h1, h2, h3⟩
    · rw [List.filterMap_cons_none h1, List.filterMap_cons_none h2]; exact reps_pick r idx
    · rw [List.filterMap_cons_some h1, List.filterMap_cons_some h2]; exact .cons h3 (reps_pick r idx)
end
/-- a def as it is called with np arguments and the names ks -/
structure DefAtK (P : Program) (w : World) (K : PySem.W.Frag) (mg : Str → Option Value) (base : Heap) (T : Tab) (x : Str) (ps ks : List Str) (np : Nat) (idx : List Nat) (n k : Nat) (F : Fn) : Prop where
  ex : ∃ (f : Addr) (fd : FuncData), FnOk P w K mg base (L2.CX P w) k f fd ps (spD K T n F) ∧ mg x = some (.ref f) ∧ PySem.W.keepIn K (.ref f) = true ∧
    KBinds K fd ps ks (pickK np ks.length idx) (pickK np ks.length idx)
theorem DefAtK.of {P : Program} {w : World} {K : PySem.W.Frag} {mg : Str → Option Value} {base : Heap} {T : Tab} {x : Str} {ps ks : List Str} {np n k : Nat} {idx : List Nat} {F : Fn} {f : Addr} {fd : FuncData} (h : FnOk P w K mg base (L2.CX P w) k f fd ps (spD K T n F)) (hm : mg x = some (.ref f)) (kp : PySem.W.keepIn K (.ref f) = true)
    (b : ∀ (s : Shared) (us ws : List Value), us.length = np → ws.length = ks.length → BindsTo s fd ⟨us, ks.zip ws⟩ (ps.zip (pickL idx (us ++ ws)))) (h0 : ps ≠ []) : DefAtK P w K mg base T x ps ks np idx n k F :=
  ⟨f, fd, h, hm, kp, ⟨fun s us ws _ hl => by
    unfold pickK at hl ⊢
    by_cases z : us.length = np ∧ ws.length = ks.length
    · rw [if_pos z]; exact b s us ws z.1 z.2
    · rw [if_neg z] at hl
      exact absurd (List.length_eq_zero_iff.mp hl.symm) h0, vals_pickK⟩⟩
section
variable {X : Cx} {T : Tab} {W : WX}
/-- the values behind the names -/
def DK (X : Cx) (T : Tab) (W : WX) (kws : List Keyword) (g : S → R (List D)) : Prop := PK X kws (gD X.K T W (relA X.K T) g)
theorem impK {kws : List Keyword} {t t' : TA} (h : PK X kws t) (q : ∀ σ H Q, t' σ H Q → t σ H Q) : PK X kws t' := ⟨fun pos pins s σ H Q I k => h.run pos pins s σ H Q I (q σ H Q k)⟩
theorem dk_nil : DK X T W [] dNil := impK pk_nil fun σ H Q ⟨c, G, st, hd, ok⟩ => ok _ _ _ (Same.refl _) hd .nil
theorem dk_cons {nm : Option Str} {kp : Pos} {e : Expr} {kws : List Keyword} {f : S → R D} {g : S → R (List D)} (he : DE X T W e f) (hr : DK X T W kws g) : DK X T W (⟨nm, e, kp⟩ :: kws) (dCons f g) := by
  refine impK (pk_cons he hr) fun σ H Q ⟨c, G, st, hd, ok⟩ => ?_
  obtain ⟨c0, G0, st0, hd0, ok0⟩ := step (rel := relD X.K T) hd ok
  refine ⟨c0, G0, st0, hd0, ok0.imp fun x H1 ⟨G1, st1, a, s1, hd1, r1, ok1⟩ => ?_⟩
  obtain ⟨c2, G2, st2, hd2, ok2⟩ := step (rel := relA X.K T) hd1 ok1
  exact ⟨c2, G2, st2, hd2, ok2.imp fun y H2 ⟨G3, st3, b, s3, hd3, r3, ok3⟩ => ok3 _ _ _ (Same.refl _) hd3 (.cons (r1.mono s3) r3)⟩
/-- f(k = v, ..) -/
def dCallK (n : Nat) (F : Fn) (np nk : Nat) (idx : List Nat) (fa fk : S → R (List D)) : S → R D := fun st => (fa st).bind fun xs st => (fk st).bind fun ys st =>
  if xs.length = np ∧ ys.length = nk ∧ (pickL idx (xs ++ ys)).length = n then fromF (F (pickL idx (xs ++ ys)) st.bx) st else .stuck
theorem de_callK0 {k n j : Nat} {F : Fn} {ps ks : List Str} {idx : List Nat} {x : Str} {p pos : Pos} {kws : List Keyword} {fk : S → R (List D)} (h : DefAtK X.prog X.w X.K X.mg X.base T x ps ks 0 idx n k F) (hr : Room j X.A) (hj : k ≤ j) (tk : Takes X W) (hk : DK X T W kws fk) (hg : Gl X x := by rfl)
    (hdb : (x == ("__debug__" : Str)) = false := by decide) (hall : (backToKw pos (keywordEach kws X.env)).all (·.1.isSome) = true := by rfl) (hks : (backToKw pos (keywordEach kws X.env)).filterMap (·.1) = ks := by rfl)
    (hpl : ((backTo pos (starEach [] X.env)).any (·.1) || (backToKw pos (keywordEach kws X.env)).any (·.1.isNone)) = false := by rfl) :
    DE X T W (.Call (.Name x p) [] kws pos) (dCallK n F 0 ks.length idx dNil fk) := by
  obtain ⟨f, fd, ok1, hm, kp, kb⟩ := h.ex
  refine ⟨fun pins s σ H Q I ⟨c, G, st, hd, ok⟩ => ?_⟩
  refine wpAny_Call_Name_kw (ld_glob I hg hm ?_ hdb)
  replace ok : GOk X.K T W (relD X.K T) c G σ ((fk st).bind fun ys st => if ([] : List D).length = 0 ∧ ys.length = ks.length ∧ (pickL idx ([] ++ ys)).length = n then fromF (F (pickL idx ([] ++ ys)) st.bx) st else .stuck) Q := ok
  obtain ⟨c1, G1, st1, hd1, ok2⟩ := step (rel := relA X.K T) hd ok
  refine PySem.W.callWith_KW0 (h₀ := X.base) I.ok.mod.kin kp hall (thn (hk.run pos pins s σ H _ I ⟨c1, G1, st1, hd1, ok2⟩) fun ws s2 ⟨zs, H2, I2, rz, G3, st3, ys, s3, hd3, r3, ok3⟩ => ⟨I2.kIn, ?_⟩) hpl
  rw [hks]
  by_cases z : ([] : List D).length = 0 ∧ ys.length = ks.length ∧ (pickL idx ([] ++ ys)).length = n
  · rw [if_pos z] at ok3
    have r4 : Reps X.K T c.B G3 (pickL idx zs) (pickL idx ys) := reps_pick r3 idx
    have e1 : pickK 0 ks.length idx ([] : List V) zs = pickL idx zs := by unfold pickK; rw [if_pos ⟨rfl, by rw [r3.length]; exact z.2.1⟩]; rfl
    have sp : spD X.K T n F (pickK 0 ks.length idx ([] : List V) zs) H2 Q (WE W σ) := by rw [e1]; exact spD_use hd3 r4 (r4.length.trans z.2.2) ok3
    have vr := kb.rel .nil rz
    have lg : (pickK 0 ks.length idx ([] : List Value) ws).length = ps.length := by rw [← vr.length]; exact ok1.len _ _ _ _ sp
    refine wpAny_call (codeAny_mono (ok1.run X.A X.stack s2 H2 ⟨[], ks.zip ws⟩ _ _ Q (WE W σ) (hr.mono hj) I2.env0 (kb.to s2 [] ws I2.kIn lg) vr sp) fun r s4 hq => ?_)
    cases r with
    | error e => exact passAt tk σ pins H2 s2 e s4 I2 hq
    | ok fl =>
      cases fl with
      | ret u => exact I2.after hq
      | next => exact False.elim hq
      | brk => exact False.elim hq
      | cont => exact False.elim hq
  · rw [if_neg z] at ok3; exact ok3.elim
/-- a try at a class by its name -/
structure XAt (K : PySem.W.Frag) (mg : Str → Option Value) (T : Tab) (m : Nat) (x : Str) (tbl : Nat → Bool) : Prop where
  ex : ∃ a, mg x = some (.ref a) ∧ XTab K T m (.ref a) tbl
theorem ds_keepAt {x n y : Str} {m iy iN : Nat} {tbl : Nat → Bool} {body : List Stmt} {f : S → R Out} {np p1 p2 py pn p3 : Pos} (h : XAt X.K X.mg T m x tbl) (stk : X.stack = X.env :: X.outer) (fr : X.env.frame = some X.env.locals) (hex : X.ex = []) (nd : X.N.Nodup)
    (hi : X.N[iN]? = some n) (hl : X.env.kindOf n = some .local) (tk : Takes X W)
    (hb : ∀ (W : WX) (pn : List (Addr × Obj)) (xe : Value → Shared → Prop), Takes (X.tr pn xe) W → PassesOwn (model X.prog X.w) X.A X.env xe → DSs (X.tr pn xe) T W body f)
    (hiy : X.N[iy]? = some y) (hly : Loc X.env.scope y) (ne : iy ≠ iN) (hv : Vis X.env.scope n) (hg : Gl X x := by rfl) (hdb : (x == ("__debug__" : Str)) = false := by decide) (hd : (n == ("__debug__" : Str)) = false := by decide) (hcd : (n == ("__classdict__" : Str)) = false := by decide)
    (hsw : swapsWith (.Name n pn) (some (.Name y py)) p3.line X.env = pure false := by rfl) (hf : X.fn y = true ∨ X.env.scope.names.lookup y = some .local := by first | exact .inl rfl | exact .inr rfl | assumption) :
    DS X T W (.Try body [.ExceptHandler (some (.Name x np)) (some n) [.Assign [.Name y py] (.Name n pn) p3] p2] [] [] p1) (dTry tbl m iy iN f) := by
  obtain ⟨a, g, t⟩ := h.ex
  exact ds_keep stk fr hex nd hi hl ⟨hg, hdb, .inl g⟩ tk t hb hiy hly ne hv hd hcd hsw hf
end
/-- a text of the module by its name -/
structure CAt (mg : Str → Option Value) (x s : Str) : Prop where
  ex : ∃ t, mg x = some (.str s t)
section
variable {X : Cx} {T : Tab} {W : WX}
theorem de_constAt {x s : Str} {p : Pos} (h : CAt X.mg x s) (hg : Gl X x := by rfl) (hdb : (x == ("__debug__" : Str)) = false := by decide) : DE X T W (.Name x p) (dC (.str s)) := by
  obtain ⟨t, e⟩ := h.ex
  exact de_const (pe_glob (v := .str s) hg e ⟨t, rfl⟩ hdb) fun _ _ => .str s
end
def isXB (K : PySem.W.Frag) (cs : List Addr) (u : Value) (tbl : List Bool) : Bool := (List.range cs.length).all fun c => decide (PySem.W.exmOne K (.ref (cs.getD c 0)) u = some (tbl.getD c false))
theorem isXB_ok {K : PySem.W.Frag} {cs : List Addr} {fl : List (List Str)} {u : Value} {tbl : List Bool} (h : isXB K cs u tbl = true) : XTab K (tabOf cs fl) cs.length u (fun c => tbl.getD c false) where
  t := fun c hc => of_decide_eq_true (List.all_eq_true.mp h c (List.mem_range.mpr hc))
end DL

/-! DLs: what is written backwards; what is put in order. -/
namespace L2
open PySem PySem.Spec PyProof.Rows HT
section
variable {prog : Program} {w : World} {A : Around} {E : Value → Shared → Prop} {s : Shared}
theorem bk_adjust (n : Nat) : Builtin.Slice.sliceAdjust none none (-1) (n : Int) = ((n : Int) - 1, -1) := by
  unfold Builtin.Slice.sliceAdjust
  simp
theorem bk_places (n : Nat) : Builtin.Slice.slicePlaces ((n : Int) - 1) (-1) (-1) = n := by
  unfold Builtin.Slice.slicePlaces
  simp
  try (split <;> omega)
theorem bk_pick (xs : Array Value) : ((List.range xs.size).filterMap fun (m : Nat) => xs[(((xs.size : Int) - 1) + (m : Int) * (-1)).toNat]?).toArray = xs.toList.reverse.toArray := by
  congr 1
  apply List.ext_getElem?
  intro i
  have e : (fun (m : Nat) => xs[(((xs.size : Int) - 1) + (m : Int) * (-1)).toNat]?) = fun m => xs[xs.size - 1 - m]? := by
    funext m
    congr 1
    omega
  rw [e]
  have al : ∀ k, k ≤ xs.size → (List.range k).filterMap (fun m => xs[xs.size - 1 - m]?) = (xs.toList.reverse).take k := by
    intro k
    induction k with
    | zero => intro _; simp
    | succ k ih =>
      intro hk
      rw [List.range_succ, List.filterMap_append, ih (by omega), List.take_succ]
      congr 1
      have : xs.size - 1 - k < xs.size := by omega
      rw [List.getElem?_reverse (by rw [Array.length_toList]; omega)]
      simp [this]
  rw [al _ (Nat.le_refl _), List.take_of_length_le (by simp)]
theorem bk_applied {sl : Addr} {vl vu vs : Value} {n : Nat} {Q : Int × Int × Nat → Shared → Prop} (f : s.heap.IsSliceOf sl vl vu vs) (pl : IsPart vl none) (pu : IsPart vu none) (ps : IsPart vs (some (-1)))
    (q : Q ((n : Int) - 1, -1, n) s) : wpAny (model prog w) A (Builtin.Slice.sliceApplied (.ref sl) (pure (n : Int))) Q E s := by
  obtain ⟨o1, g1, _, d1⟩ := id f
  unfold Builtin.Slice.sliceApplied Builtin.Slice.sliceFields
  refine wpAny_bind (wpAny_bind (wpAny_field g1 d1 (x := vl) rfl (wpAny_bind (wpAny_field g1 d1 (x := vu) rfl (wpAny_bind (wpAny_field g1 d1 (x := vs) rfl (wpAny_pure ?_)))))))
  refine wpAny_bind (slicePart_ ps ?_)
  show wpAny _ _ (if ((-1 : Int) == 0) = true then _ else _) _ _ s
  rw [if_neg (show ¬ ((-1 : Int) == 0) = true by decide)]
  refine wpAny_bind (slicePart_ pl (wpAny_bind (slicePart_ pu (wpAny_bind (wpAny_pure ?_)))))
  show wpAny _ _ (match Builtin.Slice.sliceAdjust none none (-1) (n : Int) with | (l, h) => pure (l, (-1 : Int), Builtin.Slice.slicePlaces l h (-1))) _ _ s
  rw [bk_adjust n]
  show wpAny _ _ (pure ((n : Int) - 1, (-1 : Int), Builtin.Slice.slicePlaces ((n : Int) - 1) (-1) (-1))) _ _ s
  rw [bk_places]
  exact wpAny_pure q
theorem tup_bk {t sl : Addr} {items : Array Value} {vl vu vs : Value} {Q : Value → Shared → Prop} (ht : IsTup s.heap t items) (f : s.heap.IsSliceOf sl vl vu vs) (pl : IsPart vl none) (pu : IsPart vu none) (ps : IsPart vs (some (-1)))
    (q : Q (.ref s.heap.objs.size) { s with heap := s.heap.push { cls := .type "tuple", data := .seq items.toList.reverse.toArray } }) (hsz : items.size ≤ sizeLine) : wpAny (model prog w) A (getItem (.ref t) (.ref sl)) Q E s := by
  have fits : sizeOk (.seq items.toList.reverse.toArray) := by
    show items.toList.reverse.toArray.size ≤ sizeLine
    simpa using hsz
  obtain ⟨o1, g1, c1, d1⟩ := id f
  have tySl : s.TypeIs (.ref sl) "slice" := ⟨o1, g1, c1⟩
  unfold getItem
  try with_reducible refine wpAny_holding ?_
  first | (refine wpAny_bind (wpAny_pure ?_)) | skip
  refine wpAny_bind (wpAny_sequenceKey ht.typeIs (by decide) ?_)
  refine wpAny_bind (wpAny_callSpecial?_slot (name := Str.ofString "__getitem__") ht.typeIs PyProof.Rows.slot_tuple_getitem (wpAny_call_entry PyProof.Rows.slot_tuple_getitem ht.typeIs entry_tuple_getitem ?_ (args_tuple_getitem _ _)))
  show wpAny _ _ (Builtin.Tuple.tupleItemsOf (.ref t) >>= _) _ _ s
  refine wpAny_bind (tupleItemsOf_ ht (wpAny_bind (wpAny_typeOf tySl ?_)))
  rw [if_pos (show (Value.type "slice" == Value.type "slice") = true by decide)]
  refine wpAny_bind (bk_applied f pl pu ps ?_)
  have hno : ¬ ((((items.size : Int) - 1) == 0 && (-1 : Int) == 1 && items.size == items.size) = true) := by simp
  show wpAny _ _ (if (((items.size : Int) - 1) == 0 && (-1 : Int) == 1 && items.size == items.size) = true then _ else _) _ _ s
  rw [if_neg hno, bk_pick]
  first
    | (exact wpAny_bind (m := Builtin.Tuple.tupleExact _) (wpAny_newObj_type (wpAny_pure ⟨_, rfl, wpAny_pure q⟩) fits))
    | (exact wpAny_bind (m := Builtin.Tuple.tupleExact _) (wpAny_newObj_type (wpAny_bind (wpAny_pure (wpAny_pure ⟨_, rfl, wpAny_pure q⟩))) fits))
    | (exact wpAny_bind (wpAny_bind (m := Builtin.Tuple.tupleExact _) (wpAny_newObj_type (wpAny_pure (wpAny_pure ⟨_, rfl, wpAny_pure q⟩)) fits)))
    | (exact wpAny_bind (wpAny_bind (m := Builtin.Tuple.tupleExact _) (wpAny_newObj_type (wpAny_pure ⟨_, rfl, wpAny_pure q⟩) fits)))
end
end L2
namespace DL
open PySem PySem.Spec PyProof.Rows L2
section
variable {X : Cx} {T : Tab} {W : WX}
/-- what is asked of xs[::-1]: a list or a tuple -/
def tBack (K : PySem.W.Frag) (te : TE) : TE := fun σ H Q => te σ H fun x H1 => ∃ a xs, x = .ref a ∧
  ((SqL K H1 a xs ∧ ∀ p, H1 p = none → Q (.ref p) (upd H1 p (.lst xs.reverse))) ∨ (SqT K H1 a xs ∧ ∀ p, H1 p = none → Q (.ref p) (upd H1 p (.tup xs.reverse))))
theorem pe_back {e : Expr} {te : TE} {k : Nat} {p1 p2 p3 pos : Pos} (he : PE X e te) : PE X (.Subscript e (.Slice none none (some (.UnaryOp .USub (.Constant (.int 1) k p1) p2)) p3) pos) (tBack X.K te) := by
  refine ⟨fun pins s σ H Q I h => Subscript_ (thn (he.run pins s σ H _ I h) fun v sA ⟨x, HA, IA, rx, a, xs, ex, alt⟩ => ?_)⟩
  subst ex
  cases rx
  have minus : PO X (some (.UnaryOp .USub (.Constant (.int 1) k p1) p2)) (tPart (tUn (rU fun i => .int (-i)) (tC (.int 1)))) := po_some (pe_un un_neg pe_int)
  refine wpAny_Slice (thn (po_none.run pins sA σ HA (fun o Hb => o = none ∧ Hb = HA) IA ⟨rfl, rfl⟩) fun vl sB ⟨ol, HB, IB, pl, el, eB⟩ => ?_)
  subst el eB
  refine thn (po_none.run pins sB σ HB (fun o Hc => o = none ∧ Hc = HB) IB ⟨rfl, rfl⟩) fun vu sC ⟨ou, HC, IC, pu, eu, eC⟩ => ?_
  subst eu eC
  refine thn (minus.run pins sC σ HC (fun o Hd => o = some (-1) ∧ Hd = HC) IC ⟨1, rfl, -1, rfl, rfl, rfl⟩) fun vs sD ⟨os, HD, ID, ps, es, eD⟩ => ?_
  subst es eD
  have IE : Inv X pins σ HD { sD with heap := sD.heap.push { cls := .type "slice", data := .fields #[vl, vu, vs] } } := ID.kept (t' := sD.toks) fun b ob z => Heap.get?_push_of_some _ z
  show wpAny (model X.prog X.w) X.A (subscriptTail e (.Slice none none (some (.UnaryOp .USub (.Constant (.int 1) k p1) p2)) p3) (.ref a) (.ref sD.heap.objs.size)) (EP X pins σ Q) X.xe { sD with heap := sD.heap.push { cls := .type "slice", data := .fields #[vl, vu, vs] } }
  rcases alt with ⟨hx, q⟩ | ⟨hx, q⟩
  · obtain ⟨its, r, hl, hz⟩ := IE.list hx
    have len := r.length
    refine tail_any (ops := [.ref a, .ref sD.heap.objs.size]) hl.isList.typeIs (PySem.slot_list_getitem.lookup) ?_ (by with_unfolding_all rfl)
    refine wpAny_getItem_list_slice hl.isList (Heap.IsSliceOf.new _ vl vu vs) pl pu ps (by decide) ?_ (by rw [List.size_toArray]; omega)
    rw [PySem.W.krv_pick]
    exact ⟨.ref _, _, IE.laid (t' := sD.toks) (o := .lst xs.reverse) (fun b ob z => Heap.get?_push_of_some _ z) (Nat.le_refl _) ⟨by rw [List.length_reverse]; exact hz, _, 0, r.reverse, Heap.get?_push_size _ rfl⟩, rfl, q _ (IE.hok.fresh (Nat.le_refl _))⟩
  · obtain ⟨its, r, ht, hz⟩ := IE.tuple hx
    have len := r.length
    refine tail_any (ops := [.ref a, .ref sD.heap.objs.size]) ht.typeIs (PyProof.Rows.slot_tuple_getitem.lookup) ?_ (by with_unfolding_all rfl)
    refine tup_bk ht (Heap.IsSliceOf.new _ vl vu vs) pl pu ps ?_ (by rw [List.size_toArray]; omega)
    refine ⟨.ref _, _, IE.laid (t' := sD.toks) (o := .tup xs.reverse) (fun b ob z => Heap.get?_push_of_some _ z) (Nat.le_refl _) ?_, rfl, q _ (IE.hok.fresh (Nat.le_refl _))⟩
    first
      | exact ⟨by rw [List.length_reverse]; exact hz, _, r.reverse, ⟨_, Heap.get?_push_size _ rfl, rfl, 0, rfl⟩⟩
      | skip
def hBack : D → S → R D
  | .ls xs, st => .ok (.ls xs.reverse) st
  | .tu xs, st => .ok (.tu xs.reverse) st
  | _, _ => .stuck
theorem Reps.back {K : PySem.W.Frag} {B : Option Addr} {G : Hp} : ∀ {vs : List V} {ds : List D}, Reps K T B G vs ds → Reps K T B G vs.reverse ds.reverse
  | _, _, .nil => .nil
  | _, _, .cons h r => by
    rw [List.reverse_cons, List.reverse_cons]
    exact (Reps.back r).append (Reps.one h)
theorem de_back {e : Expr} {f : S → R D} {k : Nat} {p1 p2 p3 pos : Pos} (he : DE X T W e f) : DE X T W (.Subscript e (.Slice none none (some (.UnaryOp .USub (.Constant (.int 1) k p1) p2)) p3) pos) (dUn hBack f) :=
  impE (pe_back he) fun σ H Q ⟨c, G, st, hd, ok⟩ => by
    obtain ⟨c0, G0, st0, hd0, ok0⟩ := step (rel := relD X.K T) hd ok
    refine ⟨c0, G0, st0, hd0, ok0.imp fun x H1 ⟨G1, st1, a, s1, hd1, r1, ok1⟩ => ?_⟩
    cases r1 with
    | @ls p vs ds h r =>
      refine ⟨p, vs, rfl, .inl ⟨SqL.of (hd1.sub _ _ h), fun l hl => ?_⟩⟩
      have sg := same_upd (o := .lst vs.reverse) (hd1.gnone hl)
      exact ok1 _ _ _ sg (hd1.lay _ hl) (.ls upd_same (r.back.mono sg))
    | @tu p vs ds h r =>
      refine ⟨p, vs, rfl, .inr ⟨Same.sqt hd1.sub h, fun l hl => ?_⟩⟩
      have sg := same_upd (o := .tup vs.reverse) (hd1.gnone hl)
      exact ok1 _ _ _ sg (hd1.lay _ hl) (.tu (.inl (.inl upd_same)) (r.back.mono sg))
    | _ => exact ok1.elim
end
end DL

/-! DLt: objects of one field: how they are made, what is read of them. -/
namespace DL
open PySem PySem.Spec PyProof.Rows L2
section
variable {K : PySem.W.Frag} {T : Tab} {c : Ctx} {G H : Hp} {σ : SV} {st : S}
/-- one slot more ahead, of which nothing is known -/
theorem Holds.ahead (h : Holds K T c G H σ st) (x : Option V) : Holds K T c G H (x :: σ) ⟨.un :: st.env, st.bx⟩ where
  sub0 := h.sub0
  sub := h.sub
  new := h.new
  frame := h.frame
  len := by show σ.length + 1 = st.env.length + 1; rw [h.len]
  slot := fun i s q => by
    cases i with
    | zero =>
      cases q
      trivial
    | succ i => exact h.slot i s q
  dist := fun i j p ds es q1 q2 e1 e2 => by
    cases i with
    | zero => cases q1
    | succ i =>
      cases j with
      | zero => cases q2
      | succ j => rw [h.dist i j p ds es q1 q2 e1 e2]
  box := h.box
  box0 := h.box0
end
/-- the field's value, out of the arguments behind self -/
def initFn (n N : Nat) (fv : S → R D) : Fn := fun ds b => if ds.length = n then
    match fv ⟨.un :: (ds.map Sl.val ++ List.replicate (N - n) Sl.un), b⟩ with
    | .ok d st => .ok d st.bx
    | .err e st => .err e st.bx
    | .stuck => .stuck
  else .stuck
/-- what an __init__ of one field does: F tells the field -/
def InOk (K : PySem.W.Frag) (T : Tab) (B : Option Addr) (G H : Hp) (C a dx : Addr) (fld : Str) (r : FR) (Q : VK) (E : XK) : Prop := match r with
  | .ok d b => ∀ G' H' v, After K T B G H G' H' b → Rep K T B G' v d → Q .non (upd H' a (.ins C dx [(fld, v)]))
  | .okF _ _ => False
  | .err e b => ∀ G' H' cls dd, After K T B G H G' H' b → ErrAt K T B G' H' e cls dd → E cls dd H'
  | .stuck => False
def spIn (K : PySem.W.Frag) (T : Tab) (C : Addr) (fld : Str) (n : Nat) (F : Fn) : Sp := fun vs H Q E => ∃ (a dx : Addr) (us : List V) (B : Option Addr) (G : Hp) (ds : List D) (b : Bx), vs = .ref a :: us ∧ us.length = n ∧
  H a = some (.ins C dx []) ∧ G a = none ∧ B ≠ some a ∧ Same G H ∧ (∀ p, B = some p → H p = some (boxO b) ∧ G p = none) ∧ Reps K T B G us ds ∧ InOk K T B G H C a dx fld (F ds b) Q E
section
variable {P : Program} {w : World} {K : PySem.W.Frag} {mg : Str → Option Value} {base : Heap} {T : Tab}
/-- how an __init__ of one field ends, of its body's parts -/
theorem init_core {qual fld : Str} {sc : Scope} {f C : Addr} {N' ps : List Str} {k : Nat} {e : Expr} {fv : S → R D} {p1 p2 p3 : Pos} (cl : Cls K C) (na : NoAttr K C fld)
    (hb : ∀ (cdv : Value) (A : Around) (outer : List Env) (s : Shared) (H : Hp) (E : XK) (W : WX), Room k (A.deeper (envOfC qual sc s.heap.objs.size f cdv)) →
      PassesOwn (model P w) (cxOf (L2.CX P w) P w K mg base ("self" :: N') qual sc f cdv A outer s H E).A (cxOf (L2.CX P w) P w K mg base ("self" :: N') qual sc f cdv A outer s H E).env (cxOf (L2.CX P w) P w K mg base ("self" :: N') qual sc f cdv A outer s H E).xe →
      Takes (cxOf (L2.CX P w) P w K mg base ("self" :: N') qual sc f cdv A outer s H E) W →
      DE (cxOf (L2.CX P w) P w K mg base ("self" :: N') qual sc f cdv A outer s H E) T W e fv ∧
      PE (cxOf (L2.CX P w) P w K mg base ("self" :: N') qual sc f cdv A outer s H E) (.Name "self" p1) (tVar 0) ∧
      swapsWith e (some (.Attribute (.Name "self" p1) fld p2)) p3.line (cxOf (L2.CX P w) P w K mg base ("self" :: N') qual sc f cdv A outer s H E).env = pure false)
    (cdv : Value) (A : Around) (outer : List Env) (s : Shared) (H : Hp) (vs : List V) (Q : VK) (E : XK) (hr : Room k (A.deeper (envOfC qual sc s.heap.objs.size f cdv))) (h : spIn K T C fld ps.length (initFn ps.length N'.length fv) vs H Q E) :
    ∃ t, PSs (cxOf (L2.CX P w) P w K mg base ("self" :: N') qual sc f cdv A outer s H E) [.Assign [.Attribute (.Name "self" p1) fld p2] e p3] t ∧ t { nx := fun _ H' => Q .non H', rt := Q } (L2.start ("self" :: N') vs) H := by
  obtain ⟨a, dx, us, B, G, ds, b, rfl, hl, ha, ga, ba, sm, hbx, r, ok⟩ := h
  have tk : Takes (cxOf (L2.CX P w) P w K mg base ("self" :: N') qual sc f cdv A outer s H E) (wOf E) := takes_of rfl rfl rfl rfl
  obtain ⟨he, hs, hsw⟩ := hb cdv A outer s H E (wOf E) hr (passes_of rfl) tk
  refine ⟨_, pss_one (ps_fld hs he hsw), ?_⟩
  have start : Holds K T ⟨B, H, G⟩ G H (L2.start ("self" :: N') (.ref a :: us)) ⟨.un :: (ds.map Sl.val ++ List.replicate (N'.length - ps.length) Sl.un), b⟩ := by
    have z := (holds_start (N := N'.length - ps.length) sm hbx r).ahead (some (.ref a))
    unfold L2.start
    show Holds K T _ G H (some (.ref a) :: us.map some ++ List.replicate (N'.length + 1 - (us.length + 1)) none) _
    rw [Nat.add_sub_add_right, hl]
    exact z
  refine ⟨⟨B, H, G⟩, G, ⟨.un :: (ds.map Sl.val ++ List.replicate (N'.length - ps.length) Sl.un), b⟩, start, ?_⟩
  unfold initFn at ok
  rw [if_pos (r.length.symm.trans hl)] at ok
  have fin : ∀ {G' H' : Hp} {σ' : SV} {st' : S}, Holds K T ⟨B, H, G⟩ G' H' σ' st' → After K T B G H G' H' st'.bx := fun h' => ⟨h'.sub0, h'.sub, h'.new, h'.frame, h'.box⟩
  revert ok
  cases fv ⟨.un :: (ds.map Sl.val ++ List.replicate (N'.length - ps.length) Sl.un), b⟩ with
  | ok d st' =>
    intro ok G' H' v s' h' r'
    refine ⟨.ref a, rfl, a, C, dx, [], rfl, h'.frame a _ ha ba, cl, na, Nat.zero_lt_succ _, ?_⟩
    exact ok G' H' v (fin h') r'
  | err er st' => exact fun ok G' H' cls d s' h' e' => ok G' H' cls d (fin h') e'
  | stuck => exact fun ok => ok.elim
theorem sp_len {C : Addr} {fld : Str} {ps : List Str} {F : Fn} : ∀ vs H Q E, spIn K T C fld ps.length F vs H Q E → vs.length = (("self" : Str) :: ps).length := fun vs H Q E ⟨a, dx, us, B, G, ds, b, e1, e2, _⟩ => by
  rw [e1]; show us.length + 1 = ps.length + 1; rw [e2]
end
section
variable {K : PySem.W.Frag} {T : Tab} {c : Ctx} {G H : Hp} {σ : SV} {st : S}
/-- an object of one's own is finished: from now on it is known as it is -/
theorem Holds.renew (h : Holds K T c G H σ st) {p : Addr} (g : G p = none) (z : c.H0 p = none) (nl : ∀ vs, H p ≠ some (.lst vs)) (o : HO) : Holds K T c (upd G p o) (upd H p o) σ st where
  sub0 := h.sub0.trans (same_upd g)
  sub := fun a u q => by
    by_cases e : a = p
    · subst e; rw [upd_same] at q ⊢; exact q
    · rw [upd_ne e] at q ⊢; exact h.sub _ _ q
  new := fun a e n => by
    by_cases ep : a = p
    · subst ep; exact z
    · rw [upd_ne ep] at n; exact h.new a e n
  frame := fun a u e nb => by
    have ep : a ≠ p := fun y => by subst y; rw [z] at e; cases e
    rw [upd_ne ep]; exact h.frame a u e nb
  len := h.len
  slot := fun i s q => by
    have r := h.slot i s q
    cases s with
    | un => trivial
    | val d =>
      obtain ⟨v, e, r⟩ := r
      exact ⟨v, e, r.mono (same_upd g)⟩
    | own ds =>
      obtain ⟨p2, vs, e, h1, h2, h3, r⟩ := r
      have ep : p2 ≠ p := fun y => by subst y; exact nl vs h1
      exact ⟨p2, vs, e, by rw [upd_ne ep]; exact h1, by rw [upd_ne ep]; exact h2, h3, r.mono (same_upd g)⟩
  dist := h.dist
  box := fun p2 e => by
    have ep : p2 ≠ p := fun y => by subst y; exact h.box0 p2 e z
    rw [upd_ne ep, upd_ne ep]; exact h.box p2 e
  box0 := h.box0
end
/-- an own class of one field -/
structure Ob1 (K : PySem.W.Frag) (T : Tab) (fld : Str) (c : Nat) : Prop where
  cls : Cls K (T.C c)
  no : NoAttr K (T.C c) fld
  n : T.fld c = [fld]
def dOb (c : Nat) (F : Fn) (ds : List D) (st : S) : R D := match F ds st.bx with
  | .ok d b => .ok (.ob c [d]) { st with bx := b }
  | .err e b => .err e { st with bx := b }
  | _ => .stuck
section
variable {X : Cx} {T : Tab} {W : WX}
/-- what an __init__ is asked, where a call of the class is asked -/
theorem ob_use {c : Ctx} {G H : Hp} {σ : SV} {st : S} {i n : Nat} {fld : Str} {F : Fn} {vs : List V} {ds : List D} {Q : VK} (ob : Ob1 X.K T fld i) (hd : Holds X.K T c G H σ st) (r : Reps X.K T c.B G vs ds) (hl : vs.length = n)
    (ok : GOk X.K T W (relD X.K T) c G σ (dOb i F ds st) Q) {x dx : Addr} (hx : H x = none) (hdx : H dx = none) (ne : dx ≠ x) :
    spIn X.K T (T.C i) fld n F (.ref x :: vs) (upd (upd H dx (.own x)) x (.ins (T.C i) dx [])) (fun v H2 => v = .non ∧ Q (.ref x) H2) (WE W σ) := by
  have h1 : Holds X.K T c G (upd H dx (.own x)) σ st := hd.lose _ hdx
  have hx1 : (upd H dx (.own x)) x = none := by rw [upd_ne (Ne.symm ne)]; exact hx
  have h2 : Holds X.K T c G (upd (upd H dx (.own x)) x (.ins (T.C i) dx [])) σ st := h1.lose _ hx1
  have gx := hd.gnone hx
  have bx : c.B ≠ some x := fun e => by have := (hd.box x e).1; rw [hx] at this; cases this
  refine ⟨x, dx, vs, c.B, G, ds, st.bx, rfl, hl, upd_same, gx, bx, h2.sub, h2.box, r, ?_⟩
  unfold dOb at ok
  revert ok
  cases F ds st.bx with
  | ok d b =>
    intro ok G' H' v a rv
    refine ⟨rfl, ?_⟩
    have h3 : Holds X.K T c G' H' σ { st with bx := b } := h2.after a
    have hx3 : H' x = some (.ins (T.C i) dx []) := a.frame x _ upd_same bx
    have gx3 : G' x = none := by
      cases q : G' x with
      | none => rfl
      | some o =>
        have := a.new x gx (by rw [q]; exact fun z => nomatch z)
        rw [upd_same] at this; cases this
    have h4 := h3.renew gx3 (hd.h0 hx) (fun ws z => by rw [hx3] at z; cases z) (.ins (T.C i) dx [(fld, v)])
    have sg := same_upd (o := .ins (T.C i) dx [(fld, v)]) gx3
    exact ok _ _ _ (a.sG.trans sg) h4 (.ob (vs := [v]) (by rw [upd_same, ob.n]; rfl) (by rw [ob.n]; rfl) (.cons (rv.mono sg) .nil))
  | okF ds2 b => exact fun ok => ok.elim
  | err e b =>
    intro ok G' H' cls dd a er
    exact ok G' H' cls dd a.sG (h2.after a) er
  | stuck => exact fun ok => ok.elim
theorem make_use {k : Nat} {C f : Addr} {fd : FuncData} {ps : List Str} {sp : Sp} {pins : List (Addr × Obj)} {σ : SV} {H : Hp} {s : Shared} {Q : VK} {us0 us : List Value} {kw : List (Str × Value)} {vs : List V} (M : Mk X.K C f) (F : FnOk X.prog X.w X.K X.mg X.base (L2.CX X.prog X.w) k f fd (("self" : Str) :: ps) sp)
    (hr : Room (k + 1) X.A) (hb : ∀ (s : Shared) (q : Addr), X.K.In s.heap → BindsTo s fd ⟨.ref q :: us0, kw⟩ ((("self" : Str) :: ps).zip (.ref q :: us))) (tk : Takes X W) (I : Inv X pins σ H s) (r : Vals vs us)
    (h : ∀ x dx, H x = none → H dx = none → dx ≠ x → sp (.ref x :: vs) (upd (upd H dx (.own x)) x (.ins C dx [])) (fun v H2 => v = .non ∧ Q (.ref x) H2) (WE W σ)) :
    wpAny (model X.prog X.w) X.A (call (.ref C) us0 kw) (EP X pins σ Q) X.xe s := by
  have q1 := h (s.heap.objs.size + 1) s.heap.objs.size (I.hok.fresh (Nat.le_succ _)) (I.hok.fresh (Nat.le_refl _)) (Nat.ne_of_lt (Nat.lt_succ_self _))
  have J := Inv.made (C := C) I
  refine wpAny_call (make_map (f := f) I.kIn M.makes M.init (beq_iff_eq.mp M.fn) (codeAny_mono (F.run _ X.stack _ _ ⟨Value.ref (s.heap.objs.size + 1) :: us0, kw⟩ (Value.ref (s.heap.objs.size + 1) :: us) (V.ref (s.heap.objs.size + 1) :: vs) _ _ (hr.make C us0 kw)
    (J.env0.make C us0 kw) (hb _ _ J.kIn) (.cons rfl r) q1) fun res s2 z => ?_))
  cases res with
  | error er => exact passAt tk σ pins _ _ er s2 J z
  | ok fl =>
    cases fl with
    | ret u =>
      obtain ⟨v, H2, J2, rv, ev, q3⟩ := J.after z
      subst ev
      exact ⟨rv, ⟨V.ref (s.heap.objs.size + 1), H2, J2, rfl, q3⟩⟩
    | next => exact False.elim z
    | brk => exact False.elim z
    | cont => exact False.elim z
/-- e.fld -/
def dFld (c : Nat) (f : S → R D) : S → R D := fun st => (f st).bind fun d st => match d with
  | .ob c' [v] => if c' = c then .ok v st else .stuck
  | _ => .stuck
theorem de_fld {fld : Str} {c : Nat} {e : Expr} {pos : Pos} {f : S → R D} (ob : Ob1 X.K T fld c) (he : DE X T W e f) (hb : attributeBase e fld X.env (eval e X.env) = eval e X.env := by rfl) : DE X T W (.Attribute e fld pos) (dFld c f) :=
  impE (pe_fld he hb) fun σ H Q ⟨c0, G, st, hd, ok⟩ => by
    obtain ⟨c1, G1, st1, hd1, ok1⟩ := step (rel := relD X.K T) hd ok
    refine ⟨c1, G1, st1, hd1, ok1.imp fun x H1 ⟨G2, st2, d, s2, hd2, r2, ok2⟩ => ?_⟩
    cases r2 with
    | @ob a dx c' vs fs h1 hl r =>
      cases r with
      | nil => exact ok2.elim
      | cons r1 r =>
        cases r with
        | cons _ _ => exact ok2.elim
        | nil =>
          rename_i v2 f2
          replace ok2 : GOk X.K T W (relD X.K T) c0 G2 σ (if c' = c then .ok f2 st2 else .stuck) Q := ok2
          by_cases ec : c' = c
          · rw [if_pos ec] at ok2
            subst ec
            refine ⟨a, _, dx, _, v2, rfl, hd2.sub _ _ h1, ob.cls, ob.no, ?_, ok2 _ _ _ (Same.refl _) hd2 r1⟩
            rw [ob.n]
            simp [List.lookup]
          · rw [if_neg ec] at ok2; exact ok2.elim
    | _ => exact ok2.elim
end
section
variable {X : Cx} {T : Tab} {W : WX}
/-- an own class of one field under its name, by what its __init__ (self, p) tells: F; called without p it is as with dd -/
structure ObAt (P : Program) (w : World) (K : PySem.W.Frag) (mg : Str → Option Value) (base : Heap) (T : Tab) (x fld p : Str) (c k : Nat) (F : Fn) (dd : D) : Prop where
  ob : Ob1 K T fld c
  g : mg x = some (.ref (T.C c))
  init : ∃ (f : Addr) (fd : FuncData) (vd : V) (ud : Value), Mk K (T.C c) f ∧ FnOk P w K mg base (L2.CX P w) k f fd [("self" : Str), p] (spIn K T (T.C c) fld 1 F) ∧ RelV vd ud ∧ (∀ B G, Rep K T B G vd dd) ∧
    (∀ (s : Shared) (q u : Value), K.In s.heap → BindsTo s fd ⟨[q, u], []⟩ [("self", q), (p, u)]) ∧ (∀ (s : Shared) (q u : Value), K.In s.heap → BindsTo s fd ⟨[q], [(p, u)]⟩ [("self", q), (p, u)]) ∧
    (∀ (s : Shared) (q : Value), K.In s.heap → BindsTo s fd ⟨[q], []⟩ [("self", q), (p, ud)])
def dMkOb (c : Nat) (F : Fn) (f : S → R D) : S → R D := fun st => (f st).bind fun d st => dOb c F [d] st
theorem de_ob1 {x fld p : Str} {c k j : Nat} {F : Fn} {dd : D} {p1 pos : Pos} {e : Expr} {f : S → R D} (h : ObAt X.prog X.w X.K X.mg X.base T x fld p c k F dd) (hr : Room j X.A) (hj : k + 1 ≤ j) (tk : Takes X W) (he : DE X T W e f) (hg : Gl X x := by rfl) (hdb : (x == ("__debug__" : Str)) = false := by decide)
    (hs : starEach [e] X.env = (false, eval e X.env) :: starEach [] X.env := by rfl) (hpl : (backTo pos (starEach [] X.env)).any (·.1) = false := by rfl) : DE X T W (.Call (.Name x p1) [e] [] pos) (dMkOb c F f) := by
  obtain ⟨fa, fd, vd, ud, M, Fi, _, _, b1, _, _⟩ := h.init
  refine ⟨fun pins s σ H Q I ⟨c0, G, st, hd, ok⟩ => ?_⟩
  obtain ⟨c1, G1, st1, hd1, ok1⟩ := step (rel := relD X.K T) hd ok
  have ha : PA X [e] (tCons (gD X.K T W (relD X.K T) f) tNil) := pa_cons he pa_nil hs
  refine wpAny_Call_Name_kw (ld_glob I hg h.g ?_ hdb)
  refine PySem.W.callWith_K (h₀ := X.base) I.ok.mod.kin M.kp (thn (ha.run pos pins s σ H (fun vs H1 => ∃ v, vs = [v] ∧ ∃ G1 st1 a, Same G G1 ∧ Holds X.K T c0 G1 H1 σ st1 ∧ relD X.K T c0 G1 H1 σ st1 v a ∧ GOk X.K T W (relD X.K T) c0 G1 σ (dOb c F [a] st1) Q) I ⟨c1, G1, st1, hd1, ok1.imp fun v H1 z => ⟨v, rfl, z⟩⟩) fun us s1 ⟨vs, H1, I1, r1, v, ev, G2, st2, d, s2, hd2, r2, ok2⟩ => ⟨I1.kIn, ?_⟩) hs hpl
  subst ev
  obtain ⟨u1, rfl⟩ : ∃ u1, us = [u1] := by
    cases r1 with
    | cons _ rn => cases rn; exact ⟨_, rfl⟩
  exact make_use (us0 := [u1]) (us := [u1]) (kw := []) M Fi (hr.mono hj) (fun s q z => b1 s (.ref q) u1 z) tk I1 r1 fun x dx hx hdx ne => ob_use h.ob hd2 (.cons r2 .nil) rfl ok2 hx hdx ne
theorem de_ob0 {x fld p : Str} {c k j : Nat} {F : Fn} {dd : D} {p1 pos : Pos} (h : ObAt X.prog X.w X.K X.mg X.base T x fld p c k F dd) (hr : Room j X.A) (hj : k + 1 ≤ j) (tk : Takes X W) (hg : Gl X x := by rfl) (hdb : (x == ("__debug__" : Str)) = false := by decide) :
    DE X T W (.Call (.Name x p1) [] [] pos) (dMkOb c F (dC dd)) := by
  obtain ⟨fa, fd, vd, ud, M, Fi, rv, rd, _, _, b0⟩ := h.init
  refine ⟨fun pins s σ H Q I ⟨c0, G, st, hd, ok⟩ => ?_⟩
  refine wpAny_Call_Name_kw (ld_glob I hg h.g ?_ hdb)
  refine PySem.W.callWith_K0 I.kIn M.kp ?_
  exact make_use (us := [ud]) M Fi (hr.mono hj) (fun s q z => b0 s (.ref q) z) tk I (.cons rv .nil) fun x dx hx hdx ne => ob_use h.ob hd (.cons (rd c0.B G) .nil) rfl ok hx hdx ne
theorem de_obK {x fld p : Str} {c k j : Nat} {F : Fn} {dd : D} {p1 kp pos : Pos} {e : Expr} {f : S → R D} (h : ObAt X.prog X.w X.K X.mg X.base T x fld p c k F dd) (hr : Room j X.A) (hj : k + 1 ≤ j) (tk : Takes X W) (he : DE X T W e f) (hg : Gl X x := by rfl) (hdb : (x == ("__debug__" : Str)) = false := by decide)
    (hall : (backToKw pos (keywordEach [⟨some p, e, kp⟩] X.env)).all (·.1.isSome) = true := by rfl) (hks : (backToKw pos (keywordEach [⟨some p, e, kp⟩] X.env)).filterMap (·.1) = [p] := by rfl)
    (hpl : ((backTo pos (starEach [] X.env)).any (·.1) || (backToKw pos (keywordEach [⟨some p, e, kp⟩] X.env)).any (·.1.isNone)) = false := by rfl) : DE X T W (.Call (.Name x p1) [] [⟨some p, e, kp⟩] pos) (dMkOb c F f) := by
  obtain ⟨fa, fd, vd, ud, M, Fi, _, _, _, bk, _⟩ := h.init
  refine ⟨fun pins s σ H Q I ⟨c0, G, st, hd, ok⟩ => ?_⟩
  obtain ⟨c1, G1, st1, hd1, ok1⟩ := step (rel := relD X.K T) hd ok
  have ha : PK X [⟨some p, e, kp⟩] (tCons (gD X.K T W (relD X.K T) f) tNil) := pk_cons he pk_nil
  refine wpAny_Call_Name_kw (ld_glob I hg h.g ?_ hdb)
  refine PySem.W.callWith_KW0 (h₀ := X.base) I.ok.mod.kin M.kp hall (thn (ha.run pos pins s σ H (fun vs H1 => ∃ v, vs = [v] ∧ ∃ G1 st1 a, Same G G1 ∧ Holds X.K T c0 G1 H1 σ st1 ∧ relD X.K T c0 G1 H1 σ st1 v a ∧ GOk X.K T W (relD X.K T) c0 G1 σ (dOb c F [a] st1) Q) I ⟨c1, G1, st1, hd1, ok1.imp fun v H1 z => ⟨v, rfl, z⟩⟩) fun us s1 ⟨vs, H1, I1, r1, v, ev, G2, st2, d, s2, hd2, r2, ok2⟩ => ⟨I1.kIn, ?_⟩) hpl
  subst ev
  rw [hks]
  obtain ⟨u1, rfl⟩ : ∃ u1, us = [u1] := by
    cases r1 with
    | cons _ rn => cases rn; exact ⟨_, rfl⟩
  exact make_use (us0 := []) (us := [u1]) (kw := [(p, u1)]) M Fi (hr.mono hj) (fun s q z => bk s (.ref q) u1 z) tk I1 r1 fun x dx hx hdx ne => ob_use h.ob hd2 (.cons r2 .nil) rfl ok2 hx hdx ne
end
end DL

/-! DLu: properties of an own class. -/
namespace DL
open PySem PySem.Spec PyProof.Rows L2
/-- a property of the class by what its getter tells -/
structure PropAt (P : Program) (w : World) (K : PySem.W.Frag) (mg : Str → Option Value) (base : Heap) (T : Tab) (c : Nat) (nm : Str) (k : Nat) (F : Fn) : Prop where
  cls : Cls K (T.C c)
  ex : ∃ (p g : Addr) (fd : FuncData), PropOf K (T.C c) nm p g ∧ FnOk P w K mg base (L2.CX P w) k g fd [("self" : Str)] (spD K T 1 F) ∧ Binds K fd [("self" : Str)] []
/-- what is told without an error -/
def fromN (r : FR) (st : S) : R D := match r with
  | .ok d b => .ok d { st with bx := b }
  | .okF ds b => .ok (.ls ds) { st with bx := b }
  | _ => .stuck
def dProp (c : Nat) (F : Fn) (f : S → R D) : S → R D := fun st => (f st).bind fun d st => match d with
  | .ob c' fs => if c' = c then fromN (F [.ob c' fs] st.bx) st else .stuck
  | _ => .stuck
section
variable {X : Cx} {T : Tab} {W : WX}
theorem never_passes {P : Program} {w : World} : Passes (L2.CX P w) X.nox (fun _ _ _ => False) := fun _ _ _ _ _ _ _ h => by
  obtain ⟨_, _, _, _, _, _, _, _, _, _, _, _, h⟩ := h
  exact h.elim
theorem spD_useN {c : Ctx} {G H : Hp} {σ : SV} {st : S} {n : Nat} {F : Fn} {vs : List V} {ds : List D} {Q : VK} (h : Holds X.K T c G H σ st) (r : Reps X.K T c.B G vs ds) (l : vs.length = n) (ok : GOk X.K T W (relD X.K T) c G σ (fromN (F ds st.bx) st) Q) :
    spD X.K T n F vs H Q (fun _ _ _ => False) := by
  refine ⟨l, c.B, G, ds, st.bx, h.sub, h.box, r, ?_⟩
  revert ok
  cases F ds st.bx with
  | ok d b => exact fun ok G' H' v a r => ok G' H' v a.sG (h.after a) r
  | okF ds b =>
    intro ok G' H' p vs a hp g n r
    obtain ⟨G2, s2, h2, r2⟩ := (h.handed a hp g n r).close (h.after a)
    exact ok G2 H' (.ref p) (a.sG.trans s2) h2 r2
  | err e b => exact fun ok => ok.elim
  | stuck => exact fun ok => ok.elim
theorem de_prop {nm : Str} {c k j : Nat} {F : Fn} {e : Expr} {pos : Pos} {f : S → R D} (h : PropAt X.prog X.w X.K X.mg X.base T c nm k F) (hr : Room j X.A) (hj : k + 1 ≤ j) (he : DE X T W e f) (hb : attributeBase e nm X.env (eval e X.env) = eval e X.env := by rfl) :
    DE X T W (.Attribute e nm pos) (dProp c F f) := by
  obtain ⟨p, g, fd, hp, ok, bn⟩ := h.ex
  refine impE (pe_prop (dvs := []) (ds := []) he h.cls hp ok (hr.mono hj) bn .nil never_passes hb) fun σ H Q ⟨c0, G, st, hd, ok⟩ => ?_
  obtain ⟨c1, G1, st1, hd1, ok1⟩ := step (rel := relD X.K T) hd ok
  refine ⟨c1, G1, st1, hd1, ok1.imp fun x H1 ⟨G2, st2, d, s2, hd2, r2, ok2⟩ => ?_⟩
  cases r2 with
  | @ob a dx c' vs fs h1 hl r =>
    replace ok2 : GOk X.K T W (relD X.K T) c0 G2 σ (if c' = c then fromN (F [.ob c' fs] st2.bx) st2 else .stuck) Q := ok2
    by_cases ec : c' = c
    · rw [if_pos ec] at ok2
      subst ec
      exact ⟨a, dx, _, rfl, hd2.sub _ _ h1, spD_useN hd2 (.cons (.ob h1 hl r) .nil) rfl ok2⟩
    · rw [if_neg ec] at ok2; exact ok2.elim
  | _ => exact ok2.elim
end
end DL

/-! DLv: len of an object of an own class. -/
namespace DL
open PySem PySem.Spec PyProof.Rows L2
section
variable {X : Cx} {T : Tab} {W : WX}
theorem call_lenOb {C f : Addr} {fd : FuncData} {k : Nat} {sp : Sp} {σ0 : SV} (F : FnOk X.prog X.w X.K X.mg X.base (L2.CX X.prog X.w) k f fd [("self" : Str)] sp) (hs : PySem.W.findIn X.K (.ref C) "__len__" = some (some (.ref f))) (hf : PySem.W.isFn X.K (.ref f) = true) (hb : Binds X.K fd [("self" : Str)] []) (hr : Room (k + 1) X.A) :
    CallR X (.builtin "len") (fun xs H Q => ∃ a dx fs, xs = [.ref a] ∧ H a = some (.ins C dx fs) ∧ sp [.ref a] H (fun v H2 => ∃ n : Int, v = .int n ∧ 0 ≤ n ∧ n < 2 ^ 63 ∧ Q (.int n) H2) (fun _ _ _ => False)) := by
  intro pins s σ H xs us Q I r h
  obtain ⟨a, dx, fs, rfl, ha, hsp⟩ := h
  rw [Vals.ref1 r]
  obtain ⟨mA, J, _⟩ := ins_get I.hok ha
  obtain ⟨od, J, _⟩ := J.look
  obtain ⟨m, hF⟩ := I.fr
  have l := F.len _ _ _ _ hsp
  refine PySem.W.len_K hF I.ok.mod.kin J hs hf (wpAny_call (codeAny_mono (F.run X.A.in1 X.stack s H ⟨[.ref a], []⟩ [.ref a] [.ref a] _ _ hr.in1 I.env0.in1 (by simpa using hb s [.ref a] I.kIn rfl) (.cons rfl .nil) hsp) fun res s2 z => ?_))
  cases res with
  | error er => exact (never_passes (X := X) pins σ H s er s2 (I.wish _) z).elim
  | ok fl =>
    cases fl with
    | ret u =>
      obtain ⟨v, H2, I2, rv, n, ev, h0, h1, q⟩ := I.after z
      subst ev
      obtain ⟨t, rfl⟩ := rv
      exact ⟨⟨h0, h1⟩, .int n, H2, I2.tok _, ⟨_, rfl⟩, q⟩
    | next => exact False.elim z
    | brk => exact False.elim z
    | cont => exact False.elim z
/-- what may stand on the right -/
def RightOf (K : PySem.W.Frag) (C : Addr) (H : Hp) (y : V) : Prop := (∃ b dy gs, y = .ref b ∧ H b = some (.ins C dy gs)) ∨ (∃ b ys, y = .ref b ∧ SqT K H b ys) ∨ y = .non
theorem op_eqOb {C f : Addr} {fd : FuncData} {k : Nat} {sp : Sp} (F : FnOk X.prog X.w X.K X.mg X.base (L2.CX X.prog X.w) k f fd [("self" : Str), "other"] sp) (hs : PySem.W.findIn X.K (.ref C) "__eq__" = some (some (.ref f))) (hf : PySem.W.isFn X.K (.ref f) = true)
    (hb : Binds X.K fd [("self" : Str), "other"] []) (hr : Room k X.A) (n1 : PySem.W.notFirst X.K C (.type "tuple") = true) (n2 : PySem.W.notFirst X.K C (.type "NoneType") = true) :
    OpR X (compareOp .Eq) (fun x y H Q => ∃ a dx fs, x = .ref a ∧ H a = some (.ins C dx fs) ∧ RightOf X.K C H y ∧ sp [.ref a, y] H (fun v H2 => ∃ b : Bool, v = .bl b ∧ Q (.bl b) H2) (fun _ _ _ => False)) := by
  intro pins s σ H x y v u Q I rx ry h
  obtain ⟨a, dx, fs, rfl, ha, hy, hsp⟩ := h
  obtain rfl : v = Value.ref a := rx
  obtain ⟨mA, J, _⟩ := ins_get I.hok ha
  obtain ⟨od, J, _⟩ := J.look
  obtain ⟨m, hF⟩ := I.fr
  have l := F.len _ _ _ _ hsp
  have ty : ∃ tb, PySem.W.Looks (model X.prog X.w) s.heap (typeOf u) tb ∧ PySem.W.notFirst X.K C tb = true := by
    rcases hy with ⟨b, dy, gs, rfl, hb2⟩ | ⟨b, ys, rfl, hb2⟩ | rfl
    · obtain rfl : u = Value.ref b := ry
      obtain ⟨mB, J2, _⟩ := ins_get I.hok hb2
      obtain ⟨od2, J2, _⟩ := J2.look
      exact ⟨_, J2.type, by simp [PySem.W.notFirst]⟩
    · obtain rfl : u = Value.ref b := ry
      obtain ⟨its, r, ht, hz⟩ := I.tuple hb2
      obtain ⟨o, ho, hc, _⟩ := ht
      exact ⟨.type "tuple", fun A Q E s k z => wpAny_typeOf_ref (k _ _ ho) (by rw [hc]; exact z), n1⟩
    · obtain rfl : u = Value.none := ry
      exact ⟨.type "NoneType", PySem.W.Looks.of_pure rfl, n2⟩
  obtain ⟨tb, t1, t2⟩ := ty
  show wpAny (model X.prog X.w) X.A (richCompare .Eq (.ref a) u) (EP X pins σ Q) X.xe s
  refine PySem.W.cmp_K (op := .Eq) (tb := tb) hr.units0 hF I.ok.mod.kin J t1 t2 hs hf (wpAny_call (codeAny_mono (F.run X.A X.stack s H ⟨[.ref a, u], []⟩ [.ref a, u] [.ref a, y] _ _ hr I.env0 (by simpa using hb s [.ref a, u] I.kIn rfl) (.cons rfl (.cons ry .nil)) hsp) fun res s2 z => ?_))
  cases res with
  | error er => exact (never_passes (X := X) pins σ H s er s2 (I.wish _) z).elim
  | ok fl =>
    cases fl with
    | ret w =>
      obtain ⟨v2, H2, I2, rv, b, ev, q⟩ := I.after z
      subst ev
      obtain rfl : w = Value.bool b := rv
      exact ⟨.bl b, H2, I2, rfl, q⟩
    | next => exact False.elim z
    | brk => exact False.elim z
    | cont => exact False.elim z
/-- x + y, both of the class, by its own __add__ -/
theorem op_addOb {C f : Addr} {fd : FuncData} {k : Nat} {sp : Sp} (F : FnOk X.prog X.w X.K X.mg X.base (L2.CX X.prog X.w) k f fd [("self" : Str), "other"] sp) (hs : PySem.W.findIn X.K (.ref C) "__add__" = some (some (.ref f))) (hf : PySem.W.isFn X.K (.ref f) = true) (sf : PySem.W.selfFirst X.K C = true)
    (hb : Binds X.K fd [("self" : Str), "other"] []) (hr : Room k X.A) :
    OpR X (binaryOp .Add) (fun x y H Q => ∃ a dx fs b dy gs, x = .ref a ∧ H a = some (.ins C dx fs) ∧ y = .ref b ∧ H b = some (.ins C dy gs) ∧ sp [.ref a, .ref b] H (fun v H2 => ∃ z : Addr, v = .ref z ∧ Q (.ref z) H2) (fun _ _ _ => False)) := by
  intro pins s σ H x y v u Q I rx ry h
  obtain ⟨a, dx, fs, b, dy, gs, rfl, ha, rfl, hb2, hsp⟩ := h
  obtain rfl : v = Value.ref a := rx
  obtain rfl : u = Value.ref b := ry
  obtain ⟨mA, J, _⟩ := ins_get I.hok ha
  obtain ⟨od, J, _⟩ := J.look
  obtain ⟨mB, J2, _⟩ := ins_get I.hok hb2
  obtain ⟨od2, J2, _⟩ := J2.look
  obtain ⟨m, hF⟩ := I.fr
  have l := F.len _ _ _ _ hsp
  refine PySem.W.binop_K (op := .Add) hF I.ok.mod.kin J J2.type sf hs hf (wpAny_call (codeAny_mono (F.run X.A X.stack s H ⟨[.ref a, .ref b], []⟩ [.ref a, .ref b] [.ref a, .ref b] _ _ hr I.env0 (by simpa using hb s [.ref a, .ref b] I.kIn rfl) (.cons rfl (.cons rfl .nil)) hsp) fun res s2 z => ?_))
  cases res with
  | error er => exact (never_passes (X := X) pins σ H s er s2 (I.wish _) z).elim
  | ok fl =>
    cases fl with
    | ret w =>
      obtain ⟨v2, H2, I2, rv, t, ev, q⟩ := I.after z
      subst ev
      obtain rfl : w = Value.ref t := rv
      exact ⟨.ref t, H2, I2, rfl, q⟩
    | next => exact False.elim z
    | brk => exact False.elim z
    | cont => exact False.elim z
end
end DL

/-! DLw: len and == where an object of the own class may stand. -/
namespace DL
open PySem PySem.Spec PyProof.Rows L2
/-- a method of the class by what it tells -/
structure MethAt (P : Program) (w : World) (K : PySem.W.Frag) (mg : Str → Option Value) (base : Heap) (T : Tab) (c : Nat) (nm : Str) (ps : List Str) (n k : Nat) (F : Fn) : Prop where
  ex : ∃ (f : Addr) (fd : FuncData), FnOk P w K mg base (L2.CX P w) k f fd ps (spD K T n F) ∧ PySem.W.findIn K (.ref (T.C c)) nm = some (some (.ref f)) ∧ PySem.W.isFn K (.ref f) = true ∧ Binds K fd ps []
/-- it told a number that a len may be -/
def asLen : R D → R D
  | .ok (.int n) st => if 0 ≤ n ∧ n < 9223372036854775808 then .ok (.int n) st else .stuck
  | _ => .stuck
def asBool : R D → R D
  | .ok (.bl b) st => .ok (.bl b) st
  | _ => .stuck
def hLenO (c : Nat) (F : Fn) : List D → S → R D
  | [.ob c' fs], st => if c' = c then asLen (fromN (F [.ob c' fs] st.bx) st) else .stuck
  | xs, st => hLen xs st
def rightD (c : Nat) : D → Bool
  | .ob c' _ => c' == c
  | .tu _ => true
  | .non => true
  | _ => false
def hEqO (c : Nat) (F : Fn) : D → D → S → R D
  | .ob c' fs, y, st => if c' = c ∧ rightD c y = true then asBool (fromN (F [.ob c' fs, y] st.bx) st) else .stuck
  | x, y, st => toD (hEq x y st)
def asOb : R D → R D
  | .ok (.ob c fs) st => .ok (.ob c fs) st
  | _ => .stuck
def hAddO (c : Nat) (F : Fn) : D → D → S → R D
  | .ob c1 f1, y, st => match y with
    | .ob c2 f2 => if c1 = c ∧ c2 = c then asOb (fromN (F [.ob c1 f1, .ob c2 f2] st.bx) st) else .stuck
    | _ => .stuck
  | x, y, st => hAdd x y st
section
variable {X : Cx} {T : Tab} {W : WX}
theorem gok_len {c : Ctx} {G : Hp} {σ : SV} {r : R D} {Q : VK} (h : GOk X.K T W (relD X.K T) c G σ (asLen r) Q) : GOk X.K T W (relD X.K T) c G σ r (fun v H2 => ∃ n : Int, v = .int n ∧ 0 ≤ n ∧ n < 2 ^ 63 ∧ Q (.int n) H2) := by
  cases r with
  | stuck => exact h
  | err e s => exact h.elim
  | ok d s =>
    cases d with
    | int n =>
      replace h : GOk X.K T W (relD X.K T) c G σ (if 0 ≤ n ∧ n < 9223372036854775808 then .ok (.int n) s else .stuck) Q := h
      by_cases z : 0 ≤ n ∧ n < 9223372036854775808
      · rw [if_pos z] at h
        intro G' H' v s1 hd rv
        cases rv
        exact ⟨n, rfl, z.1, by omega, h G' H' _ s1 hd (.int n)⟩
      · rw [if_neg z] at h; exact h.elim
    | _ => exact h.elim
theorem gok_bool {c : Ctx} {G : Hp} {σ : SV} {r : R D} {Q : VK} (h : GOk X.K T W (relD X.K T) c G σ (asBool r) Q) : GOk X.K T W (relD X.K T) c G σ r (fun v H2 => ∃ b : Bool, v = .bl b ∧ Q (.bl b) H2) := by
  cases r with
  | stuck => exact h
  | err e s => exact h.elim
  | ok d s =>
    cases d with
    | bl b =>
      intro G' H' v s1 hd rv
      cases rv
      exact ⟨b, rfl, h G' H' _ s1 hd (.bl b)⟩
    | _ => exact h.elim
theorem de_lenO {c k j : Nat} {F : Fn} {p pos : Pos} {e : Expr} {fa : S → R (List D)} (m : MethAt X.prog X.w X.K X.mg X.base T c "__len__" [("self" : Str)] 1 k F) (hr : Room j X.A) (hj : k + 1 ≤ j) (hg : Gl X "len") (hm : X.mg "len" = none) (ha : DA X T W [e] fa) (he : starEach [e] X.env = (false, eval e X.env) :: starEach [] X.env := by rfl) :
    DE X T W (.Call (.Name "len" p) [e] [] pos) (dCB (hLenO c F) fa) := by
  obtain ⟨f, fd, ok, hs, hf, bn⟩ := m.ex
  refine de_callB ((call_len_seq.or call_len_str).or (call_lenOb (σ0 := []) ok hs hf bn (hr.mono hj))) (fun c0 G H σ st vs ds Q hd r q => ?_) hg hm PySem.boot_len ha (he := he)
  cases r with
  | nil => exact .inl (snd_len c0 G H σ st _ _ Q hd .nil q)
  | cons r1 r =>
    cases r with
    | cons r2 r => cases r1 <;> exact q.elim
    | nil =>
      cases r1 with
      | @ob a dx c' us fs h1 hl rr =>
        replace q : GOk X.K T W (relD X.K T) c0 G σ (if c' = c then asLen (fromN (F [.ob c' fs] st.bx) st) else .stuck) Q := q
        by_cases ec : c' = c
        · rw [if_pos ec] at q
          subst ec
          exact .inr ⟨a, dx, _, rfl, hd.sub _ _ h1, spD_useN hd (.cons (.ob h1 hl rr) .nil) rfl (gok_len q)⟩
        · rw [if_neg ec] at q; exact q.elim
      | non => exact .inl (snd_len c0 G H σ st _ _ Q hd (.cons .non .nil) q)
      | bl b => exact .inl (snd_len c0 G H σ st _ _ Q hd (.cons (.bl b) .nil) q)
      | int i => exact .inl (snd_len c0 G H σ st _ _ Q hd (.cons (.int i) .nil) q)
      | str x => exact .inl (snd_len c0 G H σ st _ _ Q hd (.cons (.str x) .nil) q)
      | ls h r => exact .inl (snd_len c0 G H σ st _ _ Q hd (.cons (.ls h r) .nil) q)
      | tu h r => exact .inl (snd_len c0 G H σ st _ _ Q hd (.cons (.tu h r) .nil) q)
      | ro h => exact .inl (snd_len c0 G H σ st _ _ Q hd (.cons (.ro h) .nil) q)
      | box h => exact .inl (snd_len c0 G H σ st _ _ Q hd (.cons (.box h) .nil) q)
      | er0 h n => exact .inl (snd_len c0 G H σ st _ _ Q hd (.cons (.er0 h n) .nil) q)
      | er1 h n d r => exact .inl (snd_len c0 G H σ st _ _ Q hd (.cons (.er1 h n d r) .nil) q)
theorem snd_eqO {c k j : Nat} {F : Fn} (m : MethAt X.prog X.w X.K X.mg X.base T c "__eq__" [("self" : Str), "other"] 2 k F) (n1 : PySem.W.notFirst X.K (T.C c) (.type "tuple") = true) (n2 : PySem.W.notFirst X.K (T.C c) (.type "NoneType") = true) (hr : Room j X.A) (hj : k ≤ j) (hu : X.A.units + 64 < cLine) :
    ∃ r : R2, OpR X (compareOp .Eq) r ∧ Snd2 X T W r (hEqO c F) := by
  obtain ⟨f, fd, ok, hs, hf, bn⟩ := m.ex
  refine ⟨_, (op_eqD hu).or (op_eqOb ok hs hf bn (hr.mono hj) n1 n2), fun c0 G H σ st x y a b Q hd r1 r2 q => ?_⟩
  cases r1 with
  | @ob p dx c' us fs h1 hl rr =>
    replace q : GOk X.K T W (relD X.K T) c0 G σ (if c' = c ∧ rightD c b = true then asBool (fromN (F [.ob c' fs, b] st.bx) st) else .stuck) Q := q
    by_cases ec : c' = c ∧ rightD c b = true
    · rw [if_pos ec] at q
      obtain ⟨e1, e2⟩ := ec
      subst e1
      refine .inr ⟨p, dx, _, rfl, hd.sub _ _ h1, ?_, spD_useN hd (.cons (.ob h1 hl rr) (.cons r2 .nil)) rfl (gok_bool q)⟩
      cases r2 with
      | @ob p2 dx2 c2 us2 fs2 h2 hl2 rr2 =>
        have : c2 = c' := by simpa [rightD] using e2
        subst this
        exact .inl ⟨p2, dx2, _, rfl, hd.sub _ _ h2⟩
      | @tu p2 xs ds h r => exact .inr (.inl ⟨p2, xs, rfl, Same.sqt hd.sub h⟩)
      | non => exact .inr (.inr rfl)
      | _ => exact absurd e2 (by simp [rightD])
    · rw [if_neg ec] at q; exact q.elim
  | non => exact .inl (snd_eq hu c0 G H σ st _ _ _ _ Q hd .non r2 q)
  | bl k => exact .inl (snd_eq hu c0 G H σ st _ _ _ _ Q hd (.bl k) r2 q)
  | int i => exact .inl (snd_eq hu c0 G H σ st _ _ _ _ Q hd (.int i) r2 q)
  | str z => exact .inl (snd_eq hu c0 G H σ st _ _ _ _ Q hd (.str z) r2 q)
  | ls h r => exact .inl (snd_eq hu c0 G H σ st _ _ _ _ Q hd (.ls h r) r2 q)
  | tu h r => exact .inl (snd_eq hu c0 G H σ st _ _ _ _ Q hd (.tu h r) r2 q)
  | ro h => exact .inl (snd_eq hu c0 G H σ st _ _ _ _ Q hd (.ro h) r2 q)
  | box h => exact .inl (snd_eq hu c0 G H σ st _ _ _ _ Q hd (.box h) r2 q)
  | er0 h n => exact .inl (snd_eq hu c0 G H σ st _ _ _ _ Q hd (.er0 h n) r2 q)
  | er1 h n d r => exact .inl (snd_eq hu c0 G H σ st _ _ _ _ Q hd (.er1 h n d r) r2 q)
theorem de_eqO {c k j : Nat} {F : Fn} {a b : Expr} {fa fb : S → R D} {pos : Pos} (m : MethAt X.prog X.w X.K X.mg X.base T c "__eq__" [("self" : Str), "other"] 2 k F) (n1 : PySem.W.notFirst X.K (T.C c) (.type "tuple") = true) (n2 : PySem.W.notFirst X.K (T.C c) (.type "NoneType") = true) (hr : Room j X.A) (hj : k ≤ j)
    (ha : DE X T W a fa) (hb : DE X T W b fb) : DE X T W (.Compare a [.Eq] [b] pos) (dBin (hEqO c F) fa fb) := by
  obtain ⟨r, o, sd⟩ := snd_eqO (W := W) m n1 n2 hr hj hr.units
  exact impE (pe_cmpR o ha hb (nomark _)) (bin_read (a := a) (b := b) sd)
theorem gok_ob {c : Ctx} {G : Hp} {σ : SV} {r : R D} {Q : VK} (h : GOk X.K T W (relD X.K T) c G σ (asOb r) Q) : GOk X.K T W (relD X.K T) c G σ r (fun v H2 => ∃ z : Addr, v = .ref z ∧ Q (.ref z) H2) := by
  cases r with
  | stuck => exact h
  | err e s => exact h.elim
  | ok d s =>
    cases d with
    | ob k fs =>
      intro G' H' v s1 hd rv
      cases rv with
      | ob h1 hl rr => exact ⟨_, rfl, h G' H' _ s1 hd (.ob h1 hl rr)⟩
    | _ => exact h.elim
theorem de_addO {c k j : Nat} {F : Fn} {a b : Expr} {fa fb : S → R D} {pos : Pos} (m : MethAt X.prog X.w X.K X.mg X.base T c "__add__" [("self" : Str), "other"] 2 k F) (sf : PySem.W.selfFirst X.K (T.C c) = true) (hr : Room j X.A) (hj : k ≤ j)
    (ha : DE X T W a fa) (hb : DE X T W b fb) : DE X T W (.BinOp a .Add b pos) (dBin (hAddO c F) fa fb) := by
  obtain ⟨f, fd, ok, hs, hf, bn⟩ := m.ex
  obtain ⟨r, o, sd⟩ := add_rule (X := X) (T := T) (W := W)
  refine de_bin (o.or (op_addOb ok hs hf sf bn (hr.mono hj))) (fun c0 G H σ st x y a b Q hd r1 r2 q => ?_) ha hb
  cases r1 with
  | @ob p dx c1 us fs h1 hl rr =>
    cases r2 with
    | @ob p2 dx2 c2 us2 fs2 h2 hl2 rr2 =>
      replace q : GOk X.K T W (relD X.K T) c0 G σ (if c1 = c ∧ c2 = c then asOb (fromN (F [.ob c1 fs, .ob c2 fs2] st.bx) st) else .stuck) Q := q
      by_cases ec : c1 = c ∧ c2 = c
      · rw [if_pos ec] at q
        obtain ⟨e1, e2⟩ := ec
        subst e1 e2
        exact .inr ⟨p, dx, _, p2, dx2, _, rfl, hd.sub _ _ h1, rfl, hd.sub _ _ h2, spD_useN hd (.cons (.ob h1 hl rr) (.cons (.ob h2 hl2 rr2) .nil)) rfl (gok_ob q)⟩
      · rw [if_neg ec] at q; exact q.elim
    | _ => exact q.elim
  | non => exact .inl (sd c0 G H σ st _ _ _ _ Q hd .non r2 q)
  | bl k => exact .inl (sd c0 G H σ st _ _ _ _ Q hd (.bl k) r2 q)
  | int i => exact .inl (sd c0 G H σ st _ _ _ _ Q hd (.int i) r2 q)
  | str z => exact .inl (sd c0 G H σ st _ _ _ _ Q hd (.str z) r2 q)
  | ls h r => exact .inl (sd c0 G H σ st _ _ _ _ Q hd (.ls h r) r2 q)
  | tu h r => exact .inl (sd c0 G H σ st _ _ _ _ Q hd (.tu h r) r2 q)
  | ro h => exact .inl (sd c0 G H σ st _ _ _ _ Q hd (.ro h) r2 q)
  | box h => exact .inl (sd c0 G H σ st _ _ _ _ Q hd (.box h) r2 q)
  | er0 h n => exact .inl (sd c0 G H σ st _ _ _ _ Q hd (.er0 h n) r2 q)
  | er1 h n d r => exact .inl (sd c0 G H σ st _ _ _ _ Q hd (.er1 h n d r) r2 q)
end
end DL

/-! DLx: isinstance of an own class that is no error. -/
namespace DL
open PySem PySem.Spec PyProof.Rows L2
structure IsO (K : PySem.W.Frag) (mg : Str → Option Value) (T : Tab) (c : Nat) (x : Str) : Prop where
  g : mg x = some (.ref (T.C c))
  own : PySem.W.kitOne K (.ref (T.C c)) (.ref (T.C c)) = some true
  cls : Cls K (T.C c)
  ha : PySem.W.findIn K (.ref (T.C c)) "__class__" = some (some (.builtin "object.__class__"))
  hn : PySem.W.specialIn K (.builtin "object.__class__") "__get__" = some (some (.builtin "getset_descriptor.__get__"))
  ht : PySem.W.takesIn K (.builtin "object.__class__") = some true
  hm : PySem.W.mroIn K (T.C c) (.type "object") = some true
  kinds : ∀ k, k < 6 → PySem.W.kitOne K (.type (tyName k)) (.ref (T.C c)) = some false
def hIsiO (c : Nat) (d : D) (st : S) : R D := match d with
  | .ob c' _ => if c' = c then .ok (.bl true) st else .stuck
  | d => match kindD d with
    | some _ => .ok (.bl false) st
    | none => .stuck
def dIsiO (c : Nat) (f : S → R D) : S → R D := fun st => (f st).bind fun d st => hIsiO c d st
section
variable {X : Cx} {T : Tab} {W : WX}
theorem isi_no {c : Nat} {x : Str} {c0 : Ctx} {G H : Hp} {σ : SV} {st : S} {v : V} {d : D} {Q : VK} (h : IsO X.K X.mg T c x) (hd : Holds X.K T c0 G H σ st) (r : Rep X.K T c0.B G v d) (nd : ∀ k fs, d ≠ .ob k fs) (ok : GOk X.K T W (relD X.K T) c0 G σ (hIsiO c d st) Q) :
    ∃ (t u : Value) (b : Bool), ClsV (.ref (T.C c)) u ∧ TyX X.K H v t ∧ PySem.W.kitOne X.K t u = some b ∧ Q (.bl b) H := by
  have ok2 : GOk X.K T W (relD X.K T) c0 G σ (match kindD d with | some _ => .ok (.bl false) st | none => .stuck) Q := by
    cases d with
    | ob k fs => exact absurd rfl (nd k fs)
    | _ => exact ok
  cases q : kindD d with
  | none => rw [q] at ok2; exact ok2.elim
  | some k =>
    rw [q] at ok2
    exact ⟨_, _, false, .own _, kindD_ty hd r q, h.kinds k (kindD_lt q), ok2 _ _ _ (Same.refl _) hd (.bl _)⟩
theorem de_isO {c : Nat} {x : Str} {e : Expr} {f : S → R D} {p p2 pos : Pos} (h : IsO X.K X.mg T c x) (hg : Gl X "isinstance") (hm : X.mg "isinstance" = none) (he : DE X T W e f) (hgx : Gl X x := by rfl) (hdb : (x == ("__debug__" : Str)) = false := by decide)
    (h1 : starEach [e, .Name x p2] X.env = (false, eval e X.env) :: starEach [.Name x p2] X.env := by rfl) (h2 : starEach [.Name x p2] X.env = (false, eval (.Name x p2) X.env) :: starEach [] X.env := by rfl) (hpl : (backTo pos (starEach [.Name x p2] X.env)).any (·.1) = false := by rfl) :
    DE X T W (.Call (.Name "isinstance" p) [e, .Name x p2] [] pos) (dIsiO c f) :=
  impE (pe_callB call_isi hg hm boot_isi (pa_cons he (pa_cons (pe_glob (v := .ref (T.C c)) hgx h.g rfl hdb) pa_nil h2) h1) (hpl := hpl) (he := h1)) fun σ H Q ⟨c0, G, st, hd, ok⟩ => by
    obtain ⟨c1, G1, st1, hd1, ok1⟩ := step (rel := relD X.K T) hd ok
    refine ⟨c1, G1, st1, hd1, ok1.imp fun v H1 ⟨G2, st2, d, s2, hd2, r2, ok2⟩ => ?_⟩
    by_cases ob : ∃ k fs, d = .ob k fs
    · obtain ⟨k, fs, rfl⟩ := ob
      cases r2 with
      | @ob a dx c' vs fs h1 hl rr =>
        replace ok2 : GOk X.K T W (relD X.K T) c0 G2 σ (if k = c then .ok (.bl true) st2 else .stuck) Q := ok2
        by_cases ec : k = c
        · rw [if_pos ec] at ok2
          subst ec
          exact ⟨.ref a, .ref (T.C k), .ref (T.C k), _, true, rfl, .own _, .base (.ins (hd2.sub _ _ h1) h.cls h.ha h.hn h.ht h.hm), h.own, ok2 _ _ _ (Same.refl _) hd2 (.bl _)⟩
        · rw [if_neg ec] at ok2; exact ok2.elim
    · obtain ⟨t, u, b, hc, ty, hk, q⟩ := isi_no h hd2 r2 (fun k fs z => ob ⟨k, fs, z⟩) ok2
      exact ⟨v, .ref (T.C c), t, u, b, rfl, hc, ty, hk, q⟩
end
end DL

/-! DLy: != by an own __eq__. -/
namespace DL
open PySem PySem.Spec PyProof.Rows L2
section
variable {M : Model} {prog : Program} {w : World} {A : Around} {E : Value → Shared → Prop} {s : Shared} {K : PySem.W.Frag} {x C f : Addr} {ox : Obj} {od : Option Obj}
theorem ne_bound {args : List Value} {Q : Option Value → Shared → Prop} (X : K.In s.heap) (I : PySem.W.InstAt s.heap x ox C od) (hs : PySem.W.findIn K (.ref C) "__ne__" = some (some (.builtin "object.__ne__")))
    (h : wpAny M A (call (.builtin "object.__ne__") (.ref x :: args)) (fun v => Q (some v)) E s) : wpAny M A (callSpecialIfBound? (.ref x) "__ne__" args) Q E s := by
  have call2 : wpAny M A (call (.builtin "object.__ne__") ([.ref x] ++ args) >>= fun v => pure (some v)) Q E s := wpAny_bind (wpAny_mono h (fun _ _ z => wpAny_pure z) fun _ _ z => z)
  simp only [callSpecialIfBound?, bindSpecialIfBound?]
  refine wpAny_holding (wpAny_bind (wpAny_bind (wpAny_bind (I.type.here ((PySem.W.looks_findIn X hs).here (wpAny_bind (wpAny_askSetting (wpAny_ite ?_))))))))
  split
  · exact wpAny_bind (wpAny_of_eq (F.cmp_object.ne.bind _) (wpAny_pure (by exact call2)))
  · exact wpAny_tryCatch (wpAny_bind (wpAny_of_eq (F.cmp_object.ne.bind _) (wpAny_pure (by exact call2))))
theorem ne_call {b : Value} {Q : Value → Shared → Prop} (hu : A.in1.units < cLine) (X : K.In s.heap) (I : PySem.W.InstAt s.heap x ox C od) (hm : PySem.W.mroIn K C (.type "object") = some true) (hs : PySem.W.findIn K (.ref C) "__eq__" = some (some (.ref f))) (hf : PySem.W.isFn K (.ref f) = true)
    (h : wpAny (model prog w) A.in1 (call (.ref f) [.ref x, b]) (fun v s2 => ∃ r, v = .bool r ∧ Q (.bool (!r)) s2) E s) : wpAny (model prog w) A (call (.builtin "object.__ne__") [.ref x, b]) Q E s := by
  refine wpAny_call (codeAny_call_builtin F.cmp_object.ne.plain F.cmpEntry_ne (PySem.W.check_slot F.cmpKind_ne F.cmpSplit_ne (I.type.andThen (PySem.W.looks_mroIn X hm)) (F.cmpArgs_ne _ _) ?_))
  unfold Builtin.«object.__ne__»
  refine wpAny_bind (wpAny_pure ?_)
  refine wpAny_bind (wpAny_cRoomFor hu ?_)
  refine wpAny_bind (PySem.W.ifBound_K X I hs hf (wpAny_mono h (fun v s2 z => ?_) fun _ _ z => z))
  obtain ⟨r, rfl, z⟩ := z
  exact wpAny_bind (wpAny_truthy_bool (wpAny_pure z))
end
section
variable {X : Cx} {T : Tab} {W : WX}
/-- x != y by x's own __eq__ -/
theorem op_neOb {C f : Addr} {fd : FuncData} {k : Nat} {sp : Sp} (F : FnOk X.prog X.w X.K X.mg X.base (L2.CX X.prog X.w) k f fd [("self" : Str), "other"] sp) (hn : PySem.W.findIn X.K (.ref C) "__ne__" = some (some (.builtin "object.__ne__"))) (hm : PySem.W.mroIn X.K C (.type "object") = some true)
    (hs : PySem.W.findIn X.K (.ref C) "__eq__" = some (some (.ref f))) (hf : PySem.W.isFn X.K (.ref f) = true) (hb : Binds X.K fd [("self" : Str), "other"] []) (hr : Room (k + 1) X.A) (n1 : PySem.W.notFirst X.K C (.type "tuple") = true) (n2 : PySem.W.notFirst X.K C (.type "NoneType") = true) :
    OpR X (compareOp .NotEq) (fun x y H Q => ∃ a dx fs, x = .ref a ∧ H a = some (.ins C dx fs) ∧ RightOf X.K C H y ∧ sp [.ref a, y] H (fun v H2 => ∃ b : Bool, v = .bl b ∧ Q (.bl (!b)) H2) (fun _ _ _ => False)) := by
  intro pins s σ H x y v u Q I rx ry h
  obtain ⟨a, dx, fs, rfl, ha, hy, hsp⟩ := h
  obtain rfl : v = Value.ref a := rx
  obtain ⟨mA, J, _⟩ := ins_get I.hok ha
  obtain ⟨od, J, _⟩ := J.look
  have ty : ∃ tb, PySem.W.Looks (model X.prog X.w) s.heap (typeOf u) tb ∧ PySem.W.notFirst X.K C tb = true := by
    rcases hy with ⟨b, dy, gs, rfl, hb2⟩ | ⟨b, ys, rfl, hb2⟩ | rfl
    · obtain rfl : u = Value.ref b := ry
      obtain ⟨mB, J2, _⟩ := ins_get I.hok hb2
      obtain ⟨od2, J2, _⟩ := J2.look
      exact ⟨_, J2.type, by simp [PySem.W.notFirst]⟩
    · obtain rfl : u = Value.ref b := ry
      obtain ⟨its, r, ht, hz⟩ := I.tuple hb2
      obtain ⟨o, ho, hc, _⟩ := ht
      exact ⟨.type "tuple", fun A Q E s k z => wpAny_typeOf_ref (k _ _ ho) (by rw [hc]; exact z), n1⟩
    · obtain rfl : u = Value.none := ry
      exact ⟨.type "NoneType", PySem.W.Looks.of_pure rfl, n2⟩
  obtain ⟨tb, t1, t2⟩ := ty
  have l := F.len _ _ _ _ hsp
  have one : wpAny (model X.prog X.w) X.A (tryCompare (.ref a) "__ne__" u) (fun r s2 => ∃ w, r = some w ∧ EP X pins σ Q w s2) X.xe s := by
    unfold tryCompare
    refine wpAny_bind (ne_bound I.kIn J hn (ne_call (hr.in1.units0) I.kIn J hm hs hf (wpAny_call (codeAny_mono (F.run X.A.in1 X.stack s H ⟨[.ref a, u], []⟩ [.ref a, u] [.ref a, y] _ _ hr.in1 I.env0.in1 (by simpa using hb s [.ref a, u] I.kIn rfl) (.cons rfl (.cons ry .nil)) hsp) fun res s2 z => ?_))))
    cases res with
    | error er => exact (never_passes (X := X) pins σ H s er s2 (I.wish _) z).elim
    | ok fl =>
      cases fl with
      | ret w =>
        obtain ⟨v2, H2, I2, rv, b, ev, q⟩ := I.after z
        subst ev
        obtain rfl : w = Value.bool b := rv
        exact ⟨b, rfl, wpAny_pure ⟨_, rfl, .bl (!b), H2, I2, rfl, q⟩⟩
      | next => exact False.elim z
      | brk => exact False.elim z
      | cont => exact False.elim z
  show wpAny (model X.prog X.w) X.A (richCompare .NotEq (.ref a) u) (EP X pins σ Q) X.xe s
  unfold richCompare
  simp only [oneThing_ref]
  refine wpAny_holding (wpAny_bind (wpAny_cRoomFor (Nat.lt_of_le_of_lt (Nat.le_add_right _ _) hr.units) ?_))
  refine wpAny_bind (J.type.here (wpAny_bind (t1.here ?_)))
  split
  · rename_i q
    have e : PySem.W.subIn X.K tb (.ref C) = some false := by
      rcases Bool.or_eq_true_iff.mp t2 with e | e
      · rw [beq_iff_eq.mp e] at q; simp at q
      · exact beq_iff_eq.mp e
    refine wpAny_bind ((PySem.W.looks_subIn I.kIn e).here ?_)
    simp only [Bool.false_eq_true, if_false]
    refine wpAny_bind (wpAny_mono one (fun r s2 z => ?_) fun _ _ z => z)
    obtain ⟨w, rfl, z⟩ := z
    exact wpAny_pure z
  · refine wpAny_bind (wpAny_pure ?_)
    simp only [Bool.false_eq_true, if_false]
    refine wpAny_bind (wpAny_mono one (fun r s2 z => ?_) fun _ _ z => z)
    obtain ⟨w, rfl, z⟩ := z
    exact wpAny_pure z
end
end DL

/-! DLza: try with two suites that keep the error, each for its own class. -/
namespace DL
open PySem PySem.Spec PyProof.Rows L2
section
variable {X : Cx} {x n y z : Str} {c u : Value} {C0 : Addr} {i j : Nat} {body suite suite2 : List Stmt} {st0 st1 : Stmt} {np p1 p2 np2 p3 : Pos} {tb : WX → TS} {ts ts2 : Addr → Value → Option Addr → TS} {Wo : WX}
abbrev landsAll (X : Cx) (pins : List (Addr × Obj)) (D : Ends) (hs : List ExceptHandler) : Value → Shared → Prop := fun e sA =>
  wpAny (model X.prog X.w) X.A (noteFrame e X.env)
    (fun _ sB => wpAny (model X.prog X.w) X.A (setFlight e none)
      (fun _ sC => wpAny (model X.prog X.w) X.A (handleBy e X.env hs) (SP X pins D) X.xe sC) X.xe sB) X.xe sA
theorem ps_keep2 (stk : X.stack = X.env :: X.outer) (fr : X.env.frame = some X.env.locals) (hex : X.ex = []) (nd : X.N.Nodup) (hi : X.N[i]? = some n) (hl : X.env.kindOf n = some .local) (hc : Names X x c)
    (hj : X.N[j]? = some y) (hl2 : X.env.kindOf y = some .local) (hc2 : Names X z u) (tk : Takes X Wo)
    (hb : ∀ (W : WX) (pn : List (Addr × Obj)) (xe : Value → Shared → Prop), Takes (X.tr pn xe) W → PassesOwn (model X.prog X.w) X.A X.env xe → PSs (X.tr pn xe) body (tb W))
    (hk : ∀ (q : Addr) (oe : Obj) (cls : Value) (d : Option Addr) (pn : List (Addr × Obj)), Zc cls d oe → (∃ vs, oe.data = .fields vs) → PSs (X.suite q ((q, oe) :: pn)) (st0 :: suite) (ts q cls d))
    (hk2 : ∀ (q : Addr) (oe : Obj) (cls : Value) (d : Option Addr) (pn : List (Addr × Obj)), Zc cls d oe → (∃ vs, oe.data = .fields vs) → PSs (X.suite q ((q, oe) :: pn)) (st1 :: suite2) (ts2 q cls d)) :
    PS X (.Try body [.ExceptHandler (some (.Name x np)) (some n) (st0 :: suite) p2, .ExceptHandler (some (.Name z np2)) (some y) (st1 :: suite2) p3] [] [] p1)
      (fun D σ H => tb (wKeep X.K c i ts (wKeep X.K u j ts2 Wo D) D) D σ H) := by
  refine ⟨fun pins s σ H D I h => wpAny_Try_except ?_⟩
  have ok := I.ok
  have frA : X.A.frames = some (X.env :: X.outer) := by rw [ok.frames, stk]
  refine wpAny_mono ((hb (wKeep X.K c i ts (wKeep X.K u j ts2 Wo D) D) (X.pn ++ pins)
      (landsAll X pins D [.ExceptHandler (some (.Name x np)) (some n) (st0 :: suite) p2, .ExceptHandler (some (.Name z np2)) (some y) (st1 :: suite2) p3]) (fun v s2 err => ?_) PassesOwn.looking).run [] s σ H D (I.toTry _) h) (fun f s2 z => ?_) (fun _ _ z => z)
  · obtain ⟨q, B, sI, pn2, σ2, H2, cls, d, rfl, Jt, nb, up, sky, na, os, ag, C, yes, rfl, ey, hno, hyes⟩ := err
    have J : Inv X pins σ2 H2 sI := Jt.ofTry ok
    replace sky : Sky B (X.env :: X.outer) q (Zc (.ref C) d) X.env.locals s2.heap := by rw [← stk]; exact sky
    show wpAny (model X.prog X.w) X.A (noteFrame (.ref q) X.env) _ _ _
    refine Sky.land Zc.steady frA fr sky fun hA flA upA => ?_
    have JA : Inv X pins σ2 H2 { s2 with heap := hA } := J.landed nb flA.1 (up.trans upA) os ag
    obtain ⟨oA, vA, gA, zA, dA⟩ := flA.there
    have nf := no_frame flA.2.2.1 gA dA
    have nL : q ≠ X.env.locals := fun z => nf (List.mem_filterMap.mpr ⟨X.env, List.mem_cons_self, by rw [fr, z]⟩)
    have nF : q ∉ X.fs := fun hm => by
      obtain ⟨en, he, z⟩ := List.mem_filterMap.mp hm
      exact nf (List.mem_filterMap.mpr ⟨en, List.mem_cons_of_mem _ he, z⟩)
    have new : sI.heap.get? q = none := by
      cases z : sI.heap.get? q with
      | none => rfl
      | some o =>
        have z2 := nb q o z (by rw [stk]; exact nf)
        rw [flA.2.1] at z2; cases z2
    have SA := JA.suite gA dA na nL nF
    -- one handler; what is behind it
    have one : ∀ {x n : Str} {c : Value} {i : Nat} {st0 : Stmt} {suite : List Stmt} {np p2 : Pos} {ts : Addr → Value → Option Addr → TS} {Wn : WX} {yes : Bool} {rest : List ExceptHandler},
        X.N[i]? = some n → X.env.kindOf n = some .local → Names X x c →
        (∀ (q : Addr) (oe : Obj) (cls : Value) (d : Option Addr) (pn : List (Addr × Obj)), Zc cls d oe → (∃ vs, oe.data = .fields vs) → PSs (X.suite q ((q, oe) :: pn)) (st0 :: suite) (ts q cls d)) →
        PySem.W.exmOne X.K (.ref C) c = some yes →
        (yes = true → ∀ q, H2 q = none → ts q (.ref C) d { nx := fun σ1 H1 => D.nx (σ1.set i none) (upd H1 q (exV q C d)), rt := fun _ _ => False, bk := fun _ _ => False, ct := fun _ _ => False } (σ2.set i (some (.ref q))) H2) →
        (yes = false → wpAny (model X.prog X.w) X.A (handleBy (.ref q) X.env rest) (SP X pins D) X.xe { s2 with heap := hA }) →
        wpAny (model X.prog X.w) X.A (handleBy (.ref q) X.env (.ExceptHandler (some (.Name x np)) (some n) (st0 :: suite) p2 :: rest)) (SP X pins D) X.xe { s2 with heap := hA } := by
      intro x n c i st0 suite np p2 ts Wn yes rest hi hl hc hk ey hyes hrest
      have lo : Loc X.env.scope n := .inl hl
      refine wpAny_handleBy_cons (codeAny_handlers_test ?_) (by intro z; cases z)
      have ty : PySem.W.Looks (model X.prog X.w) hA (typeOf (.ref q)) (.ref C) := fun A Q E s k z => wpAny_typeOf_ref (k _ _ gA) (by rw [zA.1]; exact z)
      have mt := PySem.W.exm_one (M := model X.prog X.w) JA.kIn ty ey
      have named : ∀ {Q : Value → Shared → Prop} {E : Value → Shared → Prop}, Q c { s2 with heap := hA } → wpAny (model X.prog X.w) (X.A.mark (some (.ref q))) (eval (.Name x np) X.env) Q E { s2 with heap := hA } := fun {Q E} z => by
        obtain ⟨hg, hdb, hm | ⟨hm, hv, hnn⟩⟩ := hc
        · exact ld_glob (X := X.suite q ((q, oA) :: (X.pn ++ pins))) SA hg hm z hdb
        · exact ld_blt (X := X.suite q ((q, oA) :: (X.pn ++ pins))) SA hg hm hv z hnn hdb
      refine named (mt.here ?_)
      cases yes with
      | true =>
        refine codeAny_handlers_suite_as (HandSPX.lands_againZ flA fun hB flB upB => ?_)
        have JB : Inv X pins σ2 H2 { s2 with heap := hB } := J.landed nb flB.1 ((up.trans upA).trans upB) os ag
        obtain ⟨oB, vB, gB, zB, dB⟩ := flB.there
        refine store_ok (X := X.suite q ((q, oB) :: (X.pn ++ pins))) (v := .ref q) (JB.suite gB dB na nL nF) nd hi lo rfl (fun s5 S5 => ?_) (.inr hl)
        refine wpAny_mono ((hk q oB (.ref C) d (X.pn ++ pins) zB ⟨_, dB⟩).run [] s5 _ H2 _ S5 (hyes rfl q na)) (fun f s6 z => ?_) (fun _ _ z => False.elim z)
        cases f with
        | next =>
          obtain ⟨σ6, H6, S6, z⟩ := z
          exact kept ⟨_, _, J⟩ hex new S6 ok zB dB nd hi hl fun s7 J7 => ⟨_, _, J7, z⟩
        | brk => obtain ⟨_, _, _, z⟩ := z; exact z.elim
        | cont => obtain ⟨_, _, _, z⟩ := z; exact z.elim
        | ret u => obtain ⟨_, _, _, _, _, z⟩ := z; exact z.elim
      | false => exact hrest rfl
    refine one (Wn := Wo) hi hl hc hk ey hyes fun no => ?_
    obtain ⟨C', yes2, e2, ey2, hno2, hyes2⟩ := hno no
    cases e2
    refine one (Wn := Wo) hj hl2 hc2 hk2 ey2 hyes2 fun no2 => ?_
    refine wpAny_handleBy_nil ?_
    obtain ⟨_, _, _, oe, vs, tb1, _, _, g1, _, d1, at1, _⟩ := id flA
    unfold PySem.passOn
    refine wpAny_bind (wpAny_field g1 d1 at1 ?_)
    rw [if_neg (show ¬ ((Value.ref tb1 == Value.none) = true) from by simp)]
    have onward : wpAny (model X.prog X.w) X.A (setFlight (.ref q) X.env.frame) (fun _ s4 => wpAny (model X.prog X.w) X.A (throw (.ref q) : Sem Flow) (SP X pins D) X.xe s4) X.xe { s2 with heap := hA } := by
      rw [fr]
      exact HandSPX.setFlight_upZ flA fun hC heldC upC => wpAny_throw (tk _ _ ⟨q, B, sI, pins, σ2, H2, .ref C, d, rfl, J, nb, (up.trans upA).trans upC, .inr (.inr (by rw [stk]; exact heldC)), na, os, ag, hno2 no2⟩)
    first
      | exact wpAny_bind (wpAny_pure (wpAny_bind onward))
      | exact wpAny_bind onward
  · cases f with
    | next => obtain ⟨σ2, H2, J, z⟩ := z; exact wpAny_execs_nil ⟨σ2, H2, J.ofTry ok, z⟩
    | brk => obtain ⟨σ2, H2, J, z⟩ := z; exact ⟨σ2, H2, J.ofTry ok, z⟩
    | cont => obtain ⟨σ2, H2, J, z⟩ := z; exact ⟨σ2, H2, J.ofTry ok, z⟩
    | ret u => obtain ⟨v, σ2, H2, J, r, z⟩ := z; exact ⟨v, σ2, H2, J.ofTry ok, r, z⟩
end
section
variable {X : Cx} {T : Tab} {W : WX}
/-- one suite's wish, from what is wished of the whole: said of the error as data -/
theorem keep_wish {K : PySem.W.Frag} {c : Ctx} {G G1 H1 : Hp} {σ1 : SV} {st1 : S} {e : Er} {d : Option Addr} {u : Value} {m iy iN : Nat} {tbl : Nat → Bool} {E : Ends} {Wo : WX}
    (xt : XTab K T m u tbl) (ne : iy ≠ iN) (lt : e.c < m ∧ iN < st1.env.length) (s1 : Same G G1) (hd1 : Holds K T c G1 H1 σ1 st1) (er : ErrAt K T c.B G1 H1 e (.ref (T.C e.c)) d)
    (hno : tbl e.c = false → Wo (.ref (T.C e.c)) d σ1 H1)
    (hyes : tbl e.c = true → ∀ G' H' σ', Same G G' → Holds K T c G' H' σ' ((st1.put iy (.val (.er e.c e.fs))).put iN .un) → E.nx σ' H') :
    wKeep K u iN (fun _ _ _ => tAsg (tVar iN) (gName iy)) Wo E (.ref (T.C e.c)) d σ1 H1 := by
  refine ⟨_, tbl e.c, rfl, xt.t _ lt.1, hno, fun yes q hq => ?_⟩
  have gn := hd1.gnone hq
  obtain ⟨_, rp⟩ := rep_of_err (c := c) er gn
  have hd2 := hd1.lay (exV q (T.C e.c) d) hq
  have hd3 := (hd2.putVal rp iy).putUn iN none
  have li : iN < σ1.length := by rw [hd1.len]; exact lt.2
  refine ⟨.ref q, List.getElem?_set_self li, ?_⟩
  show E.nx (((σ1.set iN (some (.ref q))).set iy (some (.ref q))).set iN none) _
  rw [List.set_comm _ _ (Ne.symm ne), List.set_set]
  exact hyes yes _ _ _ (s1.trans (same_upd gn)) hd3
theorem ds_keep2At {x n y x2 n2 y2 : Str} {m iy iN iy2 iN2 : Nat} {tbl tbl2 : Nat → Bool} {body : List Stmt} {f : S → R Out} {np p1 p2 py pn p3 np2 q2 py2 pn2 q3 : Pos}
    (h : XAt X.K X.mg T m x tbl) (h2 : XAt X.K X.mg T m x2 tbl2) (stk : X.stack = X.env :: X.outer) (fr : X.env.frame = some X.env.locals) (hex : X.ex = []) (nd : X.N.Nodup)
    (hi : X.N[iN]? = some n) (hl : X.env.kindOf n = some .local) (hi2 : X.N[iN2]? = some n2) (hl2 : X.env.kindOf n2 = some .local) (tk : Takes X W)
    (hb : ∀ (W : WX) (pn : List (Addr × Obj)) (xe : Value → Shared → Prop), Takes (X.tr pn xe) W → PassesOwn (model X.prog X.w) X.A X.env xe → DSs (X.tr pn xe) T W body f)
    (hiy : X.N[iy]? = some y) (hly : Loc X.env.scope y) (ne : iy ≠ iN) (hv : Vis X.env.scope n)
    (hiy2 : X.N[iy2]? = some y2) (hly2 : Loc X.env.scope y2) (ne2 : iy2 ≠ iN2) (hv2 : Vis X.env.scope n2)
    (hg : Gl X x := by rfl) (hdb : (x == ("__debug__" : Str)) = false := by decide) (hg2 : Gl X x2 := by rfl) (hdb2 : (x2 == ("__debug__" : Str)) = false := by decide)
    (hd : (n == ("__debug__" : Str)) = false := by decide) (hcd : (n == ("__classdict__" : Str)) = false := by decide) (hd2 : (n2 == ("__debug__" : Str)) = false := by decide) (hcd2 : (n2 == ("__classdict__" : Str)) = false := by decide)
    (hsw : swapsWith (.Name n pn) (some (.Name y py)) p3.line X.env = pure false := by rfl) (hf : X.fn y = true ∨ X.env.scope.names.lookup y = some .local := by first | exact .inl rfl | exact .inr rfl | assumption)
    (hsw2 : swapsWith (.Name n2 pn2) (some (.Name y2 py2)) q3.line X.env = pure false := by rfl) (hf2 : X.fn y2 = true ∨ X.env.scope.names.lookup y2 = some .local := by first | exact .inl rfl | exact .inr rfl | assumption) :
    DS X T W (.Try body [.ExceptHandler (some (.Name x np)) (some n) [.Assign [.Name y py] (.Name n pn) p3] p2, .ExceptHandler (some (.Name x2 np2)) (some n2) [.Assign [.Name y2 py2] (.Name n2 pn2) q3] q2] [] [] p1)
      (dTry tbl2 m iy2 iN2 (dTry tbl m iy iN f)) := by
  obtain ⟨a, ga, ta⟩ := h.ex
  obtain ⟨b, gb, t2⟩ := h2.ex
  refine impS (ps_keep2 (c := .ref a) (u := .ref b) (i := iN) (j := iN2) (Wo := W) (tb := fun W => tD X.K T W f) (ts := fun _ _ _ => tAsg (tVar iN) (gName iy)) (ts2 := fun _ _ _ => tAsg (tVar iN2) (gName iy2)) stk fr hex nd hi hl ⟨hg, hdb, .inl ga⟩ hi2 hl2 ⟨hg2, hdb2, .inl gb⟩ tk hb
    (fun q oe cls d pn _ _ => pss_one (ps_set (X := X.suite q ((q, oe) :: pn)) nd hiy hly (pe_var (X := X.suite q ((q, oe) :: pn)) hi hv hd hcd) hsw hf))
    (fun q oe cls d pn _ _ => pss_one (ps_set (X := X.suite q ((q, oe) :: pn)) nd hiy2 hly2 (pe_var (X := X.suite q ((q, oe) :: pn)) hi2 hv2 hd2 hcd2) hsw2 hf2))) fun E σ H ⟨c, G, st, h, ok⟩ => ⟨c, G, st, h, ?_⟩
  have e2 : dTry tbl2 m iy2 iN2 (dTry tbl m iy iN f) st = match dTry tbl m iy iN f st with
    | .err e st1 => if e.c < m ∧ iN2 < st1.env.length then (if tbl2 e.c = true then .ok .nx ((st1.put iy2 (.val (.er e.c e.fs))).put iN2 .un) else .err e st1) else .stuck
    | .ok o st1 => .ok o st1
    | .stuck => .stuck := rfl
  rw [e2] at ok
  have e1 : dTry tbl m iy iN f st = match f st with
    | .err e st1 => if e.c < m ∧ iN < st1.env.length then (if tbl e.c = true then .ok .nx ((st1.put iy (.val (.er e.c e.fs))).put iN .un) else .err e st1) else .stuck
    | .ok o st1 => .ok o st1
    | .stuck => .stuck := rfl
  rw [e1] at ok
  cases z : f st with
  | stuck => rw [z] at ok; exact ok
  | ok o st1 => rw [z] at ok; cases o <;> exact ok
  | err e st1 =>
    rw [z] at ok
    dsimp only at ok
    intro G1 H1 σ1 cls d s1 hd1 er
    by_cases lt : e.c < m ∧ iN < st1.env.length
    · rw [if_pos lt] at ok
      obtain ⟨ec, rest⟩ := id er
      subst ec
      refine keep_wish ta ne lt s1 hd1 er (fun no => ?_) (fun yes => ?_)
      · rw [no, if_neg Bool.false_ne_true] at ok
        dsimp only at ok
        by_cases lt2 : e.c < m ∧ iN2 < st1.env.length
        · rw [if_pos lt2] at ok
          refine keep_wish t2 ne2 lt2 s1 hd1 er (fun no2 => ?_) (fun yes2 => ?_)
          · rw [no2, if_neg Bool.false_ne_true] at ok
            exact ok G1 H1 σ1 _ d s1 hd1 er
          · rw [yes2, if_pos rfl] at ok
            exact fun G' H' σ' s' h' => ok _ _ _ s' h'
        · rw [if_neg lt2] at ok; exact ok.elim
      · rw [yes, if_pos rfl] at ok
        exact fun G' H' σ' s' h' => ok _ _ _ s' h'
    · rw [if_neg lt] at ok
      exact ok.elim
end
end DL

/-! DLzb: sorted(texts), of a list or a tuple; len(set(texts)), of a tuple. -/
namespace DL
open PySem PySem.Spec PyProof.Rows L2
/-! ### in order by code points -/
def leS (a b : Str) : Bool := !ltCps b.cps.toList a.cps.toList
def insS (x : Str) : List Str → List Str
  | [] => [x]
  | y :: ys => if leS x y = true then x :: y :: ys else y :: insS x ys
def sortS : List Str → List Str
  | [] => []
  | x :: xs => insS x (sortS xs)
theorem leS_iff (a b : Str) : leS a b = true ↔ a.cps.toList ≤ b.cps.toList := by
  unfold leS
  rw [ltCps_eq, Bool.not_eq_true', decide_eq_false_iff_not, List.not_lt]
theorem leS_total (a b : Str) : leS a b = true ∨ leS b a = true := by
  rw [leS_iff, leS_iff]; exact List.le_total ..
theorem leS_trans {a b c : Str} (h : leS a b = true) (k : leS b c = true) : leS a c = true := by
  rw [leS_iff] at *; exact List.le_trans h k
theorem leS_anti {a b : Str} (h : leS a b = true) (k : leS b a = true) : a = b := by
  rw [leS_iff] at *
  have e := List.le_antisymm h k
  cases a; cases b
  simpa using congrArg List.toArray e
theorem leS_refl (a : Str) : leS a a = true := (leS_total a a).elim id id
theorem insS_perm (x : Str) : ∀ ys, (insS x ys).Perm (x :: ys)
  | [] => .refl _
  | y :: ys => by
    unfold insS
    split
    · exact .refl _
    · exact ((insS_perm x ys).cons y).trans (.swap x y ys)
theorem sortS_perm : ∀ xs, (sortS xs).Perm xs
  | [] => .refl _
  | x :: xs => (insS_perm x _).trans ((sortS_perm xs).cons x)
def RiseS (xs : List Str) : Prop := xs.Pairwise fun a b => leS a b = true
theorem insS_rise (x : Str) : ∀ {ys}, RiseS ys → RiseS (insS x ys)
  | [], _ => List.pairwise_singleton _ _
  | y :: ys, h => by
    obtain ⟨h1, h2⟩ := List.pairwise_cons.mp h
    unfold insS
    split
    · rename_i q
      exact List.pairwise_cons.mpr ⟨fun z hz => by
        rcases List.mem_cons.mp hz with e | e
        · rw [e]; exact q
        · exact leS_trans q (h1 z e), h⟩
    · rename_i q
      refine List.pairwise_cons.mpr ⟨fun z hz => ?_, insS_rise x h2⟩
      rcases List.mem_cons.mp ((insS_perm x ys).mem_iff.mp hz) with e | e
      · rw [e]; exact (leS_total x y).elim (fun r => absurd r q) id
      · exact h1 z e
theorem sortS_rise : ∀ xs, RiseS (sortS xs)
  | [] => .nil
  | x :: xs => insS_rise x (sortS_rise xs)
theorem rise_unique : ∀ {xs ys : List Str}, xs.Perm ys → RiseS xs → RiseS ys → xs = ys
  | [], ys, p, _, _ => (List.Perm.nil_eq p)
  | x :: xs, [], p, _, _ => (List.Perm.eq_nil p)
  | x :: xs, y :: ys, p, h, k => by
    obtain ⟨h1, h2⟩ := List.pairwise_cons.mp h
    obtain ⟨k1, k2⟩ := List.pairwise_cons.mp k
    have e : x = y := by
      have a : leS x y = true := by
        rcases List.mem_cons.mp (p.mem_iff.mpr (List.mem_cons_self (a := y) (l := ys))) with e | e
        · rw [e]; exact leS_refl _
        · exact h1 y e
      have b : leS y x = true := by
        rcases List.mem_cons.mp (p.mem_iff.mp (List.mem_cons_self (a := x) (l := xs))) with e | e
        · rw [e]; exact leS_refl _
        · exact k1 x e
      exact leS_anti a b
    subst e
    rw [rise_unique (List.Perm.cons_inv p) h2 k2]
theorem rising_pair : ∀ {xs : List Str} {p : Str}, risingS p xs = true → RiseS (p :: xs)
  | [], p, _ => List.pairwise_singleton _ _
  | x :: xs, p, h => by
    obtain ⟨h1, h2⟩ := Bool.and_eq_true_iff.mp (show (leS p x && risingS x xs) = true from h)
    have r := rising_pair h2
    refine List.pairwise_cons.mpr ⟨fun z hz => ?_, r⟩
    rcases List.mem_cons.mp hz with e | e
    · rw [e]; exact h1
    · exact leS_trans h1 ((List.pairwise_cons.mp r).1 z e)
theorem rise_of : ∀ {xs : List Str}, sortedS xs = true → RiseS xs
  | [], _ => .nil
  | _ :: _, h => rising_pair h
theorem sortS_is {xs ys : List Str} (p : ys.Perm xs) (h : sortedS ys = true) : ys = sortS xs := rise_unique (p.trans (sortS_perm xs).symm) (rise_of h) (sortS_rise xs)

/-! ### sorted(t) of a tuple of texts -/
section
variable {P : Program} {w : World} {A : Around} {E : Value → Shared → Prop} {s : Shared}
theorem call_sortTS {l : Addr} {items : Array Value} {xs : List Str} {Q : Value → Shared → Prop} (hl : s.heap.IsTuple l items) (hS : StrsAre items.toList xs) (h64 : items.toList.length < 64)
    (h : ∀ (h' : Heap) (p : Addr) (out : Array Value) (k : Nat) (ys : List Str), (∀ b o, s.heap.get? b = some o → h'.get? b = some o) → s.heap.get? p = none → h'.get? p = some (seqObj "list" out k) → StrsAre out.toList ys → ys.Perm xs → sortedS ys = true → Q (.ref p) { s with heap := h' }) :
    wpAny (model P w) A (call (.builtin "sorted") [.ref l]) Q E s := by
  obtain ⟨o, ho, hc, n, hd⟩ := hl
  refine Calls.call_function_entry kind_sorted plain_sorted entry_sorted (args_sorted1 _) (show wpAny _ _ (Builtin.«sorted» _) _ _ _ from ?_)
  unfold Builtin.«sorted»
  refine wpAny_bind (m := checkCount "sorted" 1 1 _) (wpAny_pure (wpAny_bind (wpAny_collect_seq l (.inr rfl) ho hc hd (fun h1 k1 => ?_) ?_)))
  · refine wpAny_bind (wpAny_newList ?_ (by rw [sizeLine_eq]; omega))
    have here : (h1.push (seqObj "list" items.toList.toArray 0)).get? h1.objs.size = some (seqObj "list" items.toList.toArray 0) := Heap.get?_push_size _ rfl
    have up : s.heap.get? h1.objs.size = none := by
      cases e : s.heap.get? h1.objs.size with
      | none => rfl
      | some u => exact absurd (Heap.lt_size (k1 _ _ e)) (Nat.lt_irrefl _)
    refine wpAny_bind (wpAny_holding (wpAny_call_entry slot_list_sort ⟨_, here, rfl⟩ entry_list_sort
      (list_sort_treeK strKind_oneLt here hS.keysOf (fun v1 v2 rest e => keyKind_strs (show StrsAre (v1 :: v2 :: rest) xs by rw [← e]; exact hS)) h64 fun st' a1 a2 => ⟨_, rfl, ?_⟩) (args_list_sort _)))
    obtain ⟨ys, y1, y2, y3⟩ := sorted_out_str hS a1 a2
    obtain ⟨k, hk⟩ := sortedHeap_at (vs := items.toList) (out := (arrOf st').map (·.2)) here
    refine wpAny_pure ⟨_, rfl, h _ _ _ k ys (fun b u e => ?_) up hk y1 y2 y3⟩
    have lt := Heap.lt_size (k1 b u e)
    rw [sortedHeap_old (Nat.ne_of_lt lt) (by rw [size_push']; exact Nat.lt_succ_of_lt lt)]
    exact Heap.get?_push_of_some _ (k1 b u e)
  · rw [sizeLine_eq]
    rw [Array.length_toList] at h64
    omega
end
section
variable {X : Cx} {T : Tab} {W : WX}
theorem objOk_there {P : Program} {w : World} {H : Hp} {h : Heap} {a : Addr} {o : HO} (x : ObjOk P w H h a o) : ∃ u, h.get? a = some u := by
  induction o with
  | lst xs => obtain ⟨_, _, _, _, e⟩ := x; exact ⟨_, e⟩
  | tup xs => obtain ⟨_, _, _, _, e, _⟩ := x; exact ⟨_, e⟩
  | dK kvs => obtain ⟨_, _, _, _, _, _, _, e, _⟩ := x; exact ⟨_, e⟩
  | dT kvs => obtain ⟨_, _, _, _, _, _, _, e, _⟩ := x; exact ⟨_, e⟩
  | set S n => obtain ⟨_, _, _, _, e, _⟩ := x; exact ⟨_, e⟩
  | ins C dx fs => obtain ⟨_, _, _, e, _⟩ := x; exact ⟨_, e⟩
  | own y => obtain ⟨_, e⟩ := x; exact ⟨_, e⟩
  | xd fs => obtain ⟨_, ⟨_, _, _, e, _⟩, _⟩ := x; exact ⟨_, e⟩
  | rng lo hi => obtain ⟨_, _, _, e⟩ := x; exact ⟨_, e⟩
  | frz ob u ih => obtain ⟨e, _⟩ := x; exact ⟨_, e⟩
  | tbl ps => exact ⟨_, x⟩
  | met f y => exact ⟨_, x⟩
  | ext φ => obtain ⟨_, e, _⟩ := x; exact e
/-- a new object where nothing lives -/
theorem inv_laid {pins : List (Addr × Obj)} {σ : L2.St} {H : Hp} {s : Shared} {h' : Heap} {a : Addr} {o : HO} {t' : Nat} (I : Inv X pins σ H s) (k : ∀ b u, s.heap.get? b = some u → h'.get? b = some u) (hf : s.heap.get? a = none)
    (new : ObjOk X.prog X.w (upd H a o) h' a o) : H a = none ∧ Inv X pins σ (upd H a o) { s with heap := h', toks := t' } := by
  have hn : H a = none := by
    cases q : H a with
    | none => rfl
    | some u =>
      obtain ⟨v, z⟩ := objOk_there (I.hok a u q)
      rw [hf] at z; cases z
  refine ⟨hn, I.un (H' := upd H a o) ⟨fun b u q _ _ _ => k b u q, fun b u q _ _ _ => ⟨u.slots, k b u q⟩, fun b u q n _ => ?_, fun b u q _ => ⟨u, k b u q⟩, fun b xs q => by rw [upd_ne (ne_of_none q hn)]; exact q,
    fun b u xs q => by rw [upd_ne (ne_of_none q hn)]; exact q, fun b ps q => ⟨#[], by rw [upd_ne (ne_of_none q hn), q]; simp⟩⟩ fun b u e => ?_⟩
  · rw [upd_ne (fun z => by subst z; rw [hf] at q; cases q)]; exact n
  · by_cases hb : b = a
    · subst hb; rw [upd_same] at e; cases e; exact new
    · rw [upd_ne hb] at e
      exact (I.hok b u e).stay (fun c v _ q => k c v q) (fun c q => by rw [upd_ne (ne_of_none q hn)]; exact q) fun c xs q => by rw [upd_ne (ne_of_none q hn)]; exact q
def rSortTS (K : PySem.W.Frag) : List V → Hp → VK → Prop := fun vs H Q => ∃ (a : Addr) (xs : List Str), vs = [V.ref a] ∧ (SqL K H a (xs.map V.str) ∨ SqT K H a (xs.map V.str)) ∧ xs.length < 64 ∧
  ∀ p : Addr, H p = none → Q (.ref p) (upd H p (.lst ((sortS xs).map V.str)))
theorem strs_of_vals : ∀ {ys : List Str} {us : List Value}, StrsAre us ys → Vals (ys.map V.str) us
  | _, _, .nil => .nil
  | _, _, .cons _ t r => .cons ⟨t, rfl⟩ (strs_of_vals r)
theorem cr_sortTS : CallR X (.builtin "sorted") (rSortTS X.K) := by
  intro pins s σ H vs us Q I r h
  obtain ⟨a, xs, e, hs, h64, q⟩ := h
  rcases hs with hs | hs
  · exact cr_sortedS pins s σ H vs us Q I r ⟨a, xs, e, hs, h64, fun ys p pm sd hn => by rw [sortS_is pm sd]; exact q p hn⟩
  · subst e
    obtain ⟨its, rv, ht, _⟩ := I.tuple hs
    rw [Vals.ref1 r]
    have len : its.length = xs.length := by rw [← rv.length, List.length_map]
    refine call_sortTS ht (by simpa using rv.strs) (by simpa [len] using h64) fun h' p out k ys keep lp hp y1 y2 y3 => ?_
    have few : (ys.map V.str).length ≤ sizeLine := by rw [List.length_map, y2.length_eq, sizeLine_eq]; omega
    obtain ⟨hn, J⟩ := inv_laid (o := .lst (ys.map V.str)) (t' := s.toks) I keep lp ⟨few, out.toList, k, strs_of_vals y1, by simpa using hp⟩
    refine ⟨.ref p, upd H p (.lst (ys.map V.str)), J, rfl, ?_⟩
    rw [sortS_is y2 y3]
    exact q p hn
def hSorted : List D → S → R (List D)
  | [.ls ds], st => match strsD ds with
    | some xs => if xs.length < 64 then .ok ((sortS xs).map .str) st else .stuck
    | none => .stuck
  | [.tu ds], st => match strsD ds with
    | some xs => if xs.length < 64 then .ok ((sortS xs).map .str) st else .stuck
    | none => .stuck
  | _, _ => .stuck
theorem boot_sorted' : bootBuiltins "sorted" = some (.builtin "sorted") := by decide +kernel
theorem df_sorted {p pos : Pos} {e : Expr} {fa : S → R (List D)} (hg : Gl X "sorted") (hm : X.mg "sorted" = none) (ha : DA X T W [e] fa) (he : starEach [e] X.env = (false, eval e X.env) :: starEach [] X.env := by rfl) :
    DF X T W (.Call (.Name "sorted" p) [e] [] pos) (dCBF hSorted fa) := by
  refine impE (pe_callB cr_sortTS hg hm boot_sorted' ha (he := he)) fun σ H Q ⟨c, G, st, hd, ok⟩ => ?_
  obtain ⟨c0, G0, st0, hd0, ok0⟩ := step (rel := relA X.K T) hd ok
  refine ⟨c0, G0, st0, hd0, ok0.imp fun vs H1 ⟨G1, st1, a, s1, hd1, r, ok1⟩ => ?_⟩
  have key : ∀ {p : Addr} {vs : List V} {ds : List D}, (SqL X.K H1 p vs ∨ SqT X.K H1 p vs) → Reps X.K T c.B G1 vs ds →
      GOk X.K T W (relF X.K T) c G1 σ (match strsD ds with | some xs => if xs.length < 64 then .ok ((sortS xs).map .str) st1 else .stuck | none => .stuck) Q → rSortTS X.K [.ref p] H1 Q := fun {p vs ds} hs r ok1 => by
    cases z : strsD ds with
    | none => rw [z] at ok1; exact ok1.elim
    | some xs =>
      rw [z] at ok1
      dsimp only at ok1
      have ev := reps_strs r z
      subst ev
      by_cases q : xs.length < 64
      · rw [if_pos q] at ok1
        refine ⟨p, xs, rfl, hs, q, fun l hl => ?_⟩
        obtain ⟨h4, r4⟩ := hd1.fresh hl (Reps.strs (sortS xs))
        exact ok1 _ _ _ (Same.refl _) h4 r4
      · rw [if_neg q] at ok1; exact ok1.elim
  cases r with
  | nil => exact ok1.elim
  | cons r1 r =>
    cases r with
    | cons _ _ => cases r1 <;> exact ok1.elim
    | nil =>
      cases r1 with
      | @ls p vs ds h r => exact key (.inl (SqL.of (hd1.sub _ _ h))) r ok1
      | @tu p vs ds h r => exact key (.inr (Same.sqt hd1.sub h)) r ok1
      | _ => exact ok1.elim
end
end DL

/-! DLzc: len(set(t)), t a tuple of texts. -/
namespace DL
open PySem PySem.Spec PyProof.Rows L2
/-- the texts without repetition, in the order in which they are met -/
def metS (acc : List Str) (x : Str) : List Str := if acc.any (· == x) = true then acc else acc ++ [x]
def unlike (xs : List Str) : List Str := xs.foldl metS []
theorem unlike_snoc (xs : List Str) (x : Str) : unlike (xs ++ [x]) = metS (unlike xs) x := by unfold unlike; rw [List.foldl_append]; rfl
theorem metS_any (acc : List Str) (x k : Str) : (metS acc x).any (· == k) = (acc.any (· == k) || decide (k = x)) := by
  unfold metS
  split
  · rename_i q
    by_cases e : k = x
    · subst e; rw [q]; rfl
    · rw [decide_eq_false e, Bool.or_false]
  · rw [List.any_append]
    congr 1
    rw [List.any_cons, List.any_nil, Bool.or_false]
    by_cases e : k = x
    · subst e; simp
    · rw [decide_eq_false e]; exact beq_eq_false_iff_ne.mpr fun z => e z.symm
theorem metS_len (acc : List Str) (x : Str) : (metS acc x).length = if acc.any (· == x) = true then acc.length else acc.length + 1 := by
  unfold metS; split <;> simp
theorem unlike_le : ∀ n (xs : List Str), xs.length = n → (unlike xs).length ≤ n
  | 0, xs, h => by rw [List.length_eq_zero_iff.mp h]; exact Nat.le_refl _
  | n + 1, xs, h => by
    have ne : xs ≠ [] := fun e => by rw [e] at h; cases h
    have e := List.dropLast_concat_getLast ne
    have l := unlike_le n xs.dropLast (by rw [List.length_dropLast, h]; rfl)
    rw [← e, unlike_snoc, metS_len]
    split <;> omega
section
variable {P : Program} {w : World} {A : Around} {E : Value → Shared → Prop} {s : Shared}
abbrev HasS (P : Program) (w : World) (h : Heap) (p : Addr) (xs : List Str) : Prop := h.SetOf (strKind P w) p (fun k => (unlike xs).any (· == k)) (unlike xs).length
theorem HasS.keep {h h' : Heap} {p : Addr} {xs : List Str} (x : HasS P w h p xs) (k : ∀ o, h.get? p = some o → h'.get? p = some o) : HasS P w h' p xs := by
  obtain ⟨o, es, ep, t, ho, r⟩ := x
  exact ⟨o, es, ep, t, k o ho, r⟩
theorem set_turns {I : Addr} {fp wr : List Addr} {Gn : Array GenState → Array GenState → Prop} {n : Nat} {Pv : Nat → Value → Prop} {St : Nat → Shared → Prop} {R : Result → Shared → Prop}
    (V : WalksS P w A.in1 I fp wr Gn n Pv St) (p : Addr) (np : p ∉ fp) (xs : List Str) (hn : n = xs.length) (hb : n + 1 < scanBound) (hv : ∀ i v, Pv i v → ∃ x t, xs[i]? = some x ∧ v = .str x t) :
    ∀ (m i : Nat) (s : Shared), n - i = m → i ≤ n → St i s → HasS P w s.heap p (xs.take i) → (∀ s', Moved (p :: wr) Gn s s' → HasS P w s'.heap p xs → R (.ok (.ret .none)) s') →
      codeAny (model P w) A (.builtin "set.update.loop" ⟨[.ref p, .ref I], []⟩) R s := by
  have pw : p ∉ wr := fun h => np (V.sub _ h)
  have up : ∀ b ∈ wr, b ∈ p :: wr := fun b h => List.mem_cons_of_mem _ h
  intro m
  induction m with
  | zero =>
    intro i s e le st hs hR
    have e2 : i = n := by omega
    subst e2
    refine codeAny_builtin F.entry_set_update_loop (by
      rw [Around.under_plainId F.plain_set_update_loop _]
      show wpAny _ A.in1 (pyNext (.ref I) >>= _) _ _ s
      refine wpAny_bind (V.done s _ _ st fun s' mv => (show wpAny _ A.in1 (ret Value.none) _ _ s' from wpAny_pure (hR s' (mv.mono up) ?_)))
      rw [List.take_of_length_le (by omega)] at hs
      exact hs.keep fun o q => mv.heap p o pw q)
  | succ m ih =>
    intro i s e le st hs hR
    have lt : i < n := by omega
    refine codeAny_builtin F.entry_set_update_loop (by
      rw [Around.under_plainId F.plain_set_update_loop _]
      show wpAny _ A.in1 (pyNext (.ref I) >>= _) _ _ s
      refine wpAny_bind (V.item i s _ _ lt st fun v s' pv st2 mv => ?_)
      obtain ⟨x, t, hx, rfl⟩ := hv i v pv
      have hs2 : HasS P w s'.heap p (xs.take i) := hs.keep fun o q => mv.heap p o pw q
      show wpAny _ A.in1 (holding [Value.str x t] (setAdd p (.str x t)) >>= _) _ _ s'
      refine wpAny_bind (wpAny_holding (by
        unfold setAdd
        refine wpAny_holding (wpAny_bind ((strKind P w).pyHash (k := x) (strKind_is _ _ _ _) ?_))
        have few := unlike_le _ (xs.take i) rfl
        rw [List.length_take] at few
        refine wpAny_setAddHashed_of (knd := strKind P w) (s := { s' with toks := s'.toks + 1 }) (strKind_is _ _ _ _) rfl hs2 (by omega) fun h' but hs3 => ?_
        have tk : xs.take (i + 1) = xs.take i ++ [x] := by rw [List.take_add_one, hx]; rfl
        have hs4 : HasS P w h' p (xs.take (i + 1)) := SetOf_congr hs3 (fun k => by rw [tk, unlike_snoc, metS_any]) (by rw [tk, unlike_snoc, metS_len])
        refine wpAny_pure ⟨plainId_quiet F.plain_set_update_loop _, ih (i + 1) _ (by omega) lt (V.frame _ s' _ _ st2 (Nat.le_succ _) fun b hb o q => ?_) hs4 fun s2 mv2 hs5 => ?_⟩
        · rw [but.2 b fun z => np (z ▸ hb)]; exact q
        · refine hR s2 (Moved.trans V.gtrans ((mv.mono up).then_heap (Nat.le_succ _) fun b o hb q => ?_) mv2) hs5
          rw [but.2 b fun z => hb (z ▸ List.mem_cons_self)]; exact q)))
end
end DL
namespace DL
open PySem PySem.Spec PyProof.Rows L2
theorem strs_nth : ∀ {us : List Value} {xs : List Str}, StrsAre us xs → ∀ (i : Nat) (v : Value), us[i]? = some v → ∃ x t, xs[i]? = some x ∧ v = .str x t
  | _, _, .nil, i, v, h => by simp at h
  | _, _, .cons n t hr, 0, v, h => ⟨n, t, rfl, (Option.some.inj (by simpa using h)).symm⟩
  | _, _, .cons n t hr, i + 1, v, h => by
    obtain ⟨x, t', a, b⟩ := strs_nth hr i v (by simpa using h)
    exact ⟨x, t', by simpa using a, b⟩
abbrev bareSet (led : Bool) : Obj := { cls := .type "set", dict := none, data := .set #[] 0 (.fresh 0 0 led) }
section
variable {P : Program} {w : World} {A : Around} {E : Value → Shared → Prop} {s : Shared}
set_option maxHeartbeats 3200000 in
theorem call_setTS {l : Addr} {items : Array Value} {xs : List Str} {Q : Value → Shared → Prop} (hh : A.handled = none) (hl : s.heap.IsTuple l items) (hi : StrsAre items.toList xs) (hb : items.size + 1 < scanBound)
    (h : ∀ (h' : Heap) (tk : Nat), HasS P w h' s.heap.objs.size xs → (∀ b o, s.heap.get? b = some o → h'.get? b = some o) → Q (.ref s.heap.objs.size) { s with heap := h', toks := tk }) :
    wpAny (model P w) A (call (.type "set") [.ref l]) Q E s := by
  obtain ⟨cM, tlM, hmro⟩ := F.called_set.mro
  have hmade := F.called_set.made
  have hsub := F.called_set.sub
  have h1 := F.called_set.notType
  have h2 := F.called_set.canCreate
  have hct := F.typeCall_set_1 (.ref l)
  refine wpAny_call (codeAny_of_tree (show wpAny _ _ (callAny (.type "set") _) _ _ _ from wpAny_pure ⟨Code.quiet_builtin _ (by decide +kernel), codeAny_builtin F.entry_type_call ?_⟩))
  rw [Around.under_plain (weight_type_call_type "set" [.ref l] []) rfl]
  repeat (any_goals (first | assumption | wp_step))
  refine codeAny_mono (code_set_new_1 (.ref l) (E := E) (Q₁ := fun ob s1 => ∃ led, ob = .ref s.heap.objs.size ∧ s1 = { s with heap := s.heap.push (bareSet led) }) fun led => ⟨led, rfl, rfl⟩) fun r s1 hr => ?_
  cases r with
  | error e => exact hr
  | ok fl =>
    cases fl with
    | ret ob =>
      obtain ⟨led, rfl, rfl⟩ := hr
      have at0 : (s.heap.push (bareSet led)).get? s.heap.objs.size = some (bareSet led) := Heap.get?_push_size _ rfl
      have hT : Shared.TypeIs { s with heap := s.heap.push (bareSet led) } (.ref s.heap.objs.size) "set" := ⟨_, at0, rfl⟩
      have hli := F.called_set.init.lookup
      have hbi := F.called_set.init.bind (.ref s.heap.objs.size)
      repeat (any_goals (first | assumption | wp_step))
      refine codeAny_mono (codeAny_call_builtin (R := wants (fun r s2 => r = .none ∧ ∃ h' tk, s2 = { s with heap := h', toks := tk } ∧ HasS P w h' s.heap.objs.size xs ∧ (∀ b o, s.heap.get? b = some o → h'.get? b = some o)) E)
        F.called_set.init.plain F.entry_set_init (check_set_init_1 hT ?_)) fun r2 s2 hr2 => ?_
      · obtain ⟨⟨ocls, odict, odata, oslots⟩, hol, hcl, nl, hdl⟩ := hl
        simp only at hcl hdl
        subst hcl; subst hdl
        have hol' : (s.heap.push (bareSet led)).get? l = some { cls := .type "tuple", dict := odict, data := .seq items nl, slots := oslots } := Heap.get?_push_of_some _ hol
        have hsls := F.sub_tuple_set
        have hslf := F.sub_tuple_frozenset
        have hne : (Value.type "tuple" == Value.type "dict") = false := by decide
        have hl1 : (s.heap.push (bareSet led)).IsTuple l items := ⟨_, hol', rfl, nl, rfl⟩
        unfold Builtin.«set.__init__» noKeywords Builtin.Frozenset.updateFrom
        generalize hPI : pyIter = PI
        wp_walk
        subst hPI
        have lt : l < s.heap.objs.size := Heap.lt_size hol
        have sz : (s.heap.push (bareSet led)).objs.size = s.heap.objs.size + 1 := Heap.size_push ..
        refine wpAny_pyIter_tuple hl1 (wpAny_bind (wpAny_runValue ?_))
        have ne1 : l ≠ (s.heap.push (bareSet led)).objs.size := by rw [sz]; exact Nat.ne_of_lt (Nat.lt_succ_of_lt lt)
        have out : s.heap.objs.size ∉ [(s.heap.push (bareSet led)).objs.size, l] := by
          rw [sz]
          intro m
          rcases List.mem_cons.mp m with e | m
          · exact absurd e (Nat.ne_of_lt (Nat.lt_succ_self _))
          · exact absurd (List.mem_singleton.mp m) (Nat.ne_of_gt lt)
        refine set_turns ((Walks.tuple (show A.in1.in1.in1.handled = none by simp [hh]) _ l ne1 items).toS) s.heap.objs.size out xs (by rw [← Array.length_toList, StrsAre.len_eq hi]) hb
          (fun i v hv => strs_nth hi i v (by rw [Array.getElem?_toList]; exact hv)) (items.size - 0) 0 _ (by omega) (Nat.zero_le _) ⟨⟨_, Heap.get?_push_size _ rfl, rfl, rfl⟩, (hl1.push _)⟩ ?S0 ?Rr
        case S0 =>
          exact SetOf_congr ((setObjOf_fresh (knd := strKind P w) led).setOf (Heap.get?_push_of_some _ at0) (by unfold scanBound; omega)) (fun _ => rfl) rfl
        case Rr =>
          intro s3 mv hs3
          obtain ⟨h3, g3, d3, tk3, os3⟩ := s3
          obtain rfl : g3 = s.gens := mv.gens
          obtain rfl : d3 = s.drawn := mv.drawn
          obtain rfl : os3 = s.os := mv.os
          refine (show wpAny _ _ _ _ _ _ from wpAny_pure (show wpAny _ _ (ret Value.none) _ _ _ from wpAny_pure ⟨rfl, h3, tk3, rfl, hs3, fun b o e => ?_⟩))
          have hb0 : b < s.heap.objs.size := Heap.lt_size e
          refine mv.heap b o (fun m => ?_) (Heap.get?_push_of_some _ (Heap.get?_push_of_some _ e))
          rcases List.mem_cons.mp m with e1 | m
          · exact absurd e1 (Nat.ne_of_lt hb0)
          · have := List.mem_singleton.mp m
            rw [sz] at this
            exact absurd this (Nat.ne_of_lt (Nat.lt_succ_of_lt hb0))
      · cases r2 with
        | error e => exact hr2
        | ok fl2 =>
          cases fl2 with
          | ret r =>
            obtain ⟨rfl, h', tk, rfl, hs', hk'⟩ := hr2
            repeat (any_goals (first | assumption | wp_step))
            exact h _ _ hs' hk'
          | _ => exact hr2.elim
    | _ => exact hr.elim
end
section
variable {X : Cx} {T : Tab} {W : WX}
def tLenSetTS (K : PySem.W.Frag) (ta : TE) : TE := fun σ H Q => ta σ H fun x H1 => ∃ (l : Addr) (xs : List Str), x = V.ref l ∧ SqT K H1 l (xs.map V.str) ∧ xs.length < 1000 ∧ Q (.int ((unlike xs).length : Nat)) H1
theorem pe_lenSetTS {a : Expr} {ta : TE} {p p2 q pos : Pos} (hc : X.calm = true) (hg : Gl X "len") (hm : X.mg "len" = none) (hg2 : Gl X "set") (hm2 : X.mg "set" = none) (ha : PE X a ta)
    (na : starEach [a] X.env = (false, eval a X.env) :: starEach [] X.env := by rfl) : PE X (.Call (.Name "len" p) [.Call (.Name "set" p2) [a] [] q] [] pos) (tLenSetTS X.K ta) := by
  refine ⟨fun pins s σ H Q I h => Call_ (ld_blt I hg hm boot_len (callWith_builtin1 (args_cons ?_ rfl) rfl rfl))⟩
  refine Call_ (ld_blt I hg2 hm2 boot_set (callWith_type1 (args_cons (thn (ha.run pins s σ H _ I h) fun v s1 ⟨x, H1, I1, r1, q1⟩ => args_nil ?_) na) na rfl))
  obtain ⟨l, xs, rfl, hq, few, q1⟩ := q1
  cases r1
  obtain ⟨its, r, pl, hz⟩ := I1.tuple hq
  have hl : its.toArray.size = xs.length := by rw [List.size_toArray, ← r.length, List.length_map]
  refine call_setTS (I1.ok.hd hc) pl (by simpa using r.strs) (by rw [hl]; unfold scanBound; omega) fun h' tk hS hk => args_nil ?_
  obtain ⟨o, es, ep, t, ho, hex, hd, _, _, _, hf, hn⟩ := hS
  have I2 : Inv X pins σ H1 { s1 with heap := h', toks := tk } := I1.kept hk
  have small := unlike_le _ xs rfl
  exact call_len_set ho hex hd hf (by rw [hn]; omega) ⟨.int ((unlike xs).length : Nat), H1, I2.tok _, ⟨_, by rw [hn]⟩, q1⟩
def hLenSet : D → S → R D
  | .tu ds, st => match strsD ds with
    | some xs => if xs.length < 1000 then .ok (.int ((unlike xs).length : Nat)) st else .stuck
    | none => .stuck
  | _, _ => .stuck
theorem de_lenSet {a : Expr} {f : S → R D} {p p2 q pos : Pos} (hc : X.calm = true) (hg : Gl X "len") (hm : X.mg "len" = none) (hg2 : Gl X "set") (hm2 : X.mg "set" = none) (ha : DE X T W a f)
    (na : starEach [a] X.env = (false, eval a X.env) :: starEach [] X.env := by rfl) : DE X T W (.Call (.Name "len" p) [.Call (.Name "set" p2) [a] [] q] [] pos) (dUn hLenSet f) := by
  refine impE (pe_lenSetTS hc hg hm hg2 hm2 ha na) fun σ H Q ⟨c, G, st, hd, ok⟩ => ?_
  obtain ⟨c0, G0, st0, hd0, ok0⟩ := step (rel := relD X.K T) hd ok
  refine ⟨c0, G0, st0, hd0, ok0.imp fun x H1 ⟨G1, st1, d, s1, hd1, r, ok1⟩ => ?_⟩
  cases r with
  | @tu p vs ds h r =>
    replace ok1 : GOk X.K T W (relD X.K T) c G1 σ (match strsD ds with | some xs => if xs.length < 1000 then .ok (.int ((unlike xs).length : Nat)) st1 else .stuck | none => .stuck) Q := ok1
    cases z : strsD ds with
    | none => rw [z] at ok1; exact ok1.elim
    | some xs =>
      rw [z] at ok1
      dsimp only at ok1
      have ev := reps_strs r z
      subst ev
      by_cases q : xs.length < 1000
      · rw [if_pos q] at ok1
        exact ⟨p, xs, rfl, Same.sqt hd1.sub h, q, ok1 _ _ _ (Same.refl _) hd1 (.int _)⟩
      · rw [if_neg q] at ok1; exact ok1.elim
  | _ => exact ok1.elim
end
end DL

/-! DLzd: in, where a list or a tuple stands on the left and flat items on the right: never. -/
namespace DL
open PySem PySem.Spec PyProof.Rows L2
theorem eqAt_flat_list {A : Around} {s : Shared} {y : V} {u : Value} {l : Addr} {items : Array Value} (r : RelV y u) (f : flatV y = true) (hl : s.heap.IsList l items) (hu : A.units < cLine) : SeqAt.EqAt A s u (.ref l) false := by
  cases y with
  | non => cases r; exact SeqAt.EqAt.none_list hl hu
  | bl b => cases r; exact SeqAt.EqAt.bool_list b hl hu
  | int i => obtain ⟨t, rfl⟩ := r; exact SeqAt.EqAt.int_list i t hl hu
  | str z => obtain ⟨t, rfl⟩ := r; exact SeqAt.EqAt.str_list z t hl hu
  | _ => exact absurd (show false = true from f) Bool.false_ne_true
theorem eqAt_flat_tup {A : Around} {s : Shared} {y : V} {u : Value} {l : Addr} {items : Array Value} (r : RelV y u) (f : flatV y = true) (hl : s.heap.IsTuple l items) (hu : A.units < cLine) : SeqAt.EqAt A s u (.ref l) false := by
  cases y with
  | non => cases r; exact SeqAt.EqAt.none_tuple hl hu
  | bl b => cases r; exact SeqAt.EqAt.bool_tuple b hl hu
  | int i => obtain ⟨t, rfl⟩ := r; exact SeqAt.EqAt.int_tuple i t hl hu
  | str z => obtain ⟨t, rfl⟩ := r; exact SeqAt.EqAt.str_tuple z t hl hu
  | _ => exact absurd (show false = true from f) Bool.false_ne_true
theorem all_unlike {A : Around} {s : Shared} {v : Value} (one : ∀ {y : V} {u : Value}, RelV y u → flatV y = true → SeqAt.EqAt A s u v false) : ∀ {xs : List V} {us : List Value}, Vals xs us → xs.all flatV = true → ∀ u ∈ us, SeqAt.EqAt A s u v false
  | _, _, .nil, _ => fun u hu => by cases hu
  | y :: xs, u :: us, .cons r t, f => fun u' hu => by
    rw [List.all_cons, Bool.and_eq_true] at f
    rcases List.mem_cons.mp hu with e | e
    · subst e; exact one r f.1
    · exact all_unlike one t f.2 u' e
def rInRef (K : PySem.W.Frag) (neg : Bool) : R2 := fun x y H Q => ∃ a ys p xs, x = V.ref a ∧ (SqL K H a ys ∨ SqT K H a ys) ∧ y = V.ref p ∧ (SqL K H p xs ∨ SqT K H p xs) ∧ xs.all flatV = true ∧ Q (.bl neg) H
section
variable {X : Cx} {T : Tab} {W : WX}
theorem unlike_ref {A : Around} {pins : List (Addr × Obj)} {σ : L2.St} {H : Hp} {s : Shared} {a : Addr} {ys xs : List V} {us : List Value} (hu : A.units < cLine) (I : Inv X pins σ H s) (h : SqL X.K H a ys ∨ SqT X.K H a ys) (r : Vals xs us) (f : xs.all flatV = true) :
    ∀ w ∈ us.toArray, SeqAt.EqAt A s w (.ref a) false := fun w hw => by
  have hw' : w ∈ us := by simpa using hw
  rcases h with h | h
  · obtain ⟨_, _, pl, _⟩ := I.list h
    exact all_unlike (fun r f => eqAt_flat_list r f pl.isList hu) r f w hw'
  · obtain ⟨_, _, pl, _⟩ := I.tuple h
    exact all_unlike (fun r f => eqAt_flat_tup r f pl hu) r f w hw'
theorem any_none {us : Array Value} : us.any (fun _ => false) = false := by simp
theorem op_inRef (hu : X.A.in1.units < cLine) : OpR X (compareOp .In) (rInRef X.K false) := by
  intro pins s σ H x y v u Q I rx ry h
  obtain ⟨a, ys, p, xs, rfl, ha, rfl, hp, f, q⟩ := h
  cases rx; cases ry
  rcases hp with hp | hp
  · obtain ⟨us, r, pl, _⟩ := I.list hp
    exact SeqAt.in_listAt (fun _ => false) pl.isList (unlike_ref hu I ha r f) ⟨.bl _, H, I, rfl, by rw [any_none]; exact q⟩
  · obtain ⟨us, r, pl, _⟩ := I.tuple hp
    exact SeqAt.in_tupleAt (fun _ => false) pl (unlike_ref hu I ha r f) ⟨.bl _, H, I, rfl, by rw [any_none]; exact q⟩
theorem op_notInRef (hu : X.A.in1.units < cLine) : OpR X (compareOp .NotIn) (rInRef X.K true) := by
  intro pins s σ H x y v u Q I rx ry h
  obtain ⟨a, ys, p, xs, rfl, ha, rfl, hp, f, q⟩ := h
  cases rx; cases ry
  rcases hp with hp | hp
  · obtain ⟨us, r, pl, _⟩ := I.list hp
    exact SeqAt.notIn_listAt (fun _ => false) pl.isList (unlike_ref hu I ha r f) ⟨.bl _, H, I, rfl, by rw [any_none]; exact q⟩
  · obtain ⟨us, r, pl, _⟩ := I.tuple hp
    exact SeqAt.notIn_tupleAt (fun _ => false) pl (unlike_ref hu I ha r f) ⟨.bl _, H, I, rfl, by rw [any_none]; exact q⟩
def itemsD : D → Option (List D)
  | .ls ds => some ds
  | .tu ds => some ds
  | _ => none
def hInR (a b : D) (st : S) : R Bool := match itemsD a, itemsD b with
  | some _, some ds => if (flatDs ds).isSome = true then .ok false st else .stuck
  | _, _ => hIn a b st
def hNotInR (a b : D) (st : S) : R Bool := match itemsD a, itemsD b with
  | some _, some ds => if (flatDs ds).isSome = true then .ok true st else .stuck
  | _, _ => hNotIn a b st
theorem items_sq {c : Ctx} {G H : Hp} {σ : SV} {st : S} (hd : Holds X.K T c G H σ st) {v : V} {d : D} {ds : List D} (r : Rep X.K T c.B G v d) (e : itemsD d = some ds) : ∃ a vs, v = .ref a ∧ (SqL X.K H a vs ∨ SqT X.K H a vs) ∧ Reps X.K T c.B G vs ds := by
  cases r with
  | ls h r => cases e; exact ⟨_, _, rfl, .inl (SqL.of (hd.sub _ _ h)), r⟩
  | tu h r => cases e; exact ⟨_, _, rfl, .inr (Same.sqt hd.sub h), r⟩
  | _ => cases e
theorem ref_use {c : Ctx} {G H : Hp} {σ : SV} {st : S} {x y : V} {a b : D} {as bs : List D} {neg k : Bool} {Q : VK} (hk : neg = k) (hd : Holds X.K T c G H σ st) (r1 : Rep X.K T c.B G x a) (r2 : Rep X.K T c.B G y b) (e1 : itemsD a = some as) (e2 : itemsD b = some bs)
    (ok : GOk X.K T W (relD X.K T) c G σ (toD (if (flatDs bs).isSome = true then .ok k st else .stuck)) Q) : rInRef X.K neg x y H Q := by
  subst hk
  obtain ⟨p, vs, rfl, hp, _⟩ := items_sq hd r1 e1
  obtain ⟨q, ws, rfl, hq, rw⟩ := items_sq hd r2 e2
  cases z : flatDs bs with
  | none => rw [z] at ok; exact ok.elim
  | some fs =>
    rw [z] at ok
    obtain ⟨rfl, f⟩ := flatDs_rep rw z
    exact ⟨p, vs, q, ws, rfl, hp, rfl, hq, f, ok _ _ _ (Same.refl _) hd (.bl _)⟩
theorem snd_inR : Snd2 X T W (fun x y H Q => (rIn X.K false x y H Q ∨ ∃ i j, x = .str i ∧ y = .str j ∧ Q (.bl (!(Builtin.Str.occurrences j i 0 j.length 1).isEmpty)) H) ∨ rInRef X.K false x y H Q) fun a b st => toD (hInR a b st) := fun c G H σ st x y a b Q hd r1 r2 ok => by
  have plain : (hInR a b st = hIn a b st) ∨ ∃ as bs, itemsD a = some as ∧ itemsD b = some bs ∧ hInR a b st = if (flatDs bs).isSome = true then .ok false st else .stuck := by
    unfold hInR
    cases itemsD a <;> cases itemsD b <;> first | exact .inl rfl | exact .inr ⟨_, _, rfl, rfl, rfl⟩
  rcases plain with e | ⟨as, bs, e1, e2, e⟩
  · exact .inl (snd_in c G H σ st x y a b Q hd r1 r2 (by dsimp only at ok; rw [e] at ok; exact ok))
  · exact .inr (ref_use rfl hd r1 r2 e1 e2 (by dsimp only at ok; rw [e] at ok; exact ok))
theorem snd_notInR : Snd2 X T W (fun x y H Q => (rIn X.K true x y H Q ∨ ∃ i j, x = .str i ∧ y = .str j ∧ Q (.bl (!(!(Builtin.Str.occurrences j i 0 j.length 1).isEmpty))) H) ∨ rInRef X.K true x y H Q) fun a b st => toD (hNotInR a b st) := fun c G H σ st x y a b Q hd r1 r2 ok => by
  have plain : (hNotInR a b st = hNotIn a b st) ∨ ∃ as bs, itemsD a = some as ∧ itemsD b = some bs ∧ hNotInR a b st = if (flatDs bs).isSome = true then .ok true st else .stuck := by
    unfold hNotInR
    cases itemsD a <;> cases itemsD b <;> first | exact .inl rfl | exact .inr ⟨_, _, rfl, rfl, rfl⟩
  rcases plain with e | ⟨as, bs, e1, e2, e⟩
  · exact .inl (snd_notIn c G H σ st x y a b Q hd r1 r2 (by dsimp only at ok; rw [e] at ok; exact ok))
  · exact .inr (ref_use rfl hd r1 r2 e1 e2 (by dsimp only at ok; rw [e] at ok; exact ok))
variable {a b : Expr} {fa fb : S → R D} {pos : Pos}
theorem in1_few (hu : X.A.units + 64 < cLine) : X.A.in1.units < cLine := by
  show X.A.in1.units < cLine
  have : X.A.in1.units ≤ X.A.units + 1 := by unfold Around.in1; first | exact Nat.le_refl _ | (simp [Around.units]; done) | (simp [Around.units]; omega)
  omega
theorem op_inB (hu : X.A.units + 64 < cLine) : OpR X (compareOp .In) (fun x y H Q => (rIn X.K false x y H Q ∨ ∃ i j, x = .str i ∧ y = .str j ∧ Q (.bl (!(Builtin.Str.occurrences j i 0 j.length 1).isEmpty)) H) ∨ rInRef X.K false x y H Q) := (op_in_seq.or op_in_str).or (op_inRef (in1_few hu))
theorem op_notInB (hu : X.A.units + 64 < cLine) : OpR X (compareOp .NotIn) (fun x y H Q => (rIn X.K true x y H Q ∨ ∃ i j, x = .str i ∧ y = .str j ∧ Q (.bl (!(!(Builtin.Str.occurrences j i 0 j.length 1).isEmpty))) H) ∨ rInRef X.K true x y H Q) := (op_notIn_seq.or op_notIn_str).or (op_notInRef (in1_few hu))
theorem de_inR (hu : X.A.units + 64 < cLine) (ha : DE X T W a fa) (hb : DE X T W b fb) (hm : behindInMarks .In b = false := by rfl) : DE X T W (.Compare a [.In] [b] pos) (dOfB (dBinB hInR fa fb)) := de_cmp (op_inB hu) snd_inR ha hb hm
theorem dt_inR (hu : X.A.units + 64 < cLine) (ha : DE X T W a fa) (hb : DE X T W b fb) (hm : behindInMarks .In b = false := by rfl) : DT X T W (.Compare a [.In] [b] pos) (dBinB hInR fa fb) := dt_cmp (op_inB hu) snd_inR ha hb hm
theorem de_notInR (hu : X.A.units + 64 < cLine) (ha : DE X T W a fa) (hb : DE X T W b fb) (hm : behindInMarks .NotIn b = false := by rfl) : DE X T W (.Compare a [.NotIn] [b] pos) (dOfB (dBinB hNotInR fa fb)) := de_cmp (op_notInB hu) snd_notInR ha hb hm
theorem dt_notInR (hu : X.A.units + 64 < cLine) (ha : DE X T W a fa) (hb : DE X T W b fb) (hm : behindInMarks .NotIn b = false := by rfl) : DT X T W (.Compare a [.NotIn] [b] pos) (dBinB hNotInR fa fb) := dt_cmp (op_notInB hu) snd_notInR ha hb hm
end
end DL

/-! DLze: reckoning with rows of texts. -/
namespace DL
open PySem PySem.Spec PyProof.Rows L2
abbrev tuS (xs : List Str) : D := .tu (xs.map .str)
abbrev lsS (xs : List Str) : D := .ls (xs.map .str)
def IsSeq (d : D) (xs : List Str) : Prop := d = tuS xs ∨ d = lsS xs
theorem flatDs_strs : ∀ xs : List Str, flatDs (xs.map .str) = some (xs.map V.str)
  | [] => rfl
  | x :: xs => by
    show (flatD (.str x)).bind (fun v => (flatDs (xs.map .str)).map fun vs => v :: vs) = _
    rw [flatDs_strs xs]; rfl
theorem inV_strs (x : Str) : ∀ xs : List Str, inV (.str x) (xs.map V.str) = decide (x ∈ xs)
  | [] => by simp [inV]
  | y :: ys => by
    have ih := inV_strs x ys
    unfold inV at ih ⊢
    rw [List.map_cons, List.any_cons, ih]
    show ((y == x) || decide (x ∈ ys)) = _
    by_cases e : x = y
    · subst e; simp
    · have : (y == x) = false := beq_eq_false_iff_ne.mpr fun z => e z.symm
      simp [this, e]
section
variable {st : S} {b : Bx}
theorem hIn_ok {d : D} {xs : List Str} {x : Str} (h : IsSeq d xs) : hInR (.str x) d st = .ok (decide (x ∈ xs)) st := by
  have e : dIn (.str x) d = some (decide (x ∈ xs)) := by
    rcases h with rfl | rfl
    · show (match flatD (.str x), flatDs (xs.map .str) with | some v, some vs => some (inV v vs) | _, _ => none) = _
      rw [flatDs_strs, ← inV_strs]; rfl
    · show (match flatD (.str x), flatDs (xs.map .str) with | some v, some vs => some (inV v vs) | _, _ => none) = _
      rw [flatDs_strs, ← inV_strs]; rfl
  show hIn (.str x) d st = _
  unfold hIn
  rw [e]
theorem hNotIn_ok {d : D} {xs : List Str} {x : Str} (h : IsSeq d xs) : hNotInR (.str x) d st = .ok (!decide (x ∈ xs)) st := by
  have e : dIn (.str x) d = some (decide (x ∈ xs)) := by
    rcases h with rfl | rfl
    · show (match flatD (.str x), flatDs (xs.map .str) with | some v, some vs => some (inV v vs) | _, _ => none) = _
      rw [flatDs_strs, ← inV_strs]; rfl
    · show (match flatD (.str x), flatDs (xs.map .str) with | some v, some vs => some (inV v vs) | _, _ => none) = _
      rw [flatDs_strs, ← inV_strs]; rfl
  show hNotIn (.str x) d st = _
  unfold hNotIn
  rw [e]
theorem hSeq_ok {d : D} {xs : List Str} (h : IsSeq d xs) : hSeq d st = .ok (xs.map .str) st := by rcases h with rfl | rfl <;> rfl
theorem hLen_seq {d : D} {xs : List Str} (h : IsSeq d xs) : hLen [d] st = .ok (.int (xs.length : Nat)) st := by
  rcases h with rfl | rfl
  · show R.ok (D.int ((xs.map D.str).length : Nat)) st = _; rw [List.length_map]
  · show R.ok (D.int ((xs.map D.str).length : Nat)) st = _; rw [List.length_map]
theorem hListOf_seq {d : D} {xs : List Str} (h : IsSeq d xs) : hListOf [d] st = .ok (xs.map .str) st := by rcases h with rfl | rfl <;> rfl
theorem hSorted_seq {d : D} {xs : List Str} (h : IsSeq d xs) (l : xs.length < 64) : hSorted [d] st = .ok ((sortS xs).map .str) st := by
  rcases h with rfl | rfl
  · show (match strsD (xs.map .str) with | some xs => if xs.length < 64 then R.ok ((sortS xs).map D.str) st else .stuck | none => .stuck) = _
    rw [strsD_map]; exact if_pos l
  · show (match strsD (xs.map .str) with | some xs => if xs.length < 64 then R.ok ((sortS xs).map D.str) st else .stuck | none => .stuck) = _
    rw [strsD_map]; exact if_pos l
theorem hIx_seq {d : D} {xs : List Str} {i : Nat} {x : Str} (h : IsSeq d xs) (e : xs[i]? = some x) : hIx d (.int (i : Nat)) st = .ok (.str x) st := by
  have q : (xs.map D.str)[i]? = some (.str x) := by rw [List.getElem?_map, e]; rfl
  rcases h with rfl | rfl
  · simp [hIx, ixD, atI_nat q]
  · simp [hIx, ixD, atI_nat q]
/-- comprehensions that leave the box alone -/
theorem compD_fm {k : Tg} {vs : List Nat} {t : S → R Bool} {e : S → R D} {f : D → Option D} {st : S} : ∀ {ds acc : List D}, (∀ d ∈ ds, ∃ env', turnD k vs t e d st = .ok (f d) ⟨env', st.bx⟩) → acc.length + ds.length ≤ 16777216 → compD k vs t e ds acc st = .ok (acc ++ ds.filterMap f) st
  | [], acc, _, _ => by simp [compD]
  | d :: ds, acc, h, l => by
    obtain ⟨env', e1⟩ := h d List.mem_cons_self
    unfold compD
    rw [e1]
    cases q : f d with
    | none =>
      show compD k vs t e ds acc st = _
      rw [compD_fm (fun d' h' => h d' (List.mem_cons_of_mem _ h')) (by simp at l ⊢; omega), List.filterMap_cons_none q]
    | some y =>
      have l1 : acc.length < 16777216 := by simp at l; omega
      show (if acc.length < 16777216 then compD k vs t e ds (acc ++ [y]) st else .stuck) = _
      rw [if_pos l1, compD_fm (fun d' h' => h d' (List.mem_cons_of_mem _ h')) (by simp at l ⊢; omega), List.filterMap_cons_some q]
      simp
theorem enumD_range : ∀ (k : Nat) (ds : List D), enumD k ds = (List.range ds.length).map fun i => .tu [.int ((k + i : Nat) : Int), ds.getD i .non]
  | k, [] => rfl
  | k, d :: ds => by
    show D.tu [.int (k : Nat), d] :: enumD (k + 1) ds = _
    rw [enumD_range (k + 1) ds, List.length_cons, List.range_succ_eq_map, List.map_cons, List.map_map]
    congr 1
    apply List.map_congr_left
    intro i _
    show D.tu [.int ((k + 1 + i : Nat) : Int), ds.getD i .non] = D.tu [.int ((k + (i + 1) : Nat) : Int), (d :: ds).getD (i + 1) .non]
    rw [show k + 1 + i = k + (i + 1) by omega, List.getD_cons_succ]
end
/-! ### equal texts -/
def okS (x : Str) : Bool := PyData.canLay0 (.str x)
theorem toPs_strs : ∀ xs : List Str, toPs (xs.map .str) = some (xs.map .str)
  | [] => rfl
  | x :: xs => by
    show (toP (.str x)).bind (fun p => (toPs (xs.map .str)).map fun ps => p :: ps) = _
    rw [toPs_strs xs]; rfl
theorem canAll_strs : ∀ {xs : List Str}, (∀ x ∈ xs, okS x = true) → PyData.canLayAll0 (xs.map .str) = true
  | [], _ => by simp [PyData.canLayAll0]
  | x :: xs, h => by
    rw [List.map_cons, PyData.canLayAll0, canAll_strs fun y hy => h y (List.mem_cons_of_mem _ hy)]
    rw [Bool.and_true]; exact h x List.mem_cons_self
theorem depth_strs : ∀ xs : List Str, PyData.depthAll (xs.map .str) = 0
  | [] => by simp [PyData.depthAll]
  | x :: xs => by rw [List.map_cons, PyData.depthAll, depth_strs xs]; simp [PyData.depth]
theorem eqvAll_strs : ∀ xs ys : List Str, PyData.eqvAll (xs.map .str) (ys.map .str) = decide (xs = ys)
  | [], [] => by simp [PyData.eqvAll]
  | [], y :: ys => by simp [PyData.eqvAll]
  | x :: xs, [] => by simp [PyData.eqvAll]
  | x :: xs, y :: ys => by
    rw [List.map_cons, List.map_cons, PyData.eqvAll, eqvAll_strs xs ys]
    rw [PyData.eqv]
    by_cases e : x = y
    · subst e; simp
    · rw [beq_eq_false_iff_ne.mpr e, Bool.false_and]; exact (decide_eq_false fun z => e (List.cons.inj z).1).symm
theorem deq_tuS {xs ys : List Str} (hx : ∀ x ∈ xs, okS x = true) (hy : ∀ x ∈ ys, okS x = true) : deq (tuS xs) (tuS ys) = some (decide (xs = ys)) := by
  have sh : ∀ {zs : List Str}, (∀ x ∈ zs, okS x = true) → SeqAt.shaped (.tuple (zs.map .str)) = true := fun {zs} h => by
    unfold SeqAt.shaped
    rw [PyData.canLay0, canAll_strs h, PyData.depth, depth_strs]
    rfl
  unfold deq
  simp only [toP, toPs_strs, Option.map_some, sh hx, sh hy, Bool.and_self, if_true]
  rw [PyData.eqv, eqvAll_strs]
/-! ### no text twice -/
theorem unlike_nodup {xs : List Str} (h : xs.Nodup) : unlike xs = xs := by
  have key : ∀ (ys acc : List Str), (acc ++ ys).Nodup → ys.foldl metS acc = acc ++ ys := by
    intro ys
    induction ys with
    | nil => intro acc _; simp
    | cons y ys ih =>
      intro acc h
      have n : ¬ acc.any (· == y) = true := fun q => by
        obtain ⟨z, hz, e⟩ := List.any_eq_true.mp q
        have e := beq_iff_eq.mp e
        subst e
        exact (List.nodup_append.mp h).2.2 z hz z List.mem_cons_self rfl
      rw [List.foldl_cons]
      have m : metS acc y = acc ++ [y] := by unfold metS; rw [if_neg n]
      rw [m, ih (acc ++ [y]) (by simpa using h)]
      simp
  have := key xs [] (by simpa using h)
  rw [List.nil_append] at this
  exact this
theorem metS_sub (acc : List Str) (x : Str) : ∀ y ∈ metS acc x, y ∈ acc ∨ y = x := by
  intro y hy
  unfold metS at hy
  split at hy
  · exact .inl hy
  · simpa using hy
theorem unlike_again {xs : List Str} {x : Str} (h : x ∈ unlike xs) : unlike (xs ++ [x]) = unlike xs := by
  rw [unlike_snoc]
  unfold metS
  rw [if_pos (List.any_eq_true.mpr ⟨x, h, by simp⟩)]
/-- in order, and no text twice: each is below the next -/
def StrictS (xs : List Str) : Prop := xs.Pairwise fun a b => decide (a.cps.toList < b.cps.toList) = true
theorem strict_of {xs : List Str} (h : RiseS xs) (n : xs.Nodup) : StrictS xs := by
  induction xs with
  | nil => exact .nil
  | cons x xs ih =>
    obtain ⟨h1, h2⟩ := List.pairwise_cons.mp h
    obtain ⟨n1, n2⟩ := List.nodup_cons.mp n
    refine List.pairwise_cons.mpr ⟨fun y hy => ?_, ih h2 n2⟩
    have l := (leS_iff x y).mp (h1 y hy)
    rw [decide_eq_true_eq]
    rcases Classical.em (x.cps.toList < y.cps.toList) with q | q
    · exact q
    · have e : leS y x = true := (leS_iff y x).mpr (List.not_lt.mp q)
      have := leS_anti (h1 y hy) e
      subst this
      exact absurd hy n1
theorem rise_of_strict {xs : List Str} (h : StrictS xs) : RiseS xs := h.imp fun {a b} q => by
  rw [decide_eq_true_eq] at q
  exact (leS_iff a b).mpr (List.not_lt.mp fun z => List.lt_irrefl _ (List.lt_trans q z))
end DL

/-! DLzf: a < b < c as a test. -/
namespace DL
open PySem PySem.Spec PyProof.Rows L2
def dChainT (h h' : D → D → S → R Bool) (fa fb fc : S → R D) : S → R Bool := fun st => (fa st).bind fun x st => (fb st).bind fun y st => (h x y st).bind fun k st => if k = true then (fc st).bind fun z st => h' y z st else .ok false st
theorem dOfB_chain {h h' : D → D → S → R Bool} {fa fb fc : S → R D} : dOfB (dChainT h h' fa fb fc) = dChain h h' fa fb fc := by
  funext st
  unfold dOfB dChainT dChain toD R.bind
  cases fa st with
  | err e s => rfl
  | stuck => rfl
  | ok a s =>
    dsimp only
    cases fb s with
    | err e s => rfl
    | stuck => rfl
    | ok y s =>
      dsimp only
      cases h a y s with
      | err e s => rfl
      | stuck => rfl
      | ok k s =>
        dsimp only
        cases k with
        | true => rw [if_pos rfl, if_pos rfl]; cases fc s <;> rfl
        | false => rfl
section
variable {X : Cx} {T : Tab} {W : WX}
theorem chain_read {r r' : R2} {h h' : D → D → S → R Bool} {fa fb fc : S → R D} (sd : Snd2 X T W r fun a b st => toD (h a b st)) (sd' : Snd2 X T W r' fun a b st => toD (h' a b st)) :
    ∀ σ H Q, gD X.K T W (relD X.K T) (dChain h h' fa fb fc) σ H Q → tChain r r' (gD X.K T W (relD X.K T) fa) (gD X.K T W (relD X.K T) fb) (gD X.K T W (relD X.K T) fc) σ H Q := fun σ H Q ⟨c, G, st, hd, ok⟩ => by
  obtain ⟨c0, G0, st0, hd0, ok0⟩ := step (rel := relD X.K T) hd ok
  refine ⟨c0, G0, st0, hd0, ok0.imp fun x H1 ⟨G1, st1, a, s1, hd1, r1, ok1⟩ => ?_⟩
  obtain ⟨c2, G2, st2, hd2, ok2⟩ := step (rel := relD X.K T) hd1 ok1
  refine ⟨c2, G2, st2, hd2, ok2.imp fun y H2 ⟨G3, st3, b, s3, hd3, r3, ok3⟩ => ?_⟩
  refine sd c G3 H2 σ st3 x y a b _ hd3 (r1.mono s3) r3 ?_
  have q : GOk X.K T W (relB) c G3 σ (h a b st3) (fun k H' => ∃ G4 st4, Same G3 G4 ∧ Holds X.K T c G4 H' σ st4 ∧ GOk X.K T W (relD X.K T) c G4 σ (if k = true then (fc st4).bind fun z st => toD (h' b z st) else .ok (.bl false) st4) Q) := by
    revert ok3
    cases h a b st3 with
    | ok k s4 => exact fun ok3 G' H' v s h e => by cases e; exact ⟨G', s4, s, h, GOk.mono s ok3⟩
    | err e s => exact fun ok3 => ok3
    | stuck => exact fun ok3 => ok3
  refine (GOk.ofB q).imp fun z H3 ⟨k, e, G4, st4, s4, hd4, ok4⟩ => ⟨k, e, ?_⟩
  cases k with
  | true =>
    rw [if_pos rfl] at ok4 ⊢
    obtain ⟨c5, G5, st5, hd5, ok5⟩ := step (rel := relD X.K T) hd4 ok4
    exact ⟨c5, G5, st5, hd5, ok5.imp fun z H4 ⟨G6, st6, d, s6, hd6, r6, ok6⟩ => sd' c G6 H4 σ st6 y z b d Q hd6 ((r3.mono s4).mono s6) r6 ok6⟩
  | false => rw [if_neg Bool.false_ne_true] at ok4 ⊢; exact ok4 _ _ _ (Same.refl _) hd4 (.bl _)
theorem dt_chain {op op' : CmpOp} {r r' : R2} {h h' : D → D → S → R Bool} {a b e : Expr} {fa fb fc : S → R D} {pos : Pos} (ho : OpR X (compareOp op) r) (ho' : OpR X (compareOp op') r')
    (sd : Snd2 X T W r fun a b st => toD (h a b st)) (sd' : Snd2 X T W r' fun a b st => toD (h' a b st))
    (ha : DE X T W a fa) (hb : DE X T W b fb) (hc : DE X T W e fc) (hm : lastMarks [op, op'] [b, e] = false := by with_unfolding_all rfl) : DT X T W (.Compare a [op, op'] [b, e] pos) (dChainT h h' fa fb fc) :=
  impT (pt_chain ho ho' ha hb hc hm) fun σ H Q ⟨c, G, st, hd, ok⟩ => chain_read sd sd' σ H _ ⟨c, G, st, hd, by
    have := GOk.ofB ok
    rw [show toD (dChainT h h' fa fb fc st) = dOfB (dChainT h h' fa fb fc) st from rfl, dOfB_chain] at this
    exact this⟩
end
end DL

/-! DLzg: enumerate of a tuple. -/
namespace DL
open PySem PySem.Spec PyProof.Rows L2
abbrev enumCell (it : Addr) : Obj := { cls := .type "enumerate", data := .fields #[.none, .bool false, .ref it, rawInt 0, .none, .none] }
theorem meets_enumOf {v : Value} {o : Obj} {Hh : Heap → Prop} (B : Begins v o Hh) :
    Meets (Builtin.«enumerate.__new__» ⟨[.type "enumerate", v], []⟩) (fun _ R s => Hh s.heap ∧ R (.ok (.ret (.ref (s.heap.push o).objs.size))) { s with heap := (s.heap.push o).push (enumCell s.heap.objs.size) }) :=
  .of_wp fun prog w A R ⟨hp, g, d, tk, os⟩ ⟨h1, h⟩ => by
    have hsub := sub_enumerate
    have q1 : ∀ {A' : Around} {E Q : Value → Shared → Prop}, Q (.ref hp.objs.size) ⟨hp.push o, g, d, tk, os⟩ → wpAny (model prog w) A' (pyIter v) Q E ⟨hp, g, d, tk, os⟩ := fun q => B.iter prog w _ _ ⟨hp, g, d, tk, os⟩ _ h1 q
    wp_walk
    refine wpAny_stack_any fun st => wpAny_pure ?_
    split
    · rename_i c _ _ _ _ _
      cases (c == Value.type "enumerate") <;> (wp_walk using q1; exact ⟨_, rfl, h⟩)
    · wp_walk using q1
      exact ⟨_, rfl, h⟩
section
variable {P : Program} {w : World} {A : Around} {E : Value → Shared → Prop} {s : Shared}
theorem call_enumOf {v : Value} {o : Obj} {Hh : Heap → Prop} {Q : Value → Shared → Prop} (B : Begins v o Hh) (h1 : Hh s.heap)
    (h : ∀ h', IsEnum h' (s.heap.objs.size + 1) s.heap.objs.size 0 .none → h'.get? s.heap.objs.size = some o → (∀ b u, s.heap.get? b = some u → h'.get? b = some u) → Q (.ref (s.heap.objs.size + 1)) { s with heap := h' }) :
    wpAny (model P w) A (call (.type "enumerate") [v]) Q E s := by
  refine callType_new F.called_enumerate (by decide) (F.typeCall_enumerate_1 _) (F.newCall_enumerate_1 _) (fun obj => F.args_object_init_2 obj _) F.entry_enumerate_new (meets_enumOf B) ⟨h1, ?_⟩
  have sz : (s.heap.push o).objs.size = s.heap.objs.size + 1 := Heap.size_push ..
  rw [sz]
  have he : IsEnum ((s.heap.push o).push (enumCell s.heap.objs.size)) (s.heap.objs.size + 1) s.heap.objs.size 0 .none := by
    have e := Heap.get?_push_size (s.heap.push o) (o := enumCell s.heap.objs.size) rfl
    rw [sz] at e
    exact e
  exact ⟨⟨_, he, rfl⟩, h _ he (Heap.get?_push_of_some _ (Heap.get?_push_size _ B.free)) fun b u x => Heap.get?_push_of_some _ (Heap.get?_push_of_some _ x)⟩
end
/-- the tuple at a, each item in a new pair -/
def IteT (K : PySem.W.Frag) (a : Addr) : It :=
  ⟨fun i H => ∃ (xs : List V) (x : V), SqT K H a xs ∧ xs[i]? = some x,
   fun i H v H' => ∃ t x, v = .ref t ∧ H t = none ∧ H' = upd H t (.tup [.int (i : Nat), x]) ∧ ∀ xs, SqT K H a xs → xs[i]? = some x,
   fun i H => ∃ xs : List V, SqT K H a xs ∧ xs.length = i⟩
theorem turn_enumT {P : Program} {w : World} {K : PySem.W.Frag} {elts : List Expr} {kk : Nat} {tpos : Pos} (a e it : Addr) :
    Turn P w K (.Tuple elts kk tpos) (IteT K a) [e, it] e (fun i h => (∃ old, IsEnum h e it ((i : Nat) : Int) old) ∧ h.IsTupleIter it a i ∧ e ≠ it ∧ e ≠ a ∧ a ≠ it) where
  mem := by simp
  obj := fun i h ⟨⟨old, he⟩, ⟨o, ho, hc, hd⟩, _⟩ b hb => by
    rcases List.mem_cons.mp hb with z | z
    · rw [z]; exact ⟨_, he, fun v q => nomatch q⟩
    · rw [List.mem_singleton.mp z]; exact ⟨o, ho, fun v q => by rw [hd] at q; cases q⟩
  keep := fun i h h' ⟨⟨old, he⟩, hi, hne⟩ k => ⟨⟨old, k e (by simp) _ he⟩, hi.at fun o q => k it (by simp) o q, hne⟩
  item := by
    intro X hP hw hK hc i pins s σ H E I hf ⟨⟨old, he⟩, hit, n1, n2, n3⟩ ⟨xs, x, hq, hx⟩
    subst hP hw hK
    obtain ⟨its, rv, p, hz⟩ := I.tuple hq
    obtain ⟨u, hu, ru⟩ := rv.get hx
    have le : e < s.heap.objs.size := Heap.lt_size he
    have li : it < s.heap.objs.size := by obtain ⟨_, q, _⟩ := hit; exact Heap.lt_size q
    have lt : i < its.toArray.size := by
      have := (List.getElem?_eq_some_iff.mp hu).1
      simpa using this
    have ee : e ∉ [it, a] := fun m => by
      rcases List.mem_cons.mp m with z | z
      · exact n1 z
      · exact n2 (List.mem_singleton.mp z)
    refine wpAny_pyNext_enum_itemD (Draws.tuple (A := X.A.in1) (show X.A.in1.handled = none from I.ok.hd hc) it a n3 its.toArray) he ⟨hit, p⟩ lt n1 ee fun y h' tk hy ho st2 hT hsz hk => ⟨_, rfl, ?_⟩
    have ey : y = u := by
      rw [List.getElem?_toArray] at hy
      rw [hu] at hy
      exact (Option.some.inj hy).symm
    subst ey
    refine wpAny_letOwnedTupleGo_enum (s := { s with heap := h', toks := tk + 1 }) ho fun h2 he2 sb => ?_
    have at2 : h2.get? s.heap.objs.size = some { cls := .type "tuple", data := .seq #[.int i tk, y] } := (sb.2 _ (Nat.ne_of_gt le)).trans hT
    have new : ObjOk X.prog X.w (upd H s.heap.objs.size (.tup [.int (i : Nat), x])) h2 s.heap.objs.size (.tup [.int (i : Nat), x]) :=
      ⟨by show 2 ≤ sizeLine; decide, [.int i tk, y], .cons ⟨_, rfl⟩ (.cons ru .nil), ⟨_, at2, rfl, _, rfl⟩⟩
    have J : Inv X pins σ (upd H s.heap.objs.size (.tup [.int (i : Nat), x])) { s with heap := h2, toks := tk + 1 } :=
      I.turnedNew (ch := [e, it]) (fun b ob hb q => (sb.2 b fun z => hb (by simp [z])).trans (hk b ob (fun z => hb (by simp [z])) (fun z => hb (by simp [z])) q)) hf (Nat.le_refl _) new
    refine ⟨.ref s.heap.objs.size, _, J, rfl, ⟨_, x, rfl, I.hok.fresh (Nat.le_refl _), rfl, fun ys hy => by rw [I.tuple_inj hy hq]; exact hx⟩, ⟨⟨y, ?_⟩, st2.1.at fun o q => (sb.2 it (Ne.symm n1)).trans q, n1, n2, n3⟩, fun b hb => ?_⟩
    · rw [show ((i + 1 : Nat) : Int) = (i : Int) + 1 by omega]; exact he2
    · have lb : b < s.heap.objs.size := by
        rcases List.mem_cons.mp hb with z | z
        · rw [z]; exact le
        · rw [List.mem_singleton.mp z]; exact li
      rw [upd_ne (Nat.ne_of_lt lb)]
      exact (hf b hb).1
  done := by
    intro X hP hw hK hc i pins s σ H E I hf ⟨⟨old, he⟩, hit, n1, n2, n3⟩ ⟨xs, hq, hx⟩
    subst hP hw hK
    obtain ⟨its, rv, p, hz⟩ := I.tuple hq
    obtain ⟨f0, f1, f2, f3, f4, f5⟩ := hf it (by simp)
    have hl : its.toArray.size = i := by rw [List.size_toArray, ← rv.length]; exact hx
    subst hl
    exact wpAny_pyNext_enum_endD (Draws.tuple (A := X.A.in1) (show X.A.in1.handled = none from I.ok.hd hc) it a n3 its.toArray) he ⟨hit, p⟩ fun h' eb => ⟨rfl, I.turned (t' := s.toks) (fun b o hb q => eb b o hb q) f0 f1 f3 f4 f5⟩
  self := fun A i s Q E ⟨⟨_, he⟩, _⟩ h => wpAny_pyIter_enum he h
def iEnumB (K : PySem.W.Frag) (ta : TA) : TI := fun σ H R => ta σ H fun vs H1 => ∃ a xs, vs = [.ref a] ∧ ((SqL K H1 a xs ∧ R (Ite K a) H1) ∨ (SqT K H1 a xs ∧ R (IteT K a) H1))
theorem pi_enumB {X : Cx} {e : Expr} {ta : TA} {p pos tpos : Pos} {elts : List Expr} {kk : Nat} (hg : Gl X "enumerate") (hm : X.mg "enumerate" = none) (ha : PA X [e] ta) (hs : starEach [e] X.env = [(false, eval e X.env)] := by rfl) :
    PI X (.Tuple elts kk tpos) (.Call (.Name "enumerate" p) [e] [] pos) (iEnumB X.K ta) := by
  refine ⟨fun pins s σ H R I h => Call_ (ld_blt I hg hm boot_enumerate (callWith_type1 (thn (ha.run pos pins s σ H _ I h) fun us s1 ⟨vs, H1, I1, r1, a, xs, ex, q⟩ => ?_) hs rfl))⟩
  subst ex
  cases r1 with
  | cons r rr =>
    cases rr
    cases r
    have ends : ∀ b ∈ [s1.heap.objs.size + 1, s1.heap.objs.size], FpOk X pins H1 b := fun b hb => by
      have le : s1.heap.objs.size ≤ b := by
        rcases List.mem_cons.mp hb with z | z
        · rw [z]; exact Nat.le_add_right _ _
        · rw [List.mem_singleton.mp z]; exact Nat.le_refl _
      exact I1.fpOk le (I1.hok.fresh le)
    rcases q with ⟨hq, q⟩ | ⟨hq, q⟩
    · obtain ⟨its, rv, p', hz⟩ := I1.list hq
      refine call_enumerate_list p'.isList fun h' he hit hsz hk => wpAny_pyIter_enum he ⟨s1.heap.objs.size + 1, [s1.heap.objs.size + 1, s1.heap.objs.size], _, _, H1, rfl, I1.kept (t' := s1.toks) hk, turn_enum a (s1.heap.objs.size + 1) s1.heap.objs.size, ⟨⟨.none, he⟩, hit, Nat.succ_ne_self _⟩, ends, q⟩
    · obtain ⟨its, rv, p', hz⟩ := I1.tuple hq
      have la : a < s1.heap.objs.size := by obtain ⟨o, ho, _⟩ := p'; exact Heap.lt_size ho
      refine call_enumOf (begins_tuple a its.toArray) p' fun h' he hit hk => wpAny_pyIter_enum he ⟨s1.heap.objs.size + 1, [s1.heap.objs.size + 1, s1.heap.objs.size], _, _, H1, rfl, I1.kept (t' := s1.toks) hk, turn_enumT a (s1.heap.objs.size + 1) s1.heap.objs.size,
        ⟨⟨.none, he⟩, ⟨_, hit, rfl, rfl⟩, Nat.succ_ne_self _, Nat.ne_of_gt (Nat.lt_succ_of_lt la), Nat.ne_of_lt la⟩, ends, q⟩
def hEnumB : List D → S → R (List D)
  | [.ls xs], st => .ok (enumD 0 xs) st
  | [.tu xs], st => .ok (enumD 0 xs) st
  | _, _ => .stuck
section
variable {X : Cx} {T : Tab} {W : WX}
theorem relI_enumT {K : PySem.W.Frag} {c : Ctx} {G H : Hp} {σ : SV} {st : S} {a : Addr} {xs : List V} {ds : List D} (h : SqT K G a xs) (r : Reps K T c.B G xs ds) : relI K T c G H σ st (IteT K a) (enumD 0 ds) := fun c' G' H' σ' st' eB s hd => by
  have hq : SqT K H' a xs := Same.sqt hd.sub (Same.sqt s h)
  refine ⟨⟨xs, hq, by rw [enumD_len, r.length]⟩, fun i d e => ?_⟩
  obtain ⟨d1, e1, rfl⟩ := enumD_get e
  obtain ⟨v1, f1, g1⟩ := r.get' e1
  refine ⟨⟨xs, v1, hq, f1⟩, fun x H2 ⟨t, x1, ex, nt, eH, y1⟩ => ?_⟩
  have z1 := y1 xs hq
  rw [f1] at z1; cases z1
  subst ex eH
  have sg := same_upd (o := .tup [.int (i : Nat), v1]) (hd.gnone nt)
  refine ⟨_, sg, same_upd nt, hd.lay _ nt, .tu (.inl (.inl upd_same)) (.cons ?_ (.cons ((g1.mono s).mono sg) .nil))⟩
  rw [Nat.zero_add]
  exact .int _
theorem di_enumB {e : Expr} {fa : S → R (List D)} {p pos tpos : Pos} {elts : List Expr} {kk : Nat} (hg : Gl X "enumerate") (hm : X.mg "enumerate" = none) (ha : DA X T W [e] fa) (hs : starEach [e] X.env = [(false, eval e X.env)] := by rfl) :
    DI X T W (.Tuple elts kk tpos) (.Call (.Name "enumerate" p) [e] [] pos) (dCBF hEnumB fa) := by
  refine impI (pi_enumB hg hm ha hs) fun σ H Q ⟨c, G, st, hd, ok⟩ => ?_
  obtain ⟨c0, G0, st0, hd0, ok0⟩ := step (rel := relA X.K T) hd ok
  refine ⟨c0, G0, st0, hd0, ok0.imp fun x H1 ⟨G1, st1, a, s1, hd1, r1, ok1⟩ => ?_⟩
  cases r1 with
  | nil => exact ok1.elim
  | cons r1 r =>
    cases r with
    | cons _ _ => cases r1 <;> exact ok1.elim
    | nil =>
      cases r1 with
      | @ls p vs ds h r => exact ⟨p, vs, rfl, .inl ⟨SqL.of (hd1.sub _ _ h), ok1 _ _ _ (Same.refl _) hd1 (relI_enum h r)⟩⟩
      | @tu p vs ds h r => exact ⟨p, vs, rfl, .inr ⟨Same.sqt hd1.sub h, ok1 _ _ _ (Same.refl _) hd1 (relI_enumT h r)⟩⟩
      | _ => exact ok1.elim
end
end DL

/-! DLzh: comprehensions that draw. -/
namespace DL
open PySem PySem.Spec PyProof.Rows L2
theorem compD_gd {k : Tg} {vs : List Nat} {t : S → R Bool} {e : S → R D} {f : D → D} {c : Nat} {env : List Sl} : ∀ {ds acc : List D} {m : Nat} {b : Bx}, (∀ d ∈ ds, ∀ (m : Nat) (b : Bx), Gd (m + c) b → ∃ env' b', turnD k vs t e d ⟨env, b⟩ = .ok (some (f d)) ⟨env', b'⟩ ∧ Gd m b') →
    acc.length + ds.length ≤ 16777216 → Gd (m + c * ds.length) b → ∃ b', compD k vs t e ds acc ⟨env, b⟩ = .ok (acc ++ ds.map f) ⟨env, b'⟩ ∧ Gd m b'
  | [], acc, m, b, _, _, g => ⟨b, by simp [compD], by simpa using g⟩
  | d :: ds, acc, m, b, h, l, g => by
    obtain ⟨env', b1, e1, g1⟩ := h d List.mem_cons_self (m + c * ds.length) b (by
      rw [List.length_cons, Nat.mul_add, Nat.mul_one] at g
      exact g.less (by omega))
    have l1 : acc.length < 16777216 := by simp at l; omega
    obtain ⟨b', e2, g2⟩ := compD_gd (ds := ds) (acc := acc ++ [f d]) (m := m) (b := b1) (fun d' h' => h d' (List.mem_cons_of_mem _ h')) (by simp at l ⊢; omega) g1
    refine ⟨b', ?_, g2⟩
    unfold compD
    rw [e1]
    show (if acc.length < 16777216 then compD k vs t e ds (acc ++ [f d]) ⟨env, b1⟩ else .stuck) = _
    rw [if_pos l1, e2]
    simp
end DL

/-! DLzi: a text times a number. -/
namespace DL
open PySem PySem.Spec PyProof.Rows L2
instance (x : Str) (n : Int) : Decidable (MulOk x n) := by unfold MulOk; infer_instance
def hMulS : D → D → S → R D
  | .str z, .int n, st => if MulOk z n then .ok (.str (Txt.mul z n)) st else .stuck
  | _, _, _ => .stuck
section
variable {X : Cx} {T : Tab} {W : WX}
theorem op_mulS : OpR X (binaryOp .Mult) (fun x y H Q => ∃ z n, x = V.str z ∧ y = V.int n ∧ MulOk z n ∧ Q (.str (Txt.mul z n)) H) := by
  intro pins s σ H x y v u Q I rx ry h
  obtain ⟨z, n, rfl, rfl, ok, q⟩ := h
  obtain ⟨t, rfl⟩ := rx
  obtain ⟨t', rfl⟩ := ry
  exact SB.mul ok fun t2 k => ⟨.str _, H, I.tok _, ⟨t2, rfl⟩, q⟩
theorem de_mulS {a b : Expr} {fa fb : S → R D} {pos : Pos} (ha : DE X T W a fa) (hb : DE X T W b fb) : DE X T W (.BinOp a .Mult b pos) (dBin hMulS fa fb) :=
  de_bin op_mulS (fun c G H σ st x y a b Q hd r1 r2 ok => by
    cases r1 <;> cases r2 <;> first | exact ok.elim | skip
    rename_i z n
    have ok' : GOk X.K T W (relD X.K T) c G σ (if MulOk z n then .ok (.str (Txt.mul z n)) st else .stuck) Q := ok
    by_cases q : MulOk z n
    · rw [if_pos q] at ok'
      exact ⟨_, _, rfl, rfl, q, ok' _ _ _ (Same.refl _) hd (.str _)⟩
    · rw [if_neg q] at ok'; exact ok'.elim) ha hb
end
end DL

/-! DLzj: reckoning with joined texts. -/
namespace DL
open PySem PySem.Spec PyProof.Rows L2 TL
theorem okS_iff (x : Str) : okS x = (tl x).all (· < 0x110000) := by
  show x.cps.all (· < 0x110000) = _
  simp [tl]
theorem deq_str2 {x y : Str} (hx : okS x = true) (hy : okS y = true) : deq (.str x) (.str y) = some (decide (x = y)) := by
  have sh : ∀ {z : Str}, okS z = true → SeqAt.shaped (.str z) = true := fun {z} h => by
    unfold SeqAt.shaped
    rw [show PyData.canLay0 (.str z) = true from h, PyData.depth]
    rfl
  unfold deq
  simp only [toP, sh hx, sh hy, Bool.and_self, if_true]
  rw [PyData.eqv]
  congr 1
theorem joinL_all {p : Nat → Bool} {S : List Nat} (hs : S.all p = true) : ∀ {ps : List (List Nat)}, (∀ q ∈ ps, q.all p = true) → (joinL S ps).all p = true
  | [], _ => rfl
  | [q], h => h q (List.mem_singleton.mpr rfl)
  | q :: r :: ps, h => by
    show (q ++ (S ++ joinL S (r :: ps))).all p = true
    rw [List.all_append, List.all_append, h q List.mem_cons_self, hs, joinL_all hs fun z hz => h z (List.mem_cons_of_mem _ hz)]
    rfl
theorem joinL_len (S : List Nat) : ∀ ps : List (List Nat), (joinL S ps).length ≤ (ps.map List.length).sum + ps.length * S.length
  | [] => by simp [joinL]
  | [q] => by simp [joinL]
  | q :: r :: ps => by
    have ih := joinL_len S (r :: ps)
    show (q ++ (S ++ joinL S (r :: ps))).length ≤ _
    rw [List.length_append, List.length_append, List.map_cons, List.sum_cons, List.length_cons, Nat.add_mul, Nat.one_mul]
    omega
theorem joinL_pos {S : List Nat} : ∀ {ps : List (List Nat)}, ps ≠ [] → (∀ q ∈ ps, 1 ≤ q.length) → 1 ≤ (joinL S ps).length
  | [], h, _ => absurd rfl h
  | [q], _, h => h q (List.mem_singleton.mpr rfl)
  | q :: r :: ps, _, h => by
    show 1 ≤ (q ++ (S ++ joinL S (r :: ps))).length
    have := h q List.mem_cons_self
    rw [List.length_append]
    omega
section
variable {y : Str} {ws : List Str}
theorem tl_joined : tl (Txt.join y ws) = joinL (tl y) (ws.map tl) := by rw [join_eq, tl_join]
theorem okS_join (hy : okS y = true) (h : ∀ w ∈ ws, okS w = true) : okS (Txt.join y ws) = true := by
  rw [okS_iff, tl_joined]
  exact joinL_all (by rw [← okS_iff]; exact hy) fun q hq => by
    obtain ⟨w, hw, rfl⟩ := List.mem_map.mp hq
    rw [← okS_iff]; exact h w hw
theorem sum_le {m : Nat} : ∀ {ws : List Str}, (∀ w ∈ ws, w.length ≤ m) → (ws.map (·.length)).sum ≤ ws.length * m
  | [], _ => by simp
  | w :: ws, h => by
    have ih := sum_le fun z hz => h z (List.mem_cons_of_mem w hz)
    have := h w List.mem_cons_self
    rw [List.map_cons, List.sum_cons, List.length_cons, Nat.add_mul, Nat.one_mul]
    omega
theorem join_len (m : Nat) (h : ∀ w ∈ ws, w.length ≤ m) : (Txt.join y ws).length ≤ ws.length * m + ws.length * y.length := by
  have e := joinL_len (tl y) (ws.map tl)
  rw [len_tl, tl_joined]
  have s := sum_le h
  have c : (ws.map tl).map List.length = ws.map (·.length) := by rw [List.map_map]; apply List.map_congr_left; intro w _; exact (len_tl w).symm
  rw [c, List.length_map, ← len_tl] at e
  omega
theorem join_pos (hne : ws ≠ []) (h : ∀ w ∈ ws, 1 ≤ w.length) : 1 ≤ (Txt.join y ws).length := by
  rw [len_tl, tl_joined]
  exact joinL_pos (fun e => hne (List.map_eq_nil_iff.mp e)) fun q hq => by
    obtain ⟨w, hw, rfl⟩ := List.mem_map.mp hq
    rw [← len_tl]; exact h w hw
end
theorem hTru_str {x : Str} {st : S} (h : 1 ≤ x.length) (l : x.length ≤ 16777216) : hTru (.str x) st = .ok true st := by
  show (match (if x.length ≤ 16777216 then some ((x.length : Int) != 0) else none) with | some k => R.ok k st | none => .stuck) = _
  rw [if_pos l]
  have : ((x.length : Int) != 0) = true := by
    rw [bne_iff_ne]; omega
  rw [this]
theorem hJoin_ok {d : D} {y : Str} {ws : List Str} {st : S} (h : IsSeq d ws) (l : (ws.map (·.length)).sum + ws.length * y.length ≤ 16777216) : hJoin y d st = .ok (.str (Txt.join y ws)) st := by
  have e : hJoinL y (ws.map .str) st = .ok (.str (Txt.join y ws)) st := by
    unfold hJoinL
    rw [strsD_map]
    exact if_pos l
  rcases h with rfl | rfl <;> exact e
theorem dApp_ok {i : Nat} {f : S → R D} {st st1 : S} {d : D} {ds ds1 : List D} (h0 : st.env[i]? = some (.own ds)) (h1 : f st = .ok d st1) (h2 : st1.env[i]? = some (.own ds1)) (l : ds1.length < 16777216) : dApp i f st = .ok .nx (st1.put i (.own (ds1 ++ [d]))) := by
  unfold dApp; rw [h0]; dsimp only; rw [h1, bind_ok, h2]; exact if_pos l
theorem dM1_ok {α : Type} {h : Str → D → S → R α} {fa fb : S → R D} {st st1 st2 : S} {x : Str} {d : D} {r : R α} (h1 : fa st = .ok (.str x) st1) (h2 : fb st1 = .ok d st2) (h3 : h x d st2 = r) : dM1 h fa fb st = r := by
  unfold dM1; rw [h1, bind_ok]; dsimp only; rw [h2, bind_ok, h3]
end DL

/-! DLzk: [i] of an object of the own class. -/
namespace DL
open PySem PySem.Spec PyProof.Rows L2
def hIxO (c : Nat) (F : Fn) : D → D → S → R D
  | .ob c' fs, y, st => if c' = c then fromF (F [.ob c' fs, y] st.bx) st else .stuck
  | x, y, st => hIx x y st
section
variable {X : Cx} {T : Tab} {W : WX}
theorem de_ixO {c k j : Nat} {F : Fn} {at_ : Str} {a b : Expr} {fa fb : S → R D} {pos : Pos} (m : MethAt X.prog X.w X.K X.mg X.base T c "__getitem__" [("self" : Str), at_] 2 k F) (fk : ∀ f, PySem.W.findIn X.K (.ref (T.C c)) "__getitem__" = some (some (.ref f)) → PySem.W.fnIn X.K f = true) (hr : Room j X.A) (hj : k + 1 ≤ j) (tk : Takes X W)
    (ha : DE X T W a fa) (hb : DE X T W b fb) (hs : PlainIx b := by exact fun _ _ => rfl) (hs2 : ∀ o i, PySem.subscripted b true o i = PySem.runValue (PySem.Code.builtin "lifetime.subscript" { pos := [o, i] }) := by exact fun _ _ => rfl) : DE X T W (.Subscript a b pos) (dBin (hIxO c F) fa fb) := by
  obtain ⟨f, fd, ok, hf, hfn, bn⟩ := m.ex
  refine ⟨fun pins s σ H Q I ⟨c0, G, st, hd, ok0⟩ => ?_⟩
  obtain ⟨c1, G1, st1, hd1, ok1⟩ := step (rel := relD X.K T) hd ok0
  refine Subscript_ (thn (ha.run pins s σ H _ I ⟨c1, G1, st1, hd1, ok1⟩) fun v sA ⟨x, HA, IA, rx, G2, st2, d, s2, hd2, r2, ok2⟩ => ?_)
  obtain ⟨c3, G3, st3, hd3, ok3⟩ := step (rel := relD X.K T) hd2 ok2
  refine thn (hb.run pins sA σ HA _ IA ⟨c3, G3, st3, hd3, ok3⟩) fun u sB ⟨y, HB, IB, ry, G4, st4, e, s4, hd4, r4, ok4⟩ => ?_
  have r2' := r2.mono s4
  show wpAny (model X.prog X.w) X.A (subscriptTail a b v u) (EP X pins σ Q) X.xe sB
  have plain : GOk X.K T W (relD X.K T) c0 G4 σ (hIx d e st4) Q → wpAny (model X.prog X.w) X.A (subscriptTail a b v u) (EP X pins σ Q) X.xe sB := fun q => ix_seq a b pins sB σ HB x y v u Q IB rx ry (snd_ix c0 G4 HB σ st4 x y d e Q hd4 r2' r4 q) (hs v u)
  cases r2' with
  | @ob p dx c' us fs h1 hl rr =>
    obtain rfl : v = Value.ref p := rx
    replace ok4 : GOk X.K T W (relD X.K T) c0 G4 σ (if c' = c then fromF (F [.ob c' fs, e] st4.bx) st4 else .stuck) Q := ok4
    by_cases ec : c' = c
    · rw [if_pos ec] at ok4
      subst ec
      obtain ⟨mA, J, _⟩ := ins_get IB.hok (hd4.sub _ _ h1)
      obtain ⟨od, J, _⟩ := J.look
      have hsp : spD X.K T 2 F [.ref p, y] HB Q (WE W σ) := spD_use hd4 (.cons (.ob h1 hl rr) (.cons r4 .nil)) rfl ok4
      obtain ⟨mF, hF⟩ := IB.fr
      refine PySem.W.sub_K hF IB.ok.mod.kin J hf (fk f hf) hfn (wpAny_call (codeAny_mono (ok.run X.A.in1 X.stack sB HB ⟨[.ref p, u], []⟩ [.ref p, u] [.ref p, y] _ _ ((hr.mono hj).in1) IB.env0.in1 (by simpa using bn sB [.ref p, u] IB.kIn rfl) (.cons rfl (.cons ry .nil)) hsp) fun res s2 z => ?_)) (hs2 _ _)
      cases res with
      | error er => exact passAt tk σ pins HB sB er s2 IB z
      | ok fl =>
        cases fl with
        | ret w =>
          exact IB.after z
        | next => exact False.elim z
        | brk => exact False.elim z
        | cont => exact False.elim z
    · rw [if_neg ec] at ok4; exact ok4.elim
  | non => exact plain ok4
  | bl _ => exact plain ok4
  | int _ => exact plain ok4
  | str _ => exact plain ok4
  | ls _ _ => exact plain ok4
  | tu _ _ => exact plain ok4
  | ro _ => exact plain ok4
  | box _ => exact plain ok4
  | er0 _ _ => exact plain ok4
  | er1 _ _ _ _ => exact plain ok4
end
end DL

/-! DLzl: calls of a static method by its class. -/
namespace DL
open PySem PySem.Spec PyProof.Rows L2
/-- a static method nm of the class that stands under the name x, by what it tells -/
structure StatAt (P : Program) (w : World) (K : PySem.W.Frag) (mg : Str → Option Value) (base : Heap) (T : Tab) (x nm : Str) (ps : List Str) (n k : Nat) (F : Fn) : Prop where
  ex : ∃ (C p f : Addr) (mc : Value) (rest : List Value) (fd : FuncData), mg x = some (.ref C) ∧ PySem.W.specialIn K (.ref C) "__getattribute__" = some (some (.builtin "type.__getattribute__")) ∧
    PySem.W.typeIn K (.ref C) = some mc ∧ PySem.W.readsIn K C mc = true ∧ PySem.W.findCls K (.ref C) mc nm = some (.get (.builtin "staticmethod.__get__") (.ref p) .none (.ref C)) ∧
    PySem.W.recIn K p "staticmethod" = some (.ref f :: rest) ∧ PySem.W.handedIn (.ref f) = true ∧ FnOk P w K mg base (L2.CX P w) k f fd ps (spD K T n F) ∧ PySem.W.keepIn K (.ref f) = true ∧ Binds K fd ps []
section
variable {X : Cx} {T : Tab} {W : WX}
theorem de_stat {x nm : Str} {ps : List Str} {n k j : Nat} {F : Fn} {p1 p2 pos : Pos} {e : Expr} {es : List Expr} {fa : S → R (List D)} {pl : Sem Bool} (h : StatAt X.prog X.w X.K X.mg X.base T x nm ps n k F) (hr : Room j X.A) (hj : k ≤ j) (tk : Takes X W) (ha : DA X T W (e :: es) fa)
    (hg : Gl X x := by rfl) (hdb : (x == ("__debug__" : Str)) = false := by decide) (he : starEach (e :: es) X.env = (false, eval e X.env) :: starEach es X.env := by rfl) (hpl : (backTo pos (starEach es X.env)).any (·.1) = false := by rfl)
    (hm : eval (.Call (.Attribute (.Name x p1) nm p2) (e :: es) [] pos) X.env = (do
      let ov ← eval (.Name x p1) X.env
      standAt p2.atName
      let (f, first) ← holding [ov] (getMethod ov nm pl)
      callWith pos f first (backTo pos (starEach (e :: es) X.env)) (backToKw pos (keywordEach [] X.env))) := by rfl) :
    DE X T W (.Call (.Attribute (.Name x p1) nm p2) (e :: es) [] pos) (dCall n F [] fa) := by
  obtain ⟨C, p, f, mc, rest, fd, g, h1, h2, h3, h4, h5, h6, ok, kp, bn⟩ := h.ex
  refine ⟨fun pins s σ H Q I ⟨c0, G, st, hd, okq⟩ => ?_⟩
  refine PySem.W.methodCall_KW (pl := pl) ?_ hm
  refine thn ((pe_glob (v := .ref C) hg g rfl hdb).run pins s σ H (fun v H1 => v = .ref C ∧ H1 = H) I ⟨rfl, rfl⟩) fun ov s1 ⟨v, H1, I1, r1, ev, eH⟩ => ?_
  subst ev eH
  obtain rfl : ov = Value.ref C := r1
  obtain ⟨mF, hF⟩ := I1.fr
  refine PySem.W.method_cls I1.kIn h1 (PySem.W.cls_sm hF I1.ok.mod.kin h2 h3 h4 h5 h6 ?_)
  have I2 : Inv X pins σ H1 { s1 with toks := s1.toks + 1 } := I1.kept (t' := s1.toks + 1) fun b o z => z
  obtain ⟨c1, G1, st1, hd1, ok1⟩ := step (rel := relA X.K T) hd okq
  refine PySem.W.callWith_K (h₀ := X.base) I2.ok.mod.kin kp (thn (ha.run pos pins _ σ H1 _ I2 ⟨c1, G1, st1, hd1, ok1⟩) fun us s2 ⟨vs, H2, I3, r2, G2, st2, ds, s3, hd2, rs, ok2⟩ => ⟨I3.kIn, ?_⟩) he hpl
  by_cases q : (ds ++ []).length = n
  · rw [if_pos q] at ok2
    rw [List.append_nil] at ok2 q
    exact run_fnSD (us := us) (E := WE W) ok (hr.mono hj) bn .nil (passAt tk σ) I3 r2 (by rw [List.append_nil]; exact spD_use hd2 rs (rs.length.trans q) ok2)
  · rw [if_neg q] at ok2; exact ok2.elim
end
end DL

/-! DLzm: an own class of one field by its facts: its __init__ has one default. -/
namespace DL
open PySem PySem.Spec PyProof.Rows L2
section
variable {P : Program} {w : World} {K : PySem.W.Frag} {mg : Str → Option Value} {base : Heap} {T : Tab}
/-- the bindings of a def of (self, p = default) -/
theorem ob_binds {qual p : Str} {params : Arguments} {body : List Stmt} {scope : Scope} {dT : Addr} {o : Obj} {n : Nat} {ud kV doc pm cdv ct : Value} {an : Option Addr} (l : K.lookup dT = some o) (hd : o.data = .seq #[ud] n)
    (h2 : ∀ q u, ∃ k, bindArgs (PySem.W.fnOf "__init__" qual params body scope (.ref dT) kV doc pm an cdv ct) ⟨[q, u], []⟩ = seqItems? (.ref dT) >>= k ∧ k (some #[ud]) = pure [(("self" : Str), q), (p, u)])
    (hk : ∀ q u, ∃ k, bindArgs (PySem.W.fnOf "__init__" qual params body scope (.ref dT) kV doc pm an cdv ct) ⟨[q], [(p, u)]⟩ = seqItems? (.ref dT) >>= k ∧ k (some #[ud]) = pure [(("self" : Str), q), (p, u)])
    (h1 : ∀ q, ∃ k, bindArgs (PySem.W.fnOf "__init__" qual params body scope (.ref dT) kV doc pm an cdv ct) ⟨[q], []⟩ = seqItems? (.ref dT) >>= k ∧ k (some #[ud]) = pure [(("self" : Str), q), (p, ud)]) :
    (∀ (s : Shared) (q u : Value), K.In s.heap → BindsTo s (PySem.W.fnOf "__init__" qual params body scope (.ref dT) kV doc pm an cdv ct) ⟨[q, u], []⟩ [(("self" : Str), q), (p, u)]) ∧
    (∀ (s : Shared) (q u : Value), K.In s.heap → BindsTo s (PySem.W.fnOf "__init__" qual params body scope (.ref dT) kV doc pm an cdv ct) ⟨[q], [(p, u)]⟩ [(("self" : Str), q), (p, u)]) ∧
    (∀ (s : Shared) (q : Value), K.In s.heap → BindsTo s (PySem.W.fnOf "__init__" qual params body scope (.ref dT) kV doc pm an cdv ct) ⟨[q], []⟩ [(("self" : Str), q), (p, ud)]) := by
  have go : ∀ (s : Shared) (args : Args) (bs : List (Str × Value)), K.In s.heap → (∃ k, bindArgs (PySem.W.fnOf "__init__" qual params body scope (.ref dT) kV doc pm an cdv ct) args = seqItems? (.ref dT) >>= k ∧ k (some #[ud]) = pure bs) → BindsTo s (PySem.W.fnOf "__init__" qual params body scope (.ref dT) kV doc pm an cdv ct) args bs := by
    intro s args bs hK ⟨k, e1, e2⟩
    refine L2.BindsTo.of_looks fun M => ?_
    rw [e1]
    exact looks_items hK l hd (by rw [e2]; exact PySem.W.Looks.of_pure rfl)
  exact ⟨fun s q u hK => go s _ _ hK (h2 q u), fun s q u hK => go s _ _ hK (hk q u), fun s q hK => go s _ _ hK (h1 q)⟩
/-- an empty tuple of the module -/
theorem rep_nil {eT : Addr} {o : Obj} {n : Nat} (l : K.lookup eT = some o) (hc : o.cls = .type "tuple") (hd : o.data = .seq #[] n) : ∀ B G, Rep K T B G (.ref eT) (.tu []) := fun B G =>
  .tu (.inr ⟨o, #[], n, l, hc, hd, by decide, .nil⟩) .nil
/-- the tables of the errors where own classes stand behind them -/
theorem tab_pre {cs os : List Addr} {fl fl' : List (List Str)} {c : Nat} (h : c < cs.length) : (tabOf (cs ++ os) fl').C c = (tabOf cs fl).C c := by
  show (cs ++ os).getD c 0 = cs.getD c 0
  rw [List.getD_eq_getElem?_getD, List.getD_eq_getElem?_getD, List.getElem?_append_left h]
theorem IsTab.more {cs os : List Addr} {fl fl' : List (List Str)} {u : Value} {tbl : Nat → Bool} (h : IsTab K (tabOf cs fl) cs.length u tbl) : IsTab K (tabOf (cs ++ os) fl') cs.length u tbl where
  t := fun c hc => by rw [tab_pre (fl := fl) hc]; exact h.t c hc
  e := fun c hc => by rw [tab_pre (fl := fl) hc]; exact h.e c hc
theorem XTab.more {cs os : List Addr} {fl fl' : List (List Str)} {u : Value} {tbl : Nat → Bool} (h : XTab K (tabOf cs fl) cs.length u tbl) : XTab K (tabOf (cs ++ os) fl') cs.length u tbl where
  t := fun c hc => by rw [tab_pre (fl := fl) hc]; exact h.t c hc
end
end DL

/-! DLzn: a, b, c = (x, y, z). -/
namespace DL
open PySem PySem.Spec PyProof.Rows L2
def dPar3 (i j l : Nat) (fa : S → R (List D)) : S → R Out := fun st => (fa st).bind fun ds st => match ds with
  | [a, b, c] => .ok .nx (((st.put i (.val a)).put j (.val b)).put l (.val c))
  | _ => .stuck
section
variable {X : Cx} {T : Tab} {W : WX}
theorem ds_par3 {i j l : Nat} {x y z : Str} {a b c : Expr} {fa : S → R (List D)} {px py pz pt pos : Pos} {kt k2 pt2} (hc : X.calm = true) (hN : X.N.Nodup) (hi : X.N[i]? = some x) (hj : X.N[j]? = some y) (hl : X.N[l]? = some z) (hij : i ≠ j) (hil : i ≠ l) (hjl : j ≠ l)
    (hx : X.env.scope.names.lookup x = some .local) (hy : X.env.scope.names.lookup y = some .local) (hz : X.env.scope.names.lookup z = some .local) (ha : DA X T W [a, b, c] fa)
    (hw : swappedStores [.Tuple [.Name x px, .Name y py, .Name z pz] kt pt] (.Tuple [a, b, c] k2 pt2) X.env = pure (some [x, y, z]))
    (hs : swapsWithSole [.Tuple [.Name x px, .Name y py, .Name z pz] kt pt] (.Tuple [a, b, c] k2 pt2) pos.line X.env = pure false := by rfl) :
    DS X T W (.Assign [.Tuple [.Name x px, .Name y py, .Name z pz] kt pt] (.Tuple [a, b, c] k2 pt2) pos) (dPar3 i j l fa) := impS (ps_par3 hc hN hi hj hl hij hil hjl hx hy hz ha hw hs) fun E σ H ⟨c0, G, st, hd, ok⟩ => by
  obtain ⟨c1, G1, st1, hd1, ok1⟩ := stepS (rel := relA X.K T) hd ok
  refine ⟨c1, G1, st1, hd1, ok1.imp fun vs H1 ⟨G2, st2, ds, s2, hd2, rs, ok2⟩ => ?_⟩
  cases rs with
  | nil => exact ok2.elim
  | cons r1 rs =>
    cases rs with
    | nil => exact ok2.elim
    | cons r2 rs =>
      cases rs with
      | nil => exact ok2.elim
      | cons r3 rs =>
        cases rs with
        | cons _ _ => exact ok2.elim
        | nil => exact ⟨_, _, _, rfl, ok2 _ _ _ (Same.refl _) (((hd2.putVal r1 i).putVal r2 j).putVal r3 l)⟩
end
end DL

/-! DLzo: != where an object of the own class may stand. -/
namespace DL
open PySem PySem.Spec PyProof.Rows L2
def asNot : R D → R D
  | .ok (.bl b) st => .ok (.bl (!b)) st
  | _ => .stuck
def hNeO (c : Nat) (F : Fn) : D → D → S → R D
  | .ob c' fs, y, st => if c' = c ∧ rightD c y = true then asNot (fromN (F [.ob c' fs, y] st.bx) st) else .stuck
  | x, y, st => toD (hNe x y st)
section
variable {X : Cx} {T : Tab} {W : WX}
theorem gok_not {c : Ctx} {G : Hp} {σ : SV} {r : R D} {Q : VK} (h : GOk X.K T W (relD X.K T) c G σ (asNot r) Q) : GOk X.K T W (relD X.K T) c G σ r (fun v H2 => ∃ b : Bool, v = .bl b ∧ Q (.bl (!b)) H2) := by
  cases r with
  | stuck => exact h
  | err e s => exact h.elim
  | ok d s =>
    cases d with
    | bl b =>
      intro G' H' v s1 hd rv
      cases rv
      exact ⟨b, rfl, h G' H' _ s1 hd (.bl (!b))⟩
    | _ => exact h.elim
theorem snd_neO {c k j : Nat} {F : Fn} (m : MethAt X.prog X.w X.K X.mg X.base T c "__eq__" [("self" : Str), "other"] 2 k F) (hn : PySem.W.findIn X.K (.ref (T.C c)) "__ne__" = some (some (.builtin "object.__ne__"))) (hm : PySem.W.mroIn X.K (T.C c) (.type "object") = some true)
    (n1 : PySem.W.notFirst X.K (T.C c) (.type "tuple") = true) (n2 : PySem.W.notFirst X.K (T.C c) (.type "NoneType") = true) (hr : Room j X.A) (hj : k + 1 ≤ j) (hu : X.A.units + 64 < cLine) :
    ∃ r : R2, OpR X (compareOp .NotEq) r ∧ Snd2 X T W r (hNeO c F) := by
  obtain ⟨f, fd, ok, hs, hf, bn⟩ := m.ex
  refine ⟨_, (op_neD hu).or (op_neOb ok hn hm hs hf bn (hr.mono hj) n1 n2), fun c0 G H σ st x y a b Q hd r1 r2 q => ?_⟩
  cases r1 with
  | @ob p dx c' us fs h1 hl rr =>
    replace q : GOk X.K T W (relD X.K T) c0 G σ (if c' = c ∧ rightD c b = true then asNot (fromN (F [.ob c' fs, b] st.bx) st) else .stuck) Q := q
    by_cases ec : c' = c ∧ rightD c b = true
    · rw [if_pos ec] at q
      obtain ⟨e1, e2⟩ := ec
      subst e1
      refine .inr ⟨p, dx, _, rfl, hd.sub _ _ h1, ?_, spD_useN hd (.cons (.ob h1 hl rr) (.cons r2 .nil)) rfl (gok_not q)⟩
      cases r2 with
      | @ob p2 dx2 c2 us2 fs2 h2 hl2 rr2 =>
        have : c2 = c' := by simpa [rightD] using e2
        subst this
        exact .inl ⟨p2, dx2, _, rfl, hd.sub _ _ h2⟩
      | @tu p2 xs ds h r => exact .inr (.inl ⟨p2, xs, rfl, Same.sqt hd.sub h⟩)
      | non => exact .inr (.inr rfl)
      | _ => exact absurd e2 (by simp [rightD])
    · rw [if_neg ec] at q; exact q.elim
  | non => exact .inl (snd_ne hu c0 G H σ st _ _ _ _ Q hd .non r2 q)
  | bl k => exact .inl (snd_ne hu c0 G H σ st _ _ _ _ Q hd (.bl k) r2 q)
  | int i => exact .inl (snd_ne hu c0 G H σ st _ _ _ _ Q hd (.int i) r2 q)
  | str z => exact .inl (snd_ne hu c0 G H σ st _ _ _ _ Q hd (.str z) r2 q)
  | ls h r => exact .inl (snd_ne hu c0 G H σ st _ _ _ _ Q hd (.ls h r) r2 q)
  | tu h r => exact .inl (snd_ne hu c0 G H σ st _ _ _ _ Q hd (.tu h r) r2 q)
  | ro h => exact .inl (snd_ne hu c0 G H σ st _ _ _ _ Q hd (.ro h) r2 q)
  | box h => exact .inl (snd_ne hu c0 G H σ st _ _ _ _ Q hd (.box h) r2 q)
  | er0 h n => exact .inl (snd_ne hu c0 G H σ st _ _ _ _ Q hd (.er0 h n) r2 q)
  | er1 h n d r => exact .inl (snd_ne hu c0 G H σ st _ _ _ _ Q hd (.er1 h n d r) r2 q)
theorem de_neO {c k j : Nat} {F : Fn} {a b : Expr} {fa fb : S → R D} {pos : Pos} (m : MethAt X.prog X.w X.K X.mg X.base T c "__eq__" [("self" : Str), "other"] 2 k F) (hn : PySem.W.findIn X.K (.ref (T.C c)) "__ne__" = some (some (.builtin "object.__ne__"))) (hm : PySem.W.mroIn X.K (T.C c) (.type "object") = some true)
    (n1 : PySem.W.notFirst X.K (T.C c) (.type "tuple") = true) (n2 : PySem.W.notFirst X.K (T.C c) (.type "NoneType") = true) (hr : Room j X.A) (hj : k + 1 ≤ j)
    (ha : DE X T W a fa) (hb : DE X T W b fb) : DE X T W (.Compare a [.NotEq] [b] pos) (dBin (hNeO c F) fa fb) := by
  obtain ⟨r, o, sd⟩ := snd_neO (W := W) m hn hm n1 n2 hr hj hr.units
  exact impE (pe_cmpR o ha hb (nomark _)) (bin_read (a := a) (b := b) sd)
end
end DL

/-! DLzp: max of a list of ints. -/
namespace DL
open PySem PySem.Spec PyProof.Rows L2
def maxI : Int → List Int → Int
  | m, [] => m
  | m, i :: is => maxI (if m < i then i else m) is
theorem maxI_top : ∀ (is : List Int) (m : Int), maxI m is ∈ m :: is ∧ ∀ y ∈ m :: is, y ≤ maxI m is
  | [], m => ⟨List.mem_cons_self, fun y hy => by simp at hy; rw [hy]; exact Int.le_refl _⟩
  | i :: is, m => by
    obtain ⟨h1, h2⟩ := maxI_top is (if m < i then i else m)
    refine ⟨?_, fun y hy => ?_⟩
    · show maxI (if m < i then i else m) is ∈ m :: i :: is
      rcases List.mem_cons.mp h1 with e | e
      · rw [e]; split <;> simp
      · simp [e]
    · show y ≤ maxI (if m < i then i else m) is
      have top := h2 _ List.mem_cons_self
      have l1 : m ≤ if m < i then i else m := by split <;> omega
      have l2 : i ≤ if m < i then i else m := by split <;> omega
      rcases List.mem_cons.mp hy with rfl | hy
      · exact Int.le_trans l1 top
      · rcases List.mem_cons.mp hy with rfl | hy
        · exact Int.le_trans l2 top
        · exact h2 y (List.mem_cons_of_mem _ hy)
def hMaxL : List D → S → R D
  | [.ls ds], st => match intDs ds with
    | some (i :: is) => .ok (.int (maxI i is)) st
    | _ => .stuck
  | _, _ => .stuck
section
variable {X : Cx} {T : Tab} {W : WX}
theorem snd_maxL : SndC X T W (rMax X.K) hMaxL := fun c G H σ st vs ds Q hd r ok => by
  cases r with
  | nil => exact ok.elim
  | cons r1 r =>
    cases r with
    | cons _ _ => cases r1 <;> exact ok.elim
    | nil =>
      cases r1 with
      | @ls p vs ds h r =>
        have ok' : GOk X.K T W (relD X.K T) c G σ (match intDs ds with | some (i :: is) => .ok (.int (maxI i is)) st | _ => .stuck) Q := ok
        cases e : intDs ds with
        | none => rw [e] at ok'; exact ok'.elim
        | some bs =>
          rw [e] at ok'
          cases bs with
          | nil => exact ok'.elim
          | cons i is =>
            refine ⟨p, i :: is, rfl, ?_, Nat.zero_lt_succ _, fun m hm top => ?_⟩
            · rw [← intDs_rep r e]
              exact SqL.of (hd.sub _ _ h)
            · obtain ⟨h1, h2⟩ := maxI_top is i
              obtain rfl : m = maxI i is := Int.le_antisymm (h2 m hm) (top _ h1)
              exact ok' _ _ _ (Same.refl _) hd (.int _)
      | _ => exact ok.elim
theorem de_maxL {p pos : Pos} {e : Expr} {fa : S → R (List D)} (hc : X.calm = true) (hg : Gl X "max") (hm : X.mg "max" = none) (ha : DA X T W [e] fa) (he : starEach [e] X.env = (false, eval e X.env) :: starEach [] X.env := by rfl) :
    DE X T W (.Call (.Name "max" p) [e] [] pos) (dCB hMaxL fa) := de_callB (cr_max hc) snd_maxL hg hm boot_max' ha (he := he)
end
end DL

/-! DLzq: list(range(a, b)). -/
namespace DL
open PySem PySem.Spec PyProof.Rows L2
section
variable {X : Cx}
def tLR (ta : TA) : TE := fun σ H Q => ta σ H fun vs H1 => ∃ i j : Int, vs = [.int i, .int j] ∧ (-(2 ^ 20) ≤ i ∧ i < 2 ^ 20 ∧ -(2 ^ 20) ≤ j ∧ j < 2 ^ 20) ∧ ∀ l, H1 l = none → Q (.ref l) (upd H1 l (.lst ((List.range (j - i).toNat).map fun k => V.int (i + (k : Nat)))))
theorem vals_range {i : Int} : ∀ {n m : Nat} {us : List Value}, us.length = n → (∀ (k : Nat) (v : Value), us[k]? = some v → ∃ t, v = .int (i + ((m + k : Nat) : Int)) t) → Vals ((List.range n).map fun k => V.int (i + ((m + k : Nat) : Int))) us
  | 0, m, us, hl, h => by rw [List.length_eq_zero_iff.mp hl]; exact .nil
  | n + 1, m, [], hl, h => by simp at hl
  | n + 1, m, u :: us, hl, h => by
    rw [List.range_succ_eq_map, List.map_cons, List.map_map]
    refine .cons ?_ ?_
    · obtain ⟨t, e⟩ := h 0 u rfl
      exact ⟨t, by rw [e]⟩
    · have e2 : ((fun k : Nat => V.int (i + ((m + k : Nat) : Int))) ∘ Nat.succ) = fun k : Nat => V.int (i + ((m + 1 + k : Nat) : Int)) := by
        funext k
        show V.int _ = V.int _
        congr 2
        omega
      rw [e2]
      exact vals_range (by simpa using hl) fun k v hk => by
        obtain ⟨t, e⟩ := h (k + 1) v (by simpa using hk)
        exact ⟨t, by rw [e]; congr 2; omega⟩
theorem pe_listRange2 {a b : Expr} {ta : TA} {p p2 q pos : Pos} (hc : X.calm = true) (hg : Gl X "list") (hm : X.mg "list" = none) (hg2 : Gl X "range") (hm2 : X.mg "range" = none) (ha : PA X [a, b] ta)
    (hs : starEach [a, b] X.env = [(false, eval a X.env), (false, eval b X.env)] := by rfl) (hs2 : starEach [b] X.env = [(false, eval b X.env)] := by rfl) : PE X (.Call (.Name "list" p) [.Call (.Name "range" p2) [a, b] [] q] [] pos) (tLR ta) := by
  refine ⟨fun pins s σ H Q I h => Call_ (ld_blt I hg hm boot_list' (callWith_type1 (args_cons ?_ rfl) rfl rfl))⟩
  refine Call_ (ld_blt I hg2 hm2 boot_range (PyProof.Rows.callWith_type1 (thn (ha.run q pins s σ H _ I h) fun us s1 ⟨vs, H1, I1, r1, q1⟩ => ?_) (by rw [hs, hs2]) (by rw [hs2]; rfl)))
  obtain ⟨i, j, e, ⟨q1, q2, q3, q4⟩, qq⟩ := q1
  subst e
  cases r1 with
  | cons r rr =>
    cases rr with
    | cons r' rr =>
      cases rr
      obtain ⟨t, rfl⟩ := r
      obtain ⟨t', rfl⟩ := r'
      refine call_range_2 (args_nil ?_)
      have I2 : Inv X pins σ H1 { s1 with heap := s1.heap.push { cls := .type "range", data := .fields #[.int i t, .int j t', .int 1 s1.toks] }, toks := s1.toks + 1 } := I1.kept fun b o e => Heap.get?_push_of_some _ e
      have hn : Builtin.Range.rangeSize i j 1 = (((j - i).toNat : Nat) : Int) := by rw [rangeSize_one]; split <;> omega
      refine call_list_range (I2.ok.hd hc) (IsRange.new ..) (small_one (by omega) (by omega) (by omega) (by omega)) hn (by omega) fun h' tk acc c' kp hS hacc => ?_
      have hv : Vals ((List.range (j - i).toNat).map fun k => V.int (i + (k : Nat))) acc.toList := by
        have := vals_range (i := i) (n := (j - i).toNat) (m := 0) (us := acc.toList) (by rw [Array.length_toList]; exact hacc.1) fun k v hk => by
          rw [Array.getElem?_toList] at hk
          obtain ⟨t, e⟩ := hacc.2 k v hk
          exact ⟨t, by rw [e]; simp⟩
        simpa using this
      refine ⟨.ref _, _, I2.laid (t' := tk) kp (Nat.le_refl _) (show ObjOk X.prog X.w _ h' _ (.lst _) from ⟨by rw [List.length_map, List.length_range]; unfold sizeLine; omega, acc.toList, c', hv, hS⟩), rfl, qq _ (I2.hok.fresh (Nat.le_refl _))⟩
end
section
variable {X : Cx} {T : Tab} {W : WX}
def hListRange2 : List D → S → R (List D)
  | [.int i, .int j], st => if -1048576 ≤ i ∧ i < 1048576 ∧ -1048576 ≤ j ∧ j < 1048576 then .ok (rangeD i (j - i).toNat) st else .stuck
  | _, _ => .stuck
theorem reps_range {K : PySem.W.Frag} {B : Option Addr} {G : Hp} (i : Int) : ∀ (ks : List Nat), Reps K T B G (ks.map fun k => V.int (i + (k : Nat))) (ks.map fun k => D.int (i + (k : Nat)))
  | [] => .nil
  | k :: ks => .cons (.int _) (reps_range i ks)
theorem df_listRange2 {a b : Expr} {fa : S → R (List D)} {p p2 q pos : Pos} (hc : X.calm = true) (hg : Gl X "list") (hm : X.mg "list" = none) (hg2 : Gl X "range") (hm2 : X.mg "range" = none) (ha : DA X T W [a, b] fa)
    (hs : starEach [a, b] X.env = [(false, eval a X.env), (false, eval b X.env)] := by rfl) (hs2 : starEach [b] X.env = [(false, eval b X.env)] := by rfl) : DF X T W (.Call (.Name "list" p) [.Call (.Name "range" p2) [a, b] [] q] [] pos) (dCBF hListRange2 fa) := by
  refine impE (pe_listRange2 hc hg hm hg2 hm2 ha hs hs2) fun σ H Q ⟨c, G, st, hd, ok⟩ => ?_
  obtain ⟨c0, G0, st0, hd0, ok0⟩ := step (rel := relA X.K T) hd ok
  refine ⟨c0, G0, st0, hd0, ok0.imp fun vs H1 ⟨G1, st1, a, s1, hd1, r, ok1⟩ => ?_⟩
  cases r with
  | nil => exact ok1.elim
  | cons r1 r =>
    cases r with
    | nil => cases r1 <;> exact ok1.elim
    | cons r2 r =>
      cases r with
      | cons _ _ => cases r1 <;> cases r2 <;> exact ok1.elim
      | nil =>
        cases r1 with
        | int i =>
          cases r2 with
          | int j =>
            replace ok1 : GOk X.K T W (relF X.K T) c G1 σ (if -1048576 ≤ i ∧ i < 1048576 ∧ -1048576 ≤ j ∧ j < 1048576 then .ok (rangeD i (j - i).toNat) st1 else .stuck) Q := ok1
            by_cases z : -1048576 ≤ i ∧ i < 1048576 ∧ -1048576 ≤ j ∧ j < 1048576
            · rw [if_pos z] at ok1
              refine ⟨i, j, rfl, ⟨by omega, by omega, by omega, by omega⟩, fun l hl => ?_⟩
              obtain ⟨h4, r4⟩ := hd1.fresh hl (reps_range (T := T) (K := X.K) (B := c.B) (G := G1) i (List.range (j - i).toNat))
              exact ok1 _ _ _ (Same.refl _) h4 r4
            · rw [if_neg z] at ok1; exact ok1.elim
          | _ => exact ok1.elim
        | _ => cases r2 <;> exact ok1.elim
end
end DL

/-! DLzr: try at a tuple of classes, whose suite keeps the error. -/
namespace DL
open PySem PySem.Spec PyProof.Rows L2
def wKeepT (K : PySem.W.Frag) (cs : List Value) (i : Nat) (ts : Addr → Value → Option Addr → TS) (Wo : WX) (D : Ends) : WX := fun cls d σ H =>
  ∃ C yes, cls = .ref C ∧ PySem.W.exmAny K cls cs = some yes ∧ (yes = false → Wo cls d σ H) ∧
    (yes = true → ∀ q, H q = none → ts q cls d
      { nx := fun σ1 H1 => D.nx (σ1.set i none) (upd H1 q (exV q C d)), rt := fun _ _ => False, bk := fun _ _ => False, ct := fun _ _ => False } (σ.set i (some (.ref q))) H)
theorem FlyingZ_keeps {base h h' : Heap} {l : List Env} {e : Addr} {Z : Obj → Prop} (x : HandSPX.FlyingZ base l e Z h) (k : ∀ b o, h.get? b = some o → h'.get? b = some o) : HandSPX.FlyingZ base l e Z h' := by
  obtain ⟨f1, f2, f3, oe, vs, T, oT, ts, a1, a2, a3, a4, a5, a6, a7, a8, a9⟩ := x
  exact ⟨fun b o e => k b o (f1 b o e), f2, Heap.FunFrames.of_keeps (fun b o e _ => ⟨o, k b o e, rfl⟩) f3, oe, vs, T, oT, ts, k _ _ a1, a2, a3, a4, a5, a6, k _ _ a7, a8, a9⟩
section
variable {X : Cx} {x1 x2 x3 n : Str} {c1 c2 c3 : Value} {i : Nat} {body suite : List Stmt} {st0 : Stmt} {np1 np2 np3 tp p1 p2 : Pos} {kk : Nat} {tb : WX → TS} {ts : Addr → Value → Option Addr → TS} {Wo : WX}
theorem ps_keepT3 (stk : X.stack = X.env :: X.outer) (fr : X.env.frame = some X.env.locals) (hex : X.ex = []) (nd : X.N.Nodup) (hi : X.N[i]? = some n) (hl : X.env.kindOf n = some .local) (hc1 : Names X x1 c1) (hc2 : Names X x2 c2) (hc3 : Names X x3 c3) (tk : Takes X Wo)
    (hb : ∀ (W : WX) (pn : List (Addr × Obj)) (xe : Value → Shared → Prop), Takes (X.tr pn xe) W → PassesOwn (model X.prog X.w) X.A X.env xe → PSs (X.tr pn xe) body (tb W))
    (hk : ∀ (q : Addr) (oe : Obj) (cls : Value) (d : Option Addr) (pn : List (Addr × Obj)), Zc cls d oe → (∃ vs, oe.data = .fields vs) → PSs (X.suite q ((q, oe) :: pn)) (st0 :: suite) (ts q cls d)) :
    PS X (.Try body [.ExceptHandler (some (.Tuple [.Name x1 np1, .Name x2 np2, .Name x3 np3] kk tp)) (some n) (st0 :: suite) p2] [] [] p1) (fun D σ H => tb (wKeepT X.K [c1, c2, c3] i ts Wo D) D σ H) := by
  refine ⟨fun pins s σ H D I h => wpAny_Try_except ?_⟩
  have ok := I.ok
  have frA : X.A.frames = some (X.env :: X.outer) := by rw [ok.frames, stk]
  have lo : Loc X.env.scope n := .inl hl
  refine wpAny_mono ((hb (wKeepT X.K [c1, c2, c3] i ts Wo D) (X.pn ++ pins) (landsAt X pins D (.ExceptHandler (some (.Tuple [.Name x1 np1, .Name x2 np2, .Name x3 np3] kk tp)) (some n) (st0 :: suite) p2)) (fun u s2 err => ?_) PassesOwn.looking).run [] s σ H D (I.toTry _) h) (fun f s2 z => ?_) (fun _ _ z => z)
  · obtain ⟨q, B, sI, pn2, σ2, H2, cls, d, rfl, Jt, nb, up, sky, na, os, ag, C, yes, rfl, ey, hno, hyes⟩ := err
    have J : Inv X pins σ2 H2 sI := Jt.ofTry ok
    replace sky : Sky B (X.env :: X.outer) q (Zc (.ref C) d) X.env.locals s2.heap := by rw [← stk]; exact sky
    show wpAny (model X.prog X.w) X.A (noteFrame (.ref q) X.env) _ _ _
    refine Sky.land Zc.steady frA fr sky fun hA flA upA => ?_
    have JA : Inv X pins σ2 H2 { s2 with heap := hA } := J.landed nb flA.1 (up.trans upA) os ag
    obtain ⟨oA, vA, gA, zA, dA⟩ := flA.there
    have nf := no_frame flA.2.2.1 gA dA
    have nL : q ≠ X.env.locals := fun z => nf (List.mem_filterMap.mpr ⟨X.env, List.mem_cons_self, by rw [fr, z]⟩)
    have nF : q ∉ X.fs := fun hm => by
      obtain ⟨en, he, z⟩ := List.mem_filterMap.mp hm
      exact nf (List.mem_filterMap.mpr ⟨en, List.mem_cons_of_mem _ he, z⟩)
    have new : sI.heap.get? q = none := by
      cases z : sI.heap.get? q with
      | none => rfl
      | some o =>
        have z2 := nb q o z (by rw [stk]; exact nf)
        rw [flA.2.1] at z2; cases z2
    have SA := JA.suite gA dA na nL nF
    refine wpAny_handleBy_cons (codeAny_handlers_test ?_) (by intro z; cases z)
    have ty : PySem.W.Looks (model X.prog X.w) hA (typeOf (.ref q)) (.ref C) := fun A Q E s k z => wpAny_typeOf_ref (k _ _ gA) (by rw [zA.1]; exact z)
    have named : ∀ {y : Str} {c : Value} {p : Pos}, Names X y c → ∀ {Q : Value → Shared → Prop} {E : Value → Shared → Prop}, Q c { s2 with heap := hA } → wpAny (model X.prog X.w) (X.A.mark (some (.ref q))) (eval (.Name y p) X.env) Q E { s2 with heap := hA } := fun {y c p} hc {Q E} z => by
      obtain ⟨hg, hdb, hm | ⟨hm, hv, hnn⟩⟩ := hc
      · exact ld_glob (X := X.suite q ((q, oA) :: (X.pn ++ pins))) SA hg hm z hdb
      · exact ld_blt (X := X.suite q ((q, oA) :: (X.pn ++ pins))) SA hg hm hv z hnn hdb
    refine wpAny_Tuple ?_
    refine wpAny_items_cons (named hc1 ?_)
    refine wpAny_items_cons (named hc2 ?_)
    refine wpAny_items_cons (named hc3 ?_)
    refine wpAny_items_nil ⟨by size_fits, ?_⟩
    have kp : ∀ b o, hA.get? b = some o → (hA.push { cls := .type "tuple", data := .seq [c1, c2, c3].toArray }).get? b = some o := fun _ _ z => Heap.get?_push_of_some _ z
    have mt := PySem.W.exm_tup3 (M := model X.prog X.w) (JA.kIn.keeps kp) (ty.keeps kp) (Heap.get?_push_size hA rfl) ey
    refine mt.here ?_
    replace flA := FlyingZ_keeps flA kp
    replace upA := upA.trans (Heap.UpToSlots.of_keeps kp)
    clear mt named SA JA gA
    generalize hA.push { cls := .type "tuple", data := .seq [c1, c2, c3].toArray } = hA at *
    cases yes with
    | true =>
      refine codeAny_handlers_suite_as (HandSPX.lands_againZ flA fun hB flB upB => ?_)
      have JB : Inv X pins σ2 H2 { s2 with heap := hB } := J.landed nb flB.1 ((up.trans upA).trans upB) os ag
      obtain ⟨oB, vB, gB, zB, dB⟩ := flB.there
      refine store_ok (X := X.suite q ((q, oB) :: (X.pn ++ pins))) (v := .ref q) (JB.suite gB dB na nL nF) nd hi lo rfl (fun s5 S5 => ?_) (.inr hl)
      refine wpAny_mono ((hk q oB (.ref C) d (X.pn ++ pins) zB ⟨_, dB⟩).run [] s5 _ H2 _ S5 (hyes rfl q na)) (fun f s6 z => ?_) (fun _ _ z => False.elim z)
      cases f with
      | next =>
        obtain ⟨σ6, H6, S6, z⟩ := z
        exact kept ⟨_, _, J⟩ hex new S6 ok zB dB nd hi hl fun s7 J7 => ⟨_, _, J7, z⟩
      | brk => obtain ⟨_, _, _, z⟩ := z; exact z.elim
      | cont => obtain ⟨_, _, _, z⟩ := z; exact z.elim
      | ret u => obtain ⟨_, _, _, _, _, z⟩ := z; exact z.elim
    | false =>
      show wpAny _ X.A (handleBy (.ref q) X.env []) _ _ _
      refine wpAny_handleBy_nil ?_
      obtain ⟨_, _, _, oe, vs, tb1, _, _, g1, _, d1, at1, _⟩ := id flA
      unfold PySem.passOn
      refine wpAny_bind (wpAny_field g1 d1 at1 ?_)
      rw [if_neg (show ¬ ((Value.ref tb1 == Value.none) = true) from by simp)]
      have onward : wpAny (model X.prog X.w) X.A (setFlight (.ref q) X.env.frame) (fun _ s4 => wpAny (model X.prog X.w) X.A (throw (.ref q) : Sem Flow) (SP X pins D) X.xe s4) X.xe { s2 with heap := hA } := by
        rw [fr]
        exact HandSPX.setFlight_upZ flA fun hC heldC upC => wpAny_throw (tk _ _ ⟨q, B, sI, pins, σ2, H2, .ref C, d, rfl, J, nb, (up.trans upA).trans upC, .inr (.inr (by rw [stk]; exact heldC)), na, os, ag, hno rfl⟩)
      first
        | exact wpAny_bind (wpAny_pure (wpAny_bind onward))
        | exact wpAny_bind onward
  · cases f with
    | next => obtain ⟨σ2, H2, J, z⟩ := z; exact wpAny_execs_nil ⟨σ2, H2, J.ofTry ok, z⟩
    | brk => obtain ⟨σ2, H2, J, z⟩ := z; exact ⟨σ2, H2, J.ofTry ok, z⟩
    | cont => obtain ⟨σ2, H2, J, z⟩ := z; exact ⟨σ2, H2, J.ofTry ok, z⟩
    | ret u => obtain ⟨v, σ2, H2, J, r, z⟩ := z; exact ⟨v, σ2, H2, J.ofTry ok, r, z⟩
end
theorem exm_or3 {K : PySem.W.Frag} {cls c1 c2 c3 : Value} {b1 b2 b3 : Bool} (h1 : PySem.W.exmOne K cls c1 = some b1) (h2 : PySem.W.exmOne K cls c2 = some b2) (h3 : PySem.W.exmOne K cls c3 = some b3) : PySem.W.exmAny K cls [c1, c2, c3] = some (b1 || b2 || b3) := by
  simp only [PySem.W.exmAny, h1, h2, h3]
  cases b1 <;> cases b2 <;> cases b3 <;> rfl
section
variable {X : Cx} {T : Tab} {W : WX}
theorem ds_keepT3At {x1 x2 x3 n y : Str} {m iy iN kk : Nat} {t1 t2 t3 : Nat → Bool} {body : List Stmt} {f : S → R Out} {np1 np2 np3 tp p1 p2 py pn p3 : Pos} (h1 : XAt X.K X.mg T m x1 t1) (h2 : XAt X.K X.mg T m x2 t2) (h3 : XAt X.K X.mg T m x3 t3) (stk : X.stack = X.env :: X.outer) (fr : X.env.frame = some X.env.locals) (hex : X.ex = []) (nd : X.N.Nodup)
    (hi : X.N[iN]? = some n) (hl : X.env.kindOf n = some .local) (tk : Takes X W)
    (hb : ∀ (W : WX) (pn : List (Addr × Obj)) (xe : Value → Shared → Prop), Takes (X.tr pn xe) W → PassesOwn (model X.prog X.w) X.A X.env xe → DSs (X.tr pn xe) T W body f)
    (hiy : X.N[iy]? = some y) (hly : Loc X.env.scope y) (ne : iy ≠ iN) (hv : Vis X.env.scope n) (hg1 : Gl X x1 := by rfl) (hg2 : Gl X x2 := by rfl) (hg3 : Gl X x3 := by rfl) (hd1 : (x1 == ("__debug__" : Str)) = false := by decide) (hd2 : (x2 == ("__debug__" : Str)) = false := by decide) (hd3 : (x3 == ("__debug__" : Str)) = false := by decide)
    (hd : (n == ("__debug__" : Str)) = false := by decide) (hcd : (n == ("__classdict__" : Str)) = false := by decide)
    (hsw : swapsWith (.Name n pn) (some (.Name y py)) p3.line X.env = pure false := by rfl) (hf : X.fn y = true ∨ X.env.scope.names.lookup y = some .local := by first | exact .inl rfl | exact .inr rfl | assumption) :
    DS X T W (.Try body [.ExceptHandler (some (.Tuple [.Name x1 np1, .Name x2 np2, .Name x3 np3] kk tp)) (some n) [.Assign [.Name y py] (.Name n pn) p3] p2] [] [] p1) (dTry (fun c => t1 c || t2 c || t3 c) m iy iN f) := by
  obtain ⟨a1, g1, u1⟩ := h1.ex
  obtain ⟨a2, g2, u2⟩ := h2.ex
  obtain ⟨a3, g3, u3⟩ := h3.ex
  refine impS (ps_keepT3 (c1 := .ref a1) (c2 := .ref a2) (c3 := .ref a3) (i := iN) (Wo := W) (tb := fun W => tD X.K T W f) (ts := fun _ _ _ => tAsg (tVar iN) (gName iy)) stk fr hex nd hi hl ⟨hg1, hd1, .inl g1⟩ ⟨hg2, hd2, .inl g2⟩ ⟨hg3, hd3, .inl g3⟩ tk hb (fun q oe cls d pn _ _ => pss_one (ps_set (X := X.suite q ((q, oe) :: pn)) nd hiy hly (pe_var (X := X.suite q ((q, oe) :: pn)) hi hv hd hcd) hsw hf))) fun E σ H ⟨c, G, st, h, ok⟩ => ⟨c, G, st, h, ?_⟩
  unfold dTry at ok
  cases z : f st with
  | stuck => rw [z] at ok; exact ok
  | ok o st1 => rw [z] at ok; cases o <;> exact ok
  | err e st1 =>
    rw [z] at ok
    replace ok : SOk X.K T W c G (if e.c < m ∧ iN < st1.env.length then (if (t1 e.c || t2 e.c || t3 e.c) = true then .ok .nx ((st1.put iy (.val (.er e.c e.fs))).put iN .un) else .err e st1) else .stuck) E := ok
    intro G1 H1 σ1 cls d s1 hd1 er
    by_cases lt : e.c < m ∧ iN < st1.env.length
    · rw [if_pos lt] at ok
      obtain ⟨ec, rest⟩ := id er
      subst ec
      refine ⟨_, _, rfl, exm_or3 (u1.t _ lt.1) (u2.t _ lt.1) (u3.t _ lt.1), fun no => ?_, fun yes q hq => ?_⟩
      · rw [no, if_neg Bool.false_ne_true] at ok
        exact ok G1 H1 σ1 _ d s1 hd1 er
      · rw [yes, if_pos rfl] at ok
        have gn := hd1.gnone hq
        obtain ⟨_, rp⟩ := rep_of_err (c := c) er gn
        have hd2 := hd1.lay (exV q (T.C e.c) d) hq
        have hd3 := (hd2.putVal rp iy).putUn iN none
        have li : iN < σ1.length := by rw [hd1.len]; exact lt.2
        refine ⟨.ref q, List.getElem?_set_self li, ?_⟩
        show E.nx (((σ1.set iN (some (.ref q))).set iy (some (.ref q))).set iN none) _
        rw [List.set_comm _ _ (Ne.symm ne), List.set_set]
        exact ok _ _ _ (s1.trans (same_upd gn)) hd3
    · rw [if_neg lt] at ok
      exact ok.elim
end
end DL

/-! DLzs: sorted(set(t)), t a tuple of ints. -/
namespace DL
open PySem PySem.Spec PyProof.Rows L2
/-- put into a rising row -/
def insU (x : Int) : List Int → List Int
  | [] => [x]
  | y :: ys => if x < y then x :: y :: ys else if x = y then y :: ys else y :: insU x ys
def sortU : List Int → List Int
  | [] => []
  | x :: xs => insU x (sortU xs)
theorem insU_mem (x k : Int) : ∀ ys, k ∈ insU x ys ↔ k = x ∨ k ∈ ys
  | [] => by simp [insU]
  | y :: ys => by
    unfold insU
    split
    · simp
    · split
      · rename_i h; subst h; simp
      · rw [List.mem_cons, insU_mem x k ys, List.mem_cons]
        constructor
        · rintro (h | h | h)
          · exact .inr (.inl h)
          · exact .inl h
          · exact .inr (.inr h)
        · rintro (h | h | h)
          · exact .inr (.inl h)
          · exact .inl h
          · exact .inr (.inr h)
theorem sortU_mem (k : Int) : ∀ xs, k ∈ sortU xs ↔ k ∈ xs
  | [] => by simp [sortU]
  | x :: xs => by rw [sortU, insU_mem, sortU_mem k xs, List.mem_cons]
theorem insU_rise (x : Int) : ∀ {ys : List Int}, ys.Pairwise (· < ·) → (insU x ys).Pairwise (· < ·)
  | [], _ => by simp [insU]
  | y :: ys, h => by
    obtain ⟨h1, h2⟩ := List.pairwise_cons.mp h
    unfold insU
    split
    · rename_i q
      refine List.pairwise_cons.mpr ⟨fun z hz => ?_, h⟩
      rcases List.mem_cons.mp hz with e | hz
      · omega
      · have := h1 z hz; omega
    · split
      · exact h
      · refine List.pairwise_cons.mpr ⟨fun z hz => ?_, insU_rise x h2⟩
        rcases (insU_mem x z ys).mp hz with e | hz
        · omega
        · exact h1 z hz
theorem sortU_rise : ∀ xs, (sortU xs).Pairwise (· < ·)
  | [] => .nil
  | x :: xs => insU_rise x (sortU_rise xs)
theorem rise_one : ∀ {xs ys : List Int}, xs.Pairwise (· < ·) → ys.Pairwise (· < ·) → (∀ k, k ∈ xs ↔ k ∈ ys) → xs = ys
  | [], [], _, _, _ => rfl
  | [], y :: ys, _, _, h => by have := (h y).mpr List.mem_cons_self; simp at this
  | x :: xs, [], _, _, h => by have := (h x).mp List.mem_cons_self; simp at this
  | x :: xs, y :: ys, hx, hy, h => by
    obtain ⟨a1, a2⟩ := List.pairwise_cons.mp hx
    obtain ⟨b1, b2⟩ := List.pairwise_cons.mp hy
    have e : x = y := by
      rcases List.mem_cons.mp ((h x).mp List.mem_cons_self) with e | m1
      · exact e
      · rcases List.mem_cons.mp ((h y).mpr List.mem_cons_self) with e | m2
        · exact e.symm
        · have := a1 y m2; have := b1 x m1; omega
    subst e
    congr 1
    refine rise_one a2 b2 fun k => ⟨fun m => ?_, fun m => ?_⟩
    · rcases List.mem_cons.mp ((h k).mp (List.mem_cons_of_mem _ m)) with e | m'
      · have := a1 k m; omega
      · exact m'
    · rcases List.mem_cons.mp ((h k).mpr (List.mem_cons_of_mem _ m)) with e | m'
      · have := b1 k m; omega
      · exact m'
theorem ints_are : ∀ {ns : List Int} {us : List Value}, Vals (ns.map V.int) us → IntsAre us ns
  | [], _, .nil => .nil
  | n :: ns, _, .cons r rs => by
    obtain ⟨t, rfl⟩ := r
    exact .cons n t (ints_are rs)
section
variable {X : Cx}
def tSSI (K : PySem.W.Frag) (ta : TE) : TE := fun σ H Q => ta σ H fun x H1 => ∃ (l : Addr) (ns : List Int), x = V.ref l ∧ SqT K H1 l (ns.map V.int) ∧ ns.length < 64 ∧ ∀ p, H1 p = none → Q (.ref p) (upd H1 p (.lst ((sortU ns).map V.int)))
theorem pe_sortedSetI {a : Expr} {ta : TE} {p p2 q pos : Pos} (hc : X.calm = true) (hg : Gl X "sorted") (hm : X.mg "sorted" = none) (hg2 : Gl X "set") (hm2 : X.mg "set" = none) (ha : PE X a ta)
    (na : starEach [a] X.env = (false, eval a X.env) :: starEach [] X.env := by rfl) : PE X (.Call (.Name "sorted" p) [.Call (.Name "set" p2) [a] [] q] [] pos) (tSSI X.K ta) := by
  refine ⟨fun pins s σ H Q I h => Call_ (ld_blt I hg hm boot_sorted' (callWith_builtin1 (args_cons ?_ rfl) rfl rfl))⟩
  refine Call_ (ld_blt I hg2 hm2 boot_set (callWith_type1 (args_cons (thn (ha.run pins s σ H _ I h) fun v s1 ⟨x, H1, I1, r1, q1⟩ => args_nil ?_) na) na rfl))
  obtain ⟨l, ns, rfl, hq, few, q1⟩ := q1
  cases r1
  obtain ⟨its, r, pl, hz⟩ := I1.tuple hq
  refine call_set_tupI ns (I1.ok.hd hc) pl (by simpa using ints_are r) (by unfold scanBound; omega) fun h' tk c hS hcl hk => args_nil ?_
  have I2 : Inv X pins σ H1 { s1 with heap := h', toks := tk } := I1.kept hk
  refine sorted_set hS (I2.ok.hd hc) (by omega) fun s' p out c' ms k g o hp hg hi hs hmm hl => ?_
  have e : ms = sortU ns := rise_one hs (sortU_rise ns) fun k => by rw [hmm k, sortU_mem, decide_eq_true_eq]
  subst e
  have hlen : ((sortU ns).map V.int).length ≤ sizeLine := by rw [List.length_map, hl, sizeLine_eq]; omega
  have hn : H1 p = none := I2.hok.fresh hp
  have J : Inv X pins σ (upd H1 p (.lst ((sortU ns).map V.int))) { ({ s1 with heap := h', toks := tk } : Shared) with heap := s'.heap, gens := s'.gens, drawn := s'.drawn, toks := s'.toks } :=
    I2.call (ch := []) (Un.laid k hp hn) (I2.hok.laid k hp ⟨hlen, out.toList, c', vals_of_ints hi, hg⟩) (by rw [g]; exact I2.bare) (fun _ z => nomatch z)
  have e : s' = { ({ s1 with heap := h', toks := tk } : Shared) with heap := s'.heap, gens := s'.gens, drawn := s'.drawn, toks := s'.toks } := by
    cases s'
    cases s1
    cases o
    rfl
  rw [e]
  exact ⟨.ref p, _, J, rfl, q1 p hn⟩
end
section
variable {X : Cx} {T : Tab} {W : WX}
def hSortSetI : D → S → R (List D)
  | .tu ds, st => match intDs ds with
    | some ns => if ns.length < 64 then .ok ((sortU ns).map .int) st else .stuck
    | none => .stuck
  | _, _ => .stuck
def dUnF (h : D → S → R (List D)) (f : S → R D) : S → R (List D) := fun st => (f st).bind h
theorem reps_intD {K : PySem.W.Frag} {B : Option Addr} {G : Hp} : ∀ {vs : List V} {ds : List D} {ns : List Int}, Reps K T B G vs ds → intDs ds = some ns → vs = ns.map V.int
  | _, _, ns, .nil, e => by cases e; rfl
  | _, _, ns, .cons (d := d) (ds := ds) h r, e => by
    cases h with
    | int i =>
      have e' : (intDs ds).map (i :: ·) = some ns := e
      cases z : intDs ds with
      | none => rw [z] at e'; cases e'
      | some ms =>
        rw [z] at e'
        cases e'
        rw [reps_intD r z]
        rfl
    | _ => cases e
theorem df_sortSetI {a : Expr} {f : S → R D} {p p2 q pos : Pos} (hc : X.calm = true) (hg : Gl X "sorted") (hm : X.mg "sorted" = none) (hg2 : Gl X "set") (hm2 : X.mg "set" = none) (ha : DE X T W a f)
    (na : starEach [a] X.env = (false, eval a X.env) :: starEach [] X.env := by rfl) : DF X T W (.Call (.Name "sorted" p) [.Call (.Name "set" p2) [a] [] q] [] pos) (dUnF hSortSetI f) := by
  refine impE (pe_sortedSetI hc hg hm hg2 hm2 ha na) fun σ H Q ⟨c, G, st, hd, ok⟩ => ?_
  obtain ⟨c0, G0, st0, hd0, ok0⟩ := step (rel := relD X.K T) hd ok
  refine ⟨c0, G0, st0, hd0, ok0.imp fun x H1 ⟨G1, st1, d, s1, hd1, r, ok1⟩ => ?_⟩
  cases r with
  | @tu p vs ds h r =>
    replace ok1 : GOk X.K T W (relF X.K T) c G1 σ (match intDs ds with | some ns => if ns.length < 64 then .ok ((sortU ns).map .int) st1 else .stuck | none => .stuck) Q := ok1
    cases z : intDs ds with
    | none => rw [z] at ok1; exact ok1.elim
    | some ns =>
      rw [z] at ok1
      dsimp only at ok1
      have ev := reps_intD r z
      subst ev
      by_cases q : ns.length < 64
      · rw [if_pos q] at ok1
        refine ⟨p, ns, rfl, Same.sqt hd1.sub h, q, fun l hl => ?_⟩
        obtain ⟨h4, r4⟩ := hd1.fresh hl (Reps.ints (sortU ns))
        exact ok1 _ _ _ (Same.refl _) h4 r4
      · rw [if_neg q] at ok1; exact ok1.elim
  | _ => exact ok1.elim
end
end DL

/-! DLzt: comprehensions with two `for`s. -/
namespace DL
open PySem PySem.Spec PyProof.Rows L2
def turn2D (k : Tg) (vs : List Nat) (t : S → R Bool) (i1 : S → R (List D)) (k1 : Tg) (vs1 : List Nat) (t1 : S → R Bool) (e : S → R D) (d : D) (st : S) : R (List D) :=
  (tgD k d { st.hide with env := wipeS st.hide.env vs }).bind fun _ s2 => (t s2).bind fun b s3 => if b = true then (i1 s3).bind fun ds1 s4 => compD k1 vs1 t1 e ds1 [] s4 else .ok [] s3
def comp2D (k : Tg) (vs : List Nat) (t : S → R Bool) (i1 : S → R (List D)) (k1 : Tg) (vs1 : List Nat) (t1 : S → R Bool) (e : S → R D) : List D → List D → S → R (List D)
  | [], acc, st => .ok acc st
  | d :: ds, acc, st => match turn2D k vs t i1 k1 vs1 t1 e d st with
    | .ok ys s => if acc.length + ys.length ≤ 16777216 then comp2D k vs t i1 k1 vs1 t1 e ds (acc ++ ys) { st with bx := s.bx } else .stuck
    | _ => .stuck
def dComp2 (k : Tg) (vs : List Nat) (i : S → R (List D)) (t : S → R Bool) (k1 : Tg) (vs1 : List Nat) (i1 : S → R (List D)) (t1 : S → R Bool) (e : S → R D) : S → R (List D) := fun st => (i st).bind fun ds st => comp2D k vs t i1 k1 vs1 t1 e ds [] st
theorem compD_len {k : Tg} {vs : List Nat} {t : S → R Bool} {e : S → R D} : ∀ {ds acc : List D} {st : S} {ys : List D} {s : S}, compD k vs t e ds acc st = .ok ys s → acc.length ≤ ys.length
  | [], acc, st, ys, s, h => by
    have h' : R.ok acc st = .ok ys s := h
    cases h'; exact Nat.le_refl _
  | d :: ds, acc, st, ys, s, h => by
    unfold compD at h
    revert h
    cases turnD k vs t e d st with
    | ok o s1 =>
      cases o with
      | none => exact fun h => compD_len h
      | some y =>
        intro h
        dsimp only at h
        by_cases q : acc.length < 16777216
        · rw [if_pos q] at h
          have := compD_len h
          rw [List.length_append] at this
          exact Nat.le_trans (Nat.le_add_right _ _) this
        · rw [if_neg q] at h; cases h
    | err er s1 => exact fun h => by cases h
    | stuck => exact fun h => by cases h
section
variable {K : PySem.W.Frag} {T : Tab} {c c1 : Ctx} {G G' H H' : Hp} {σ : SV} {st : S}
theorem hide_no (st : S) : ∀ (i : Nat) (ds : List D), st.hide.env[i]? ≠ some (.own ds) := fun i ds e => by
  have e' : (st.env.map Sl.hide)[i]? = some (.own ds) := e
  rw [List.getElem?_map] at e'
  cases q : st.env[i]? with
  | none => rw [q] at e'; cases e'
  | some s =>
    rw [q] at e'
    cases s <;> cases e'
theorem Holds.rebase (h : Holds K T c1 G H σ st) (no : ∀ (i : Nat) (ds : List D), st.env[i]? ≠ some (.own ds)) (s : Same G H') (bx : ∀ p, c1.B = some p → H' p = some (boxO st.bx)) : Holds K T ⟨c1.B, H', G⟩ G H' σ st where
  sub0 := Same.refl _
  sub := s
  new := fun a e n => absurd e n
  frame := fun a o e _ => e
  len := h.len
  slot := fun i s e => by
    have o := h.slot i s e
    cases s with
    | un => trivial
    | val d => exact o
    | own ds => exact absurd e (no i ds)
  dist := fun i j p ds es e1 => absurd e1 (no i ds)
  box := fun p e => ⟨bx p e, (h.box p e).2⟩
  box0 := fun p e => by
    show H' p ≠ none
    rw [bx p e]; exact fun z => by cases z
end
section
variable {X : Cx} {T : Tab}
theorem comp2_read {W : WX} {k k1 : Tg} {vs vs1 : List Nat} {i i1 : S → R (List D)} {t t1 : S → R Bool} {e : S → R D} (hk : tgIn vs k) (hk1 : tgIn vs1 k1) : ∀ σ H Q, gD X.K T W (relF X.K T) (dComp2 k vs i t k1 vs1 i1 t1 e) σ H Q →
    tLc2 (gD X.K T W (relI X.K T) i) (tgT X.K k) (gD X.K T W0 relB t) (gD X.K T W0 (relI X.K T) i1) (tgT X.K k1) (gD X.K T W0 relB t1) (gD X.K T W0 (relD X.K T) e) vs vs1 σ H Q := by
  intro σ H Q ⟨c, G, st, hd, ok⟩
  obtain ⟨c0, G0, st0, hd0, ok0⟩ := step (rel := relI X.K T) hd ok
  refine ⟨c0, G0, st0, hd0, ok0.imp fun J H1 ⟨G1, st1, ds, s1, hd1, r1, ok1⟩ => ?_⟩
  intro L hL
  obtain ⟨hf, rf⟩ := hd1.fresh hL (.nil)
  refine ⟨fun j m H => m = ds.length - j ∧ j ≤ ds.length ∧ ∃ G' b acc, Same G1 G' ∧ Holds X.K T c G' H σ { st1 with bx := b } ∧ relF X.K T c G' H σ { st1 with bx := b } (.ref L) acc ∧ GOk X.K T W (relF X.K T) c G' σ (comp2D k vs t i1 k1 vs1 t1 e (ds.drop j) acc { st1 with bx := b }) Q,
    ⟨ds.length, by simp, Nat.zero_le _, G1, st1.bx, [], Same.refl _, hf, rf, ok1⟩, ?_⟩
  rintro j m H2 ⟨rfl, hj, G', b, acc, s', hd', rf', ok'⟩
  obtain ⟨rs, rg⟩ := r1 (inner c G' H2) G' H2 σ ({ st1 with bx := b } : S).hide rfl s' hd'.enter
  by_cases hlt : j < ds.length
  · have e0 : ds[j]? = some ds[j] := List.getElem?_eq_getElem hlt
    obtain ⟨g1, g2⟩ := rg j _ e0
    have ed : ds.drop j = ds[j] :: ds.drop (j + 1) := List.drop_eq_getElem_cons hlt
    rw [ed] at ok'
    refine .inr ⟨g1, fun H' => ∃ G' b acc, Same G1 G' ∧ Holds X.K T c G' H' σ { st1 with bx := b } ∧ relF X.K T c G' H' σ { st1 with bx := b } (.ref L) acc ∧ GOk X.K T W (relF X.K T) c G' σ (comp2D k vs t i1 k1 vs1 t1 e (ds.drop (j + 1)) acc { st1 with bx := b }) Q,
      fun H' ⟨Ga, ba, acca, a1, a2, a3, a4⟩ => ⟨ds.length - (j + 1), by omega, rfl, hlt, Ga, ba, acca, a1, a2, a3, a4⟩, fun x H' y => ?_⟩
    obtain ⟨G2, s2, s2', hd2, r2⟩ := g2 x H' y
    have hw := hd2.wiped vs
    obtain ⟨p0, ws, eL, hL2, gL, zL, rL, ndL⟩ := rf'
    cases eL
    have back : ∀ {G3 H3 : Hp} {σ3 : SV} {s3 : S}, Same G2 G3 → Holds X.K T (inner c G' H2) G3 H3 σ3 s3 → Holds X.K T c G3 H3 σ { st1 with bx := s3.bx } ∧ H3 L = some (.lst ws) ∧ G3 L = none ∧ Reps X.K T c.B G3 ws acc := fun {G3 H3 σ3 s3} s3s h3 => by
      refine ⟨hd'.leave h3, h3.frame L _ hL2 (fun q => hd'.box0 L q zL), ?_, rL.mono (s2.trans s3s)⟩
      cases q : G3 L with
      | none => rfl
      | some o =>
        have z : H2 L = none := h3.new L gL (by rw [q]; exact fun z => by cases z)
        rw [hL2] at z; cases z
    have turnok : ∃ ys s, turn2D k vs t i1 k1 vs1 t1 e ds[j] { st1 with bx := b } = .ok ys s ∧ acc.length + ys.length ≤ 16777216 ∧ GOk X.K T W (relF X.K T) c G' σ (comp2D k vs t i1 k1 vs1 t1 e (ds.drop (j + 1)) (acc ++ ys) { st1 with bx := s.bx }) Q := by
      have ok2 := ok'
      unfold comp2D at ok2
      revert ok2
      cases turn2D k vs t i1 k1 vs1 t1 e ds[j] { st1 with bx := b } with
      | ok ys s =>
        intro ok2
        dsimp only at ok2
        by_cases q : acc.length + ys.length ≤ 16777216
        · rw [if_pos q] at ok2; exact ⟨ys, s, rfl, q, ok2⟩
        · rw [if_neg q] at ok2; exact ok2.elim
      | err er s => exact fun ok2 => ok2.elim
      | stuck => exact fun ok2 => ok2.elim
    obtain ⟨ys, sF, et, lys, okn⟩ := turnok
    unfold turn2D at et
    rcases tgD_noerr (k := k) (d := ds[j]) (st := { ({ st1 with bx := b } : S).hide with env := wipeS ({ st1 with bx := b } : S).hide.env vs }) with ⟨st2, e2⟩ | e2
    rotate_left
    · exfalso
      rw [e2] at et; cases et
    rw [e2] at et
    refine tg_run2 hk hw r2 e2 fun σ2 hσ h2 => ⟨hσ.trans (wipe_wipe (i := 0) fun v hv => hv), ?_⟩
    refine ⟨inner c G' H2, G2, st2, h2, ?_⟩
    replace et : ((t st2).bind fun b s3 => if b = true then (i1 s3).bind fun ds1 s4 => compD k1 vs1 t1 e ds1 [] s4 else .ok [] s3) = .ok ys sF := et
    cases ht : t st2 with
    | stuck => rw [ht] at et; cases et
    | err _ _ => rw [ht] at et; cases et
    | ok bb s3 =>
      rw [ht] at et
      replace et : (if bb = true then (i1 s3).bind fun ds1 s4 => compD k1 vs1 t1 e ds1 [] s4 else .ok [] s3) = .ok ys sF := et
      intro G3 H3 v s3s h3 ev
      cases ev
      cases bb with
      | false =>
        rw [if_neg Bool.false_ne_true] at et ⊢
        obtain ⟨rfl, rfl⟩ : [] = ys ∧ s3 = sF := by cases et; exact ⟨rfl, rfl⟩
        obtain ⟨b1, b2, b3, b4⟩ := back s3s h3
        rw [List.append_nil] at okn
        exact ⟨G3, s3.bx, acc, (s'.trans s2).trans s3s, b1, ⟨L, ws, rfl, b2, b3, zL, b4, ndL⟩, GOk.mono (s2.trans s3s) okn⟩
      | true =>
        rw [if_pos rfl] at et ⊢
        refine ⟨inner c G' H2, G3, s3, h3, ?_⟩
        cases hi : i1 s3 with
        | stuck => rw [hi] at et; cases et
        | err _ _ => rw [hi] at et; cases et
        | ok ds1 s4 =>
          rw [hi] at et
          replace et : compD k1 vs1 t1 e ds1 [] s4 = .ok ys sF := et
          intro G4 H4 J1 s4s h4 rJ
          obtain ⟨b1, b2, b3, b4⟩ := back (s3s.trans s4s) h4
          -- the inner loop
          refine ⟨fun j1 m1 H5 => m1 = ds1.length - j1 ∧ j1 ≤ ds1.length ∧ ∃ G5 b5 acc1 ws1, Same G4 G5 ∧ Holds X.K T c G5 H5 σ { st1 with bx := b5 } ∧ H5 L = some (.lst ws1) ∧ G5 L = none ∧ Reps X.K T c.B G5 ws1 (acc ++ acc1) ∧
              Holds X.K T (inner c G5 H5) G5 H5 σ2 ({ s4 with bx := b5 } : S).hide ∧ compD k1 vs1 t1 e (ds1.drop j1) acc1 { s4 with bx := b5 } = .ok ys sF,
            ⟨ds1.length, by simp, Nat.zero_le _, G4, s4.bx, [], ws, Same.refl _, b1, b2, b3, by rw [List.append_nil]; exact b4, h4.enter, et⟩, ?_⟩
          rintro j1 m1 H5 ⟨rfl, hj1, G5, b5, acc1, ws1, s5, hd5, hL5, gL5, rL5, hin, et5⟩
          obtain ⟨qs, qg⟩ := rJ (inner c G5 H5) G5 H5 σ2 ({ s4 with bx := b5 } : S).hide rfl s5 hin
          by_cases hlt1 : j1 < ds1.length
          · have e01 : ds1[j1]? = some ds1[j1] := List.getElem?_eq_getElem hlt1
            obtain ⟨g11, g12⟩ := qg j1 _ e01
            have ed1 : ds1.drop j1 = ds1[j1] :: ds1.drop (j1 + 1) := List.drop_eq_getElem_cons hlt1
            rw [ed1] at et5
            refine .inr ⟨g11, fun H6 => ∃ G6 b6 acc1 ws1, Same G4 G6 ∧ Holds X.K T c G6 H6 σ { st1 with bx := b6 } ∧ H6 L = some (.lst ws1) ∧ G6 L = none ∧ Reps X.K T c.B G6 ws1 (acc ++ acc1) ∧
                Holds X.K T (inner c G6 H6) G6 H6 σ2 ({ s4 with bx := b6 } : S).hide ∧ compD k1 vs1 t1 e (ds1.drop (j1 + 1)) acc1 { s4 with bx := b6 } = .ok ys sF,
              fun H6 z => ⟨ds1.length - (j1 + 1), by omega, rfl, hlt1, z⟩, fun x1 H6 y1 => ?_⟩
            obtain ⟨G6, s6, s6', hd6, r6⟩ := g12 x1 H6 y1
            have hw1 := hd6.wiped vs1
            have back1 : ∀ {G7 H7 : Hp} {σ7 : SV} {s7 : S}, Same G6 G7 → Holds X.K T (inner c G5 H5) G7 H7 σ7 s7 → Holds X.K T c G7 H7 σ { st1 with bx := s7.bx } ∧ H7 L = some (.lst ws1) ∧ G7 L = none ∧ Reps X.K T c.B G7 ws1 (acc ++ acc1) ∧ Holds X.K T (inner c G5 H5) G7 H7 σ2 ({ s4 with bx := s7.bx } : S).hide := fun {G7 H7 σ7 s7} s7s h7 => by
              refine ⟨hd5.leave h7, h7.frame L _ hL5 (fun q => hd'.box0 L q zL), ?_, rL5.mono (s6.trans s7s), ?_⟩
              · cases q : G7 L with
                | none => rfl
                | some o =>
                  have z : H5 L = none := h7.new L gL5 (by rw [q]; exact fun z => by cases z)
                  rw [hL5] at z; cases z
              · have z := hin.leave (st' := s7) (σ' := σ7) (show Holds X.K T (inner (inner c G5 H5) G5 H5) G7 H7 σ7 s7 from h7)
                exact z
            unfold compD at et5
            cases ht5 : turnD k1 vs1 t1 e ds1[j1] { s4 with bx := b5 } with
            | err er s => rw [ht5] at et5; cases et5
            | stuck => rw [ht5] at et5; cases et5
            | ok o sT =>
              rw [ht5] at et5
              unfold turnD at ht5
              rcases tgD_noerr (k := k1) (d := ds1[j1]) (st := { ({ s4 with bx := b5 } : S).hide with env := wipeS ({ s4 with bx := b5 } : S).hide.env vs1 }) with ⟨st7, e7⟩ | e7
              rotate_left
              · exfalso
                rw [e7] at ht5; cases ht5
              rw [e7] at ht5
              refine tg_run2 hk1 hw1 r6 e7 fun σ7 hσ7 h7 => ⟨hσ7.trans (wipe_wipe (i := 0) fun v hv => hv), ?_⟩
              refine ⟨inner c G5 H5, G6, st7, h7, ?_⟩
              replace ht5 : ((t1 st7).bind fun b s3 => if b = true then (e s3).bind fun y s4 => R.ok (some y) s4 else .ok none s3) = .ok o sT := ht5
              cases ht7 : t1 st7 with
              | stuck => rw [ht7] at ht5; cases ht5
              | err _ _ => rw [ht7] at ht5; cases ht5
              | ok bb1 s8 =>
                rw [ht7] at ht5
                replace ht5 : (if bb1 = true then (e s8).bind fun y s4 => R.ok (some y) s4 else .ok none s8) = .ok o sT := ht5
                intro G8 H8 v8 s8s h8 ev8
                cases ev8
                cases bb1 with
                | false =>
                  rw [if_neg Bool.false_ne_true] at ht5 ⊢
                  obtain ⟨rfl, rfl⟩ : none = o ∧ s8 = sT := by cases ht5; exact ⟨rfl, rfl⟩
                  obtain ⟨c1, c2, c3, c4, c5⟩ := back1 s8s h8
                  exact ⟨G8, s8.bx, acc1, ws1, (s5.trans s6).trans s8s, c1, c2, c3, c4, c5.rebase (hide_no _) c5.sub fun p q => (c5.box p q).1, et5⟩
                | true =>
                  rw [if_pos rfl] at ht5 ⊢
                  refine ⟨inner c G5 H5, G8, s8, h8, ?_⟩
                  cases he : e s8 with
                  | stuck => rw [he] at ht5; cases ht5
                  | err _ _ => rw [he] at ht5; cases ht5
                  | ok y s9 =>
                    rw [he] at ht5
                    obtain ⟨rfl, rfl⟩ : some y = o ∧ s9 = sT := by cases ht5; exact ⟨rfl, rfl⟩
                    intro G9 H9 v9 s9s h9 rv
                    obtain ⟨c1, c2, c3, c4, c5⟩ := back1 (s8s.trans s9s) h9
                    dsimp only at et5
                    by_cases la : acc1.length < 16777216
                    · rw [if_pos la] at et5
                      have ln := compD_len et5
                      rw [List.length_append] at ln
                      have lw : ws1.length = acc.length + acc1.length := by rw [c4.length, List.length_append]
                      have ln' : acc1.length + 1 ≤ ys.length := ln
                      refine ⟨ws1, c2, by rw [sizeLine_eq, lw]; omega, ?_⟩
                      have sub9 : Same G9 (upd H9 L (.lst (ws1 ++ [v9]))) := fun a o q => by
                        have ne : a ≠ L := fun w => by subst w; rw [c3] at q; cases q
                        rw [upd_ne ne]; exact c5.sub _ _ q
                      refine ⟨G9, s9.bx, acc1 ++ [y], ws1 ++ [v9], ((s5.trans s6).trans s8s).trans s9s, c1.poke c2 c3 zL ndL, upd_same, c3, ?_, ?_, et5⟩
                      · rw [← List.append_assoc]
                        exact c4.append (.one rv)
                      · refine c5.rebase (hide_no _) sub9 fun p q => ?_
                        have ne : p ≠ L := fun w => by subst w; exact hd'.box0 p q zL
                        rw [upd_ne ne]
                        exact (c5.box p q).1
                    · rw [if_neg la] at et5; cases et5
          · have ej : j1 = ds1.length := by omega
            subst ej
            rw [List.drop_length] at et5
            have et6 : R.ok acc1 { s4 with bx := b5 } = .ok ys sF := et5
            obtain ⟨rfl, rfl⟩ : acc1 = ys ∧ ({ s4 with bx := b5 } : S) = sF := by cases et6; exact ⟨rfl, rfl⟩
            exact .inl ⟨qs, G5, b5, acc ++ acc1, ((s'.trans s2).trans (s3s.trans s4s)).trans s5, hd5, ⟨L, ws1, rfl, hL5, gL5, zL, rL5, ndL⟩, GOk.mono ((s2.trans (s3s.trans s4s)).trans s5) okn⟩
  · have ej : j = ds.length := by omega
    subst ej
    rw [List.drop_length] at ok'
    exact .inl ⟨rs, ok' _ _ _ (Same.refl _) hd' rf'⟩
theorem df_comp2 {W : WX} {elt tg iter tg1 iter1 : Expr} {ifs ifs1 : List Expr} {scope : Scope} {own : List (Str × Nat)} {vs1 : List Nat} {pos : Pos} {k k1 : Tg} {i i1 : S → R (List D)} {t t1 : S → R Bool} {e : S → R D} (hc : X.calm = true) (hN : X.N.Nodup) (hi : DI X T W tg iter i) (ok : BlkOk X.N X.env.scope scope own)
    (hk : tgIn (own.map (·.2)) k) (hk1 : tgIn vs1 k1) (hv : ∀ i ∈ vs1, i ∈ own.map (·.2))
    (hg : ∀ (s : Shared) (H : Hp) (C : Addr) (cl : List (Str × Addr)) (fp : List Addr), DG (X.blk s H scope (compEnvC scope cl C X.env) fp) tg k) (ht : ∀ (s : Shared) (H : Hp) (C : Addr) (cl : List (Str × Addr)) (fp : List Addr), DTs (X.blk s H scope (compEnvC scope cl C X.env) fp) T ifs t)
    (hi1 : ∀ (s : Shared) (H : Hp) (C : Addr) (cl : List (Str × Addr)) (fp : List Addr), DI (X.blk s H scope (compEnvC scope cl C X.env) fp) T W0 tg1 iter1 i1)
    (hg1 : ∀ (s : Shared) (H : Hp) (C : Addr) (cl : List (Str × Addr)) (fp : List Addr), DG (X.blk s H scope (compEnvC scope cl C X.env) fp) tg1 k1) (ht1 : ∀ (s : Shared) (H : Hp) (C : Addr) (cl : List (Str × Addr)) (fp : List Addr), DTs (X.blk s H scope (compEnvC scope cl C X.env) fp) T ifs1 t1)
    (he : ∀ (s : Shared) (H : Hp) (C : Addr) (cl : List (Str × Addr)) (fp : List Addr), DE (X.blk s H scope (compEnvC scope cl C X.env) fp) T W0 elt e) (hs : ∀ x, foldedSetIterable iter X.env x = pure x := by intro _; rfl) (hs1 : ∀ env x, foldedSetIterable iter1 env x = pure x := by intro _ _; rfl) :
    DF X T W (.ListComp elt [⟨tg, iter, ifs, 0⟩, ⟨tg1, iter1, ifs1, 0⟩] scope pos) (dComp2 k (own.map (·.2)) i t k1 vs1 i1 t1 e) :=
  impE (pe_lc2 (g := tgT X.K k) (tt := gD X.K T W0 relB t) (wi1 := gD X.K T W0 (relI X.K T) i1) (g1 := tgT X.K k1) (tt1 := gD X.K T W0 relB t1) (te := gD X.K T W0 (relD X.K T) e) hc hN hi ok hv hg ht hi1 hg1 ht1 he hs hs1) (comp2_read hk hk1)
end
end DL

/-! DLzu: sorted(set(xs)), xs a list of ints too. -/
namespace DL
open PySem PySem.Spec PyProof.Rows L2
abbrev newSet (w : World) : Obj := { cls := .type "set", dict := none, data := .set #[] 0 (.fresh 0 0 (!w.params.followText "set-order")) }
section
variable {P : Program} {w : World} {A : Around} {E : Value → Shared → Prop} {s : Shared}
set_option maxHeartbeats 3200000 in
theorem call_setLI {l : Addr} {us : Array Value} {ns : List Int} {Q : Value → Shared → Prop} (ah : A.handled = none) (hl : s.heap.IsList l us) (iv : IntsAre us.toList ns) (few : ns.length + 1 < scanBound)
    (h : ∀ (h' : Heap) (tk c : Nat), SetR w h' s.heap.objs.size (fun j => decide (j ∈ ns)) c → c ≤ ns.length → (∀ b o, s.heap.get? b = some o → h'.get? b = some o) → Q (.ref s.heap.objs.size) { s with heap := h', toks := tk }) :
    wpAny (model P w) A (call (.type "set") [.ref l]) Q E s := by
  have usz : us.size = ns.length := by rw [← Array.length_toList]; exact IntsAre.length iv
  obtain ⟨cM, tlM, hmro⟩ := F.called_set.mro
  have hmade := F.called_set.made
  have hsub := F.called_set.sub
  have h1 := F.called_set.notType
  have h2 := F.called_set.canCreate
  have hct := F.typeCall_set_1 (.ref l)
  refine wpAny_call (codeAny_of_tree (show wpAny _ _ (callAny (.type "set") _) _ _ _ from wpAny_pure ⟨Code.quiet_builtin _ (by decide +kernel), codeAny_builtin F.entry_type_call ?_⟩))
  rw [Around.under_plain (weight_type_call_type "set" [.ref l] []) rfl]
  repeat (any_goals (first | assumption | wp_step))
  refine codeAny_mono (code_set_led1 (.ref l) (E := E) (Q₁ := fun ob s1 => ob = .ref s.heap.objs.size ∧ s1 = { s with heap := s.heap.push (newSet w) }) ⟨rfl, rfl⟩) fun r s1 hr => ?_
  cases r with
  | error e => exact hr
  | ok fl =>
    cases fl with
    | ret ob =>
      obtain ⟨rfl, rfl⟩ := hr
      have at0 : (s.heap.push (newSet w)).get? s.heap.objs.size = some (newSet w) := Heap.get?_push_size _ rfl
      have hT : Shared.TypeIs { s with heap := s.heap.push (newSet w) } (.ref s.heap.objs.size) "set" := ⟨_, at0, rfl⟩
      have hli := F.called_set.init.lookup
      have hbi := F.called_set.init.bind (.ref s.heap.objs.size)
      repeat (any_goals (first | assumption | wp_step))
      refine codeAny_mono (codeAny_call_builtin (R := wants (fun r s2 => r = .none ∧ ∃ h' tk c, s2 = { s with heap := h', toks := tk } ∧ SetR w h' s.heap.objs.size (fun j => decide (j ∈ ns)) c ∧ c ≤ ns.length ∧ (∀ b o, s.heap.get? b = some o → h'.get? b = some o)) E)
        F.called_set.init.plain F.entry_set_init (check_set_init_1 hT ?_)) fun r2 s2 hr2 => ?_
      · obtain ⟨⟨ocls, odict, odata, oslots⟩, hol, hcl, nl, hdl⟩ := hl
        simp only at hcl hdl
        subst hcl; subst hdl
        have hol' : (s.heap.push (newSet w)).get? l = some { cls := .type "list", dict := odict, data := .seq us nl, slots := oslots } := Heap.get?_push_of_some _ hol
        have hsls := F.sub_list_set
        have hslf := F.sub_list_frozenset
        have hne : (Value.type "list" == Value.type "dict") = false := by decide
        have hl1 : (s.heap.push (newSet w)).IsList l us := ⟨_, hol', rfl, nl, rfl⟩
        unfold Builtin.«set.__init__» noKeywords Builtin.Frozenset.updateFrom
        generalize hPI : pyIter = PI
        wp_walk
        subst hPI
        have lt : l < s.heap.objs.size := Heap.lt_size hol
        have sz : (s.heap.push (newSet w)).objs.size = s.heap.objs.size + 1 := Heap.size_push ..
        refine wpAny_pyIter_list hl1 (wpAny_bind (wpAny_runValue ?_))
        have ne1 : l ≠ (s.heap.push (newSet w)).objs.size := by rw [sz]; exact Nat.ne_of_lt (Nat.lt_succ_of_lt lt)
        have out : s.heap.objs.size ∉ [(s.heap.push (newSet w)).objs.size, l] := by
          rw [sz]
          intro m
          rcases List.mem_cons.mp m with e | m
          · exact absurd e (Nat.ne_of_lt (Nat.lt_succ_self _))
          · exact absurd (List.mem_singleton.mp m) (Nat.ne_of_gt lt)
        have nth : ∀ (i : Nat) (v : Value), us[i]? = some v → ∃ k t, ns[i]? = some k ∧ v = .int k t := fun i v hv => by
          have li : i < ns.length := by rw [← usz]; exact (Array.getElem?_eq_some_iff.mp hv).1
          obtain ⟨t, e⟩ := IntsAre.int_at iv i v (by rw [Array.getElem?_toList]; exact hv)
          refine ⟨ns[i], t, List.getElem?_eq_getElem li, ?_⟩
          rw [e, List.getD_eq_getElem?_getD, List.getElem?_eq_getElem li] <;> rfl
        refine set_update_ints ((Walks.list (show A.in1.in1.in1.handled = none by simp [ah]) _ l ne1 us).toS) s.heap.objs.size out ns usz few nth (us.size - 0) 0 _ (by omega) (Nat.zero_le _) ⟨⟨_, Heap.get?_push_size _ rfl, rfl, rfl⟩, (hl1.push _)⟩ ?S0 ?Rr
        case S0 => exact ⟨0, Nat.le_refl 0, setR_new_at (Heap.get?_push_of_some _ at0)⟩
        case Rr =>
          intro s3 c3 mv le3 hs3
          obtain ⟨h3, g3, d3, tk3, os3⟩ := s3
          obtain rfl : g3 = s.gens := mv.gens
          obtain rfl : d3 = s.drawn := mv.drawn
          obtain rfl : os3 = s.os := mv.os
          refine (show wpAny _ _ _ _ _ _ from wpAny_pure (show wpAny _ _ (ret Value.none) _ _ _ from wpAny_pure ⟨rfl, h3, tk3, c3, rfl, hs3, by rw [← usz]; exact le3, fun b o e => ?_⟩))
          have hb0 : b < s.heap.objs.size := Heap.lt_size e
          refine mv.heap b o (fun m => ?_) (Heap.get?_push_of_some _ (Heap.get?_push_of_some _ e))
          rcases List.mem_cons.mp m with e1 | m
          · exact absurd e1 (Nat.ne_of_lt hb0)
          · have := List.mem_singleton.mp m
            rw [sz] at this
            exact absurd this (Nat.ne_of_lt (Nat.lt_succ_of_lt hb0))
      · cases r2 with
        | error e => exact hr2
        | ok fl2 =>
          cases fl2 with
          | ret r =>
            obtain ⟨rfl, h', tk, c, rfl, hs', hc', hk'⟩ := hr2
            repeat (any_goals (first | assumption | wp_step))
            exact h _ _ _ hs' hc' hk'
          | _ => exact hr2.elim
    | _ => exact hr.elim
end
section
variable {X : Cx}
def tSSB (K : PySem.W.Frag) (ta : TE) : TE := fun σ H Q => ta σ H fun x H1 => ∃ (l : Addr) (ns : List Int), x = V.ref l ∧ (SqT K H1 l (ns.map V.int) ∨ SqL K H1 l (ns.map V.int)) ∧ ns.length < 64 ∧ ∀ p, H1 p = none → Q (.ref p) (upd H1 p (.lst ((sortU ns).map V.int)))
theorem pe_sortedSetB {a : Expr} {ta : TE} {p p2 q pos : Pos} (hc : X.calm = true) (hg : Gl X "sorted") (hm : X.mg "sorted" = none) (hg2 : Gl X "set") (hm2 : X.mg "set" = none) (ha : PE X a ta)
    (na : starEach [a] X.env = (false, eval a X.env) :: starEach [] X.env := by rfl) : PE X (.Call (.Name "sorted" p) [.Call (.Name "set" p2) [a] [] q] [] pos) (tSSB X.K ta) := by
  refine ⟨fun pins s σ H Q I h => Call_ (ld_blt I hg hm boot_sorted' (callWith_builtin1 (args_cons ?_ rfl) rfl rfl))⟩
  refine Call_ (ld_blt I hg2 hm2 boot_set (callWith_type1 (args_cons (thn (ha.run pins s σ H _ I h) fun v s1 ⟨x, H1, I1, r1, q1⟩ => args_nil ?_) na) na rfl))
  obtain ⟨l, ns, rfl, hq, few, q1⟩ := q1
  cases r1
  have fin : ∀ (h' : Heap) (tk c : Nat), SetR X.w h' s1.heap.objs.size (fun j => decide (j ∈ ns)) c → c ≤ ns.length → (∀ b o, s1.heap.get? b = some o → h'.get? b = some o) →
      wpAny (model X.prog X.w) X.A (spliced (backTo pos (starEach [] X.env))) (fun vs s₂ => wpAny (model X.prog X.w) X.A (call (.builtin "sorted") (.ref s1.heap.objs.size :: vs)) (EP X pins σ Q) X.xe s₂) X.xe { s1 with heap := h', toks := tk } := fun h' tk c hS hcl hk => args_nil (by
    have I2 : Inv X pins σ H1 { s1 with heap := h', toks := tk } := I1.kept hk
    refine sorted_set hS (I2.ok.hd hc) (by omega) fun s' p out c' ms k g o hp hg hi hs hmm hl => ?_
    have e : ms = sortU ns := rise_one hs (sortU_rise ns) fun k => by rw [hmm k, sortU_mem, decide_eq_true_eq]
    subst e
    have hlen : ((sortU ns).map V.int).length ≤ sizeLine := by rw [List.length_map, hl, sizeLine_eq]; omega
    have hn : H1 p = none := I2.hok.fresh hp
    have J : Inv X pins σ (upd H1 p (.lst ((sortU ns).map V.int))) { ({ s1 with heap := h', toks := tk } : Shared) with heap := s'.heap, gens := s'.gens, drawn := s'.drawn, toks := s'.toks } :=
      I2.call (ch := []) (Un.laid k hp hn) (I2.hok.laid k hp ⟨hlen, out.toList, c', vals_of_ints hi, hg⟩) (by rw [g]; exact I2.bare) (fun _ z => nomatch z)
    have e : s' = { ({ s1 with heap := h', toks := tk } : Shared) with heap := s'.heap, gens := s'.gens, drawn := s'.drawn, toks := s'.toks } := by
      cases s'
      cases s1
      cases o
      rfl
    rw [e]
    exact ⟨.ref p, _, J, rfl, q1 p hn⟩)
  rcases hq with hq | hq
  · obtain ⟨its, r, pl, hz⟩ := I1.tuple hq
    exact call_set_tupI ns (I1.ok.hd hc) pl (by simpa using ints_are r) (by unfold scanBound; omega) fin
  · obtain ⟨its, r, pl, hz⟩ := I1.list hq
    exact call_setLI (I1.ok.hd hc) pl.isList (by simpa using ints_are r) (by unfold scanBound; omega) fin
end
section
variable {X : Cx} {T : Tab} {W : WX}
def hSortSetB : D → S → R (List D)
  | .tu ds, st => match intDs ds with
    | some ns => if ns.length < 64 then .ok ((sortU ns).map .int) st else .stuck
    | none => .stuck
  | .ls ds, st => match intDs ds with
    | some ns => if ns.length < 64 then .ok ((sortU ns).map .int) st else .stuck
    | none => .stuck
  | _, _ => .stuck
theorem df_sortSetB {a : Expr} {f : S → R D} {p p2 q pos : Pos} (hc : X.calm = true) (hg : Gl X "sorted") (hm : X.mg "sorted" = none) (hg2 : Gl X "set") (hm2 : X.mg "set" = none) (ha : DE X T W a f)
    (na : starEach [a] X.env = (false, eval a X.env) :: starEach [] X.env := by rfl) : DF X T W (.Call (.Name "sorted" p) [.Call (.Name "set" p2) [a] [] q] [] pos) (dUnF hSortSetB f) := by
  refine impE (pe_sortedSetB hc hg hm hg2 hm2 ha na) fun σ H Q ⟨c, G, st, hd, ok⟩ => ?_
  obtain ⟨c0, G0, st0, hd0, ok0⟩ := step (rel := relD X.K T) hd ok
  refine ⟨c0, G0, st0, hd0, ok0.imp fun x H1 ⟨G1, st1, d, s1, hd1, r, ok1⟩ => ?_⟩
  have main : ∀ {p : Addr} {vs : List V} {ds : List D}, (SqT X.K H1 p vs ∨ SqL X.K H1 p vs) → Reps X.K T c.B G1 vs ds → GOk X.K T W (relF X.K T) c G1 σ (match intDs ds with | some ns => if ns.length < 64 then .ok ((sortU ns).map .int) st1 else .stuck | none => .stuck) Q →
      ∃ (l : Addr) (ns : List Int), V.ref p = V.ref l ∧ (SqT X.K H1 l (ns.map V.int) ∨ SqL X.K H1 l (ns.map V.int)) ∧ ns.length < 64 ∧ ∀ p, H1 p = none → Q (.ref p) (upd H1 p (.lst ((sortU ns).map V.int))) := fun {p vs ds} hq r ok1 => by
    cases z : intDs ds with
    | none => rw [z] at ok1; exact ok1.elim
    | some ns =>
      rw [z] at ok1
      dsimp only at ok1
      have ev := reps_intD r z
      subst ev
      by_cases q : ns.length < 64
      · rw [if_pos q] at ok1
        refine ⟨p, ns, rfl, hq, q, fun l hl => ?_⟩
        obtain ⟨h4, r4⟩ := hd1.fresh hl (Reps.ints (sortU ns))
        exact ok1 _ _ _ (Same.refl _) h4 r4
      · rw [if_neg q] at ok1; exact ok1.elim
  cases r with
  | @tu p vs ds h r => exact main (.inl (Same.sqt hd1.sub h)) r ok1
  | @ls p vs ds h r => exact main (.inr (SqL.of (hd1.sub _ _ h))) r ok1
  | _ => exact ok1.elim
end
end DL

/-! DLzv: a new list made while one's own list is lent. -/
namespace DL
open PySem PySem.Spec PyProof.Rows L2
section
variable {K : PySem.W.Frag} {T : Tab} {c : Ctx} {G G' : Hp}
theorem flats_low : ∀ {vs : List V} {ds : List D} {ws : List V}, Reps K T c.B G' vs ds → flatDs ds = some ws → Reps K T c.B G vs ds
  | _, _, _, .nil, _ => .nil
  | _, _, ws, .cons (d := d) (ds := ds) h r, e => by
    have e' : (flatD d).bind (fun v => (flatDs ds).map fun vs => v :: vs) = some ws := e
    cases q : flatD d with
    | none => rw [q] at e'; cases e'
    | some p =>
      cases q2 : flatDs ds with
      | none => rw [q, q2] at e'; cases e'
      | some ps => exact .cons (flat_low h q) (flats_low r q2)
end
section
variable {X : Cx} {T : Tab} {W : WX}
def dLendF (i : Nat) (f : S → R (List D)) : S → R (List D) := fun st => match st.env[i]? with
  | some (.own ds) => match f (st.put i (.val (.ls ds))).hide with
    | .ok es s => if (flatDs es).isSome then .ok es { st with bx := s.bx } else .stuck
    | _ => .stuck
  | _ => .stuck
theorem df_lend (i : Nat) {e : Expr} {f : S → R (List D)} (h : DF X T W e f) : DF X T W e (dLendF i f) := impE h fun σ H Q ⟨c, G, st, hd, ok⟩ => by
  unfold dLendF at ok
  cases q : st.env[i]? with
  | none => rw [q] at ok; exact ok.elim
  | some s =>
    rw [q] at ok
    cases s with
    | un => exact ok.elim
    | val d => exact ok.elim
    | own ds =>
      obtain ⟨p, vs, e1, e2, r, g, h2⟩ := hd.freeze q
      refine ⟨_, _, _, h2.enter, ?_⟩
      dsimp only at ok
      revert ok
      cases f (st.put i (.val (.ls ds))).hide with
      | ok es s =>
        intro ok G' H' v s1 h' r'
        dsimp only at ok
        cases w : flatDs es with
        | none => rw [w] at ok; exact ok.elim
        | some u =>
          rw [w] at ok
          obtain ⟨l, ws, rfl, a1, a2, a3, a4, a5⟩ := r'
          have hl : H l = none := a3
          exact ok _ _ _ (Same.refl _) (hd.lent g h') ⟨l, ws, rfl, a1, hd.gnone hl, hd.h0 hl, flats_low a4 w, fun j es' ej ez => by
            obtain ⟨p2, vs2, b1, b2, _⟩ := hd.slot j _ ej
            rw [ez] at b1
            cases b1
            rw [hl] at b2
            cases b2⟩
      | err _ _ => exact fun ok => ok.elim
      | stuck => exact fun ok => ok.elim
end
end DL

/-! DLzw: a, b = x, y where a name is read within a comprehension (so the tuple is made). -/
namespace DL
open PySem PySem.Spec PyProof.Rows L2
section
variable {K : PySem.W.Frag} {T : Tab} {W : WX} {α β : Type}
def loseE (E : Ends) : Ends := { E with nx := fun σ H => ∀ p o, H p = none → E.nx σ (upd H p o) }
theorem SOk.lose {c : Ctx} {G : Hp} {E : Ends} {r : R Out} (h : SOk K T W c G r E) : SOk K T W c G r (loseE E) := by
  cases r with
  | ok o st =>
    cases o with
    | nx => exact fun G' H' σ' s hd p o n => h G' (upd H' p o) σ' s (hd.lose o n)
    | _ => exact h
  | err e st => exact h
  | stuck => exact h
theorem tD_lose {f : S → R Out} {E : Ends} {σ : SV} {H : Hp} (h : tD K T W f E σ H) : tD K T W f (loseE E) σ H := by
  obtain ⟨c, G, st, hd, ok⟩ := h
  exact ⟨c, G, st, hd, ok.lose⟩
theorem gD_imp {rel : Rel α V} {f : S → R α} {σ : SV} {H : Hp} {Q Q' : V → Hp → Prop} (q : ∀ v H, Q v H → Q' v H) (h : gD K T W rel f σ H Q) : gD K T W rel f σ H Q' := by
  obtain ⟨c, G, st, hd, ok⟩ := h
  exact ⟨c, G, st, hd, ok.imp q⟩
end
section
variable {X : Cx} {T : Tab} {W : WX} {α β : Type}
theorem ds_parC {i j : Nat} {tg a b : Expr} {ra : Rel α V} {rb : Rel β V} {sa : α → Sl} {sb : β → Sl} {f : S → R α} {g : S → R β} {k2 : Nat} {pt2 : Pos} {pos : Pos}
    (hg : PG X tg (gTup X.K [i, j].length (gNames [i, j]))) (ha : PE X a (gD X.K T W ra f)) (hb : PE X b (gD X.K T W rb g))
    (hr : ∀ E σ H, tD X.K T W (dPar i j sa sb f g) E σ H → tPar i j (tCons (gD X.K T W ra f) (tCons (gD X.K T W rb g) tNil)) E σ H)
    (h1 : starEach [a, b] X.env = (false, eval a X.env) :: starEach [b] X.env := by rfl) (h2 : starEach [b] X.env = (false, eval b X.env) :: starEach [] X.env := by rfl)
    (hs : swapsWithSole [tg] (.Tuple [a, b] k2 pt2) pos.line X.env = pure false := by rfl) (hw : swappedStores [tg] (.Tuple [a, b] k2 pt2) X.env = pure none := by rfl)
    (h3 : (assignEach [tg] X.env).map (·.2) = [assign tg X.env] := by rfl) :
    DS X T W (.Assign [tg] (.Tuple [a, b] k2 pt2) pos) (dPar i j sa sb f g) := impS (ps_asg (pe_tup (pa_cons ha (pa_cons hb pa_nil h2) h1)) hg hs hw h3) fun E σ H h => by
  have h' := hr (loseE E) σ H (tD_lose h)
  refine gD_imp (fun v H1 q1 => gD_imp (fun w H2 q2 => ?_) q1) h'
  obtain ⟨v', w', e, nx⟩ := q2
  cases e
  refine ⟨by show 2 ≤ sizeLine; decide, fun p hp => ⟨p, [v, w], rfl, .inl (.inl upd_same), rfl, v, [w], rfl, w, [], rfl, rfl, nx p _ hp⟩⟩
end
end DL

/-! DLzx: y.remove(x), y one's own list of texts. -/
namespace DL
open PySem PySem.Spec PyProof.Rows L2
def eqkS (k : Str) : Value → Bool
  | .str x _ => x.cps.toList == k.cps.toList
  | _ => false
theorem str_cps {x k : Str} : (x.cps.toList == k.cps.toList) = true ↔ x = k := by
  rw [beq_iff_eq]
  constructor
  · intro h
    cases x; cases k
    congr 1
    exact Array.toList_inj.mp h
  · rintro rfl; rfl
theorem eqkS_gives {k : Str} {t : Tok} : ∀ {us : List Value} {ns : List Str}, StrsAre us ns → ∀ y ∈ us, MeetsSeq.EqGives y (.str k t) (eqkS k y)
  | _, _, .nil => fun y hy => by cases hy
  | _, _, .cons n t' h => fun y hy => by
    rcases List.mem_cons.mp hy with e | e
    · rw [e]
      exact SeqRoads2.EqGives.str n k t' t
    · exact eqkS_gives h y e
theorem strsAt : ∀ {us : List Value} {ns : List Str}, StrsAre us ns → ∀ (j : Nat) (x : Str), ns[j]? = some x → ∃ t, us[j]? = some (.str x t)
  | _, _, .nil, j, x, e => by simp at e
  | _, _, .cons n t h, 0, x, e => by
    have : n = x := by simpa using e
    subst this; exact ⟨t, rfl⟩
  | _, _, .cons n t h, j + 1, x, e => strsAt h j x (by simpa using e)
theorem erase_mapS : ∀ (l : List Str) (j : Nat), (l.map V.str).eraseIdx j = (l.eraseIdx j).map V.str
  | [], j => by simp
  | a :: r, 0 => by simp
  | a :: r, j + 1 => by
    have ih := erase_mapS r j
    simp [ih]
theorem first_atS : ∀ {ns : List Str} {k : Str}, k ∈ ns → ∃ j, ns[j]? = some k ∧ (∀ i, i < j → ns[i]? ≠ some k) ∧ ns.eraseIdx j = ns.erase k
  | [], k, h => absurd h (by simp)
  | a :: r, k, h => by
    by_cases e : a = k
    · refine ⟨0, by rw [e]; rfl, fun i hi => absurd hi (Nat.not_lt_zero _), ?_⟩
      rw [e, List.erase_cons_head]; rfl
    · have hr : k ∈ r := by
        rcases List.mem_cons.mp h with z | z
        · exact absurd z.symm e
        · exact z
      obtain ⟨j, h2, h3, h4⟩ := first_atS hr
      refine ⟨j + 1, h2, fun i hi => ?_, ?_⟩
      · cases i with
        | zero => intro z; exact e (Option.some.inj z)
        | succ i => exact h3 i (Nat.lt_of_succ_lt_succ hi)
      · rw [List.erase_cons_tail (by rw [beq_iff_eq]; exact e), ← h4]; rfl
section
variable {X : Cx} {T : Tab} {W : WX}
def rRemS : V → List V → Hp → VK → Prop := fun x xs H Q => ∃ (l : Addr) (ns : List Str) (k : Str) (j : Nat), x = .ref l ∧ xs = [.str k] ∧ H l = some (.lst (ns.map V.str)) ∧ ns[j]? = some k ∧ (∀ m : Nat, m < j → ns[m]? ≠ some k) ∧ Q .non (upd H l (.lst ((ns.eraseIdx j).map V.str)))
theorem mt_removeS : MtM X "list.remove" rRemS := by
  intro pins s σ H x xs v us Q I rx rxs h
  obtain ⟨l, ns, k, j, rfl, rfl, hH, hj, hno, q⟩ := h
  cases rx
  obtain ⟨u, rfl, ru⟩ := rxs.one
  obtain ⟨t, rfl⟩ := ru
  obtain ⟨z, its, n, r, hl, e⟩ := I.lstM hH
  have hi : StrsAre its ns := Vals.strs r
  rw [List.length_map] at hl z
  have hjn : j < ns.length := (List.getElem?_eq_some_iff.mp hj).1
  have hjl : j < its.toArray.size := by rw [List.size_toArray]; omega
  refine call_meets PySem.F.slot_list_remove ⟨_, e, rfl⟩ PySem.F.entry_list_remove (PySem.F.args_list_remove_2 _ _)
    (MeetsSeq.list_remove l its.toArray n (.str k t) (eqkS k) (fun y hy => eqkS_gives hi y (by simpa using hy)) j hjl ?_ ?_ (by rw [List.size_toArray]; omega)) ⟨e, ?_⟩
  · obtain ⟨tj, hjt⟩ := strsAt hi j k hj
    obtain ⟨h1, h2⟩ := List.getElem?_eq_some_iff.mp hjt
    have e1 : its.toArray[j] = .str k tj := by simpa using h2
    rw [e1]
    exact str_cps.mpr rfl
  · intro m hm hmj
    have hmn : m < ns.length := by omega
    obtain ⟨tm, hmt⟩ := strsAt hi m _ (List.getElem?_eq_getElem hmn)
    obtain ⟨h1, h2⟩ := List.getElem?_eq_some_iff.mp hmt
    have e1 : its.toArray[m] = .str ns[m] tm := by simpa using h2
    rw [e1]
    refine Bool.eq_false_iff.mpr fun e2 => hno m hmj ?_
    rw [List.getElem?_eq_getElem hmn, str_cps.mp e2]
  · have rr := r.eraseIdx j
    rw [erase_mapS] at rr
    refine ⟨.non, _, I.lset (its' := its.eraseIdx j) (t' := s.toks) hH e ?_ rr ?_, rfl, q⟩
    · show its.toArray.eraseIdxIfInBounds j = (its.eraseIdx j).toArray
      rw [List.eraseIdxIfInBounds_toArray]
    · have z2 := List.length_eraseIdx_le ns j
      rw [List.length_map]
      omega
def remS (ds : List D) (x : Str) : Option (List D) := match strsD ds with
  | some xs => if x ∈ xs then some ((xs.erase x).map .str) else none
  | none => none
def dRem (i : Nat) (f : S → R D) : S → R D := fun st => match st.env[i]? with
  | some (.own _) => (f st).bind fun k st => match st.env[i]?, k with
    | some (.own ds), .str x => match remS ds x with
      | some es => .ok .non (st.put i (.own es))
      | none => .stuck
    | _, _ => .stuck
  | _ => .stuck
theorem de_rem {i : Nat} {o e : Expr} {f : S → R D} {apos cpos : Pos} (ho : PE X o (tVar i)) (he : DE X T W e f)
    (hp : PE X (.Call (.Attribute o "remove" apos) [e] [] cpos) (tBM X.K "list" rRemS (tVar i) (tCons (gD X.K T W (relD X.K T) f) tNil))) : DE X T W (.Call (.Attribute o "remove" apos) [e] [] cpos) (dRem i f) := impE hp fun σ H Q ⟨c, G, st, hd, ok⟩ => by
  unfold dRem at ok
  cases q : st.env[i]? with
  | none => rw [q] at ok; exact ok.elim
  | some s =>
    rw [q] at ok
    cases s with
    | un => exact ok.elim
    | val d => exact ok.elim
    | own ds =>
      obtain ⟨p, vs, e1, e2, g, z, r⟩ := hd.slot i _ q
      refine ⟨.ref p, e1, .inl ⟨rfl, vs, SqL.of e2⟩, ?_⟩
      obtain ⟨c0, G0, st0, hd0, ok0⟩ := step (rel := relD X.K T) hd ok
      refine ⟨c0, G0, st0, hd0, ok0.imp fun x H1 ⟨G1, st1, a, s1, hd1, r1, ok1⟩ => ?_⟩
      cases q1 : st1.env[i]? with
      | none => rw [q1] at ok1; exact ok1.elim
      | some s =>
        rw [q1] at ok1
        cases s with
        | un => exact ok1.elim
        | val d => exact ok1.elim
        | own ds1 =>
          obtain ⟨p2, vs2, f1, f2, g2, z2, r2⟩ := hd1.slot i _ q1
          rw [e1] at f1
          cases f1
          cases r1 with
          | str k =>
            dsimp only at ok1
            cases y : strsD ds1 with
            | none => unfold remS at ok1; rw [y] at ok1; exact ok1.elim
            | some xs =>
              have ev := reps_strs r2 y
              subst ev
              by_cases w : k ∈ xs
              · have er : remS ds1 k = some ((xs.erase k).map .str) := by unfold remS; rw [y]; exact if_pos w
                rw [er] at ok1
                obtain ⟨j, j1, j2, j3⟩ := first_atS w
                exact ⟨p, xs, k, j, rfl, rfl, f2, j1, j2, by
                  rw [j3]
                  exact ok1 _ _ _ (Same.refl _) (hd1.setOwn q1 e1 (Reps.strs (xs.erase k))) .non⟩
              · have er : remS ds1 k = none := by unfold remS; rw [y]; exact if_neg w
                rw [er] at ok1; exact ok1.elim
          | _ => exact ok1.elim
end
end DL

/-! DLzy: great numbers multiplied by one another. -/
namespace DL
open PySem PySem.Spec PyProof.Rows L2
section
variable {X : Cx} {T : Tab} {W : WX}
abbrev inG (i : Int) : Prop := -340282366920938463463374607431768211456 < i ∧ i < 340282366920938463463374607431768211456
instance {i j : Int} : Decidable (CMul i j) := by unfold CMul; infer_instance
def hMulG : D → D → S → R D
  | .int i, .int j, st => if (inG i ∧ inG j) ∨ CMul i j then .ok (.int (i * j)) st else .stuck
  | _, _, _ => .stuck
theorem inG_abs {i : Int} (h : inG i) : i.natAbs < 2 ^ 128 := by
  have : (2 : Nat) ^ 128 = 340282366920938463463374607431768211456 := by decide
  rw [this]
  have := h.1
  have := h.2
  omega
theorem de_mulG {a b : Expr} {fa fb : S → R D} {pos : Pos} (ha : DE X T W a fa) (hb : DE X T W b fb) : DE X T W (.BinOp a .Mult b pos) (dBin hMulG fa fb) :=
  de_bin (op_mulW.or op_mul) (fun c G H σ st x y a b Q hd r1 r2 ok => by
    cases r1 <;> cases r2 <;> first | exact ok.elim | skip
    rename_i i j
    have ok' : GOk X.K T W (relD X.K T) c G σ (if (inG i ∧ inG j) ∨ CMul i j then .ok (.int (i * j)) st else .stuck) Q := ok
    by_cases q : (inG i ∧ inG j) ∨ CMul i j
    · rw [if_pos q] at ok'
      rcases q with q | q
      · exact .inl ⟨_, _, rfl, rfl, wide_mul (inG_abs q.1) (inG_abs q.2) (by decide) (by decide) (by decide), ok' _ _ _ (Same.refl _) hd (.int _)⟩
      · exact .inr ⟨_, _, rfl, rfl, q, ok' _ _ _ (Same.refl _) hd (.int _)⟩
    · rw [if_neg q] at ok'; exact ok'.elim) ha hb
theorem mulG_ok {i j : Int} {st : S} (hi : inG i) (hj : inG j) : hMulG (.int i) (.int j) st = .ok (.int (i * j)) st := if_pos (.inl ⟨hi, hj⟩)
theorem mulG_2 {j : Int} {st : S} : hMulG (.int 2) (.int j) st = .ok (.int (2 * j)) st := if_pos (.inr (.inl ⟨by decide, by decide⟩))
end
end DL

/-! DLz0: tuple(text). -/
namespace DL
open PySem PySem.Spec PyProof.Rows L2
section
variable {prog : Program} {w : World} {A : Around} {E : Value → Shared → Prop} {s : Shared}
theorem code_tuple_new_text {Q₁ : Value → Shared → Prop} (hh : A.handled = none) (x : Str) (t : Tok) (hn : x.cps.size ≤ sizeLine)
    (h : ∀ (s' : Shared) (acc : Array Value), (∀ b o, s.heap.get? b = some o → s'.heap.get? b = some o) → s'.gens = s.gens → s'.drawn = s.drawn → s'.os = s.os → ItemsOf (SignAt x) acc x.cps.size →
      Q₁ (.ref s'.heap.objs.size) { s' with heap := s'.heap.push { cls := .type "tuple", data := .seq acc } }) :
    codeAny (model prog w) A (.call (.builtin "tuple.__new__") ⟨[.type "tuple", .str x t], []⟩) (wants Q₁ E) s := by
  refine codeAny_of_tree ?_
  show wpAny _ A.in1 (do checkBuiltinCall "tuple.__new__" ⟨[.type "tuple", .str x t], []⟩; again (.builtin "tuple.__new__" ⟨[.type "tuple", .str x t], []⟩)) _ _ s
  refine wpAny_bind (wpAny_of_eq (F.newCall_tuple_1 _) (wpAny_pure ⟨plainId_quiet F.plain_tuple_new _, codeAny_builtin F.entry_tuple_new ?_⟩))
  rw [Around.under_plainId F.plain_tuple_new _]
  have hsub := sub_tuple_self
  have hinit := init_tuple_lookup
  have hmh := madeHere_tuple
  have hTI : s.TypeIs (.str x t) "str" := rfl
  have hh1 : A.in1.handled = none := hh
  wp_walk using wpAny_typeOf hTI, wpAny_collect_str (A := A.in1) hh1 x t
  intro s' acc hk g1 g2 g3 hacc
  show wpAny _ _ (Builtin.Tuple.tupleExact acc.toList.toArray >>= fun v => ret v) _ _ _
  unfold Builtin.Tuple.tupleExact
  refine wpAny_bind (wpAny_newObj_type ?_ (by show acc.toList.toArray.size ≤ sizeLine; simp only [Array.toArray_toList]; rw [hacc.1]; exact hn))
  refine wpAny_pure ?_
  have e : acc.toList.toArray = acc := by simp
  rw [e]
  exact h s' acc hk g1 g2 g3 hacc
theorem call_tuple_text {Q : Value → Shared → Prop} (hh : A.handled = none) (x : Str) (t : Tok) (hn : x.cps.size ≤ sizeLine)
    (hQ : ∀ (s' : Shared) (acc : Array Value), (∀ b o, s.heap.get? b = some o → s'.heap.get? b = some o) → s'.gens = s.gens → s'.drawn = s.drawn → s'.os = s.os → ItemsOf (SignAt x) acc x.cps.size →
      Q (.ref s'.heap.objs.size) { s' with heap := s'.heap.push { cls := .type "tuple", data := .seq acc } }) :
    wpAny (model prog w) A (call (.type "tuple") [.str x t]) Q E s := by
  refine callType_codes (Q₁ := fun obj s₁ => s₁.TypeIs obj "tuple" ∧ Q obj s₁) F.called_tuple (F.typeCall_tuple_1 _) F.entry_object_init
    (code_tuple_new_text (A := A.in1) hh x t hn fun s' acc hk g1 g2 g3 hacc => ⟨⟨_, Heap.get?_push_size _ rfl, rfl⟩, hQ s' acc hk g1 g2 g3 hacc⟩) fun obj s₁ h₁ => ?_
  exact ⟨h₁.1, F.args_object_init_2 obj _, object_init_meets F.called_tuple.init.lookup F.called_tuple.made (by decide) prog w A.in1 _ s₁ ⟨h₁.1, rfl, h₁.2⟩⟩
end
theorem vals_idx : ∀ {vs : List V} {us : List Value}, vs.length = us.length → (∀ (i : Nat) (u : Value), us[i]? = some u → ∃ x, vs[i]? = some x ∧ RelV x u) → Vals vs us
  | [], [], _, _ => .nil
  | [], _ :: _, l, _ => by simp at l
  | _ :: _, [], l, _ => by simp at l
  | v :: vs, u :: us, l, h => by
    refine .cons ?_ (vals_idx (by simpa using l) fun i u' e => ?_)
    · obtain ⟨x, e1, e2⟩ := h 0 u rfl
      have : v = x := by simpa using e1
      rw [this]; exact e2
    · obtain ⟨x, e1, e2⟩ := h (i + 1) u' (by simpa using e)
      exact ⟨x, by simpa using e1, e2⟩
def signV (z : Str) : List V := z.cps.toList.map fun c => .str ⟨#[c]⟩
theorem reps_signs {K : PySem.W.Frag} {T : Tab} {B : Option Addr} {G : Hp} (z : Str) : Reps K T B G (signV z) (signs z) := by
  unfold signV signs
  induction z.cps.toList with
  | nil => exact .nil
  | cons c cs ih => exact .cons (.str _) ih
section
variable {X : Cx} {T : Tab} {W : WX}
theorem call_tuple_tx (hc : X.calm = true) : CallR X (.type "tuple") (fun xs H Q => ∃ z : Str, xs = [.str z] ∧ z.cps.size ≤ sizeLine ∧ ∀ l, H l = none → Q (.ref l) (upd H l (.tup (signV z)))) := by
  intro pins s σ H xs us Q I r h
  obtain ⟨z, rfl, hz, q⟩ := h
  obtain ⟨u, rfl, rx⟩ := vals1 r
  obtain ⟨t, rfl⟩ := rx
  refine call_tuple_text (I.ok.hd hc) z t hz fun s' acc hk g1 g2 g3 hacc => ?_
  have I1 : Inv X pins σ H { s with heap := s'.heap, toks := s'.toks } := I.kept hk
  have es : s' = { s with heap := s'.heap, toks := s'.toks } := by
    cases s'; cases s
    simp only at g1 g2 g3
    subst g1 g2 g3
    rfl
  have hv : Vals (signV z) acc.toList := by
    refine vals_idx (by unfold signV; rw [List.length_map, Array.length_toList, Array.length_toList, hacc.1]) fun i u e => ?_
    obtain ⟨c, k, e1, e2⟩ := hacc.2 i u (by simpa using e)
    refine ⟨.str ⟨#[c]⟩, ?_, k, e2⟩
    unfold signV
    rw [List.getElem?_map, Array.getElem?_toList, e1]; rfl
  have hl : (signV z).length ≤ sizeLine := by unfold signV; rw [List.length_map, Array.length_toList]; exact hz
  have I2 : Inv X pins σ (upd H s'.heap.objs.size (.tup (signV z))) { s with heap := s'.heap.push { cls := .type "tuple", data := .seq acc }, toks := s'.toks } :=
    I1.laid (t' := s'.toks) (fun b o e => Heap.get?_push_of_some _ e) (Nat.le_refl _) (show ObjOk X.prog X.w _ _ _ (.tup (signV z)) from ⟨hl, acc.toList, hv, by
      have := IsTup.new s'.heap acc.toList.toArray
      simpa using this⟩)
  refine ⟨.ref s'.heap.objs.size, _, ?_, rfl, q _ (I1.hok.fresh (Nat.le_refl _))⟩
  rw [es] at I2 ⊢
  exact I2
def hTupTx : List D → S → R D
  | [.str z], st => if z.cps.size ≤ 16777216 then .ok (.tu (signs z)) st else .stuck
  | _, _ => .stuck
theorem snd_tupTx : SndC X T W (fun xs H Q => ∃ z : Str, xs = [.str z] ∧ z.cps.size ≤ sizeLine ∧ ∀ l, H l = none → Q (.ref l) (upd H l (.tup (signV z)))) hTupTx := fun c G H σ st vs ds Q hd r ok => by
  cases r with
  | nil => exact ok.elim
  | cons r1 r =>
    cases r with
    | cons _ _ => cases r1 <;> exact ok.elim
    | nil =>
      cases r1 with
      | str z =>
        replace ok : GOk X.K T W (relD X.K T) c G σ (if z.cps.size ≤ 16777216 then .ok (.tu (signs z)) st else .stuck) Q := ok
        by_cases q : z.cps.size ≤ 16777216
        · rw [if_pos q] at ok
          exact ⟨z, rfl, by rw [sizeLine_eq]; exact q, fun l hl => ok _ _ _ (same_upd (hd.gnone hl)) (hd.lay _ hl) (.tu (.inl (.inl upd_same)) (reps_signs z))⟩
        · rw [if_neg q] at ok; exact ok.elim
      | _ => exact ok.elim
theorem de_tupleTx {p pos : Pos} {e : Expr} {fa : S → R (List D)} (hc : X.calm = true) (hg : Gl X "tuple") (hm : X.mg "tuple" = none) (ha : DA X T W [e] fa) (he : starEach [e] X.env = (false, eval e X.env) :: starEach [] X.env := by rfl) :
    DE X T W (.Call (.Name "tuple" p) [e] [] pos) (dCB hTupTx fa) := de_callTy (call_tuple_tx hc) snd_tupTx hg hm boot_tuple' ha (he := he)
end
end DL

/-! EV: rules by which a def's run is reckoned step by step, by a tactic (get_elem_tactic_trivial is lent for it). -/
namespace DL
open PySem PySem.Spec PyProof.Rows L2
section
variable {σ τ ρ π : List Sl} {a b c e : Bx} {x y z d : D} {xs ys ds : List D} {f g fa fb fc : S → R D} {fs gs : S → R (List D)} {t u : S → R Bool}
/-! statements: the next state is given in full -/
theorem sq {p q : S → R Out} {st st1 st2 : S} {r : R Out} (h : p st = .ok .nx st1) (h0 : st1 = st2) (h2 : q st2 = r) : dSeq p q st = r := by rw [seq_nx h, h0, h2]
theorem s_set0 {i : Nat} (h1 : f ⟨σ, a⟩ = .ok d ⟨τ, b⟩) : dSet i f ⟨σ, a⟩ = .ok .nx ⟨τ.set i (.val d), b⟩ := dSet_ok h1
theorem s_set {st2 : S} {i : Nat} (h1 : f ⟨σ, a⟩ = .ok d ⟨τ, b⟩) (he : ⟨τ.set i (.val d), b⟩ = st2) : dSet i f ⟨σ, a⟩ = .ok .nx st2 := by
  rw [← he]; exact s_set0 h1
theorem s_own0 {i : Nat} (h1 : fs ⟨σ, a⟩ = .ok ds ⟨τ, b⟩) : dOwn i fs ⟨σ, a⟩ = .ok .nx ⟨τ.set i (.own ds), b⟩ := dOwn_ok h1
theorem s_own {st2 : S} {i : Nat} (h1 : fs ⟨σ, a⟩ = .ok ds ⟨τ, b⟩) (he : ⟨τ.set i (.own ds), b⟩ = st2) : dOwn i fs ⟨σ, a⟩ = .ok .nx st2 := by
  rw [← he]; exact s_own0 h1
theorem s_app0 {i : Nat} (h0 : σ[i]? = some (.own xs)) (h1 : f ⟨σ, a⟩ = .ok d ⟨τ, b⟩) (h2 : τ[i]? = some (.own ds)) (l : ds.length < 16777216) : dApp i f ⟨σ, a⟩ = .ok .nx ⟨τ.set i (.own (ds ++ [d])), b⟩ := dApp_ok h0 h1 h2 l
theorem s_app {st2 : S} {i : Nat} (h0 : σ[i]? = some (.own xs)) (h1 : f ⟨σ, a⟩ = .ok d ⟨τ, b⟩) (h2 : τ[i]? = some (.own ds)) (l : ds.length < 16777216) (he : ⟨τ.set i (.own (ds ++ [d])), b⟩ = st2) : dApp i f ⟨σ, a⟩ = .ok .nx st2 := by
  rw [← he]; exact s_app0 h0 h1 h2 l
theorem s_setIx0 {i : Nat} {k : Int} {j : Nat} (h1 : f ⟨σ, a⟩ = .ok d ⟨τ, b⟩) (h0 : τ[i]? = some (.own xs)) (h2 : g ⟨τ, b⟩ = .ok (.int k) ⟨ρ, c⟩) (h3 : ρ[i]? = some (.own ds)) (h4 : ixN ds.length k = some j) : dSetIx i f g ⟨σ, a⟩ = .ok .nx ⟨ρ.set i (.own (ds.set j d)), c⟩ := by
  unfold dSetIx
  rw [h1, bind_ok]
  dsimp only
  rw [h0]
  dsimp only
  rw [h2, bind_ok]
  dsimp only
  rw [h3]
  dsimp only
  rw [h4]
  rfl
theorem s_setIx {st2 : S} {i : Nat} {k : Int} {j : Nat} (h1 : f ⟨σ, a⟩ = .ok d ⟨τ, b⟩) (h0 : τ[i]? = some (.own xs)) (h2 : g ⟨τ, b⟩ = .ok (.int k) ⟨ρ, c⟩) (h3 : ρ[i]? = some (.own ds)) (h4 : ixN ds.length k = some j) (he : ⟨ρ.set i (.own (ds.set j d)), c⟩ = st2) : dSetIx i f g ⟨σ, a⟩ = .ok .nx st2 := by
  rw [← he]; exact s_setIx0 h1 h0 h2 h3 h4
theorem s_par0 {α β : Type} {i j : Nat} {sa : α → Sl} {sb : β → Sl} {p : S → R α} {q : S → R β} {v : α} {w : β} (h1 : p ⟨σ, a⟩ = .ok v ⟨τ, b⟩) (h2 : q ⟨τ, b⟩ = .ok w ⟨ρ, c⟩) : dPar i j sa sb p q ⟨σ, a⟩ = .ok .nx ⟨(ρ.set i (sa v)).set j (sb w), c⟩ := dPar_ok h1 h2
theorem s_par {st2 : S} {α β : Type} {i j : Nat} {sa : α → Sl} {sb : β → Sl} {p : S → R α} {q : S → R β} {v : α} {w : β} (h1 : p ⟨σ, a⟩ = .ok v ⟨τ, b⟩) (h2 : q ⟨τ, b⟩ = .ok w ⟨ρ, c⟩) (he : ⟨(ρ.set i (sa v)).set j (sb w), c⟩ = st2) : dPar i j sa sb p q ⟨σ, a⟩ = .ok .nx st2 := by
  rw [← he]; exact s_par0 h1 h2
theorem s_par30 {i j l : Nat} {v w q : D} (h1 : fs ⟨σ, a⟩ = .ok [v, w, q] ⟨ρ, c⟩) : dPar3 i j l fs ⟨σ, a⟩ = .ok .nx ⟨((ρ.set i (.val v)).set j (.val w)).set l (.val q), c⟩ := by unfold dPar3; rw [h1, bind_ok]; rfl
theorem s_par3 {st2 : S} {i j l : Nat} {v w q : D} (h1 : fs ⟨σ, a⟩ = .ok [v, w, q] ⟨ρ, c⟩) (he : ⟨((ρ.set i (.val v)).set j (.val w)).set l (.val q), c⟩ = st2) : dPar3 i j l fs ⟨σ, a⟩ = .ok .nx st2 := by
  rw [← he]; exact s_par30 h1
theorem s_unp0 {is : List Nat} (h1 : f ⟨σ, a⟩ = .ok (.tu ds) ⟨τ, b⟩) (h2 : ds.length = is.length) : dUnpack (.tp is) f ⟨σ, a⟩ = .ok .nx (DL.putAll is ds ⟨τ, b⟩) := by
  unfold dUnpack
  rw [h1, bind_ok]
  show (R.bind (if ds.length = is.length then R.ok () (DL.putAll is ds ⟨τ, b⟩) else .stuck) _) = _
  rw [if_pos h2]; rfl
theorem s_unp {st2 : S} {is : List Nat} (h1 : f ⟨σ, a⟩ = .ok (.tu ds) ⟨τ, b⟩) (h2 : ds.length = is.length) (he : (DL.putAll is ds ⟨τ, b⟩) = st2) : dUnpack (.tp is) f ⟨σ, a⟩ = .ok .nx st2 := by
  rw [← he]; exact s_unp0 h1 h2
theorem s_if_t {p q : S → R Out} {st st1 : S} {r : R Out} (h1 : t st = .ok true st1) (h2 : p st1 = r) : dIf t p q st = r := dIf_t h1 h2
theorem s_if_f {p q : S → R Out} {st st1 : S} {r : R Out} (h1 : t st = .ok false st1) (h2 : q st1 = r) : dIf t p q st = r := dIf_f h1 h2
theorem s_next {st : S} : dNext st = .ok .nx st := rfl
/-! lending -/
theorem e_lend {i : Nat} {v : V} (h0 : σ[i]? = some (.own ds)) (h1 : f ⟨(σ.set i (.val (.ls ds))).map Sl.hide, a⟩ = .ok d ⟨ρ, c⟩) (h2 : flatD d = some v) : dLend i f ⟨σ, a⟩ = .ok d ⟨σ, c⟩ := by
  unfold dLend
  dsimp only
  rw [h0]
  dsimp only
  show (match f ⟨(σ.set i (.val (.ls ds))).map Sl.hide, a⟩ with | .ok d s => if (flatD d).isSome then R.ok d _ else .stuck | _ => .stuck) = _
  rw [h1]
  dsimp only
  rw [h2]; rfl
theorem t_lend {i : Nat} {k : Bool} (h0 : σ[i]? = some (.own ds)) (h1 : t ⟨(σ.set i (.val (.ls ds))).map Sl.hide, a⟩ = .ok k ⟨ρ, c⟩) : dLendB i t ⟨σ, a⟩ = .ok k ⟨σ, c⟩ := by
  unfold dLendB
  dsimp only
  rw [h0]
  dsimp only
  show (match t ⟨(σ.set i (.val (.ls ds))).map Sl.hide, a⟩ with | .ok k s => R.ok k _ | _ => .stuck) = _
  rw [h1]
/-! tests of a known outcome -/
variable {st st1 st2 st3 : S} {i j k : Int}
theorem o_ltt (h : i < j) : hLt (.int i) (.int j) st = .ok true st := by show R.ok (decide (i < j)) st = _; rw [decide_eq_true h]
theorem o_ltf (h : j ≤ i) : hLt (.int i) (.int j) st = .ok false st := by show R.ok (decide (i < j)) st = _; rw [decide_eq_false (by omega)]
theorem o_let (h : i ≤ j) : hLe (.int i) (.int j) st = .ok true st := by show R.ok (decide (i ≤ j)) st = _; rw [decide_eq_true h]
theorem o_lef (h : j < i) : hLe (.int i) (.int j) st = .ok false st := by show R.ok (decide (i ≤ j)) st = _; rw [decide_eq_false (by omega)]
theorem o_gtt (h : j < i) : hGt (.int i) (.int j) st = .ok true st := by show R.ok (decide (j < i)) st = _; rw [decide_eq_true h]
theorem o_gtf (h : i ≤ j) : hGt (.int i) (.int j) st = .ok false st := by show R.ok (decide (j < i)) st = _; rw [decide_eq_false (by omega)]
theorem o_get (h : j ≤ i) : hGe (.int i) (.int j) st = .ok true st := by show R.ok (decide (j ≤ i)) st = _; rw [decide_eq_true h]
theorem o_gef (h : i < j) : hGe (.int i) (.int j) st = .ok false st := by show R.ok (decide (j ≤ i)) st = _; rw [decide_eq_false (by omega)]
theorem o_chain_t {h h' : D → D → S → R Bool} {k : Bool} {st4 st5 : S} (h1 : fa st = .ok x st1) (h2 : fb st1 = .ok y st2) (h3 : h x y st2 = .ok true st3) (h4 : fc st3 = .ok z st4) (h5 : h' y z st4 = .ok k st5) : dChainT h h' fa fb fc st = .ok k st5 := by
  unfold dChainT; rw [h1, bind_ok, h2, bind_ok, h3, bind_ok, if_pos rfl, h4, bind_ok, h5]
theorem o_chain_f {h h' : D → D → S → R Bool} (h1 : fa st = .ok x st1) (h2 : fb st1 = .ok y st2) (h3 : h x y st2 = .ok false st3) : dChainT h h' fa fb fc st = .ok false st3 := by
  unfold dChainT; rw [h1, bind_ok, h2, bind_ok, h3, bind_ok, if_neg Bool.false_ne_true]
theorem o_not_t (h1 : t st = .ok false st1) : dNot t st = .ok true st1 := dNot_ok h1
theorem o_not_f (h1 : t st = .ok true st1) : dNot t st = .ok false st1 := dNot_ok h1
theorem e_call {n : Nat} {F : Fn} (h1 : fs ⟨σ, a⟩ = .ok xs ⟨τ, b⟩) (hn : xs.length = n) (h2 : F xs b = .ok d c) : dCall n F [] fs ⟨σ, a⟩ = .ok d ⟨τ, c⟩ := dCall_ok h1 hn h2
theorem e_callF {n : Nat} {F : Fn} (h1 : fs ⟨σ, a⟩ = .ok xs ⟨τ, b⟩) (hn : xs.length = n) (h2 : F xs b = .okF ds c) : dCall n F [] fs ⟨σ, a⟩ = .ok (.ls ds) ⟨τ, c⟩ := dCall_okF h1 hn h2
/-! objects -/
theorem e_prop {k : Nat} {F : Fn} (h1 : f ⟨σ, a⟩ = .ok (.ob k xs) ⟨τ, b⟩) (h2 : F [.ob k xs] b = .ok d c) : dProp k F f ⟨σ, a⟩ = .ok d ⟨τ, c⟩ := by
  unfold dProp
  rw [h1, bind_ok]
  show (if k = k then fromN (F [.ob k xs] b) ⟨τ, b⟩ else .stuck) = _
  rw [if_pos rfl, h2]; rfl
theorem e_mulr (h : -18446744073709551616 < j ∧ j < 18446744073709551616) : hMul (.int i) (.int j) st = .ok (.int (i * j)) st := hMulI_r h
theorem e_mull (h : -18446744073709551616 < i ∧ i < 18446744073709551616) : hMul (.int i) (.int j) st = .ok (.int (i * j)) st := hMulI_l h
theorem e_div (h : 0 < j ∧ j < 340282366920938463463374607431768211456) : hDiv (.int i) (.int j) st = .ok (.int (i / j)) st := by
  have : j.natAbs.log2 < 128 := by rw [Nat.log2_lt (by omega)]; omega
  exact if_pos ⟨h.1, by omega⟩
theorem e_mod (h : 0 < j) : hMod (.int i) (.int j) st = .ok (.int (i % j)) st := if_pos h
theorem e_add_ls (l : xs.length + ys.length ≤ 16777216) : hAdd (.ls xs) (.ls ys) st = .ok (.ls (xs ++ ys)) st := if_pos l
theorem e_add_tu (l : xs.length + ys.length ≤ 16777216) : hAdd (.tu xs) (.tu ys) st = .ok (.tu (xs ++ ys)) st := if_pos l
end
end DL

namespace LW
open PySem PySem.Spec PyProof.Rows L2 DL
local macro_rules
  | `(tactic| decreasing_trivial_pre_omega) => `(tactic| first
    | with_reducible assumption
    | with_reducible exact dC_ok
    | with_reducible exact dNil_ok
    | with_reducible exact dNoP_ok
    | with_reducible exact s_next
    | ((with_reducible apply dV_ok); exact rfl)
    | with_reducible apply dCons_ok
    | with_reducible apply dBin_ok
    | with_reducible apply dBinB_ok
    | with_reducible apply e_call
    | with_reducible apply dCB_ok
    | with_reducible apply dCBF_ok
    | with_reducible apply dClose_ok
    | with_reducible apply dTup_ok
    | with_reducible apply dLst_ok
    | with_reducible apply dUn_ok
    | with_reducible apply dPart_ok
    | with_reducible apply dSlice_ok
    | with_reducible apply dSeqI_ok
    | with_reducible apply dOfB_ok
    | with_reducible apply dTru_bl
    | with_reducible apply dRet_ok
    | with_reducible apply e_prop
    | ((with_reducible apply e_lend); focus (exact rfl))
    | ((with_reducible apply t_lend); focus (exact rfl))
    | ((with_reducible apply sq); focus ((repeat' decreasing_trivial_pre_omega); done); focus (try dsimp only [List.set_cons_zero, List.set_cons_succ]); focus (exact rfl))
    | with_reducible apply s_set
    | with_reducible apply s_own
    | ((with_reducible apply s_app); focus (exact rfl))
    | with_reducible apply s_setIx
    | with_reducible apply s_par
    | with_reducible apply s_par3
    | with_reducible apply s_unp
    | ((with_reducible apply s_if_t); focus ((repeat' decreasing_trivial_pre_omega); done))
    | ((with_reducible apply s_if_f); focus ((repeat' decreasing_trivial_pre_omega); done))
    | (with_reducible apply o_not_t)
    | (with_reducible apply o_not_f)
    | ((with_reducible apply dAnd_t); focus ((repeat' decreasing_trivial_pre_omega); done))
    | ((with_reducible apply dAnd_f); ((repeat' decreasing_trivial_pre_omega); done))
    | ((with_reducible apply dOr_t); ((repeat' decreasing_trivial_pre_omega); done))
    | ((with_reducible apply dOr_f); focus ((repeat' decreasing_trivial_pre_omega); done))
    | ((with_reducible apply o_chain_t) <;> ((repeat' decreasing_trivial_pre_omega); done))
    | ((with_reducible apply o_chain_f) <;> ((repeat' decreasing_trivial_pre_omega); done))
    | ((with_reducible apply o_ltt); omega)
    | ((with_reducible apply o_ltf); omega)
    | ((with_reducible apply o_let); omega)
    | ((with_reducible apply o_lef); omega)
    | ((with_reducible apply o_gtt); omega)
    | ((with_reducible apply o_gtf); omega)
    | ((with_reducible apply o_get); omega)
    | ((with_reducible apply o_gef); omega)
    | ((with_reducible apply e_mulr); omega)
    | ((with_reducible apply e_mull); omega)
    | ((with_reducible apply e_div); omega)
    | ((with_reducible apply e_mod); omega)
    | ((with_reducible apply e_add_ls); first | exact Nat.le_of_ble_eq_true rfl | (simp; done) | (simp; omega))
    | ((with_reducible apply e_add_tu); first | exact Nat.le_of_ble_eq_true rfl | (simp; done) | (simp; omega))
    | exact (rfl : (_ : S) = _)
    | exact (rfl : (_ : R D) = _)
    | exact (rfl : (_ : R Bool) = _)
    | exact (rfl : (_ : R (List D)) = _)
    | exact (rfl : (_ : Option _) = _)
    | exact (rfl : (_ : Nat) = _)
    | exact Nat.le_of_ble_eq_true rfl
    | exact Nat.lt_of_lt_of_le (Nat.lt_succ_self _) (Nat.le_of_ble_eq_true rfl))
section
variable {b : Bx} {X Y : Sl} {rs bs : List Pr} {k p n : Int}
def plainN : Nat → D → Bool
  | 0, _ => false
  | _ + 1, .non => true
  | _ + 1, .bl _ => true
  | _ + 1, .int _ => true
  | _ + 1, .str x => PyData.canLay0 (.str x)
  | k + 1, .ls xs => decide (xs.length ≤ 16777216) && xs.all (plainN k)
  | k + 1, .tu xs => decide (xs.length ≤ 16777216) && xs.all (plainN k)
  | _ + 1, _ => false
theorem eqv_str (x : Str) : PyData.eqv (.str x) (.str x) = true := by simp [PyData.eqv]
theorem shaped_str {x : Str} (h : PyData.canLay0 (.str x) = true) : SeqAt.shaped (.str x) = true := by
  unfold SeqAt.shaped
  rw [h]
  rfl
theorem deq_int (i j : Int) : deq (.int i) (.int j) = some (i == j) := rfl
theorem deq_bl (i j : Bool) : deq (.bl i) (.bl j) = some (i == j) := rfl
theorem deq_str {x : Str} (h : PyData.canLay0 (.str x) = true) : deq (.str x) (.str x) = some true := by
  unfold deq
  show (if (SeqAt.shaped (.str x) && SeqAt.shaped (.str x)) = true then some (PyData.eqv (.str x) (.str x)) else none) = _
  rw [shaped_str h, eqv_str]; rfl
theorem deq_non : deq .non .non = some true := rfl
theorem mem_zipD {xs : List D} {d : D} (h : d ∈ zipD xs xs) : ∃ x ∈ xs, d = .tu [x, x] := by
  unfold zipD at h
  obtain ⟨p, hp, rfl⟩ := List.mem_map.mp h
  obtain ⟨i, hi, e⟩ := List.mem_iff_getElem.mp hp
  have := List.getElem_zip (l := xs) (l' := xs) (i := i) (h := hi)
  rw [this] at e
  cases e
  exact ⟨_, List.getElem_mem _, rfl⟩
abbrev Pr := Bool × Int
def hS (h : Bool) : Str := if h then "a" else "b"
def pr (r : Pr) : D := .tu [.str (hS r.1), .int r.2]
def put (acc : List Pr) (r : Pr) : List Pr := match acc.getLast? with
  | none => [r]
  | some l => if l.1 = r.1 then acc.dropLast ++ [(r.1, l.2 + r.2)] else acc ++ [r]
def joinP (rs : List Pr) : List Pr := rs.foldl put []
theorem put_nil (r : Pr) : put [] r = [r] := rfl
theorem put_snoc (i : List Pr) (l r : Pr) : put (i ++ [l]) r = if l.1 = r.1 then i ++ [(r.1, l.2 + r.2)] else i ++ [l] ++ [r] := by
  unfold put
  rw [List.getLast?_concat]
  simp
theorem put_length (acc : List Pr) (r : Pr) : (put acc r).length ≤ acc.length + 1 := by
  unfold put
  cases h : acc.getLast? with
  | none => simp
  | some l =>
    dsimp only
    split
    · simp
    · simp
theorem atI_last {α : Type} (xs : List α) (x : α) : L2.atI (xs ++ [x]) (-1) = some x := by
  unfold L2.atI L2.ixN
  have e : (-1 : Int) + ((xs ++ [x]).length : Nat) = (xs.length : Nat) := by simp; omega
  rw [if_neg (by omega), if_pos (by simp; omega), e]
  simp
theorem ixN_last (n : Nat) : L2.ixN (n + 1) (-1) = some n := by
  unfold L2.ixN
  rw [if_neg (by omega), if_pos (by omega)]
  congr 1; omega
theorem hS_ok (h : Bool) : okS (hS h) = true := by cases h <;> kernel_rfl
theorem hS_inj {g h : Bool} : (hS g = hS h) ↔ g = h := by cases g <;> cases h <;> decide
def firstP : Int → List Pr → List Pr
  | _, [] => []
  | n, r :: rs => (if 0 < n then [(r.1, gMin r.2 n)] else []) ++ firstP (n - r.2) rs
def leftP : Int → List Pr → Int
  | n, [] => n
  | n, r :: rs => leftP (n - r.2) rs
theorem firstP_pos : ∀ (rs : List Pr) (n : Int), (∀ r ∈ rs, 1 ≤ r.2) → ∀ r ∈ firstP n rs, 1 ≤ r.2
  | [], _, _, r, h => by simp [firstP] at h
  | q :: rs, n, hp, r, h => by
    rw [firstP] at h
    rcases List.mem_append.mp h with h | h
    · split at h
      · rename_i n0
        rw [List.mem_singleton.mp h]
        have := hp q List.mem_cons_self
        show 1 ≤ gMin q.2 n
        unfold gMin; split <;> omega
      · simp at h
    · exact firstP_pos rs _ (fun z hz => hp z (List.mem_cons_of_mem _ hz)) r h
theorem firstP_length : ∀ (rs : List Pr) (n : Int), (firstP n rs).length ≤ rs.length
  | [], _ => Nat.le_refl _
  | q :: rs, n => by
    rw [firstP, List.length_append, List.length_cons]
    have := firstP_length rs (n - q.2)
    split <;> simp <;> omega
def pD (r : Pr) : PyData := .tuple [.str (hS r.1), .int r.2]
theorem toPs_row : ∀ rs : List Pr, toPs (rs.map pr) = some (rs.map pD)
  | [] => rfl
  | r :: rs => by
    show (toP (pr r)).bind (fun p => (toPs (rs.map pr)).map fun ps => p :: ps) = _
    rw [toPs_row rs]; rfl
theorem can_pD (r : Pr) : PyData.canLay0 (pD r) = true := by
  have h : PyData.canLay0 (.str (hS r.1)) = true := hS_ok r.1
  unfold pD
  rw [PyData.canLay0, PyData.canLayAll0, h, PyData.canLayAll0, PyData.canLay0, PyData.canLayAll0]
  rfl
theorem canAll_row : ∀ rs : List Pr, PyData.canLayAll0 (rs.map pD) = true
  | [] => by simp [PyData.canLayAll0]
  | r :: rs => by rw [List.map_cons, PyData.canLayAll0, can_pD, canAll_row rs]; rfl
theorem depth_pD (r : Pr) : PyData.depth (pD r) = 1 := by simp [pD, PyData.depth, PyData.depthAll]
theorem depth_row : ∀ rs : List Pr, PyData.depthAll (rs.map pD) ≤ 1
  | [] => by simp [PyData.depthAll]
  | r :: rs => by
    rw [List.map_cons, PyData.depthAll, depth_pD]
    have := depth_row rs
    omega
theorem shaped_row (rs : List Pr) : SeqAt.shaped (.list (rs.map pD)) = true := by
  unfold SeqAt.shaped
  rw [PyData.canLay0, canAll_row, PyData.depth]
  have := depth_row rs
  rw [decide_eq_true (by omega)]
  rfl
theorem deq_row_nil (r : Pr) (rs : List Pr) : deq (.ls ((r :: rs).map pr)) (.ls []) = some false := by
  unfold deq
  have h := shaped_row (r :: rs)
  have h0 : SeqAt.shaped (.list []) = true := shaped_row []
  simp only [toP, toPs_row, toPs, Option.map_some, h, h0, Bool.and_self, if_true]
  rw [PyData.eqv, List.map_cons, PyData.eqvAll]
  all_goals simp
def restP : Int → List Pr → List Pr
  | _, [] => []
  | g, r :: rs => (if g < r.2 then [(r.1, r.2 - g)] else []) ++ restP (gMax (g - r.2) 0) rs
def goneP : Int → List Pr → Int
  | g, [] => g
  | g, r :: rs => goneP (gMax (g - r.2) 0) rs
theorem restP_pos : ∀ (rs : List Pr) (g : Int), ∀ r ∈ restP g rs, 1 ≤ r.2
  | [], _, r, h => by simp [restP] at h
  | q :: rs, g, r, h => by
    rw [restP] at h
    rcases List.mem_append.mp h with h | h
    · split at h
      · rename_i n0
        rw [List.mem_singleton.mp h]
        show 1 ≤ q.2 - g
        omega
      · simp at h
    · exact restP_pos rs _ r h
theorem restP_length : ∀ (rs : List Pr) (g : Int), (restP g rs).length ≤ rs.length
  | [], _ => Nat.le_refl _
  | q :: rs, g => by
    rw [restP, List.length_append, List.length_cons]
    have := restP_length rs (gMax (g - q.2) 0)
    split <;> simp <;> omega
def AltB (hs : List Bool) : Prop := ∀ (pre post : List Bool) (a c : Bool), hs = pre ++ a :: c :: post → a ≠ c
abbrev hd (rs : List Pr) : List Bool := rs.map (·.1)
def Alt (rs : List Pr) : Prop := AltB (hd rs)
def Pos1 (rs : List Pr) : Prop := ∀ r ∈ rs, 1 ≤ r.2
theorem AltB.pre {xs ys : List Bool} (h : AltB (xs ++ ys)) : AltB xs := fun p q a c e => h p (q ++ ys) a c (by rw [e]; simp)
theorem AltB.suf {xs ys : List Bool} (h : AltB (xs ++ ys)) : AltB ys := fun p q a c e => h (xs ++ p) q a c (by rw [e]; simp)
theorem AltB.rev {xs : List Bool} (h : AltB xs) : AltB xs.reverse := fun p q a c e => fun z => h q.reverse p.reverse c a (by
  have := congrArg List.reverse e
  rw [List.reverse_reverse] at this
  rw [this]; simp) z.symm
theorem AltB.one (a : Bool) : AltB [a] := fun p q x y e => by
  have := congrArg List.length e
  simp at this
  omega
theorem AltB.snoc {i : List Bool} {l r : Bool} (h : AltB (i ++ [l])) (ne : l ≠ r) : AltB (i ++ [l] ++ [r]) := fun p q a c e => by
  rcases List.eq_nil_or_concat q with e2 | ⟨q', x, e2⟩
  · subst e2
    have e3 : (i ++ [l]) ++ [r] = (p ++ [a]) ++ [c] := by rw [e]; simp
    obtain ⟨u, v⟩ := List.append_inj' e3 rfl
    obtain ⟨_, w⟩ := List.append_inj' u rfl
    cases v; cases w
    exact ne
  · rw [List.concat_eq_append] at e2
    subst e2
    have e3 : (i ++ [l]) ++ [r] = (p ++ a :: c :: q') ++ [x] := by rw [e]; simp
    obtain ⟨u, _⟩ := List.append_inj' e3 rfl
    exact h p q' a c u
theorem put_alt {acc : List Pr} {r : Pr} (h : Alt acc) : Alt (put acc r) := by
  rcases List.eq_nil_or_concat acc with e | ⟨i, l, e⟩
  · subst e; exact AltB.one r.1
  · rw [List.concat_eq_append] at e
    subst e
    rw [put_snoc]
    have hm : hd (i ++ [l]) = hd i ++ [l.1] := by simp [hd]
    unfold Alt at h ⊢
    rw [hm] at h
    split
    · rename_i q
      have : hd (i ++ [(r.1, l.2 + r.2)]) = hd i ++ [l.1] := by simp [hd, q]
      rw [this]; exact h
    · rename_i q
      have : hd (i ++ [l] ++ [r]) = hd i ++ [l.1] ++ [r.1] := by simp [hd]
      rw [this]; exact h.snoc q
theorem foldl_alt : ∀ (rs acc : List Pr), Alt acc → Alt (rs.foldl put acc)
  | [], _, h => h
  | r :: rs, acc, h => foldl_alt rs (put acc r) (put_alt h)
theorem joinP_alt (rs : List Pr) : Alt (joinP rs) := foldl_alt rs [] fun p q a c e => by
  have := congrArg List.length e
  simp at this
theorem foldl_same : ∀ (rs acc : List Pr), Alt (acc ++ rs) → rs.foldl put acc = acc ++ rs
  | [], acc, _ => by simp
  | r :: rs, acc, h => by
    have e : put acc r = acc ++ [r] := by
      rcases List.eq_nil_or_concat acc with e | ⟨i, l, e⟩
      · subst e; rfl
      · rw [List.concat_eq_append] at e
        subst e
        rw [put_snoc, if_neg]
        exact h (hd i) (hd rs) l.1 r.1 (by simp [hd])
    rw [List.foldl_cons, e, foldl_same rs (acc ++ [r]) (by rw [List.append_assoc]; exact h)]
    simp
theorem joinP_same {rs : List Pr} (h : Alt rs) : joinP rs = rs := by
  have := foldl_same rs [] (by simpa using h)
  simpa [joinP] using this
theorem put_pos {acc : List Pr} {r : Pr} (h : Pos1 acc) (hr : 1 ≤ r.2) : Pos1 (put acc r) := by
  rcases List.eq_nil_or_concat acc with e | ⟨i, l, e⟩
  · subst e; intro z hz; rw [put_nil] at hz; rw [List.mem_singleton.mp hz]; exact hr
  · rw [List.concat_eq_append] at e
    subst e
    rw [put_snoc]
    have hl := h l (by simp)
    split
    · intro z hz
      rcases List.mem_append.mp hz with hz | hz
      · exact h z (List.mem_append_left _ hz)
      · rw [List.mem_singleton.mp hz]; show 1 ≤ l.2 + r.2; omega
    · intro z hz
      rcases List.mem_append.mp hz with hz | hz
      · exact h z hz
      · rw [List.mem_singleton.mp hz]; exact hr
theorem foldl_pos : ∀ (rs acc : List Pr), Pos1 acc → Pos1 rs → Pos1 (rs.foldl put acc)
  | [], _, h, _ => h
  | r :: rs, acc, h, hr => foldl_pos rs (put acc r) (put_pos h (hr r List.mem_cons_self)) fun z hz => hr z (List.mem_cons_of_mem _ hz)
theorem joinP_pos {rs : List Pr} (h : Pos1 rs) : Pos1 (joinP rs) := foldl_pos rs [] (fun _ hz => by simp at hz) h
theorem Pos1.tail {r : Pr} {rs : List Pr} (h : Pos1 (r :: rs)) : Pos1 rs := fun z hz => h z (List.mem_cons_of_mem _ hz)
theorem firstP_none : ∀ (rs : List Pr) (n : Int), Pos1 rs → n ≤ 0 → firstP n rs = []
  | [], _, _, _ => rfl
  | r :: rs, n, h, hn => by
    have := h r List.mem_cons_self
    rw [firstP, if_neg (by omega), firstP_none rs _ h.tail (by omega)]; rfl
theorem firstP_pre : ∀ (rs : List Pr) (n : Int), Pos1 rs → ∃ q, hd rs = hd (firstP n rs) ++ q
  | [], _, _ => ⟨[], rfl⟩
  | r :: rs, n, h => by
    by_cases q : 0 < n
    · obtain ⟨z, e⟩ := firstP_pre rs (n - r.2) h.tail
      refine ⟨z, ?_⟩
      rw [firstP, if_pos q]
      simp only [hd, List.map_cons, List.map_append] at e ⊢
      rw [e]; simp
    · refine ⟨hd (r :: rs), ?_⟩
      rw [firstP_none _ n h (by omega)]; rfl
theorem restP_all : ∀ (rs : List Pr), Pos1 rs → restP 0 rs = rs
  | [], _ => rfl
  | r :: rs, h => by
    have := h r List.mem_cons_self
    rw [restP, if_pos (by omega), show gMax (0 - r.2) 0 = 0 by unfold gMax; split <;> omega, restP_all rs h.tail]
    simp
theorem restP_suf : ∀ (rs : List Pr) (g : Int), Pos1 rs → 0 ≤ g → ∃ q, hd rs = q ++ hd (restP g rs)
  | [], _, _, _ => ⟨[], rfl⟩
  | r :: rs, g, h, hg => by
    by_cases q : g < r.2
    · refine ⟨[], ?_⟩
      rw [restP, if_pos q, show gMax (g - r.2) 0 = 0 by unfold gMax; split <;> omega, restP_all rs h.tail]
      rfl
    · obtain ⟨z, e⟩ := restP_suf rs (gMax (g - r.2) 0) h.tail (by unfold gMax; split <;> omega)
      refine ⟨r.1 :: z, ?_⟩
      rw [restP, if_neg q]
      simp only [hd, List.map_cons, List.nil_append, List.cons_append] at e ⊢
      rw [e]
theorem first_same {rs : List Pr} {n : Int} (h : Pos1 rs) (a : Alt rs) : joinP (firstP n rs) = firstP n rs := by
  obtain ⟨q, e⟩ := firstP_pre rs n h
  exact joinP_same (by unfold Alt at a; rw [e] at a; exact a.pre)
theorem rest_same {rs : List Pr} {g : Int} (h : Pos1 rs) (a : Alt rs) (hg : 0 ≤ g) : joinP (restP g rs) = restP g rs := by
  obtain ⟨q, e⟩ := restP_suf rs g h hg
  exact joinP_same (by unfold Alt at a; rw [e] at a; exact a.suf)
def whole : List Pr → Int
  | [] => 0
  | r :: rs => r.2 + whole rs
theorem whole_snoc : ∀ (xs : List Pr) (r : Pr), whole (xs ++ [r]) = whole xs + r.2
  | [], r => by simp [whole]
  | x :: xs, r => by rw [List.cons_append, whole, whole, whole_snoc xs r]; omega
theorem whole_rev : ∀ xs : List Pr, whole xs.reverse = whole xs
  | [] => rfl
  | x :: xs => by rw [List.reverse_cons, whole_snoc, whole_rev xs, whole]; omega
theorem firstP_snoc : ∀ (xs : List Pr) (r : Pr) (n : Int), firstP n (xs ++ [r]) = firstP n xs ++ if 0 < n - whole xs then [(r.1, gMin r.2 (n - whole xs))] else []
  | [], r, n => by simp [firstP, whole]
  | x :: xs, r, n => by
    rw [List.cons_append, firstP, firstP_snoc xs r (n - x.2), firstP, whole, List.append_assoc, show n - x.2 - whole xs = n - (x.2 + whole xs) by omega]
theorem whole_pos : ∀ {xs : List Pr}, Pos1 xs → 0 ≤ whole xs
  | [], _ => by simp [whole]
  | x :: xs, h => by
    have := h x List.mem_cons_self
    have := whole_pos h.tail
    rw [whole]; omega
theorem firstP_all : ∀ (xs : List Pr) (n : Int), Pos1 xs → whole xs ≤ n → firstP n xs = xs
  | [], _, _, _ => rfl
  | x :: xs, n, h, hn => by
    have h1 := h x List.mem_cons_self
    have h2 := whole_pos h.tail
    rw [whole] at hn
    rw [firstP, if_pos (by omega), firstP_all xs (n - x.2) h.tail (by omega)]
    have : gMin x.2 n = x.2 := by unfold gMin; split <;> omega
    rw [this]; rfl
theorem Pos1.rev {xs : List Pr} (h : Pos1 xs) : Pos1 xs.reverse := fun z hz => h z (List.mem_reverse.mp hz)
theorem rest_back : ∀ (rs : List Pr) (g : Int), Pos1 rs → 0 ≤ g → restP g rs = (firstP (whole rs - g) rs.reverse).reverse
  | [], _, _, _ => rfl
  | r :: t, g, h, hg => by
    have h1 := h r List.mem_cons_self
    rw [List.reverse_cons, firstP_snoc, List.reverse_append, whole_rev, whole, restP]
    have e0 : r.2 + whole t - g - whole t = r.2 - g := by omega
    rw [e0]
    by_cases q : g < r.2
    · rw [if_pos q, if_pos (by omega : 0 < r.2 - g), show gMax (g - r.2) 0 = 0 by unfold gMax; split <;> omega, restP_all t h.tail]
      rw [firstP_all t.reverse _ h.tail.rev (by rw [whole_rev]; omega)]
      have : gMin r.2 (r.2 - g) = r.2 - g := by unfold gMin; split <;> omega
      rw [this]; simp
    · rw [if_neg q, if_neg (by omega : ¬ 0 < r.2 - g), rest_back t _ h.tail (by unfold gMax; split <;> omega)]
      have : whole t - gMax (g - r.2) 0 = r.2 + whole t - g := by unfold gMax; split <;> omega
      rw [this]; simp
theorem put_put (acc : List Pr) (h : Bool) (m m' : Int) : put (put acc (h, m)) (h, m') = put acc (h, m + m') := by
  rcases List.eq_nil_or_concat acc with e | ⟨i, l, e⟩
  · subst e
    rw [put_nil]
    have := put_snoc [] (h, m) (h, m')
    simp at this
    exact this
  · rw [List.concat_eq_append] at e
    subst e
    rw [put_snoc, put_snoc]
    by_cases q : l.1 = h
    · rw [if_pos q, if_pos q, put_snoc, if_pos rfl]
      rw [Int.add_assoc]
    · rw [if_neg q, if_neg q, put_snoc, if_pos rfl]
theorem both_fold : ∀ (rs acc : List Pr) (n : Int), Pos1 rs → (firstP n rs ++ restP (gMax n 0) rs).foldl put acc = rs.foldl put acc
  | [], _, _, _ => rfl
  | r :: t, acc, n, h => by
    have h1 := h r List.mem_cons_self
    by_cases q : 0 < n
    · have e0 : gMax n 0 = n := by unfold gMax; split <;> omega
      by_cases w : n < r.2
      · rw [e0, firstP, if_pos q, firstP_none t _ h.tail (by omega), restP, if_pos w, show gMax (n - r.2) 0 = 0 by unfold gMax; split <;> omega, restP_all t h.tail]
        have : gMin r.2 n = n := by unfold gMin; split <;> omega
        rw [this]
        simp only [List.append_nil, List.cons_append, List.nil_append, List.foldl_cons]
        rw [put_put, show n + (r.2 - n) = r.2 by omega]
      · have e2 : gMin r.2 n = r.2 := by unfold gMin; split <;> omega
        rw [firstP, if_pos q, e0, restP, if_neg w, e2]
        simp only [List.cons_append, List.nil_append, List.foldl_cons]
        exact both_fold t (put acc r) (n - r.2) h.tail
    · rw [firstP_none _ n h (by omega), show gMax n 0 = 0 by unfold gMax; split <;> omega, restP_all _ h]; rfl
theorem both_same {rs : List Pr} {n : Int} (h : Pos1 rs) (a : Alt rs) : joinP (firstP n rs ++ restP (gMax n 0) rs) = rs := by
  have := both_fold rs [] n h
  unfold joinP
  rw [this]
  exact joinP_same a
def endsP : Int → List Pr → List Int
  | _, [] => []
  | e, r :: rs => (e + r.2) :: endsP (e + r.2) rs
theorem intDs_ints : ∀ xs : List Int, intDs (xs.map .int) = some xs
  | [] => rfl
  | x :: xs => by
    show (intDs (xs.map .int)).map _ = _
    rw [intDs_ints xs]; rfl
theorem sum_whole : ∀ rs : List Pr, (rs.map (·.2)).sum = whole rs
  | [] => rfl
  | r :: rs => by rw [List.map_cons, List.sum_cons, sum_whole rs, whole]
def flatP : List Pr → List Bool
  | [] => []
  | r :: rs => List.replicate r.2.toNat r.1 ++ flatP rs
def units (hs : List Bool) : List Pr := hs.map fun h => (h, 1)
theorem flatP_append : ∀ xs ys : List Pr, flatP (xs ++ ys) = flatP xs ++ flatP ys
  | [], _ => rfl
  | x :: xs, ys => by rw [List.cons_append, flatP, flatP, flatP_append xs ys, List.append_assoc]
theorem units_append (xs ys : List Bool) : units (xs ++ ys) = units xs ++ units ys := by simp [units]
theorem flatP_units : ∀ hs : List Bool, flatP (units hs) = hs
  | [] => rfl
  | h :: hs => by
    have := flatP_units hs
    show List.replicate (1 : Int).toNat h ++ flatP (units hs) = _
    rw [this]; rfl
theorem units_pos (hs : List Bool) : Pos1 (units hs) := fun r hr => by
  obtain ⟨h, _, rfl⟩ := List.mem_map.mp hr
  exact Int.le_refl 1
theorem fold_rep : ∀ (k : Nat) (acc : List Pr) (h : Bool), (units (List.replicate (k + 1) h)).foldl put acc = put acc (h, (k : Int) + 1)
  | 0, acc, h => by simp [units]
  | k + 1, acc, h => by
    rw [List.replicate_succ', units_append, List.foldl_append, fold_rep k acc h]
    show put (put acc (h, (k : Int) + 1)) (h, 1) = _
    rw [put_put]
    congr 2
theorem fold_flat : ∀ (rs acc : List Pr), Pos1 rs → rs.foldl put acc = (units (flatP rs)).foldl put acc
  | [], _, _ => rfl
  | r :: rs, acc, h => by
    have h1 := h r List.mem_cons_self
    obtain ⟨k, e⟩ : ∃ k : Nat, r.2 = (k : Int) + 1 := ⟨(r.2 - 1).toNat, by omega⟩
    rw [List.foldl_cons, flatP, units_append, List.foldl_append, show r.2.toNat = k + 1 by omega, fold_rep]
    rw [fold_flat rs _ h.tail]
    congr 1
    rw [← e]
theorem joinP_units {rs : List Pr} (h : Pos1 rs) : joinP rs = joinP (units (flatP rs)) := fold_flat rs [] h
theorem joinP_flat {xs ys : List Pr} (hx : Pos1 xs) (hy : Pos1 ys) (e : flatP xs = flatP ys) : joinP xs = joinP ys := by rw [joinP_units hx, joinP_units hy, e]
theorem put_flat {acc : List Pr} {r : Pr} (h : Pos1 acc) (hr : 1 ≤ r.2) : flatP (put acc r) = flatP (acc ++ [r]) := by
  rcases List.eq_nil_or_concat acc with e | ⟨i, l, e⟩
  · subst e; rfl
  · rw [List.concat_eq_append] at e
    subst e
    have hl := h l (by simp)
    rw [put_snoc]
    split
    · rename_i q
      rw [flatP_append, List.append_assoc, flatP_append]
      congr 1
      show List.replicate (l.2 + r.2).toNat r.1 ++ [] = List.replicate l.2.toNat l.1 ++ (List.replicate r.2.toNat r.1 ++ [])
      rw [q, List.append_nil, List.append_nil, List.replicate_append_replicate]
      congr 1; omega
    · rfl
theorem foldl_flat : ∀ (rs acc : List Pr), Pos1 acc → Pos1 rs → flatP (rs.foldl put acc) = flatP acc ++ flatP rs
  | [], acc, _, _ => by simp [flatP]
  | r :: rs, acc, ha, h => by
    have h1 := h r List.mem_cons_self
    rw [List.foldl_cons, foldl_flat rs _ (put_pos ha h1) h.tail, put_flat ha h1, flatP_append, flatP]
    simp [flatP]
theorem flat_join {rs : List Pr} (h : Pos1 rs) : flatP (joinP rs) = flatP rs := by
  have := foldl_flat rs [] (fun _ hz => by simp at hz) h
  simpa [joinP, flatP] using this
theorem flat_length : ∀ {rs : List Pr}, Pos1 rs → ((flatP rs).length : Int) = whole rs
  | [], _ => rfl
  | r :: rs, h => by
    have h1 := h r List.mem_cons_self
    have := flat_length h.tail
    rw [flatP, List.length_append, List.length_replicate, whole]
    omega
theorem flat_first : ∀ (rs : List Pr) (n : Int), Pos1 rs → flatP (firstP n rs) = (flatP rs).take n.toNat
  | [], n, _ => by simp [firstP, flatP]
  | r :: rs, n, h => by
    have h1 := h r List.mem_cons_self
    by_cases q : 0 < n
    · have fr : flatP (r :: rs) = List.replicate r.2.toNat r.1 ++ flatP rs := rfl
      rw [firstP, if_pos q, flatP_append, flat_first rs _ h.tail, fr, List.take_append]
      show (List.replicate (gMin r.2 n).toNat r.1 ++ []) ++ _ = _
      rw [List.append_nil, List.take_replicate, List.length_replicate]
      congr 2
      · unfold gMin; split <;> omega
      · omega
    · rw [firstP_none _ n h (by omega), show n.toNat = 0 by omega]; simp [flatP]
theorem flat_rest : ∀ (rs : List Pr) (g : Int), Pos1 rs → 0 ≤ g → flatP (restP g rs) = (flatP rs).drop g.toNat
  | [], g, _, _ => by simp [restP, flatP]
  | r :: rs, g, h, hg => by
    have h1 := h r List.mem_cons_self
    rw [restP, flatP_append, flat_rest rs _ h.tail (by unfold gMax; split <;> omega), flatP, List.drop_append]
    rw [List.drop_replicate, List.length_replicate]
    congr 1
    · split
      · show List.replicate (r.2 - g).toNat r.1 ++ [] = _
        rw [List.append_nil]; congr 1; omega
      · rw [show r.2.toNat - g.toNat = 0 by omega]; rfl
    · congr 1; unfold gMax; split <;> omega
theorem put_len1 : ∀ (rs acc : List Pr), (rs.foldl put acc).length ≤ acc.length + rs.length
  | [], acc => by simp
  | r :: rs, acc => by
    have h1 := put_length acc r
    have h2 := put_len1 rs (put acc r)
    rw [List.foldl_cons, List.length_cons]
    omega
theorem joinP_length (rs : List Pr) : (joinP rs).length ≤ rs.length := by
  have := put_len1 rs []
  simpa [joinP] using this
theorem pos_two (g h : Bool) : Pos1 [((h, 1) : Pr), (g, 1)] := fun r hr => by
  rcases List.mem_cons.mp hr with e | hr
  · rw [e]; exact Int.le_refl 1
  · rw [List.mem_singleton.mp hr]; exact Int.le_refl 1
theorem joinP_joinP (rs : List Pr) : joinP (joinP rs) = joinP rs := joinP_same (joinP_alt rs)
abbrev hT (hs : List Bool) : List D := hs.map fun h => .str (hS h)
theorem rep_flat (h : Bool) : ∀ n : Nat, (List.replicate n [D.str (hS h)]).flatten = hT (List.replicate n h)
  | 0 => rfl
  | n + 1 => by rw [List.replicate_succ, List.flatten_cons, rep_flat h n]; simp [hT, List.replicate_succ]
theorem mul_ok {h : Bool} {m : Int} {st : S} (h0 : 0 ≤ m) (l : m ≤ 1000) : hMul (.ls [D.str (hS h)]) (.int m) st = .ok (.ls (hT (List.replicate m.toNat h))) st := by
  show (if -9223372036854775808 ≤ m ∧ m < 9223372036854775808 ∧ 1 * m.toNat ≤ 16777216 then R.ok (D.ls (List.replicate m.toNat [D.str (hS h)]).flatten) st else .stuck) = _
  rw [if_pos ⟨by omega, by omega, by omega⟩, rep_flat]
theorem cut_to {α : Type} (xs : List α) {i : Int} (h : 0 ≤ i) : DL.cutD xs none (some i) = xs.take i.toNat := by
  obtain ⟨n, rfl⟩ : ∃ n : Nat, i = (n : Nat) := ⟨i.toNat, by omega⟩
  unfold DL.cutD
  rw [HT.sIx_none, HT.sIx_nat, List.drop_zero, Nat.sub_zero, List.take_eq_take_iff]; omega
theorem cut_from {α : Type} (xs : List α) {i : Int} (h : 0 ≤ i) : DL.cutD xs (some i) none = xs.drop i.toNat := by
  obtain ⟨n, rfl⟩ : ∃ n : Nat, i = (n : Nat) := ⟨i.toNat, by omega⟩
  unfold DL.cutD
  rw [HT.sIx_none, HT.sIx_nat]
  by_cases q : n ≤ xs.length
  · rw [Nat.min_eq_left q, Int.toNat_natCast, List.take_of_length_le (by rw [List.length_drop]; omega)]
  · rw [Nat.min_eq_right (by omega), List.drop_eq_nil_of_le (Nat.le_refl _), List.drop_eq_nil_of_le (by omega)]; simp
theorem cut_mid {α : Type} (xs : List α) {i j : Int} (h : 0 ≤ i) (hj : i ≤ j) : DL.cutD xs (some i) (some j) = (xs.drop i.toNat).take (j - i).toNat := by
  obtain ⟨n, rfl⟩ : ∃ n : Nat, i = (n : Nat) := ⟨i.toNat, by omega⟩
  obtain ⟨m, rfl⟩ : ∃ m : Nat, j = (m : Nat) := ⟨j.toNat, by omega⟩
  unfold DL.cutD
  rw [HT.sIx_nat, HT.sIx_nat]
  by_cases q : n ≤ xs.length
  · rw [Nat.min_eq_left q, Int.toNat_natCast, List.take_eq_take_iff, List.length_drop]; omega
  · rw [List.drop_eq_nil_of_le (by omega : xs.length ≤ min n xs.length), List.drop_eq_nil_of_le (by omega : xs.length ≤ _)]; simp
theorem two_of {α : Type} {xs : List α} {n : Nat} (h : n + 1 < xs.length) : ∃ g k, xs[n]? = some g ∧ xs[n + 1]? = some k ∧ (xs.drop n).take 2 = [g, k] := by
  refine ⟨xs[n], xs[n + 1], List.getElem?_eq_getElem (by omega), List.getElem?_eq_getElem h, ?_⟩
  rw [List.drop_eq_getElem_cons (by omega), List.drop_eq_getElem_cons h]
  rfl
theorem units_row (hs : List Bool) : (hT hs).map (fun d => D.tu [d, .int 1]) = (units hs).map pr := by simp [units, pr]
theorem unit_comp {i : Nat} {iter : S → R (List D)} {hs : List Bool} {env : List Sl} {r : List D} (hi : i < env.length) (h1 : iter ⟨env, b⟩ = .ok (hT hs) ⟨env, b⟩) (l : hs.length ≤ 1000) : dComp (.nm i) [i] iter dYes (dTup (dCons (dV i) (dCons (dC (.int 1)) dNil))) ⟨env, b⟩ = .ok ((units hs).map pr) ⟨env, b⟩ := by
  refine dComp_ok h1 ?_
  rw [← units_row]
  refine (compD_map (f := fun d => D.tu [d, .int 1]) (fun d hd => ?_) (by simp; omega)).trans (by simp)
  refine ⟨(wipeS (S.hide ⟨env, b⟩).env [i]).set i (.val d), ?_⟩
  have hl : i < (wipeS (S.hide ⟨env, b⟩).env [i]).length := by rw [wipeS_length]; show i < (env.map Sl.hide).length; rw [List.length_map]; exact hi
  have hv : dV i ⟨(wipeS (S.hide ⟨env, b⟩).env [i]).set i (.val d), b⟩ = .ok d ⟨(wipeS (S.hide ⟨env, b⟩).env [i]).set i (.val d), b⟩ := dV_ok (by show (List.set _ _ _)[i]? = _; rw [List.getElem?_set_self hl])
  unfold turnD
  show (R.bind (R.ok () ⟨(wipeS (S.hide ⟨env, b⟩).env [i]).set i (.val d), b⟩) _) = _
  rw [bind_ok]
  show (R.bind (R.ok true _) _) = _
  rw [bind_ok, if_pos rfl]
  have ht : dTup (dCons (dV i) (dCons (dC (.int 1)) dNil)) ⟨(wipeS (S.hide ⟨env, b⟩).env [i]).set i (.val d), b⟩ = .ok (.tu [d, .int 1]) ⟨(wipeS (S.hide ⟨env, b⟩).env [i]).set i (.val d), b⟩ := dTup_ok (dCons_ok hv (dCons_ok dC_ok dNil_ok)) (Nat.le_of_ble_eq_true rfl)
  rw [ht]
  rfl
theorem sl_to {hs : List Bool} {i : Int} (h : 0 ≤ i) : sliceD (.tu (hT hs)) none (some i) = some (.tu (hT (hs.take i.toNat))) := by
  show some (D.tu (DL.cutD (hT hs) none (some i))) = _
  rw [cut_to _ h, ← List.map_take]
theorem sl_from {hs : List Bool} {i : Int} (h : 0 ≤ i) : sliceD (.tu (hT hs)) (some i) none = some (.tu (hT (hs.drop i.toNat))) := by
  show some (D.tu (DL.cutD (hT hs) (some i) none)) = _
  rw [cut_from _ h, ← List.map_drop]
theorem sl_mid {hs : List Bool} {i j : Int} (h : 0 ≤ i) (hj : i ≤ j) : sliceD (.tu (hT hs)) (some i) (some j) = some (.tu (hT ((hs.drop i.toNat).take (j - i).toNat))) := by
  show some (D.tu (DL.cutD (hT hs) (some i) (some j))) = _
  rw [cut_mid _ h hj, ← List.map_drop, ← List.map_take]
theorem plain_row {n : Nat} {rs : List Pr} (l : rs.length ≤ 1000) : plainN (n + 3) (.tu (rs.map pr)) = true := by
  have a : (rs.map pr).all (plainN (n + 2)) = true := by
    rw [List.all_eq_true]
    intro d hd
    obtain ⟨r, hr, rfl⟩ := List.mem_map.mp hd
    have o : plainN (n + 1) (.str (hS r.1)) = true := hS_ok r.1
    show (decide (2 ≤ 16777216) && ([.str (hS r.1), .int r.2] : List D).all (plainN (n + 1))) = true
    rw [decide_eq_true (by omega)]
    simp only [List.all_cons, List.all_nil, o, Bool.true_and, Bool.and_true]
    rfl
  show (decide ((rs.map pr).length ≤ 16777216) && (rs.map pr).all (plainN (n + 2))) = true
  rw [a, decide_eq_true (by rw [List.length_map]; omega)]; rfl
theorem units_len (hs : List Bool) : (units hs).length = hs.length := List.length_map _
theorem plain_two {n : Nat} {x y : D} (hx : plainN n x = true) (hy : plainN n y = true) : plainN (n + 1) (.ls [x, y]) = true := by
  show (decide (2 ≤ 16777216) && ([x, y] : List D).all (plainN n)) = true
  simp only [List.all_cons, List.all_nil, hx, hy, Bool.true_and, Bool.and_true]
  rfl
theorem gMax_le (k : Int) : 0 ≤ gMax k 0 ∧ (gMax k 0).toNat = k.toNat := by unfold gMax; split <;> omega
theorem gMax_le' (k : Int) : 0 ≤ gMax 0 k ∧ (gMax 0 k).toNat = k.toNat := by unfold gMax; split <;> omega
theorem toP_hT : ∀ hs : List Bool, toPs (hT hs) = some (hs.map fun h => .str (hS h))
  | [] => rfl
  | h :: hs => by
    show (toP (.str (hS h))).bind (fun p => (toPs (hT hs)).map fun ps => p :: ps) = _
    rw [toP_hT hs]; rfl
theorem canAll_hT : ∀ hs : List Bool, PyData.canLayAll0 (hs.map fun h => PyData.str (hS h)) = true
  | [] => by simp [PyData.canLayAll0]
  | h :: hs => by
    have q : PyData.canLay0 (.str (hS h)) = true := hS_ok h
    rw [List.map_cons, PyData.canLayAll0, q, canAll_hT hs]; rfl
theorem depth_hT : ∀ hs : List Bool, PyData.depthAll (hs.map fun h => PyData.str (hS h)) = 0
  | [] => by simp [PyData.depthAll]
  | h :: hs => by
    rw [List.map_cons, PyData.depthAll, depth_hT hs]; simp [PyData.depth]
theorem eqvAll_hT : ∀ hs : List Bool, PyData.eqvAll (hs.map fun h => PyData.str (hS h)) (hs.map fun h => PyData.str (hS h)) = true
  | [] => by simp [PyData.eqvAll]
  | h :: hs => by
    rw [List.map_cons, PyData.eqvAll, eqv_str, eqvAll_hT hs]; rfl
theorem ne_two (x y : List Bool) {st : S} : hNe (.ls [.tu (hT x), .tu (hT y)]) (.ls [.tu (hT x), .tu (hT y)]) st = .ok false st := by
  have e : deq (.ls [.tu (hT x), .tu (hT y)]) (.ls [.tu (hT x), .tu (hT y)]) = some true := by
    unfold deq
    have t : toP (.ls [.tu (hT x), .tu (hT y)]) = some (.list [.tuple (x.map fun h => .str (hS h)), .tuple (y.map fun h => .str (hS h))]) := by
      simp [toP, toPs, toP_hT]
    have sh : SeqAt.shaped (.list [.tuple (x.map fun h => .str (hS h)), .tuple (y.map fun h => .str (hS h))]) = true := by
      unfold SeqAt.shaped
      simp only [PyData.canLay0, PyData.canLayAll0, canAll_hT, PyData.depth, PyData.depthAll, depth_hT]
      rfl
    rw [t]
    dsimp only
    rw [sh]
    simp only [PyData.eqv, PyData.eqvAll, eqvAll_hT]
    rfl
  unfold hNe
  rw [e]; rfl
theorem range2_ok {i j : Int} {st : S} (h : -1000 ≤ i ∧ i ≤ j ∧ j ≤ 100000) : ∃ ks : List Int, hRange2 [.int i, .int j] st = .ok (ks.map .int) st := by
  refine ⟨(List.range (j - i).toNat).map fun (n : Nat) => i + (n : Int), ?_⟩
  unfold hRange2 rangeD
  dsimp only
  rw [if_pos (by omega), List.map_map]
  rfl
theorem hDiv_big {i j : Int} {st : S} (h0 : 0 < j) (h : j < 340282366920938463463374607431768211456) : hDiv (.int i) (.int j) st = .ok (.int (i / j)) st := by
  have : j.natAbs.log2 < 128 := by rw [Nat.log2_lt (by omega)]; omega
  exact if_pos ⟨h0, by omega⟩
theorem plain_three {n : Nat} {x y z : D} (hx : plainN n x = true) (hy : plainN n y = true) (hz : plainN n z = true) : plainN (n + 1) (.ls [x, y, z]) = true := by
  show (decide (3 ≤ 16777216) && ([x, y, z] : List D).all (plainN n)) = true
  simp only [List.all_cons, List.all_nil, hx, hy, hz, Bool.true_and, Bool.and_true]
  rfl
theorem whole_join (hp : Pos1 bs) : whole (joinP bs) = whole bs := by
  rw [← flat_length (joinP_pos hp), flat_join hp, flat_length hp]
def HighOk (h : Int) : Prop := (1 ≤ h ∧ h ≤ 9) ∨ h = 10000000000000000000000000000
end
end LW

namespace LW
open PySem PySem.Spec PyProof.Rows L2 DL
section
variable {b : Bx} {rs ts bs : List Pr}
def endR : Nat → Bool → List Bool → List Nat
  | i, _, [] => [i]
  | i, h, g :: gs => if g = h then endR (i + 1) h gs else i :: endR (i + 1) g gs
theorem endsP_snoc : ∀ (xs : List Pr) (r : Pr) (e : Int), endsP e (xs ++ [r]) = endsP e xs ++ [e + whole xs + r.2]
  | [], r, e => by simp [endsP, whole]
  | x :: xs, r, e => by rw [List.cons_append, endsP, endsP_snoc xs r, endsP, whole]; simp [Int.add_assoc]
theorem ends_fold : ∀ (gs : List Bool) (pre : List Pr) (h : Bool) (m : Int) (i : Nat), whole pre + m = (i : Int) → endsP 0 ((units gs).foldl put (pre ++ [(h, m)])) = endsP 0 pre ++ (endR i h gs).map fun n : Nat => ((n : Nat) : Int)
  | [], pre, h, m, i, e => by
    show endsP 0 (pre ++ [(h, m)]) = _
    rw [endsP_snoc]
    simp [endR]; omega
  | g :: gs, pre, h, m, i, e => by
    show endsP 0 ((units gs).foldl put (put (pre ++ [(h, m)]) (g, 1))) = _
    rw [put_snoc]
    by_cases q : g = h
    · subst q
      rw [if_pos rfl, ends_fold gs pre g (m + 1) (i + 1) (by omega), endR, if_pos rfl]
    · have q' : ¬ h = g := fun z => q z.symm
      rw [if_neg q', ends_fold gs (pre ++ [(h, m)]) g 1 (i + 1) (by rw [whole_snoc]; show _ + m + 1 = _; omega), endR, if_neg q, endsP_snoc]
      show endsP 0 pre ++ [0 + whole pre + m] ++ _ = _
      have : 0 + whole pre + m = (i : Int) := by omega
      rw [this]; simp
theorem ends_of (h : Bool) (gs : List Bool) : endsP 0 (joinP (units (h :: gs))) = (endR 1 h gs).map fun n : Nat => ((n : Nat) : Int) := by
  show endsP 0 ((units gs).foldl put ([] ++ [(h, 1)])) = _
  rw [ends_fold gs [] h 1 1 (by rfl)]; rfl
def isEnd (hs : List Bool) (k : Nat) : Bool := decide (k = hs.length) || !decide (hs[k]? = hs[k - 1]?)
theorem ends_walk (hs : List Bool) : ∀ (gs pre : List Bool) (h : Bool) (i : Nat), hs = pre ++ h :: gs → i = pre.length + 1 → (List.range' i (gs.length + 1)).filter (isEnd hs) = endR i h gs
  | [], pre, h, i, e, ei => by
    have : isEnd hs i = true := by unfold isEnd; rw [e, ei]; simp
    show ([i] : List Nat).filter (isEnd hs) = _
    rw [List.filter_cons_of_pos this]; rfl
  | g :: gs, pre, h, i, e, ei => by
    have h1 : hs[i]? = some g := by rw [e, ei]; simp [List.getElem?_append_right]
    have h0 : hs[i - 1]? = some h := by rw [e, ei]; simp [List.getElem?_append_right]
    have ln : hs.length = pre.length + (gs.length + 2) := by rw [e]; simp
    have ih := ends_walk hs gs (pre ++ [h]) g (i + 1) (by rw [e]; simp) (by rw [ei]; simp)
    have er : isEnd hs i = !decide (g = h) := by
      unfold isEnd
      rw [h1, h0, decide_eq_false (by omega : ¬ i = hs.length)]
      simp
    show (i :: List.range' (i + 1) (gs.length + 1)).filter (isEnd hs) = _
    rw [endR]
    by_cases q : g = h
    · subst q
      rw [if_pos rfl, List.filter_cons_of_neg (by rw [er]; simp), ih]
    · rw [if_neg q, List.filter_cons_of_pos (by rw [er]; simp [q]), ih]
theorem ends_filter (hs : List Bool) : ((List.range' 1 hs.length).filter (isEnd hs)).map (fun n : Nat => ((n : Nat) : Int)) = endsP 0 (joinP (units hs)) := by
  match hs with
  | [] => rfl
  | h :: gs => rw [ends_of, List.length_cons, ends_walk (h :: gs) gs [] h 1 rfl rfl]
theorem ends_length : ∀ (rs : List Pr) (e : Int), (endsP e rs).length = rs.length
  | [], _ => rfl
  | r :: rs, e => by rw [endsP, List.length_cons, List.length_cons, ends_length rs]
def cornL (rs ts : List Pr) : List Int := sortU (0 :: endsP 0 rs ++ endsP 0 ts)
theorem insU_len (x : Int) : ∀ ys : List Int, (insU x ys).length ≤ ys.length + 1
  | [] => by simp [insU]
  | y :: ys => by
    have := insU_len x ys
    rw [insU]
    split
    · simp
    · split
      · simp
      · simp; omega
theorem sortU_len : ∀ xs : List Int, (sortU xs).length ≤ xs.length
  | [] => Nat.le_refl _
  | x :: xs => by
    have := sortU_len xs
    have h := insU_len x (sortU xs)
    rw [sortU, List.length_cons]; omega
theorem units_whole : ∀ hs : List Bool, whole (units hs) = (hs.length : Int)
  | [] => rfl
  | h :: hs => by
    show (1 : Int) + whole (units hs) = _
    rw [units_whole hs, List.length_cons]; omega
abbrev J (hs : List Bool) : List Pr := joinP (units hs)
theorem J_len (hs : List Bool) : (J hs).length ≤ hs.length := by have := joinP_length (units hs); rwa [units_len] at this
theorem J_whole (hs : List Bool) : whole (J hs) = (hs.length : Int) := by rw [whole_join (units_pos hs), units_whole]
theorem J_flat (hs : List Bool) : flatP (J hs) = hs := by rw [flat_join (units_pos hs), flatP_units]
theorem whole_perm {xs ys : List Pr} (h : xs.Perm ys) : whole xs = whole ys := by
  induction h with
  | nil => rfl
  | cons x _ ih => show x.2 + whole _ = x.2 + whole _; rw [ih]
  | swap x y l => show y.2 + (x.2 + whole l) = x.2 + (y.2 + whole l); omega
  | trans _ _ i1 i2 => exact i1.trans i2
theorem pos_perm {xs ys : List Pr} (h : xs.Perm ys) (p : Pos1 ys) : Pos1 xs := fun r hr => p r (h.mem_iff.mp hr)

/-! counts: how many of hers each beginning has -/
def cn (hs : List Bool) (n : Nat) : Nat := (hs.take n).count true
theorem cn_zero (hs : List Bool) : cn hs 0 = 0 := by simp [cn]
theorem cn_succ (hs : List Bool) (n : Nat) : cn hs (n + 1) = cn hs n + if hs[n]? = some true then 1 else 0 := by
  unfold cn
  rw [List.take_succ, List.count_append]
  congr 1
  cases hs[n]? with
  | none => rfl
  | some t => cases t <;> rfl
/-- a row as Turns keep it is fixed by its heirs one by one -/
theorem J_self {rs : List Pr} (a : Alt rs) (p : Pos1 rs) : J (flatP rs) = rs := by
  show joinP (units (flatP rs)) = rs
  rw [← joinP_units p, joinP_same a]
theorem ends_iff {rs : List Pr} (a : Alt rs) (p : Pos1 rs) (k : Int) : k ∈ endsP 0 rs ↔ ∃ n : Nat, k = (n : Int) ∧ 1 ≤ n ∧ n ≤ (flatP rs).length ∧ isEnd (flatP rs) n = true := by
  have e : endsP 0 rs = endsP 0 (joinP (units (flatP rs))) := congrArg (endsP 0) (J_self a p).symm
  rw [e, ← ends_filter]
  simp only [List.mem_map, List.mem_filter, List.mem_range'_1]
  constructor
  · rintro ⟨n, ⟨⟨h1, h2⟩, h3⟩, rfl⟩
    exact ⟨n, rfl, h1, by omega, h3⟩
  · rintro ⟨n, rfl, h1, h2, h3⟩
    exact ⟨n, ⟨⟨h1, by omega⟩, h3⟩, rfl⟩
theorem not_end {hs : List Bool} {n : Nat} (h : isEnd hs n = false) : n ≠ hs.length ∧ hs[n]? = hs[n - 1]? := by
  unfold isEnd at h
  simp at h
  exact h
theorem corn_iff {rs ts : List Pr} (k : Int) : k ∈ cornL rs ts ↔ k = 0 ∨ k ∈ endsP 0 rs ∨ k ∈ endsP 0 ts := by
  unfold cornL
  rw [sortU_mem]
  simp
/-- where one has more, it has more at a corner -/
theorem lead_up {hs gs : List Bool} (l : hs.length = gs.length) : ∀ (j n : Nat), n + 1 + j = hs.length → cn hs (n + 1) < cn gs (n + 1) → hs[n]? = some false → gs[n]? = some true →
    ∃ m, 1 ≤ m ∧ m ≤ hs.length ∧ cn hs m < cn gs m ∧ (isEnd hs m = true ∨ isEnd gs m = true)
  | 0, n, e, h, _, _ => ⟨n + 1, by omega, by omega, h, .inl (by unfold isEnd; rw [decide_eq_true (by omega)]; rfl)⟩
  | j + 1, n, e, h, a, c => by
    by_cases q1 : isEnd hs (n + 1) = true
    · exact ⟨n + 1, by omega, by omega, h, .inl q1⟩
    by_cases q2 : isEnd gs (n + 1) = true
    · exact ⟨n + 1, by omega, by omega, h, .inr q2⟩
    have r1 := (not_end (by simpa using q1)).2
    have r2 := (not_end (by simpa using q2)).2
    rw [Nat.add_sub_cancel] at r1 r2
    rw [a] at r1; rw [c] at r2
    exact lead_up l j (n + 1) (by omega) (by rw [cn_succ hs (n + 1), cn_succ gs (n + 1), r1, r2]; simp; omega) r1 r2
theorem lead_first {hs gs : List Bool} (l : hs.length = gs.length) : ∀ n, n ≤ hs.length → cn hs n < cn gs n → ∃ m, m < hs.length ∧ cn hs (m + 1) < cn gs (m + 1) ∧ hs[m]? = some false ∧ gs[m]? = some true
  | 0, _, h => by rw [cn_zero, cn_zero] at h; omega
  | n + 1, ln, h => by
    by_cases q : cn hs n < cn gs n
    · exact lead_first l n (by omega) q
    · refine ⟨n, by omega, h, ?_, ?_⟩
      · rw [cn_succ, cn_succ] at h
        have : n < hs.length := by omega
        rw [List.getElem?_eq_getElem this] at h ⊢
        cases z : hs[n] with
        | false => rfl
        | true => rw [z] at h; simp at h; split at h <;> omega
      · rw [cn_succ, cn_succ] at h
        by_cases z : gs[n]? = some true
        · exact z
        · rw [if_neg z] at h; omega
theorem over_corner {rs ts : List Pr} (ar : Alt rs) (pr : Pos1 rs) (at' : Alt ts) (pt : Pos1 ts) (l : (flatP rs).length = (flatP ts).length) :
    (∀ k ∈ cornL rs ts, cn (flatP ts) k.toNat ≤ cn (flatP rs) k.toNat) ↔ ∀ n, n ≤ (flatP rs).length → cn (flatP ts) n ≤ cn (flatP rs) n := by
  constructor
  · intro h n ln
    refine Nat.le_of_not_lt fun q => ?_
    obtain ⟨m, m1, m2, m3, m4⟩ := lead_first l n ln q
    obtain ⟨k, k1, k2, k3, k4⟩ := lead_up l ((flatP rs).length - (m + 1)) m (by omega) m2 m3 m4
    have : (k : Int) ∈ cornL rs ts := by
      rw [corn_iff]
      rcases k4 with z | z
      · exact .inr (.inl ((ends_iff ar pr _).mpr ⟨k, rfl, k1, k2, z⟩))
      · exact .inr (.inr ((ends_iff at' pt _).mpr ⟨k, rfl, k1, by omega, z⟩))
    have := h _ this
    rw [Int.toNat_natCast] at this
    omega
  · intro h k hk
    rw [corn_iff] at hk
    rcases hk with rfl | hk | hk
    · exact h 0 (by omega)
    · obtain ⟨n, rfl, _, l2, _⟩ := (ends_iff ar pr _).mp hk
      rw [Int.toNat_natCast]; exact h n l2
    · obtain ⟨n, rfl, _, l2, _⟩ := (ends_iff at' pt _).mp hk
      rw [Int.toNat_natCast]; exact h n (by omega)
/-! the sum of the places of hers, run by run -/
def plP : Int → Int → List Pr → Int
  | t, _, [] => t
  | t, e, r :: rs => plP (if r.1 = true then t + r.2 * e + r.2 * (r.2 + 1) / 2 else t) (e + r.2) rs
/-- twice the numbers of hers in all beginnings, one after another -/
def sumC (hs : List Bool) : Nat → Int
  | 0 => 0
  | n + 1 => sumC hs n + 2 * (cn hs (n + 1) : Nat)
end
end LW

namespace LW
open PySem PySem.Spec PyProof.Rows L2 DL
section
/-! the sum of the numbers of hers, run by run and by segments -/
theorem half (m : Int) : 2 * (m * (m + 1) / 2) = m * (m + 1) := by
  have : (m * (m + 1)) % 2 = 0 := by
    rcases Int.emod_two_eq m with h | h <;> simp [Int.mul_emod, Int.add_emod, h]
  omega
theorem cn_app {hs gs : List Bool} {n : Nat} (h : n ≤ hs.length) : cn (hs ++ gs) n = cn hs n := by
  unfold cn
  rw [List.take_append_of_le_length h]
theorem sumC_app {hs gs : List Bool} : ∀ {n : Nat}, n ≤ hs.length → sumC (hs ++ gs) n = sumC hs n
  | 0, _ => rfl
  | n + 1, h => by rw [sumC, sumC, sumC_app (by omega), cn_app h]
/-- a stretch of one heir -/
theorem seg {hs : List Bool} {p : Nat} {t : Bool} : ∀ (i : Nat), (∀ j, j < i → hs[p + j]? = some t) →
    ((cn hs (p + i) : Nat) : Int) = (cn hs p : Nat) + (if t = true then (i : Int) else 0) ∧ sumC hs (p + i) = sumC hs p + 2 * (i : Int) * (cn hs p : Nat) + (if t = true then (i : Int) * ((i : Int) + 1) else 0)
  | 0, _ => by constructor <;> simp
  | i + 1, h => by
    obtain ⟨h1, h2⟩ := seg (hs := hs) (p := p) (t := t) i fun j hj => h j (by omega)
    have e := h i (by omega)
    have c : ((cn hs (p + (i + 1)) : Nat) : Int) = (cn hs p : Nat) + (if t = true then (((i + 1 : Nat)) : Int) else 0) := by
      rw [← Nat.add_assoc, cn_succ, e]
      cases t <;> simp at h1 ⊢ <;> omega
    refine ⟨c, ?_⟩
    rw [← Nat.add_assoc, sumC, h2]
    rw [← Nat.add_assoc] at c
    rw [c]
    cases t <;> simp <;> grind
def hgt (rs : List Pr) : Int := herP' rs * (whole rs + 1) - plP 0 0 rs
where
  herP' : List Pr → Int
    | [] => 0
    | r :: rs => (if r.1 = true then r.2 else 0) + herP' rs
theorem rep_get {hs : List Bool} {m j : Nat} {t : Bool} (h : j < m) : (hs ++ List.replicate m t)[hs.length + j]? = some t := by
  rw [List.getElem?_append_right (by omega), List.getElem?_replicate]
  rw [if_pos (by omega)]
theorem hgt_go : ∀ (rs : List Pr) (t c : Int) (hs : List Bool), Pos1 rs → c = (cn hs hs.length : Nat) → 2 * (c * ((hs.length : Int) + 1) - t) = sumC hs hs.length →
    2 * ((c + hgt.herP' rs) * ((hs.length : Int) + whole rs + 1) - plP t hs.length rs) = sumC (hs ++ flatP rs) (hs ++ flatP rs).length
  | [], t, c, hs, _, ec, e => by simp [hgt.herP', whole, plP, flatP]; simpa using e
  | (h, m) :: rs, t, c, hs, hp, ec, e => by
    have m1 : 1 ≤ m := hp (h, m) List.mem_cons_self
    obtain ⟨n, rfl⟩ : ∃ n : Nat, m = (n : Int) := ⟨m.toNat, by omega⟩
    obtain ⟨s1, s2⟩ := seg (hs := hs ++ List.replicate n h) (p := hs.length) (t := h) n fun j hj => rep_get hj
    rw [cn_app (Nat.le_refl _)] at s1 s2
    rw [sumC_app (Nat.le_refl _)] at s2
    have ln : (hs ++ List.replicate n h).length = hs.length + n := by simp
    have lnI : ((hs ++ List.replicate n h).length : Int) = (hs.length : Int) + n := by rw [ln]; omega
    have hf := half (n : Int)
    have ih := hgt_go rs (if h = true then t + n * (hs.length : Int) + n * ((n : Int) + 1) / 2 else t) (c + if h = true then (n : Int) else 0) (hs ++ List.replicate n h) hp.tail
      (by rw [ln, s1, ec]) (by
        rw [lnI, ln, s2, ← e, ← ec]
        cases h <;> simp <;> grind)
    have ef : flatP (((h, (n : Int)) : Pr) :: rs) = List.replicate n h ++ flatP rs := by rw [flatP]; simp
    rw [ef, ← List.append_assoc, ← ih, lnI]
    show 2 * ((c + ((if h = true then (n : Int) else 0) + hgt.herP' rs)) * ((hs.length : Int) + ((n : Int) + whole rs) + 1) - plP (if h = true then t + n * (hs.length : Int) + n * ((n : Int) + 1) / 2 else t) ((hs.length : Int) + n) rs) = _
    grind
theorem hgt_sum {rs : List Pr} (hp : Pos1 rs) : 2 * hgt rs = sumC (flatP rs) (flatP rs).length := by
  have := hgt_go rs 0 0 [] hp rfl rfl
  simp at this
  unfold hgt
  rw [← this]
/-- the sum over all beginnings -/
def sumN (hs : List Bool) : Nat → Int
  | 0 => 0
  | n + 1 => sumN hs n + (cn hs (n + 1) : Nat)
theorem sumC_sumN (hs : List Bool) : ∀ n, sumC hs n = 2 * sumN hs n
  | 0 => rfl
  | n + 1 => by rw [sumC, sumN, sumC_sumN hs n]; omega

def segS (c : Int → Int) : List Int → Int
  | a :: b :: r => (b - a) * (c a + c b) + c b - c a + segS c (b :: r)
  | _ => 0
theorem const_seg {hs : List Bool} {a i : Nat} (h : a + i ≤ hs.length) (i0 : 0 < i) (q : ∀ n, a < n → n < a + i → isEnd hs n = false) : ∃ t, ∀ j, j < i → hs[a + j]? = some t := by
  have la : a < hs.length := by omega
  refine ⟨hs[a], fun j => ?_⟩
  induction j with
  | zero => intro _; rw [Nat.add_zero, List.getElem?_eq_getElem la]
  | succ j ih =>
    intro hj
    have := (not_end (q (a + (j + 1)) (by omega) (by omega))).2
    rw [this, show a + (j + 1) - 1 = a + j by omega]
    exact ih (by omega)
theorem segS_sum {hs : List Bool} : ∀ (r : List Int) (a : Nat), ((a : Int) :: r).Pairwise (· < ·) → (∀ k ∈ r, k ≤ hs.length) → a ≤ hs.length → (∀ n : Nat, a < n → n ≤ hs.length → isEnd hs n = true → (n : Int) ∈ r) →
    segS (fun k => (cn hs k.toNat : Nat)) ((a : Int) :: r) = sumC hs hs.length - sumC hs a
  | [], a, _, _, la, q => by
    have : a = hs.length := by
      by_cases z : a = hs.length
      · exact z
      · have := q hs.length (by omega) (by omega) (by unfold isEnd; rw [decide_eq_true rfl]; rfl)
        simp at this
    subst this
    simp [segS]
  | b :: r, a, pw, hb, la, q => by
    obtain ⟨p1, p2⟩ := List.pairwise_cons.mp pw
    have ab := p1 b List.mem_cons_self
    have bl := hb b List.mem_cons_self
    obtain ⟨m, rfl⟩ : ∃ m : Nat, b = (m : Int) := ⟨b.toNat, by omega⟩
    obtain ⟨p3, _⟩ := List.pairwise_cons.mp p2
    obtain ⟨i, hi⟩ : ∃ i : Nat, m = a + i := ⟨m - a, by omega⟩
    obtain ⟨t, ht⟩ := const_seg (hs := hs) (a := a) (i := i) (by omega) (by omega) fun n n1 n2 => by
      refine Bool.eq_false_iff.mpr fun z => ?_
      have := q n n1 (by omega) z
      rcases List.mem_cons.mp this with h | h
      · omega
      · have := p3 _ h; omega
    obtain ⟨s1, s2⟩ := seg (p := a) i ht
    have ih := segS_sum r m p2 (fun k hk => hb k (List.mem_cons_of_mem _ hk)) (by omega) fun n n1 n2 n3 => by
      have := q n (by omega) n2 n3
      rcases List.mem_cons.mp this with h | h
      · omega
      · exact h
    rw [segS, ih]
    simp only [Int.toNat_natCast]
    rw [← hi] at s1 s2
    rw [s1, s2]
    have : (m : Int) = a + i := by omega
    rw [this]
    cases t <;> simp <;> grind
theorem corn_seg {rs ts : List Pr} (ar : Alt rs) (p1 : Pos1 rs) (at' : Alt ts) (p2 : Pos1 ts) (e : (flatP rs).length = (flatP ts).length) :
    segS (fun k => (cn (flatP rs) k.toNat : Nat)) (cornL rs ts) = sumC (flatP rs) (flatP rs).length := by
  have pw : (cornL rs ts).Pairwise (· < ·) := sortU_rise _
  have m0 : (0 : Int) ∈ cornL rs ts := (corn_iff 0).mpr (.inl rfl)
  have rg : ∀ k ∈ cornL rs ts, 0 ≤ k ∧ k ≤ (flatP rs).length := fun k hk => by
    rcases (corn_iff k).mp hk with rfl | h | h
    · omega
    · obtain ⟨n, rfl, _, l2, _⟩ := (ends_iff ar p1 _).mp h; omega
    · obtain ⟨n, rfl, _, l2, _⟩ := (ends_iff at' p2 _).mp h; omega
  have cov : ∀ n : Nat, 0 < n → n ≤ (flatP rs).length → isEnd (flatP rs) n = true → (n : Int) ∈ cornL rs ts := fun n n1 n2 n3 =>
    (corn_iff _).mpr (.inr (.inl ((ends_iff ar p1 _).mpr ⟨n, rfl, n1, n2, n3⟩)))
  generalize cornL rs ts = S at pw m0 rg cov
  match S, pw, m0, rg, cov with
  | a :: r, pw, m0, rg, cov =>
    obtain ⟨q1, q2⟩ := List.pairwise_cons.mp pw
    have a0 : a = 0 := by
      rcases List.mem_cons.mp m0 with h | h
      · exact h.symm
      · have := q1 _ h; have := rg a List.mem_cons_self; omega
    subst a0
    have := segS_sum (hs := flatP rs) r 0 pw (fun k hk => (rg k (List.mem_cons_of_mem _ hk)).2) (by omega) fun n n1 n2 n3 => by
      rcases List.mem_cons.mp (cov n n1 n2 n3) with h | h
      · omega
      · exact h
    rw [show ((0 : Nat) : Int) = 0 from rfl] at this
    rw [this]; simp [sumC]
end
end LW

set_option maxHeartbeats 4000000
namespace LW
open PySem PySem.Spec PyProof.Rows L2 DL
def topS (i : Nat) : Stmt := PySem.Challenge.pw_heirturns_k12_which_turns_stand_above_wh.main.body.getD i (.Pass ⟨0, 0, 0, 0⟩)
section
variable {P : Program} {w : World} {K : PySem.W.Frag} {mg : Str → Option Value} {base : Heap} {T : Tab}
def tblL_HeirError : List Bool := [true, true, true, true, true]
abbrev tbl_HeirError : Nat → Bool := fun c => tblL_HeirError.getD c false
def tblL_BadRun : List Bool := [false, true, false, false, false]
abbrev tbl_BadRun : Nat → Bool := fun c => tblL_BadRun.getD c false
def tblL_BadText : List Bool := [false, false, true, false, false]
abbrev tbl_BadText : Nat → Bool := fun c => tblL_BadText.getD c false
def tblL_NoPlace : List Bool := [false, false, false, true, false]
abbrev tbl_NoPlace : Nat → Bool := fun c => tblL_NoPlace.getD c false
def tblL_OtherThings : List Bool := [false, false, false, false, true]
abbrev tbl_OtherThings : Nat → Bool := fun c => tblL_OtherThings.getD c false
def tblL_ValueError : List Bool := [true, true, true, true, true]
abbrev tbl_ValueError : Nat → Bool := fun c => tblL_ValueError.getD c false
def tblL_LookupError : List Bool := [false, false, false, false, false]
abbrev tbl_LookupError : Nat → Bool := fun c => tblL_LookupError.getD c false
def clsBodyM : Stmt → List Stmt
  | .ClassDef (body := b) .. => b
  | _ => []
/-! _law_cells -/
abbrev s_law_cells : Stmt := topS 37
abbrev N_law_cells : List Str := ["_law_script", "_law_top_so", "_law_cells_so", "_law_k", "_law_cell", "_law_at_so"]
theorem sc_law_cells : FnScope N_law_cells ["_law_script", "_law_top_so"] (defScope s_law_cells) := ⟨rfl, rfl, rfl, by decide +kernel, rfl, by decide +kernel, by decide +kernel⟩
def B_law_cells : S → R Out := (dSeq (dOwn 2 (dOrF (dCBF hListOf (dCons (dSlice (dV 0) dNoP (dPart (dV 1))) dNil)) (dLst (dCons (dC (.int 0)) dNil)))) (dSeq (dFor (.tp [3, 4]) (dCBF hEnumB (dCons (dSlice (dV 0) (dPart (dV 1)) (dPart (dC (.int 63)))) dNil)) (dSeq (dSet 5 (dBin hMod (dCB hInt (dCons (dV 3) dNil)) (dV 1))) (dSetIx 2 (dLend 2 (dBin hAdd (dBin hIx (dV 2) (dV 5)) (dBin hMul (dV 4) (dBin hAdd (dV 3) (dC (.int 2)))))) (dV 5)))) (dRet (dV 2))))
def F_law_cells : Fn := runFn 2 6 B_law_cells
theorem ok_law_cells (Z : Bi mg) {f : Addr} {fd : FuncData} (F : Fun K "_law_cells" "_law_cells" s_law_cells f fd) : FnOk P w K mg base (L2.CX P w) 1 f fd ["_law_script", "_law_top_so"] (spD K T 2 F_law_cells) := by
  refine fn_okj F sc_law_cells fun cdv A outer s H E W hr hp tk => ?_
  have nd := sc_law_cells.nd
  exact (dss_cons (ds_own (i := 2) nd rfl (by first | exact .inl rfl | exact .inr rfl) (df_or (df_list (by rfl) Z.list (da_cons (de_slice (de_var (pv 0)) do_none (do_some (de_var (pv 1)))) da_nil)) (df_one (df_lst (da_cons de_int da_nil))))) (dss_cons (ds_for hp rfl (di_enumB (by rfl) Z.enumerate (da_cons (de_slice (de_var (pv 0)) (do_some (de_var (pv 1))) (do_some de_int)) da_nil)) (dg_tup (pg_tup rfl (pgs_cons (pg_name nd rfl (by first | exact .inl rfl | exact .inr rfl)) (pgs_cons (pg_name nd rfl (by first | exact .inl rfl | exact .inr rfl)) pgs_nil))) (pg_unl rfl (pgs_cons (pg_name nd rfl (by first | exact .inl rfl | exact .inr rfl)) (pgs_cons (pg_name nd rfl (by first | exact .inl rfl | exact .inr rfl)) pgs_nil)))) (dss_cons (ds_set (i := 5) nd rfl (by first | exact .inl rfl | exact .inr rfl) (de_mod (de_intc (by rfl) Z.int (da_cons (de_var (pv 3)) da_nil)) (de_var (pv 1)))) (dss_one (ds_setIx (i := 2) (pv 2) (de_var (pv 5)) (de_lend 2 (de_add (de_ix (de_var (pv 2)) (de_var (pv 5))) (de_mul (de_var (pv 4)) (de_add (de_var (pv 3)) de_int)))) (ps_asg (de_lend 2 (de_add (de_ix (de_var (pv 2)) (de_var (pv 5))) (de_mul (de_var (pv 4)) (de_add (de_var (pv 3)) de_int)))) (pg_sub (pv 2) (de_var (pv 5)) set_list)))))) (dss_one (ds_ret (de_var (pv 2))))))
/-! is_heir -/
abbrev s_is_heir : Stmt := topS 8
abbrev N_is_heir : List Str := ["thing"]
theorem sc_is_heir : FnScope N_is_heir ["thing"] (defScope s_is_heir) := ⟨rfl, rfl, rfl, by decide +kernel, rfl, by decide +kernel, by decide +kernel⟩
def B_is_heir : S → R Out := (dRet (dOfB (dBinB hInR (dV 0) (dTup (dCons (dC (.str "a")) (dCons (dC (.str "b")) dNil))))))
def F_is_heir : Fn := runFn 1 1 B_is_heir
theorem ok_is_heir (Z : Bi mg) {f : Addr} {fd : FuncData} (F : Fun K "is_heir" "is_heir" s_is_heir f fd) : FnOk P w K mg base (L2.CX P w) 1 f fd ["thing"] (spD K T 1 F_is_heir) := by
  refine fn_okj F sc_is_heir fun cdv A outer s H E W hr hp tk => ?_
  have nd := sc_is_heir.nd
  exact (dss_one (ds_ret (de_inR hr.units (de_var (pv 0)) (de_tup (da_cons de_str (da_cons de_str da_nil))))))
/-! _put_together -/
abbrev s_put_together : Stmt := topS 20
abbrev N_put_together : List Str := ["runs", "found", "place", "heir", "many"]
theorem sc_put_together : FnScope N_put_together ["runs"] (defScope s_put_together) := ⟨rfl, rfl, rfl, by decide +kernel, rfl, by decide +kernel, by decide +kernel⟩
def B_put_together : S → R Out := (dSeq (dOwn 1 (dLst dNil)) (dSeq (dFor (.np 2 [3, 4]) (dCBF hEnumB (dCons (dV 0) dNil)) (dSeq (dIf (dOr (dNot (dTru (dCall 1 F_is_heir [] (dCons (dV 3) dNil)))) (dBinB hLt (dV 4) (dC (.int 1)))) (dRaise 1 (dV 2)) dNext) (dIf (dLendB 1 (dAnd (dTru (dV 1)) (dBinB hEq (dBin hIx (dBin hIx (dV 1) (dUn hNeg (dC (.int 1)))) (dC (.int 0))) (dV 3)))) (dSetIx 1 (dTup (dCons (dV 3) (dCons (dLend 1 (dBin hAdd (dBin hIx (dBin hIx (dV 1) (dUn hNeg (dC (.int 1)))) (dC (.int 1))) (dV 4))) dNil))) (dUn hNeg (dC (.int 1)))) (dApp 1 (dTup (dCons (dV 3) (dCons (dV 4) dNil))))))) (dRet (dCB hTupOf (dCons (dV 1) dNil)))))
def F_put_together : Fn := runFn 1 5 B_put_together
theorem ok_put_together (Z : Bi mg) (c_is_heir : DefAt P w K mg base T "is_heir" ["thing"] 1 1 F_is_heir) (e_BadRun : Er1At P w K mg base T "BadRun" "place" 1) {f : Addr} {fd : FuncData} (F : Fun K "_put_together" "_put_together" s_put_together f fd) : FnOk P w K mg base (L2.CX P w) 3 f fd ["runs"] (spD K T 1 F_put_together) := by
  refine fn_okj F sc_put_together fun cdv A outer s H E W hr hp tk => ?_
  have nd := sc_put_together.nd
  exact (dss_cons (ds_own (i := 1) nd rfl (by first | exact .inl rfl | exact .inr rfl) (df_lst da_nil)) (dss_cons (ds_for hp rfl (di_enumB (by rfl) Z.enumerate (da_cons (de_var (pv 0)) da_nil)) (dg_two rfl (pg_tup rfl (pgs_cons (pg_name nd rfl (by first | exact .inl rfl | exact .inr rfl)) (pgs_cons (dg_tup (pg_tup rfl (pgs_cons (pg_name nd rfl (by first | exact .inl rfl | exact .inr rfl)) (pgs_cons (pg_name nd rfl (by first | exact .inl rfl | exact .inr rfl)) pgs_nil))) (pg_unl rfl (pgs_cons (pg_name nd rfl (by first | exact .inl rfl | exact .inr rfl)) (pgs_cons (pg_name nd rfl (by first | exact .inl rfl | exact .inr rfl)) pgs_nil)))) pgs_nil))) (pg_unl rfl (pgs_cons (pg_name nd rfl (by first | exact .inl rfl | exact .inr rfl)) (pgs_cons (dg_tup (pg_tup rfl (pgs_cons (pg_name nd rfl (by first | exact .inl rfl | exact .inr rfl)) (pgs_cons (pg_name nd rfl (by first | exact .inl rfl | exact .inr rfl)) pgs_nil))) (pg_unl rfl (pgs_cons (pg_name nd rfl (by first | exact .inl rfl | exact .inr rfl)) (pgs_cons (pg_name nd rfl (by first | exact .inl rfl | exact .inr rfl)) pgs_nil)))) pgs_nil)))) (dss_cons (ds_if (dt_bool (dw_or (dt_not (dt_tru (de_callD c_is_heir hr (by decide) tk (da_cons (de_var (pv 3)) da_nil)))) (dw_or1 (dt_lt (de_var (pv 4)) de_int)))) (dss_one (ds_raise1 e_BadRun rfl hr tk (de_var (pv 2)))) dss_nil) (dss_one (ds_if (dt_lend 1 (dt_bool (dw_and (dt_tru (de_var (pv 1))) (dw_and1 (dt_eq hr.units (de_ix (de_ix (de_var (pv 1)) (de_neg de_int)) de_int) (de_var (pv 3))))))) (dss_one (ds_setIx (i := 1) (pv 1) (de_neg de_int) (de_tup (da_cons (de_var (pv 3)) (da_cons (de_lend 1 (de_add (de_ix (de_ix (de_var (pv 1)) (de_neg de_int)) de_int) (de_var (pv 4)))) da_nil))) (ps_asg (de_tup (da_cons (de_var (pv 3)) (da_cons (de_lend 1 (de_add (de_ix (de_ix (de_var (pv 1)) (de_neg de_int)) de_int) (de_var (pv 4)))) da_nil))) (pg_sub (pv 1) (de_neg de_int) set_list)))) (dss_one (ds_append (i := 1) (pv 1) (de_tup (da_cons (de_var (pv 3)) (da_cons (de_var (pv 4)) da_nil))) rfl (ps_expr (pe_bm PySem.F.plainAttrs_list PySem.F.slot_list_append PySem.F.type_list_append mt_append (pv 1) (pa_cons (de_tup (da_cons (de_var (pv 3)) (da_cons (de_var (pv 4)) da_nil))) pa_nil))))))))) (dss_one (ds_ret (de_tupleOf (by rfl) Z.tuple (da_cons (de_var (pv 1)) da_nil))))))
/-! _pieces -/
abbrev s_pieces : Stmt := topS 16
abbrev N_pieces : List Str := ["text", "sign"]
theorem sc_pieces : FnScope N_pieces ["text", "sign"] (defScope s_pieces) := ⟨rfl, rfl, rfl, by decide +kernel, rfl, by decide +kernel, by decide +kernel⟩
def B_pieces : S → R Out := (dRet (dIfE (dBinB hEq (dV 0) (dC (.str "-"))) (dClose (dLst dNil)) (dClose (dM1 hSplit (dV 0) (dV 1)))))
def F_pieces : Fn := runFn 2 2 B_pieces
theorem ok_pieces (Z : Bi mg) (g_NOTHING : CAt mg "NOTHING" "-") {f : Addr} {fd : FuncData} (F : Fun K "_pieces" "_pieces" s_pieces f fd) : FnOk P w K mg base (L2.CX P w) 1 f fd ["text", "sign"] (spD K T 2 F_pieces) := by
  refine fn_okj F sc_pieces fun cdv A outer s H E W hr hp tk => ?_
  have nd := sc_pieces.nd
  exact (dss_one (ds_ret (de_ifE (dt_eq hr.units (de_var (pv 0)) (de_constAt g_NOTHING)) (de_new (df_lst da_nil)) (de_new (df_split (de_var (pv 0)) (de_var (pv 1)))))))
/-! is_many -/
abbrev s_is_many : Stmt := topS 17
abbrev N_is_many : List Str := ["digits", "digit"]
theorem sc_is_many : FnScope N_is_many ["digits"] (defScope s_is_many) := ⟨rfl, rfl, rfl, by decide +kernel, rfl, by decide +kernel, by decide +kernel⟩
def B_is_many : S → R Out := (dRet (dAndV (dOfB (dBinB hNotInR (dSlice (dV 0) dNoP (dPart (dC (.int 1)))) (dTup (dCons (dC (.str "")) (dCons (dC (.str "0")) dNil))))) (dCB hAll (dCons (dClose (dComp (.nm 1) [1] (dSeqI (dV 0)) dYes (dOfB (dBinB hInR (dV 1) (dC (.str "0123456789")))))) dNil))))
def F_is_many : Fn := runFn 1 2 B_is_many
theorem ok_is_many (Z : Bi mg) (g_DIGITS : CAt mg "DIGITS" "0123456789") {f : Addr} {fd : FuncData} (F : Fun K "is_many" "is_many" s_is_many f fd) : FnOk P w K mg base (L2.CX P w) 1 f fd ["digits"] (spD K T 1 F_is_many) := by
  refine fn_okj F sc_is_many fun cdv A outer s H E W hr hp tk => ?_
  have nd := sc_is_many.nd
  exact (dss_one (ds_ret (de_and (de_notInR hr.units (de_slice (de_var (pv 0)) do_none (do_some de_int)) (de_tup (da_cons de_str (da_cons de_str da_nil)))) (de_one (de_all rfl (by rfl) Z.all (da_cons (de_new (df_comp (own := [("digit", 1)]) (k := (.nm 1)) rfl nd (di_seq (de_var (pv 0))) (blkOk_by (N := N_is_many) (sc := defScope s_is_many) (by decide +kernel)) (by decide) (fun _ _ _ _ _ => (dg_name nd rfl (by first | exact .inl rfl | exact .inr rfl))) (fun _ _ _ _ _ => dts_nil) (fun _ _ _ _ _ => (de_inR hr.units (de_var (pv 1)) (de_constAt g_DIGITS))))) da_nil))))))
/-! runs_from -/
abbrev s_runs_from : Stmt := topS 14
abbrev N_runs_from : List Str := ["text", "runs", "at", "piece", "heir", "digits"]
theorem sc_runs_from : FnScope N_runs_from ["text"] (defScope s_runs_from) := ⟨rfl, rfl, rfl, by decide +kernel, rfl, by decide +kernel, by decide +kernel⟩
def B_runs_from : S → R Out := (dSeq (dOwn 1 (dLst dNil)) (dSeq (dFor (.tp [2, 3]) (dCBF hEnumB (dCons (dCall 2 F_pieces [] (dCons (dV 0) (dCons (dC (.str "; ")) dNil))) dNil)) (dSeq (dPar 4 5 Sl.val Sl.val (dSlice (dV 3) dNoP (dPart (dC (.int 1)))) (dSlice (dV 3) (dPart (dC (.int 2))) dNoP)) (dSeq (dIf (dOr (dNot (dTru (dCall 1 F_is_heir [] (dCons (dV 4) dNil)))) (dOr (dBinB hNe (dSlice (dV 3) (dPart (dC (.int 1))) (dPart (dC (.int 2)))) (dC (.str " "))) (dNot (dTru (dCall 1 F_is_many [] (dCons (dV 5) dNil)))))) (dRaise 2 (dV 2)) dNext) (dSeq (dIf (dLendB 1 (dAnd (dTru (dV 1)) (dBinB hEq (dBin hIx (dBin hIx (dV 1) (dUn hNeg (dC (.int 1)))) (dC (.int 0))) (dV 4)))) (dRaise 2 (dV 2)) dNext) (dApp 1 (dTup (dCons (dV 4) (dCons (dCB hInt (dCons (dV 5) dNil)) dNil)))))))) (dRet (dCB hTupOf (dCons (dV 1) dNil)))))
def F_runs_from : Fn := runFn 1 6 B_runs_from
theorem ok_runs_from (Z : Bi mg) (c_pieces : DefAt P w K mg base T "_pieces" ["text", "sign"] 2 1 F_pieces) (c_is_heir : DefAt P w K mg base T "is_heir" ["thing"] 1 1 F_is_heir) (c_is_many : DefAt P w K mg base T "is_many" ["digits"] 1 1 F_is_many) (g_RUN_SIGN : CAt mg "RUN_SIGN" "; ") (e_BadText : Er1At P w K mg base T "BadText" "piece" 2) {f : Addr} {fd : FuncData} (F : Fun K "runs_from" "runs_from" s_runs_from f fd) : FnOk P w K mg base (L2.CX P w) 3 f fd ["text"] (spD K T 1 F_runs_from) := by
  refine fn_okj F sc_runs_from fun cdv A outer s H E W hr hp tk => ?_
  have nd := sc_runs_from.nd
  exact (dss_cons (ds_own (i := 1) nd rfl (by first | exact .inl rfl | exact .inr rfl) (df_lst da_nil)) (dss_cons (ds_for hp rfl (di_enumB (by rfl) Z.enumerate (da_cons (de_callD c_pieces hr (by decide) tk (da_cons (de_var (pv 0)) (da_cons (de_constAt g_RUN_SIGN) da_nil))) da_nil)) (dg_tup (pg_tup rfl (pgs_cons (pg_name nd rfl (by first | exact .inl rfl | exact .inr rfl)) (pgs_cons (pg_name nd rfl (by first | exact .inl rfl | exact .inr rfl)) pgs_nil))) (pg_unl rfl (pgs_cons (pg_name nd rfl (by first | exact .inl rfl | exact .inr rfl)) (pgs_cons (pg_name nd rfl (by first | exact .inl rfl | exact .inr rfl)) pgs_nil)))) (dss_cons (ds_par (i := 4) (j := 5) rfl nd rfl rfl (by decide) rfl rfl (de_slice (de_var (pv 3)) do_none (do_some de_int)) (de_slice (de_var (pv 3)) (do_some de_int) do_none) (dPar_vv _) rfl rfl rfl rfl) (dss_cons (ds_if (dt_bool (dw_or (dt_not (dt_tru (de_callD c_is_heir hr (by decide) tk (da_cons (de_var (pv 4)) da_nil)))) (dw_or (dt_ne hr.units (de_slice (de_var (pv 3)) (do_some de_int) (do_some de_int)) de_str) (dw_or1 (dt_not (dt_tru (de_callD c_is_many hr (by decide) tk (da_cons (de_var (pv 5)) da_nil)))))))) (dss_one (ds_raise1 e_BadText rfl hr tk (de_var (pv 2)))) dss_nil) (dss_cons (ds_if (dt_lend 1 (dt_bool (dw_and (dt_tru (de_var (pv 1))) (dw_and1 (dt_eq hr.units (de_ix (de_ix (de_var (pv 1)) (de_neg de_int)) de_int) (de_var (pv 4))))))) (dss_one (ds_raise1 e_BadText rfl hr tk (de_var (pv 2)))) dss_nil) (dss_one (ds_append (i := 1) (pv 1) (de_tup (da_cons (de_var (pv 4)) (da_cons (de_intc (by rfl) Z.int (da_cons (de_var (pv 5)) da_nil)) da_nil))) rfl (ps_expr (pe_bm PySem.F.plainAttrs_list PySem.F.slot_list_append PySem.F.type_list_append mt_append (pv 1) (pa_cons (de_tup (da_cons (de_var (pv 4)) (da_cons (de_intc (by rfl) Z.int (da_cons (de_var (pv 5)) da_nil)) da_nil))) pa_nil))))))))) (dss_one (ds_ret (de_tupleOf (by rfl) Z.tuple (da_cons (de_var (pv 1)) da_nil))))))
/-! Turns.__init__ -/
abbrev si_Turns : Stmt := (clsBodyM (topS 19)).getD 0 (.Pass ⟨0, 0, 0, 0⟩)
theorem sci_Turns : FnScope ["self", "runs"] ["self", "runs"] (defScope si_Turns) := ⟨rfl, rfl, rfl, by decide +kernel, rfl, by decide +kernel, by decide +kernel⟩
def F_Turns_init : Fn := initFn 1 1 (dCall 1 F_put_together [] (dCons (dV 1) dNil))
theorem ok_Turns_init (Z : Bi mg) (c_put_together : DefAt P w K mg base T "_put_together" ["runs"] 1 3 F_put_together) {C f : Addr} {fd : FuncData} {dvs : List V} (cl : Cls K C) (na : NoAttr K C "_runs") (F : FunD K "__init__" "Turns.__init__" (defArgs si_Turns) (defBody si_Turns) (defScope si_Turns) dvs [] f fd) : FnOk P w K mg base (L2.CX P w) 4 f fd [("self" : Str), "runs"] (spIn K T C "_runs" 1 F_Turns_init) :=
  F.ok sci_Turns (sp_len (ps := ["runs"])) fun cdv A outer s H vs Q E hr h => init_core (N' := ["runs"]) (ps := ["runs"]) cl na (fun cdv A outer s H E W hr hp tk => ⟨(de_callD c_put_together hr (by decide) tk (da_cons (de_var (pv 1)) da_nil)), pv 0, rfl⟩) cdv A outer s H vs Q E hr h
/-! of -/
abbrev s_Turns_of : Stmt := (clsBodyM (topS 19)).getD 1 (.Pass ⟨0, 0, 0, 0⟩)
abbrev N_Turns_of : List Str := ["text"]
theorem sc_Turns_of : FnScope N_Turns_of ["text"] (defScope s_Turns_of) := ⟨rfl, rfl, rfl, by decide +kernel, rfl, by decide +kernel, by decide +kernel⟩
def B_Turns_of : S → R Out := (dRet (dMkOb 5 F_Turns_init (dCall 1 F_runs_from [] (dCons (dV 0) dNil))))
def F_Turns_of : Fn := runFn 1 1 B_Turns_of
theorem ok_Turns_of (Z : Bi mg) (c_runs_from : DefAt P w K mg base T "runs_from" ["text"] 1 3 F_runs_from) (o_Turns : ObAt P w K mg base T "Turns" "_runs" "runs" 5 4 F_Turns_init (.tu [])) {f : Addr} {fd : FuncData} (F : Fun K "of" "Turns.of" s_Turns_of f fd) : FnOk P w K mg base (L2.CX P w) 6 f fd ["text"] (spD K T 1 F_Turns_of) := by
  refine fn_okj F sc_Turns_of fun cdv A outer s H E W hr hp tk => ?_
  have nd := sc_Turns_of.nd
  exact (dss_one (ds_ret (de_ob1 o_Turns hr (by decide) tk (de_callD c_runs_from hr (by decide) tk (da_cons (de_var (pv 0)) da_nil)))))
/-! turns_of -/
abbrev s_turns_of : Stmt := topS 23
abbrev N_turns_of : List Str := ["heirs_told", "heir"]
theorem sc_turns_of : FnScope N_turns_of ["heirs_told"] (defScope s_turns_of) := ⟨rfl, rfl, rfl, by decide +kernel, rfl, by decide +kernel, by decide +kernel⟩
def B_turns_of : S → R Out := (dRet (dMkOb 5 F_Turns_init (dClose (dComp (.nm 1) [1] (dSeqI (dV 0)) dYes (dTup (dCons (dV 1) (dCons (dC (.int 1)) dNil)))))))
def F_turns_of : Fn := runFn 1 2 B_turns_of
theorem ok_turns_of (Z : Bi mg) (o_Turns : ObAt P w K mg base T "Turns" "_runs" "runs" 5 4 F_Turns_init (.tu [])) {f : Addr} {fd : FuncData} (F : Fun K "turns_of" "turns_of" s_turns_of f fd) : FnOk P w K mg base (L2.CX P w) 6 f fd ["heirs_told"] (spD K T 1 F_turns_of) := by
  refine fn_okj F sc_turns_of fun cdv A outer s H E W hr hp tk => ?_
  have nd := sc_turns_of.nd
  exact (dss_one (ds_ret (de_ob1 o_Turns hr (by decide) tk (de_new (df_comp (own := [("heir", 1)]) (k := (.nm 1)) rfl nd (di_seq (de_var (pv 0))) (blkOk_by (N := N_turns_of) (sc := defScope s_turns_of) (by decide +kernel)) (by decide) (fun _ _ _ _ _ => (dg_name nd rfl (by first | exact .inl rfl | exact .inr rfl))) (fun _ _ _ _ _ => dts_nil) (fun _ _ _ _ _ => (de_tup (da_cons (de_var (pv 1)) (da_cons de_int da_nil)))))))))
/-! size -/
abbrev s_Turns_size : Stmt := (clsBodyM (topS 19)).getD 3 (.Pass ⟨0, 0, 0, 0⟩)
abbrev N_Turns_size : List Str := ["self", "heir", "many"]
theorem sc_Turns_size : FnScope N_Turns_size ["self"] (defScope s_Turns_size) := ⟨rfl, rfl, rfl, by decide +kernel, rfl, by decide +kernel, by decide +kernel⟩
def B_Turns_size : S → R Out := (dRet (dCB hSum (dCons (dClose (dComp (.tp [1, 2]) [1, 2] (dSeqI (dFld 5 (dV 0))) dYes (dV 2))) dNil)))
def F_Turns_size : Fn := runFn 1 3 B_Turns_size
theorem ok_Turns_size (Z : Bi mg) (b_Turns : Ob1 K T "_runs" 5) {f : Addr} {fd : FuncData} (F : Fun K "size" "Turns.size" s_Turns_size f fd) : FnOk P w K mg base (L2.CX P w) 1 f fd ["self"] (spD K T 1 F_Turns_size) := by
  refine fn_okj F sc_Turns_size fun cdv A outer s H E W hr hp tk => ?_
  have nd := sc_Turns_size.nd
  exact (dss_one (ds_ret (de_sum rfl (by rfl) Z.sum (da_cons (de_new (df_comp (own := [("heir", 1), ("many", 2)]) (k := (.tp [1, 2])) rfl nd (di_seq (de_fld b_Turns (de_var (pv 0)))) (blkOk_by (N := N_Turns_size) (sc := defScope s_Turns_size) (by decide +kernel)) (by decide) (fun _ _ _ _ _ => (dg_tup (pg_tup rfl (pgs_cons (pg_name nd rfl (by first | exact .inl rfl | exact .inr rfl)) (pgs_cons (pg_name nd rfl (by first | exact .inl rfl | exact .inr rfl)) pgs_nil))) (pg_unl rfl (pgs_cons (pg_name nd rfl (by first | exact .inl rfl | exact .inr rfl)) (pgs_cons (pg_name nd rfl (by first | exact .inl rfl | exact .inr rfl)) pgs_nil))))) (fun _ _ _ _ _ => dts_nil) (fun _ _ _ _ _ => (de_var (pv 2))))) da_nil))))
/-! check_size -/
abbrev s_check_size : Stmt := topS 24
abbrev N_check_size : List Str := ["one", "other"]
theorem sc_check_size : FnScope N_check_size ["one", "other"] (defScope s_check_size) := ⟨rfl, rfl, rfl, by decide +kernel, rfl, by decide +kernel, by decide +kernel⟩
def B_check_size : S → R Out := (dIf (dBinB hNe (dProp 5 F_Turns_size (dV 0)) (dProp 5 F_Turns_size (dV 1))) (dRaise0 4) dNext)
def F_check_size : Fn := runFn 2 2 B_check_size
theorem ok_check_size (Z : Bi mg) (e_OtherThings : Er0At K mg T "OtherThings" 4) (p_size : PropAt P w K mg base T 5 "size" 1 F_Turns_size) {f : Addr} {fd : FuncData} (F : Fun K "check_size" "check_size" s_check_size f fd) : FnOk P w K mg base (L2.CX P w) 3 f fd ["one", "other"] (spD K T 2 F_check_size) := by
  refine fn_okj F sc_check_size fun cdv A outer s H E W hr hp tk => ?_
  have nd := sc_check_size.nd
  exact (dss_one (ds_if (dt_ne hr.units (de_prop p_size hr (by decide) (de_var (pv 0))) (de_prop p_size hr (by decide) (de_var (pv 1)))) (dss_one (ds_raise0 e_OtherThings rfl tk)) dss_nil))
/-! ends -/
abbrev s_Turns_ends : Stmt := (clsBodyM (topS 19)).getD 6 (.Pass ⟨0, 0, 0, 0⟩)
abbrev N_Turns_ends : List Str := ["self", "found", "end", "heir", "many"]
theorem sc_Turns_ends : FnScope N_Turns_ends ["self"] (defScope s_Turns_ends) := ⟨rfl, rfl, rfl, by decide +kernel, rfl, by decide +kernel, by decide +kernel⟩
def B_Turns_ends : S → R Out := (dSeq (dOwn 1 (dLst dNil)) (dSeq (dSet 2 (dC (.int 0))) (dSeq (dFor (.tp [3, 4]) (dSeqI (dFld 5 (dV 0))) (dSeq (dSet 2 (dBin hAdd (dV 2) (dV 4))) (dApp 1 (dV 2)))) (dRet (dCB hTupOf (dCons (dV 1) dNil))))))
def F_Turns_ends : Fn := runFn 1 5 B_Turns_ends
theorem ok_Turns_ends (Z : Bi mg) (b_Turns : Ob1 K T "_runs" 5) {f : Addr} {fd : FuncData} (F : Fun K "ends" "Turns.ends" s_Turns_ends f fd) : FnOk P w K mg base (L2.CX P w) 1 f fd ["self"] (spD K T 1 F_Turns_ends) := by
  refine fn_okj F sc_Turns_ends fun cdv A outer s H E W hr hp tk => ?_
  have nd := sc_Turns_ends.nd
  exact (dss_cons (ds_own (i := 1) nd rfl (by first | exact .inl rfl | exact .inr rfl) (df_lst da_nil)) (dss_cons (ds_set (i := 2) nd rfl (by first | exact .inl rfl | exact .inr rfl) de_int) (dss_cons (ds_for hp rfl (di_seq (de_fld b_Turns (de_var (pv 0)))) (dg_tup (pg_tup rfl (pgs_cons (pg_name nd rfl (by first | exact .inl rfl | exact .inr rfl)) (pgs_cons (pg_name nd rfl (by first | exact .inl rfl | exact .inr rfl)) pgs_nil))) (pg_unl rfl (pgs_cons (pg_name nd rfl (by first | exact .inl rfl | exact .inr rfl)) (pgs_cons (pg_name nd rfl (by first | exact .inl rfl | exact .inr rfl)) pgs_nil)))) (dss_cons (ds_set (i := 2) nd rfl (by first | exact .inl rfl | exact .inr rfl) (de_add (de_var (pv 2)) (de_var (pv 4)))) (dss_one (ds_append (i := 1) (pv 1) (de_var (pv 2)) rfl (ps_expr (pe_bm PySem.F.plainAttrs_list PySem.F.slot_list_append PySem.F.type_list_append mt_append (pv 1) (pa_cons (de_var (pv 2)) pa_nil))))))) (dss_one (ds_ret (de_tupleOf (by rfl) Z.tuple (da_cons (de_var (pv 1)) da_nil)))))))
/-! corners -/
abbrev s_corners : Stmt := topS 25
abbrev N_corners : List Str := ["one", "other"]
theorem sc_corners : FnScope N_corners ["one", "other"] (defScope s_corners) := ⟨rfl, rfl, rfl, by decide +kernel, rfl, by decide +kernel, by decide +kernel⟩
def B_corners : S → R Out := (dRet (dCB hTupOf (dCons (dClose (dUnF hSortSetB (dBin hAdd (dBin hAdd (dTup (dCons (dC (.int 0)) dNil)) (dProp 5 F_Turns_ends (dV 0))) (dProp 5 F_Turns_ends (dV 1))))) dNil)))
def F_corners : Fn := runFn 2 2 B_corners
theorem ok_corners (Z : Bi mg) (p_ends : PropAt P w K mg base T 5 "ends" 1 F_Turns_ends) {f : Addr} {fd : FuncData} (F : Fun K "corners" "corners" s_corners f fd) : FnOk P w K mg base (L2.CX P w) 3 f fd ["one", "other"] (spD K T 2 F_corners) := by
  refine fn_okj F sc_corners fun cdv A outer s H E W hr hp tk => ?_
  have nd := sc_corners.nd
  exact (dss_one (ds_ret (de_tupleOf (by rfl) Z.tuple (da_cons (de_new (df_sortSetB rfl (by rfl) Z.sorted (by rfl) Z.set (de_add (de_add (de_tup (da_cons de_int da_nil)) (de_prop p_ends hr (by decide) (de_var (pv 0)))) (de_prop p_ends hr (by decide) (de_var (pv 1)))))) da_nil))))
/-! hers -/
abbrev s_Turns_hers : Stmt := (clsBodyM (topS 19)).getD 4 (.Pass ⟨0, 0, 0, 0⟩)
abbrev N_Turns_hers : List Str := ["self", "heir", "many"]
theorem sc_Turns_hers : FnScope N_Turns_hers ["self"] (defScope s_Turns_hers) := ⟨rfl, rfl, rfl, by decide +kernel, rfl, by decide +kernel, by decide +kernel⟩
def B_Turns_hers : S → R Out := (dRet (dCB hSum (dCons (dClose (dComp (.tp [1, 2]) [1, 2] (dSeqI (dFld 5 (dV 0))) (dBinB hEq (dV 1) (dC (.str "a"))) (dV 2))) dNil)))
def F_Turns_hers : Fn := runFn 1 3 B_Turns_hers
theorem ok_Turns_hers (Z : Bi mg) (b_Turns : Ob1 K T "_runs" 5) {f : Addr} {fd : FuncData} (F : Fun K "hers" "Turns.hers" s_Turns_hers f fd) : FnOk P w K mg base (L2.CX P w) 1 f fd ["self"] (spD K T 1 F_Turns_hers) := by
  refine fn_okj F sc_Turns_hers fun cdv A outer s H E W hr hp tk => ?_
  have nd := sc_Turns_hers.nd
  exact (dss_one (ds_ret (de_sum rfl (by rfl) Z.sum (da_cons (de_new (df_comp (own := [("heir", 1), ("many", 2)]) (k := (.tp [1, 2])) rfl nd (di_seq (de_fld b_Turns (de_var (pv 0)))) (blkOk_by (N := N_Turns_hers) (sc := defScope s_Turns_hers) (by decide +kernel)) (by decide) (fun _ _ _ _ _ => (dg_tup (pg_tup rfl (pgs_cons (pg_name nd rfl (by first | exact .inl rfl | exact .inr rfl)) (pgs_cons (pg_name nd rfl (by first | exact .inl rfl | exact .inr rfl)) pgs_nil))) (pg_unl rfl (pgs_cons (pg_name nd rfl (by first | exact .inl rfl | exact .inr rfl)) (pgs_cons (pg_name nd rfl (by first | exact .inl rfl | exact .inr rfl)) pgs_nil))))) (fun _ _ _ _ _ => (dts_one (dt_eq hr.units (de_var (pv 1)) de_str))) (fun _ _ _ _ _ => (de_var (pv 2))))) da_nil))))
/-! runs -/
abbrev s_Turns_runs : Stmt := (clsBodyM (topS 19)).getD 2 (.Pass ⟨0, 0, 0, 0⟩)
abbrev N_Turns_runs : List Str := ["self"]
theorem sc_Turns_runs : FnScope N_Turns_runs ["self"] (defScope s_Turns_runs) := ⟨rfl, rfl, rfl, by decide +kernel, rfl, by decide +kernel, by decide +kernel⟩
def B_Turns_runs : S → R Out := (dRet (dFld 5 (dV 0)))
def F_Turns_runs : Fn := runFn 1 1 B_Turns_runs
theorem ok_Turns_runs (Z : Bi mg) (b_Turns : Ob1 K T "_runs" 5) {f : Addr} {fd : FuncData} (F : Fun K "runs" "Turns.runs" s_Turns_runs f fd) : FnOk P w K mg base (L2.CX P w) 1 f fd ["self"] (spD K T 1 F_Turns_runs) := by
  refine fn_okj F sc_Turns_runs fun cdv A outer s H E W hr hp tk => ?_
  have nd := sc_Turns_runs.nd
  exact (dss_one (ds_ret (de_fld b_Turns (de_var (pv 0)))))
/-! first_part -/
abbrev s_first_part : Stmt := topS 22
abbrev N_first_part : List Str := ["turns", "number", "found", "left", "heir", "many"]
theorem sc_first_part : FnScope N_first_part ["turns", "number"] (defScope s_first_part) := ⟨rfl, rfl, rfl, by decide +kernel, rfl, by decide +kernel, by decide +kernel⟩
def B_first_part : S → R Out := (dSeq (dOwn 2 (dLst dNil)) (dSeq (dSet 3 (dV 1)) (dSeq (dFor (.tp [4, 5]) (dSeqI (dProp 5 F_Turns_runs (dV 0))) (dSeq (dIf (dBinB hGt (dV 3) (dC (.int 0))) (dApp 2 (dTup (dCons (dV 4) (dCons (dCB (h2 gMin) (dCons (dV 5) (dCons (dV 3) dNil))) dNil)))) dNext) (dSet 3 (dBin hSub (dV 3) (dV 5))))) (dRet (dMkOb 5 F_Turns_init (dV 2))))))
def F_first_part : Fn := runFn 2 6 B_first_part
theorem ok_first_part (Z : Bi mg) (o_Turns : ObAt P w K mg base T "Turns" "_runs" "runs" 5 4 F_Turns_init (.tu [])) (p_runs : PropAt P w K mg base T 5 "runs" 1 F_Turns_runs) {f : Addr} {fd : FuncData} (F : Fun K "first_part" "first_part" s_first_part f fd) : FnOk P w K mg base (L2.CX P w) 6 f fd ["turns", "number"] (spD K T 2 F_first_part) := by
  refine fn_okj F sc_first_part fun cdv A outer s H E W hr hp tk => ?_
  have nd := sc_first_part.nd
  exact (dss_cons (ds_own (i := 2) nd rfl (by first | exact .inl rfl | exact .inr rfl) (df_lst da_nil)) (dss_cons (ds_set (i := 3) nd rfl (by first | exact .inl rfl | exact .inr rfl) (de_var (pv 1))) (dss_cons (ds_for hp rfl (di_seq (de_prop p_runs hr (by decide) (de_var (pv 0)))) (dg_tup (pg_tup rfl (pgs_cons (pg_name nd rfl (by first | exact .inl rfl | exact .inr rfl)) (pgs_cons (pg_name nd rfl (by first | exact .inl rfl | exact .inr rfl)) pgs_nil))) (pg_unl rfl (pgs_cons (pg_name nd rfl (by first | exact .inl rfl | exact .inr rfl)) (pgs_cons (pg_name nd rfl (by first | exact .inl rfl | exact .inr rfl)) pgs_nil)))) (dss_cons (ds_if (dt_gt (de_var (pv 3)) de_int) (dss_one (ds_append (i := 2) (pv 2) (de_tup (da_cons (de_var (pv 4)) (da_cons (de_min2 rfl (by rfl) Z.min (da_cons (de_var (pv 5)) (da_cons (de_var (pv 3)) da_nil))) da_nil))) rfl (ps_expr (pe_bm PySem.F.plainAttrs_list PySem.F.slot_list_append PySem.F.type_list_append mt_append (pv 2) (pa_cons (de_tup (da_cons (de_var (pv 4)) (da_cons (de_min2 rfl (by rfl) Z.min (da_cons (de_var (pv 5)) (da_cons (de_var (pv 3)) da_nil))) da_nil))) pa_nil))))) dss_nil) (dss_one (ds_set (i := 3) nd rfl (by first | exact .inl rfl | exact .inr rfl) (de_sub (de_var (pv 3)) (de_var (pv 5))))))) (dss_one (ds_ret (de_ob1 o_Turns hr (by decide) tk (de_var (pv 2))))))))
/-! ahead -/
abbrev s_ahead : Stmt := topS 21
abbrev N_ahead : List Str := ["turns", "number"]
theorem sc_ahead : FnScope N_ahead ["turns", "number"] (defScope s_ahead) := ⟨rfl, rfl, rfl, by decide +kernel, rfl, by decide +kernel, by decide +kernel⟩
def B_ahead : S → R Out := (dRet (dProp 5 F_Turns_hers (dCall 2 F_first_part [] (dCons (dV 0) (dCons (dV 1) dNil)))))
def F_ahead : Fn := runFn 2 2 B_ahead
theorem ok_ahead (Z : Bi mg) (c_first_part : DefAt P w K mg base T "first_part" ["turns", "number"] 2 6 F_first_part) (p_hers : PropAt P w K mg base T 5 "hers" 1 F_Turns_hers) {f : Addr} {fd : FuncData} (F : Fun K "ahead" "ahead" s_ahead f fd) : FnOk P w K mg base (L2.CX P w) 7 f fd ["turns", "number"] (spD K T 2 F_ahead) := by
  refine fn_okj F sc_ahead fun cdv A outer s H E W hr hp tk => ?_
  have nd := sc_ahead.nd
  exact (dss_one (ds_ret (de_prop p_hers hr (by decide) (de_callD c_first_part hr (by decide) tk (da_cons (de_var (pv 0)) (da_cons (de_var (pv 1)) da_nil))))))
/-! against -/
abbrev s_against : Stmt := topS 28
abbrev N_against : List Str := ["one", "other", "number"]
theorem sc_against : FnScope N_against ["one", "other"] (defScope s_against) := ⟨rfl, rfl, rfl, by decide +kernel, rfl, by decide +kernel, by decide +kernel⟩
def B_against : S → R Out := (dSeq (dDrop (dCall 2 F_check_size [] (dCons (dV 0) (dCons (dV 1) dNil)))) (dSeq (dFor (.nm 2) (dSeqI (dCall 2 F_corners [] (dCons (dV 0) (dCons (dV 1) dNil)))) (dIf (dBinB hLt (dCall 2 F_ahead [] (dCons (dV 0) (dCons (dV 2) dNil))) (dCall 2 F_ahead [] (dCons (dV 1) (dCons (dV 2) dNil)))) (dRet (dCall 2 F_ahead [] (dCons (dV 1) (dCons (dV 2) dNil)))) dNext)) (dRet (dC .non))))
def F_against : Fn := runFn 2 3 B_against
theorem ok_against (Z : Bi mg) (c_check_size : DefAt P w K mg base T "check_size" ["one", "other"] 2 3 F_check_size) (c_corners : DefAt P w K mg base T "corners" ["one", "other"] 2 3 F_corners) (c_ahead : DefAt P w K mg base T "ahead" ["turns", "number"] 2 7 F_ahead) {f : Addr} {fd : FuncData} (F : Fun K "against" "against" s_against f fd) : FnOk P w K mg base (L2.CX P w) 8 f fd ["one", "other"] (spD K T 2 F_against) := by
  refine fn_okj F sc_against fun cdv A outer s H E W hr hp tk => ?_
  have nd := sc_against.nd
  exact (dss_cons (ds_expr (de_callD c_check_size hr (by decide) tk (da_cons (de_var (pv 0)) (da_cons (de_var (pv 1)) da_nil)))) (dss_cons (ds_for hp rfl (di_seq (de_callD c_corners hr (by decide) tk (da_cons (de_var (pv 0)) (da_cons (de_var (pv 1)) da_nil)))) (dg_name nd rfl (by first | exact .inl rfl | exact .inr rfl)) (dss_one (ds_if (dt_lt (de_callD c_ahead hr (by decide) tk (da_cons (de_var (pv 0)) (da_cons (de_var (pv 2)) da_nil))) (de_callD c_ahead hr (by decide) tk (da_cons (de_var (pv 1)) (da_cons (de_var (pv 2)) da_nil)))) (dss_one (ds_ret (de_callD c_ahead hr (by decide) tk (da_cons (de_var (pv 1)) (da_cons (de_var (pv 2)) da_nil))))) dss_nil))) (dss_one (ds_ret de_non))))
/-! never_worse -/
abbrev s_never_worse : Stmt := topS 27
abbrev N_never_worse : List Str := ["one", "other"]
theorem sc_never_worse : FnScope N_never_worse ["one", "other"] (defScope s_never_worse) := ⟨rfl, rfl, rfl, by decide +kernel, rfl, by decide +kernel, by decide +kernel⟩
def B_never_worse : S → R Out := (dRet (dOfB (dBinB hIsN (dCall 2 F_against [] (dCons (dV 0) (dCons (dV 1) dNil))) (dC .non))))
def F_never_worse : Fn := runFn 2 2 B_never_worse
theorem ok_never_worse (Z : Bi mg) (c_against : DefAt P w K mg base T "against" ["one", "other"] 2 8 F_against) {f : Addr} {fd : FuncData} (F : Fun K "never_worse" "never_worse" s_never_worse f fd) : FnOk P w K mg base (L2.CX P w) 9 f fd ["one", "other"] (spD K T 2 F_never_worse) := by
  refine fn_okj F sc_never_worse fun cdv A outer s H E W hr hp tk => ?_
  have nd := sc_never_worse.nd
  exact (dss_one (ds_ret (de_isN (de_callD c_against hr (by decide) tk (da_cons (de_var (pv 0)) (da_cons (de_var (pv 1)) da_nil))) de_non)))
/-! is_above -/
abbrev s_is_above : Stmt := topS 31
abbrev N_is_above : List Str := ["one", "other"]
theorem sc_is_above : FnScope N_is_above ["one", "other"] (defScope s_is_above) := ⟨rfl, rfl, rfl, by decide +kernel, rfl, by decide +kernel, by decide +kernel⟩
def B_is_above : S → R Out := (dRet (dCall 2 F_never_worse [] (dCons (dV 0) (dCons (dV 1) dNil))))
def F_is_above : Fn := runFn 2 2 B_is_above
theorem ok_is_above (Z : Bi mg) (c_never_worse : DefAt P w K mg base T "never_worse" ["one", "other"] 2 9 F_never_worse) {f : Addr} {fd : FuncData} (F : Fun K "is_above" "is_above" s_is_above f fd) : FnOk P w K mg base (L2.CX P w) 10 f fd ["one", "other"] (spD K T 2 F_is_above) := by
  refine fn_okj F sc_is_above fun cdv A outer s H E W hr hp tk => ?_
  have nd := sc_is_above.nd
  exact (dss_one (ds_ret (de_callD c_never_worse hr (by decide) tk (da_cons (de_var (pv 0)) (da_cons (de_var (pv 1)) da_nil)))))
/-! is_between -/
abbrev s_is_between : Stmt := topS 32
abbrev N_is_between : List Str := ["one", "other", "third"]
theorem sc_is_between : FnScope N_is_between ["one", "other", "third"] (defScope s_is_between) := ⟨rfl, rfl, rfl, by decide +kernel, rfl, by decide +kernel, by decide +kernel⟩
def B_is_between : S → R Out := (dSeq (dDrop (dCall 2 F_check_size [] (dCons (dV 0) (dCons (dV 1) dNil)))) (dRet (dAndV (dCall 2 F_is_above [] (dCons (dV 0) (dCons (dV 2) dNil))) (dCall 2 F_is_above [] (dCons (dV 2) (dCons (dV 1) dNil))))))
def F_is_between : Fn := runFn 3 3 B_is_between
theorem ok_is_between (Z : Bi mg) (c_check_size : DefAt P w K mg base T "check_size" ["one", "other"] 2 3 F_check_size) (c_is_above : DefAt P w K mg base T "is_above" ["one", "other"] 2 10 F_is_above) {f : Addr} {fd : FuncData} (F : Fun K "is_between" "is_between" s_is_between f fd) : FnOk P w K mg base (L2.CX P w) 11 f fd ["one", "other", "third"] (spD K T 3 F_is_between) := by
  refine fn_okj F sc_is_between fun cdv A outer s H E W hr hp tk => ?_
  have nd := sc_is_between.nd
  exact (dss_cons (ds_expr (de_callD c_check_size hr (by decide) tk (da_cons (de_var (pv 0)) (da_cons (de_var (pv 1)) da_nil)))) (dss_one (ds_ret (de_and (de_callD c_is_above hr (by decide) tk (da_cons (de_var (pv 0)) (da_cons (de_var (pv 2)) da_nil))) (de_one (de_callD c_is_above hr (by decide) tk (da_cons (de_var (pv 2)) (da_cons (de_var (pv 1)) da_nil))))))))
/-! _law_asked -/
abbrev s_law_asked : Stmt := topS 47
abbrev N_law_asked : List Str := ["_law_one_so", "_law_other_so", "_law_third_so", "error_so", "_law_found", "_law_wrong_so"]
theorem sc_law_asked : FnScope N_law_asked ["_law_one_so", "_law_other_so", "_law_third_so"] (defScope s_law_asked) := ⟨rfl, rfl, rfl, by decide +kernel, rfl, by decide +kernel, by decide +kernel⟩
def B_law_asked : S → R Out := (dSeq (dUnpack (.tp [4, 5]) (dTup (dCons (dC .non) (dCons (dC .non) dNil)))) (dSeq (dTry tbl_OtherThings 5 5 3 (dSet 4 (dIfE (dBinB hIsN (dV 2) (dC .non)) (dCall 2 F_is_above [] (dCons (dV 0) (dCons (dV 1) dNil))) (dCall 3 F_is_between [] (dCons (dV 0) (dCons (dV 1) (dCons (dV 2) dNil))))))) (dRet (dIfE (dBinB hIsN (dV 5) (dC .non)) (dV 4) (dClose (dLst (dCons (dC (.str "unlike")) (dCons (dIsE 5 (tbl_ValueError) (dV 5)) dNil))))))))
def F_law_asked : Fn := runFn 3 6 B_law_asked
theorem ok_law_asked (Z : Bi mg) (c_is_above : DefAt P w K mg base T "is_above" ["one", "other"] 2 10 F_is_above) (c_is_between : DefAt P w K mg base T "is_between" ["one", "other", "third"] 3 11 F_is_between) (i_ValueError : IsTab K T 5 (.type "ValueError") tbl_ValueError) (x_OtherThings : XAt K mg T 5 "OtherThings" tbl_OtherThings) {f : Addr} {fd : FuncData} (F : Fun K "_law_asked" "_law_asked" s_law_asked f fd) : FnOk P w K mg base (L2.CX P w) 12 f fd ["_law_one_so", "_law_other_so", "_law_third_so"] (spD K T 3 F_law_asked) := by
  refine fn_okj F sc_law_asked fun cdv A outer s H E W hr hp tk => ?_
  have nd := sc_law_asked.nd
  exact (dss_cons (ds_asg (de_tup (da_cons de_non (da_cons de_non da_nil))) (dg_tup (pg_tup rfl (pgs_cons (pg_name nd rfl (by first | exact .inl rfl | exact .inr rfl)) (pgs_cons (pg_name nd rfl (by first | exact .inl rfl | exact .inr rfl)) pgs_nil))) (pg_unl rfl (pgs_cons (pg_name nd rfl (by first | exact .inl rfl | exact .inr rfl)) (pgs_cons (pg_name nd rfl (by first | exact .inl rfl | exact .inr rfl)) pgs_nil))))) (dss_cons (ds_keepAt (iy := 5) (iN := 3) x_OtherThings rfl rfl rfl nd rfl rfl tk (fun W pn xe tk hp => (dss_one (ds_set (i := 4) nd rfl (by first | exact .inl rfl | exact .inr rfl) (de_ifE (dt_isN (de_var (pv 2)) de_non) (de_callD c_is_above hr (by decide) tk (da_cons (de_var (pv 0)) (da_cons (de_var (pv 1)) da_nil))) (de_callD c_is_between hr (by decide) tk (da_cons (de_var (pv 0)) (da_cons (de_var (pv 1)) (da_cons (de_var (pv 2)) da_nil)))))))) rfl (by first | exact .inl rfl | exact .inr rfl) (by decide) (by first | exact Or.inl rfl | exact Or.inr (Or.inl rfl) | exact Or.inr (Or.inr rfl))) (dss_one (ds_ret (de_ifE (dt_isN (de_var (pv 5)) de_non) (de_var (pv 4)) (de_new (df_lst (da_cons de_str (da_cons (de_isBi i_ValueError (by decide +kernel) Z.ValueError (by rfl) Z.isinstance (de_var (pv 5))) da_nil)))))))))
/-! places_sum -/
abbrev s_places_sum : Stmt := topS 29
abbrev N_places_sum : List Str := ["turns", "who", "total", "end", "heir", "many"]
theorem sc_places_sum : FnScope N_places_sum ["turns", "who"] (defScope s_places_sum) := ⟨rfl, rfl, rfl, by decide +kernel, rfl, by decide +kernel, by decide +kernel⟩
def B_places_sum : S → R Out := (dSeq (dSet 2 (dC (.int 0))) (dSeq (dSet 3 (dC (.int 0))) (dSeq (dFor (.tp [4, 5]) (dSeqI (dProp 5 F_Turns_runs (dV 0))) (dSeq (dIf (dBinB hEq (dV 4) (dV 1)) (dSet 2 (dBin hAdd (dBin hAdd (dV 2) (dBin hMulG (dV 5) (dV 3))) (dBin hDiv (dBin hMulG (dV 5) (dBin hAdd (dV 5) (dC (.int 1)))) (dC (.int 2))))) dNext) (dSet 3 (dBin hAdd (dV 3) (dV 5))))) (dRet (dV 2)))))
def F_places_sum : Fn := runFn 2 6 B_places_sum
theorem ok_places_sum (Z : Bi mg) (p_runs : PropAt P w K mg base T 5 "runs" 1 F_Turns_runs) {f : Addr} {fd : FuncData} (F : Fun K "places_sum" "places_sum" s_places_sum f fd) : FnOk P w K mg base (L2.CX P w) 3 f fd ["turns", "who"] (spD K T 2 F_places_sum) := by
  refine fn_okj F sc_places_sum fun cdv A outer s H E W hr hp tk => ?_
  have nd := sc_places_sum.nd
  exact (dss_cons (ds_set (i := 2) nd rfl (by first | exact .inl rfl | exact .inr rfl) de_int) (dss_cons (ds_set (i := 3) nd rfl (by first | exact .inl rfl | exact .inr rfl) de_int) (dss_cons (ds_for hp rfl (di_seq (de_prop p_runs hr (by decide) (de_var (pv 0)))) (dg_tup (pg_tup rfl (pgs_cons (pg_name nd rfl (by first | exact .inl rfl | exact .inr rfl)) (pgs_cons (pg_name nd rfl (by first | exact .inl rfl | exact .inr rfl)) pgs_nil))) (pg_unl rfl (pgs_cons (pg_name nd rfl (by first | exact .inl rfl | exact .inr rfl)) (pgs_cons (pg_name nd rfl (by first | exact .inl rfl | exact .inr rfl)) pgs_nil)))) (dss_cons (ds_if (dt_eq hr.units (de_var (pv 4)) (de_var (pv 1))) (dss_one (ds_set (i := 2) nd rfl (by first | exact .inl rfl | exact .inr rfl) (de_add (de_add (de_var (pv 2)) (de_mulG (de_var (pv 5)) (de_var (pv 3)))) (de_div (de_mulG (de_var (pv 5)) (de_add (de_var (pv 5)) de_int)) de_int)))) dss_nil) (dss_one (ds_set (i := 3) nd rfl (by first | exact .inl rfl | exact .inr rfl) (de_add (de_var (pv 3)) (de_var (pv 5))))))) (dss_one (ds_ret (de_var (pv 2)))))))
/-! height -/
abbrev s_height : Stmt := topS 33
abbrev N_height : List Str := ["turns"]
theorem sc_height : FnScope N_height ["turns"] (defScope s_height) := ⟨rfl, rfl, rfl, by decide +kernel, rfl, by decide +kernel, by decide +kernel⟩
def B_height : S → R Out := (dRet (dBin hSub (dBin hMulG (dProp 5 F_Turns_hers (dV 0)) (dBin hAdd (dProp 5 F_Turns_size (dV 0)) (dC (.int 1)))) (dCall 2 F_places_sum [] (dCons (dV 0) (dCons (dC (.str "a")) dNil)))))
def F_height : Fn := runFn 1 1 B_height
theorem ok_height (Z : Bi mg) (c_places_sum : DefAt P w K mg base T "places_sum" ["turns", "who"] 2 3 F_places_sum) (p_hers : PropAt P w K mg base T 5 "hers" 1 F_Turns_hers) (p_size : PropAt P w K mg base T 5 "size" 1 F_Turns_size) {f : Addr} {fd : FuncData} (F : Fun K "height" "height" s_height f fd) : FnOk P w K mg base (L2.CX P w) 4 f fd ["turns"] (spD K T 1 F_height) := by
  refine fn_okj F sc_height fun cdv A outer s H E W hr hp tk => ?_
  have nd := sc_height.nd
  exact (dss_one (ds_ret (de_sub (de_mulG (de_prop p_hers hr (by decide) (de_var (pv 0))) (de_add (de_prop p_size hr (by decide) (de_var (pv 0))) de_int)) (de_callD c_places_sum hr (by decide) tk (da_cons (de_var (pv 0)) (da_cons de_str da_nil))))))
/-! _law_same -/
abbrev s_law_same : Stmt := topS 40
abbrev N_law_same : List Str := ["_law_got", "_law_due", "_law_a_so", "_law_b_so"]
theorem sc_law_same : FnScope N_law_same ["_law_got", "_law_due"] (defScope s_law_same) := ⟨rfl, rfl, rfl, by decide +kernel, rfl, by decide +kernel, by decide +kernel⟩
def B_law_same (F : Fn) : S → R Out := (dSeq (dIf (dTru (dIsi2 4 5 (dV 1))) (dSeq (dIf (dBinB hNe (dIsi 4 (dV 0)) (dIsi 4 (dV 1))) (dRet (dC (.bl false))) dNext) (dSeq (dIf (dBinB hNe (dIsi 5 (dV 0)) (dIsi 5 (dV 1))) (dRet (dC (.bl false))) dNext) (dRet (dAndV (dOfB (dBinB hEq (dCB hLen (dCons (dV 0) dNil)) (dCB hLen (dCons (dV 1) dNil)))) (dCB hAll (dCons (dClose (dComp (.tp [2, 3]) [2, 3] (dCBF hZip (dCons (dV 0) (dCons (dV 1) dNil))) dYes (dCall 2 F [] (dCons (dV 2) (dCons (dV 3) dNil))))) dNil)))))) dNext) (dSeq (dIf (dOr (dBinB hIsN (dV 1) (dC .non)) (dTru (dIsi2 1 3 (dV 1)))) (dRet (dAndV (dOfB (dBinB hEq (dV 0) (dV 1))) (dAndV (dOfB (dBinB hEq (dIsi 1 (dV 0)) (dIsi 1 (dV 1)))) (dOfB (dBinB hEq (dOfB (dBinB hIsN (dV 0) (dC .non))) (dOfB (dBinB hIsN (dV 1) (dC .non)))))))) dNext) (dRet (dAndV (dIsi 2 (dV 0)) (dAndV (dNotV (dIsi 1 (dV 0))) (dOfB (dBinB hEq (dV 0) (dV 1))))))))
def F_law_same : Nat → Fn
  | 0 => fun _ _ => .stuck
  | k + 1 => runFn 2 4 (B_law_same (F_law_same k))
theorem ok_law_same (Z : Bi mg) {f : Addr} {fd : FuncData} (F : Fun K "_law_same" "_law_same" s_law_same f fd) (bn : Binds K fd ["_law_got", "_law_due"] []) (hm : mg "_law_same" = some (.ref f)) : ∀ j, FnOk P w K mg base (L2.CX P w) (1 + j) f fd ["_law_got", "_law_due"] (spD K T 2 (F_law_same j))
  | 0 => fn_never rfl
  | j + 1 => by
    have ih : DefAt P w K mg base T "_law_same" ["_law_got", "_law_due"] 2 (1 + j) (F_law_same j) := .of (ok_law_same Z F bn hm j) hm F.kp bn
    refine fn_okj F sc_law_same fun cdv A outer s H E W hr hp tk => ?_
    have nd := sc_law_same.nd
    exact (dss_cons (ds_if (dt_tru (de_isi2 (t := 4) (u := 5) (by decide) (by decide) (by rfl) Z.isinstance (de_var (pv 1)) (pe_bltn (by rfl) Z.list (by decide +kernel) rfl) (pe_bltn (by rfl) Z.tuple (by decide +kernel) rfl))) (dss_cons (ds_if (dt_ne hr.units (de_isi (t := 4) (by decide) (by rfl) Z.isinstance (de_var (pv 0)) (pe_bltn (by rfl) Z.list (by decide +kernel) rfl)) (de_isi (t := 4) (by decide) (by rfl) Z.isinstance (de_var (pv 1)) (pe_bltn (by rfl) Z.list (by decide +kernel) rfl))) (dss_one (ds_ret de_bl)) dss_nil) (dss_cons (ds_if (dt_ne hr.units (de_isi (t := 5) (by decide) (by rfl) Z.isinstance (de_var (pv 0)) (pe_bltn (by rfl) Z.tuple (by decide +kernel) rfl)) (de_isi (t := 5) (by decide) (by rfl) Z.isinstance (de_var (pv 1)) (pe_bltn (by rfl) Z.tuple (by decide +kernel) rfl))) (dss_one (ds_ret de_bl)) dss_nil) (dss_one (ds_ret (de_and (de_eq hr.units (de_len (by rfl) Z.len (da_cons (de_var (pv 0)) da_nil)) (de_len (by rfl) Z.len (da_cons (de_var (pv 1)) da_nil))) (de_one (de_all rfl (by rfl) Z.all (da_cons (de_new (df_comp (own := [("_law_a_so", 2), ("_law_b_so", 3)]) (k := (.tp [2, 3])) rfl nd (di_zip (by rfl) Z.zip (da_cons (de_var (pv 0)) (da_cons (de_var (pv 1)) da_nil))) (blkOk_by (N := N_law_same) (sc := defScope s_law_same) (by decide +kernel)) (by decide) (fun _ _ _ _ _ => (dg_tup (pg_tup rfl (pgs_cons (pg_name nd rfl (by first | exact .inl rfl | exact .inr rfl)) (pgs_cons (pg_name nd rfl (by first | exact .inl rfl | exact .inr rfl)) pgs_nil))) (pg_unl rfl (pgs_cons (pg_name nd rfl (by first | exact .inl rfl | exact .inr rfl)) (pgs_cons (pg_name nd rfl (by first | exact .inl rfl | exact .inr rfl)) pgs_nil))))) (fun _ _ _ _ _ => dts_nil) (fun _ _ _ _ _ => (de_callD ih hr (Nat.le_refl _) takes0 (da_cons (de_var (pv 2)) (da_cons (de_var (pv 3)) da_nil)))))) da_nil)))))))) dss_nil) (dss_cons (ds_if (dt_bool (dw_or (dt_isN (de_var (pv 1)) de_non) (dw_or1 (dt_tru (de_isi2 (t := 1) (u := 3) (by decide) (by decide) (by rfl) Z.isinstance (de_var (pv 1)) (pe_bltn (by rfl) Z.bool (by decide +kernel) rfl) (pe_bltn (by rfl) Z.str (by decide +kernel) rfl)))))) (dss_one (ds_ret (de_and (de_eq hr.units (de_var (pv 0)) (de_var (pv 1))) (de_and (de_eq hr.units (de_isi (t := 1) (by decide) (by rfl) Z.isinstance (de_var (pv 0)) (pe_bltn (by rfl) Z.bool (by decide +kernel) rfl)) (de_isi (t := 1) (by decide) (by rfl) Z.isinstance (de_var (pv 1)) (pe_bltn (by rfl) Z.bool (by decide +kernel) rfl))) (de_one (de_eq hr.units (de_isN (de_var (pv 0)) de_non) (de_isN (de_var (pv 1)) de_non))))))) dss_nil) (dss_one (ds_ret (de_and (de_isi (t := 2) (by decide) (by rfl) Z.isinstance (de_var (pv 0)) (pe_bltn (by rfl) Z.int (by decide +kernel) rfl)) (de_and (de_not (de_isi (t := 1) (by decide) (by rfl) Z.isinstance (de_var (pv 0)) (pe_bltn (by rfl) Z.bool (by decide +kernel) rfl))) (de_one (de_eq hr.units (de_var (pv 0)) (de_var (pv 1))))))))))
/-! _law_great_ones_right -/
abbrev s_law_great_ones_right : Stmt := topS 49
abbrev N_law_great_ones_right : List Str := ["_law_one_so", "_law_near_here", "_law_wide", "_law_got", "_law_due", "_law_late_so", "_law_soon", "_law_far"]
theorem sc_law_great_ones_right : FnScope N_law_great_ones_right ["_law_one_so"] (defScope s_law_great_ones_right) := ⟨rfl, rfl, rfl, by decide +kernel, rfl, by decide +kernel, by decide +kernel⟩
def B_law_great_ones_right : S → R Out := (dSeq (dPar3 7 3 4 (dCons (dBin hPow (dC (.int 10)) (dC (.int 30))) (dCons (dClose (dLst dNil)) (dCons (dClose (dLst dNil)) dNil)))) (dSeq (dSet 1 (dMkOb 5 F_Turns_init (dTup (dCons (dTup (dCons (dC (.str "a")) (dCons (dBin hDiv (dV 7) (dC (.int 2))) dNil))) (dCons (dTup (dCons (dC (.str "b")) (dCons (dBin hDiv (dV 7) (dC (.int 2))) dNil))) dNil))))) (dSeq (dSet 2 (dMkOb 5 F_Turns_init (dTup (dCons (dTup (dCons (dC (.str "b")) (dCons (dC (.int 1)) dNil))) (dCons (dTup (dCons (dC (.str "a")) (dCons (dBin hDiv (dV 7) (dC (.int 2))) dNil))) (dCons (dTup (dCons (dC (.str "b")) (dCons (dBin hSub (dBin hDiv (dV 7) (dC (.int 2))) (dC (.int 1))) dNil))) dNil)))))) (dSeq (dSet 3 (dBin hAdd (dV 3) (dClose (dLst (dCons (dCall 2 F_is_above [] (dCons (dV 1) (dCons (dV 2) dNil))) (dCons (dCall 2 F_is_above [] (dCons (dV 2) (dCons (dV 1) dNil))) (dCons (dCall 1 F_height [] (dCons (dV 1) dNil)) (dCons (dBin hSub (dCall 1 F_height [] (dCons (dV 1) dNil)) (dCall 1 F_height [] (dCons (dV 2) dNil))) dNil)))))))) (dSeq (dSet 4 (dBin hAdd (dV 4) (dClose (dLst (dCons (dC (.bl true)) (dCons (dC (.bl false)) (dCons (dBin hAdd (dBin hDiv (dBin hMulG (dBin hDiv (dV 7) (dC (.int 2))) (dBin hAdd (dBin hDiv (dV 7) (dC (.int 2))) (dC (.int 1)))) (dC (.int 2))) (dBin hMulG (dBin hDiv (dV 7) (dC (.int 2))) (dBin hDiv (dV 7) (dC (.int 2))))) (dCons (dBin hDiv (dV 7) (dC (.int 2))) dNil)))))))) (dSeq (dSet 5 (dMkOb 5 F_Turns_init (dTup (dCons (dTup (dCons (dC (.str "a")) (dCons (dBin hDiv (dV 7) (dC (.int 4))) dNil))) (dCons (dTup (dCons (dC (.str "b")) (dCons (dC (.int 1)) dNil))) (dCons (dTup (dCons (dC (.str "a")) (dCons (dC (.int 1)) dNil))) (dCons (dTup (dCons (dC (.str "b")) (dCons (dBin hDiv (dV 7) (dC (.int 4))) dNil))) dNil))))))) (dSeq (dSet 6 (dMkOb 5 F_Turns_init (dTup (dCons (dTup (dCons (dC (.str "a")) (dCons (dBin hAdd (dBin hDiv (dV 7) (dC (.int 4))) (dC (.int 1))) dNil))) (dCons (dTup (dCons (dC (.str "b")) (dCons (dBin hAdd (dBin hDiv (dV 7) (dC (.int 4))) (dC (.int 1))) dNil))) dNil))))) (dSeq (dSet 3 (dBin hAdd (dV 3) (dClose (dLst (dCons (dCall 2 F_is_above [] (dCons (dV 6) (dCons (dV 5) dNil))) (dCons (dCall 2 F_is_above [] (dCons (dV 5) (dCons (dV 6) dNil))) (dCons (dBin hSub (dCall 1 F_height [] (dCons (dV 6) dNil)) (dCall 1 F_height [] (dCons (dV 5) dNil))) dNil))))))) (dSeq (dSet 3 (dBin hAdd (dV 3) (dClose (dLst (dCons (dCallK 2 F_is_above 0 2 [1, 0] dNil (dCons (dV 5) (dCons (dV 6) dNil))) (dCons (dCallK 3 F_is_between 0 3 [2, 1, 0] dNil (dCons (dV 5) (dCons (dV 5) (dCons (dV 6) dNil)))) dNil)))))) (dSeq (dSet 3 (dBin hAdd (dV 3) (dClose (dLst (dCons (dCallK 1 F_height 0 1 [0] dNil (dCons (dV 0) dNil)) dNil))))) (dRet (dCall 2 (F_law_same 8) [] (dCons (dV 3) (dCons (dBin hAdd (dV 4) (dClose (dLst (dCons (dC (.bl true)) (dCons (dC (.bl false)) (dCons (dC (.int 1)) (dCons (dC (.bl true)) (dCons (dC (.bl true)) (dCons (dC (.int 5)) dNil))))))))) dNil))))))))))))))
def F_law_great_ones_right : Fn := runFn 1 8 B_law_great_ones_right
theorem ok_law_great_ones_right (Z : Bi mg) (c_height : DefAt P w K mg base T "height" ["turns"] 1 4 F_height) (c_is_above : DefAt P w K mg base T "is_above" ["one", "other"] 2 10 F_is_above) (c_is_between : DefAt P w K mg base T "is_between" ["one", "other", "third"] 3 11 F_is_between) (c_law_same : DefAt P w K mg base T "_law_same" ["_law_got", "_law_due"] 2 9 (F_law_same 8)) (ck_height_turns : DefAtK P w K mg base T "height" ["turns"] ["turns"] 0 [0] 1 4 F_height) (ck_is_above_other_one : DefAtK P w K mg base T "is_above" ["one", "other"] ["other", "one"] 0 [1, 0] 2 10 F_is_above) (ck_is_between_third_other_one : DefAtK P w K mg base T "is_between" ["one", "other", "third"] ["third", "other", "one"] 0 [2, 1, 0] 3 11 F_is_between) (o_Turns : ObAt P w K mg base T "Turns" "_runs" "runs" 5 4 F_Turns_init (.tu [])) {f : Addr} {fd : FuncData} (F : Fun K "_law_great_ones_right" "_law_great_ones_right" s_law_great_ones_right f fd) : FnOk P w K mg base (L2.CX P w) 12 f fd ["_law_one_so"] (spD K T 1 F_law_great_ones_right) := by
  refine fn_okj F sc_law_great_ones_right fun cdv A outer s H E W hr hp tk => ?_
  have nd := sc_law_great_ones_right.nd
  exact (dss_cons (ds_par3 (i := 7) (j := 3) (l := 4) rfl nd rfl rfl rfl (by decide) (by decide) (by decide) rfl rfl rfl (da_cons (de_pow de_int de_int) (da_cons (de_new (df_lst da_nil)) (da_cons (de_new (df_lst da_nil)) da_nil))) rfl rfl) (dss_cons (ds_set (i := 1) nd rfl (by first | exact .inl rfl | exact .inr rfl) (de_ob1 o_Turns hr (by decide) tk (de_tup (da_cons (de_tup (da_cons de_str (da_cons (de_div (de_var (pv 7)) de_int) da_nil))) (da_cons (de_tup (da_cons de_str (da_cons (de_div (de_var (pv 7)) de_int) da_nil))) da_nil))))) (dss_cons (ds_set (i := 2) nd rfl (by first | exact .inl rfl | exact .inr rfl) (de_ob1 o_Turns hr (by decide) tk (de_tup (da_cons (de_tup (da_cons de_str (da_cons de_int da_nil))) (da_cons (de_tup (da_cons de_str (da_cons (de_div (de_var (pv 7)) de_int) da_nil))) (da_cons (de_tup (da_cons de_str (da_cons (de_sub (de_div (de_var (pv 7)) de_int) de_int) da_nil))) da_nil)))))) (dss_cons (ds_set (i := 3) nd rfl (by first | exact .inl rfl | exact .inr rfl) (de_add (de_var (pv 3)) (de_new (df_lst (da_cons (de_callD c_is_above hr (by decide) tk (da_cons (de_var (pv 1)) (da_cons (de_var (pv 2)) da_nil))) (da_cons (de_callD c_is_above hr (by decide) tk (da_cons (de_var (pv 2)) (da_cons (de_var (pv 1)) da_nil))) (da_cons (de_callD c_height hr (by decide) tk (da_cons (de_var (pv 1)) da_nil)) (da_cons (de_sub (de_callD c_height hr (by decide) tk (da_cons (de_var (pv 1)) da_nil)) (de_callD c_height hr (by decide) tk (da_cons (de_var (pv 2)) da_nil))) da_nil)))))))) (dss_cons (ds_set (i := 4) nd rfl (by first | exact .inl rfl | exact .inr rfl) (de_add (de_var (pv 4)) (de_new (df_lst (da_cons de_bl (da_cons de_bl (da_cons (de_add (de_div (de_mulG (de_div (de_var (pv 7)) de_int) (de_add (de_div (de_var (pv 7)) de_int) de_int)) de_int) (de_mulG (de_div (de_var (pv 7)) de_int) (de_div (de_var (pv 7)) de_int))) (da_cons (de_div (de_var (pv 7)) de_int) da_nil)))))))) (dss_cons (ds_set (i := 5) nd rfl (by first | exact .inl rfl | exact .inr rfl) (de_ob1 o_Turns hr (by decide) tk (de_tup (da_cons (de_tup (da_cons de_str (da_cons (de_div (de_var (pv 7)) de_int) da_nil))) (da_cons (de_tup (da_cons de_str (da_cons de_int da_nil))) (da_cons (de_tup (da_cons de_str (da_cons de_int da_nil))) (da_cons (de_tup (da_cons de_str (da_cons (de_div (de_var (pv 7)) de_int) da_nil))) da_nil))))))) (dss_cons (ds_set (i := 6) nd rfl (by first | exact .inl rfl | exact .inr rfl) (de_ob1 o_Turns hr (by decide) tk (de_tup (da_cons (de_tup (da_cons de_str (da_cons (de_add (de_div (de_var (pv 7)) de_int) de_int) da_nil))) (da_cons (de_tup (da_cons de_str (da_cons (de_add (de_div (de_var (pv 7)) de_int) de_int) da_nil))) da_nil))))) (dss_cons (ds_set (i := 3) nd rfl (by first | exact .inl rfl | exact .inr rfl) (de_add (de_var (pv 3)) (de_new (df_lst (da_cons (de_callD c_is_above hr (by decide) tk (da_cons (de_var (pv 6)) (da_cons (de_var (pv 5)) da_nil))) (da_cons (de_callD c_is_above hr (by decide) tk (da_cons (de_var (pv 5)) (da_cons (de_var (pv 6)) da_nil))) (da_cons (de_sub (de_callD c_height hr (by decide) tk (da_cons (de_var (pv 6)) da_nil)) (de_callD c_height hr (by decide) tk (da_cons (de_var (pv 5)) da_nil))) da_nil))))))) (dss_cons (ds_set (i := 3) nd rfl (by first | exact .inl rfl | exact .inr rfl) (de_add (de_var (pv 3)) (de_new (df_lst (da_cons (de_callK0 (ks := ["other", "one"]) ck_is_above_other_one hr (by decide) tk (dk_cons (de_var (pv 5)) (dk_cons (de_var (pv 6)) dk_nil))) (da_cons (de_callK0 (ks := ["third", "other", "one"]) ck_is_between_third_other_one hr (by decide) tk (dk_cons (de_var (pv 5)) (dk_cons (de_var (pv 5)) (dk_cons (de_var (pv 6)) dk_nil)))) da_nil)))))) (dss_cons (ds_set (i := 3) nd rfl (by first | exact .inl rfl | exact .inr rfl) (de_add (de_var (pv 3)) (de_new (df_lst (da_cons (de_callK0 (ks := ["turns"]) ck_height_turns hr (by decide) tk (dk_cons (de_var (pv 0)) dk_nil)) da_nil))))) (dss_one (ds_ret (de_callD c_law_same hr (by decide) tk (da_cons (de_var (pv 3)) (da_cons (de_add (de_var (pv 4)) (de_new (df_lst (da_cons de_bl (da_cons de_bl (da_cons de_int (da_cons de_bl (da_cons de_bl (da_cons de_int da_nil))))))))) da_nil)))))))))))))))
/-! _law_by_hand_right -/
abbrev s_law_by_hand_right : Stmt := topS 48
abbrev N_law_by_hand_right : List Str := ["_law_some", "_law_got", "_law_due", "_law_one_so", "_law_two_so", "_law_low_so", "_law_high_so", "_law_own", "_law_its", "_law_far"]
theorem sc_law_by_hand_right : FnScope N_law_by_hand_right [] (defScope s_law_by_hand_right) := ⟨rfl, rfl, rfl, by decide +kernel, rfl, by decide +kernel, by decide +kernel⟩
def B_law_by_hand_right : S → R Out := (dSeq (dPar 3 4 Sl.val Sl.val (dCall 1 F_turns_of [] (dCons (dCB hTupTx (dCons (dC (.str "abba")) dNil)) dNil)) (dCall 1 F_turns_of [] (dCons (dCB hTupTx (dCons (dC (.str "baab")) dNil)) dNil))) (dSeq (dPar 5 6 Sl.val Sl.val (dCall 1 F_turns_of [] (dCons (dCB hTupTx (dCons (dC (.str "bbaa")) dNil)) dNil)) (dCall 1 F_turns_of [] (dCons (dCB hTupTx (dCons (dC (.str "aabb")) dNil)) dNil))) (dSeq (dOwn 0 (dLst (dCons (dTup (dCons (dV 3) (dCons (dV 4) dNil))) (dCons (dTup (dCons (dV 4) (dCons (dV 3) dNil))) (dCons (dTup (dCons (dV 6) (dCons (dV 3) dNil))) (dCons (dTup (dCons (dV 3) (dCons (dV 6) dNil))) dNil)))))) (dSeq (dOwn 0 (dCat (dV 0) (dClose (dLst (dCons (dTup (dCons (dV 3) (dCons (dV 3) dNil))) (dCons (dTup (dCons (dV 4) (dCons (dV 5) dNil))) dNil)))))) (dSeq (dOwn 0 (dCat (dV 0) (dClose (dLst (dCons (dTup (dCons (dCall 1 F_turns_of [] (dCons (dCB hTupTx (dCons (dC (.str "aaaa")) dNil)) dNil)) (dCons (dV 6) dNil))) (dCons (dTup (dCons (dCall 1 F_turns_of [] (dCons (dCB hTupTx (dCons (dC (.str "abab")) dNil)) dNil)) (dCons (dV 3) dNil))) dNil)))))) (dSeq (dOwn 0 (dCat (dV 0) (dClose (dLst (dCons (dTup (dCons (dCall 1 F_turns_of [] (dCons (dCB hTupTx (dCons (dC (.str "abab")) dNil)) dNil)) (dCons (dV 4) dNil))) dNil))))) (dSeq (dOwn 0 (dCat (dV 0) (dClose (dLst (dCons (dTup (dCons (dMkOb 5 F_Turns_init (dC (.tu []))) (dCons (dMkOb 5 F_Turns_init (dC (.tu []))) dNil))) dNil))))) (dSeq (dOwn 0 (dCat (dV 0) (dClose (dLst (dCons (dTup (dCons (dV 3) (dCons (dCall 1 F_Turns_of [] (dCons (dC (.str "a 3")) dNil)) dNil))) (dCons (dTup (dCons (dMkOb 5 F_Turns_init (dC (.tu []))) (dCons (dV 3) dNil))) dNil)))))) (dSeq (dOwn 0 (dCat (dV 0) (dClose (dLst (dCons (dTup (dCons (dCall 1 F_turns_of [] (dCons (dCB hTupTx (dCons (dC (.str "baaa")) dNil)) dNil)) (dCons (dCall 1 F_turns_of [] (dCons (dCB hTupTx (dCons (dC (.str "abbb")) dNil)) dNil)) dNil))) dNil))))) (dSeq (dSet 1 (dClose (dComp (.tp [7, 8]) [7, 8] (dSeqI (dV 0)) dYes (dCall 3 F_law_asked [] (dCons (dV 7) (dCons (dV 8) (dCons (dC .non) dNil))))))) (dSeq (dSet 2 (dClose (dLst (dCons (dC (.bl false)) (dCons (dC (.bl false)) (dCons (dC (.bl true)) (dCons (dC (.bl false)) (dCons (dC (.bl true)) (dCons (dC (.bl true)) (dCons (dC (.bl true)) (dCons (dC (.bl true)) (dCons (dC (.bl true)) (dCons (dC (.bl true)) (dCons (dClose (dLst (dCons (dC (.str "unlike")) (dCons (dC (.bl true)) dNil)))) dNil)))))))))))))) (dSeq (dSet 2 (dBin hAdd (dV 2) (dClose (dLst (dCons (dClose (dLst (dCons (dC (.str "unlike")) (dCons (dC (.bl true)) dNil)))) (dCons (dC (.bl false)) dNil)))))) (dSeq (dOwn 0 (dLst (dCons (dTup (dCons (dV 6) (dCons (dV 5) (dCons (dV 3) dNil)))) (dCons (dTup (dCons (dV 6) (dCons (dV 5) (dCons (dV 4) dNil)))) (dCons (dTup (dCons (dV 3) (dCons (dV 5) (dCons (dV 4) dNil)))) dNil))))) (dSeq (dOwn 0 (dCat (dV 0) (dClose (dLst (dCons (dTup (dCons (dV 6) (dCons (dV 5) (dCons (dV 6) dNil)))) dNil))))) (dSeq (dOwn 0 (dCat (dV 0) (dClose (dLst (dCons (dTup (dCons (dV 6) (dCons (dV 5) (dCons (dV 5) dNil)))) (dCons (dTup (dCons (dV 5) (dCons (dV 6) (dCons (dV 3) dNil)))) (dCons (dTup (dCons (dV 3) (dCons (dV 3) (dCons (dV 3) dNil)))) dNil))))))) (dSeq (dOwn 0 (dCat (dV 0) (dClose (dLst (dCons (dTup (dCons (dV 6) (dCons (dV 4) (dCons (dV 3) dNil)))) dNil))))) (dSeq (dOwn 0 (dCat (dV 0) (dClose (dLst (dCons (dTup (dCons (dV 3) (dCons (dV 5) (dCons (dMkOb 5 F_Turns_init (dC (.tu []))) dNil)))) (dCons (dTup (dCons (dV 3) (dCons (dMkOb 5 F_Turns_init (dC (.tu []))) (dCons (dV 5) dNil)))) dNil)))))) (dSeq (dApp 0 (dTup (dCons (dCall 1 F_Turns_of [] (dCons (dC (.str "b 1")) dNil)) (dCons (dCall 1 F_Turns_of [] (dCons (dC (.str "a 2")) dNil)) (dCons (dCall 1 F_Turns_of [] (dCons (dC (.str "a 1")) dNil)) dNil))))) (dSeq (dApp 0 (dTup (dCons (dCall 1 F_Turns_of [] (dCons (dC (.str "b 1")) dNil)) (dCons (dCall 1 F_Turns_of [] (dCons (dC (.str "a 1")) dNil)) (dCons (dCall 1 F_Turns_of [] (dCons (dC (.str "a 2")) dNil)) dNil))))) (dSeq (dSet 1 (dBin hAdd (dV 1) (dClose (dComp (.tp [7, 8, 9]) [7, 8, 9] (dSeqI (dV 0)) dYes (dCall 3 F_law_asked [] (dCons (dV 7) (dCons (dV 8) (dCons (dV 9) dNil)))))))) (dSeq (dSet 2 (dBin hAdd (dBin hAdd (dV 2) (dClose (dLst (dCons (dC (.bl true)) (dCons (dC (.bl true)) (dCons (dC (.bl false)) (dCons (dC (.bl true)) (dCons (dC (.bl true)) (dCons (dC (.bl false)) (dCons (dC (.bl true)) (dCons (dC (.bl false)) dNil))))))))))) (dBin hMul (dClose (dLst (dCons (dClose (dLst (dCons (dC (.str "unlike")) (dCons (dC (.bl true)) dNil)))) dNil))) (dC (.int 4))))) (dSeq (dSet 0 (dTup (dCons (dV 3) (dCons (dV 4) (dCons (dV 5) (dCons (dV 6) (dCons (dMkOb 5 F_Turns_init (dC (.tu []))) (dCons (dCall 1 F_Turns_of [] (dCons (dC (.str "a 9")) dNil)) (dCons (dCall 1 F_Turns_of [] (dCons (dC (.str "b 9")) dNil)) dNil))))))))) (dSeq (dSet 1 (dBin hAdd (dV 1) (dClose (dComp (.nm 7) [7] (dSeqI (dV 0)) dYes (dCall 1 F_height [] (dCons (dV 7) dNil)))))) (dSeq (dSet 2 (dBin hAdd (dV 2) (dClose (dLst (dCons (dC (.int 5)) (dCons (dC (.int 5)) (dCons (dC (.int 3)) (dCons (dC (.int 7)) (dCons (dC (.int 0)) (dCons (dC (.int 45)) (dCons (dC (.int 0)) dNil))))))))))) (dRet (dAndV (dCall 2 (F_law_same 8) [] (dCons (dV 1) (dCons (dV 2) dNil))) (dCall 1 F_law_great_ones_right [] (dCons (dV 3) dNil))))))))))))))))))))))))))))
@[irreducible] def F_law_by_hand_right : Fn := runFn 0 10 B_law_by_hand_right
theorem ok_law_by_hand_right (Z : Bi mg) (c_turns_of : DefAt P w K mg base T "turns_of" ["heirs_told"] 1 6 F_turns_of) (c_law_asked : DefAt P w K mg base T "_law_asked" ["_law_one_so", "_law_other_so", "_law_third_so"] 3 12 F_law_asked) (c_height : DefAt P w K mg base T "height" ["turns"] 1 4 F_height) (c_law_same : DefAt P w K mg base T "_law_same" ["_law_got", "_law_due"] 2 9 (F_law_same 8)) (c_law_great_ones_right : DefAt P w K mg base T "_law_great_ones_right" ["_law_one_so"] 1 12 F_law_great_ones_right) (o_Turns : ObAt P w K mg base T "Turns" "_runs" "runs" 5 4 F_Turns_init (.tu [])) (t_of : StatAt P w K mg base T "Turns" "of" [("text" : Str)] 1 6 F_Turns_of) {f : Addr} {fd : FuncData} (F : Fun K "_law_by_hand_right" "_law_by_hand_right" s_law_by_hand_right f fd) : FnOk P w K mg base (L2.CX P w) 13 f fd [] (spD K T 0 F_law_by_hand_right) := by
  unfold F_law_by_hand_right
  refine fn_okj F sc_law_by_hand_right fun cdv A outer s H E W hr hp tk => ?_
  have nd := sc_law_by_hand_right.nd
  exact (dss_cons (ds_par (i := 3) (j := 4) rfl nd rfl rfl (by decide) rfl rfl (de_callD c_turns_of hr (by decide) tk (da_cons (de_tupleTx rfl (by rfl) Z.tuple (da_cons de_str da_nil)) da_nil)) (de_callD c_turns_of hr (by decide) tk (da_cons (de_tupleTx rfl (by rfl) Z.tuple (da_cons de_str da_nil)) da_nil)) (dPar_vv _) rfl rfl rfl rfl) (dss_cons (ds_par (i := 5) (j := 6) rfl nd rfl rfl (by decide) rfl rfl (de_callD c_turns_of hr (by decide) tk (da_cons (de_tupleTx rfl (by rfl) Z.tuple (da_cons de_str da_nil)) da_nil)) (de_callD c_turns_of hr (by decide) tk (da_cons (de_tupleTx rfl (by rfl) Z.tuple (da_cons de_str da_nil)) da_nil)) (dPar_vv _) rfl rfl rfl rfl) (dss_cons (ds_own (i := 0) nd rfl (by first | exact .inl rfl | exact .inr rfl) (df_lst (da_cons (de_tup (da_cons (de_var (pv 3)) (da_cons (de_var (pv 4)) da_nil))) (da_cons (de_tup (da_cons (de_var (pv 4)) (da_cons (de_var (pv 3)) da_nil))) (da_cons (de_tup (da_cons (de_var (pv 6)) (da_cons (de_var (pv 3)) da_nil))) (da_cons (de_tup (da_cons (de_var (pv 3)) (da_cons (de_var (pv 6)) da_nil))) da_nil)))))) (dss_cons (ds_own (i := 0) nd rfl (by first | exact .inl rfl | exact .inr rfl) (df_cat (de_var (pv 0)) (de_new (df_lst (da_cons (de_tup (da_cons (de_var (pv 3)) (da_cons (de_var (pv 3)) da_nil))) (da_cons (de_tup (da_cons (de_var (pv 4)) (da_cons (de_var (pv 5)) da_nil))) da_nil)))))) (dss_cons (ds_own (i := 0) nd rfl (by first | exact .inl rfl | exact .inr rfl) (df_cat (de_var (pv 0)) (de_new (df_lst (da_cons (de_tup (da_cons (de_callD c_turns_of hr (by decide) tk (da_cons (de_tupleTx rfl (by rfl) Z.tuple (da_cons de_str da_nil)) da_nil)) (da_cons (de_var (pv 6)) da_nil))) (da_cons (de_tup (da_cons (de_callD c_turns_of hr (by decide) tk (da_cons (de_tupleTx rfl (by rfl) Z.tuple (da_cons de_str da_nil)) da_nil)) (da_cons (de_var (pv 3)) da_nil))) da_nil)))))) (dss_cons (ds_own (i := 0) nd rfl (by first | exact .inl rfl | exact .inr rfl) (df_cat (de_var (pv 0)) (de_new (df_lst (da_cons (de_tup (da_cons (de_callD c_turns_of hr (by decide) tk (da_cons (de_tupleTx rfl (by rfl) Z.tuple (da_cons de_str da_nil)) da_nil)) (da_cons (de_var (pv 4)) da_nil))) da_nil))))) (dss_cons (ds_own (i := 0) nd rfl (by first | exact .inl rfl | exact .inr rfl) (df_cat (de_var (pv 0)) (de_new (df_lst (da_cons (de_tup (da_cons (de_ob0 o_Turns hr (by decide) tk) (da_cons (de_ob0 o_Turns hr (by decide) tk) da_nil))) da_nil))))) (dss_cons (ds_own (i := 0) nd rfl (by first | exact .inl rfl | exact .inr rfl) (df_cat (de_var (pv 0)) (de_new (df_lst (da_cons (de_tup (da_cons (de_var (pv 3)) (da_cons (de_stat t_of hr (by decide) tk (da_cons de_str da_nil)) da_nil))) (da_cons (de_tup (da_cons (de_ob0 o_Turns hr (by decide) tk) (da_cons (de_var (pv 3)) da_nil))) da_nil)))))) (dss_cons (ds_own (i := 0) nd rfl (by first | exact .inl rfl | exact .inr rfl) (df_cat (de_var (pv 0)) (de_new (df_lst (da_cons (de_tup (da_cons (de_callD c_turns_of hr (by decide) tk (da_cons (de_tupleTx rfl (by rfl) Z.tuple (da_cons de_str da_nil)) da_nil)) (da_cons (de_callD c_turns_of hr (by decide) tk (da_cons (de_tupleTx rfl (by rfl) Z.tuple (da_cons de_str da_nil)) da_nil)) da_nil))) da_nil))))) (dss_cons (ds_setLc (j := 1) (own := [("_law_own", 7), ("_law_its", 8)]) (k := (.tp [7, 8])) rfl nd rfl rfl (sw_true rfl rfl rfl (by decide +kernel)) (di_seq (de_var (pv 0))) (blkOk_by (N := N_law_by_hand_right) (sc := defScope s_law_by_hand_right) (by decide +kernel)) (by decide) (fun _ _ _ _ _ => (dg_tup (pg_tup rfl (pgs_cons (pg_name nd rfl (by first | exact .inl rfl | exact .inr rfl)) (pgs_cons (pg_name nd rfl (by first | exact .inl rfl | exact .inr rfl)) pgs_nil))) (pg_unl rfl (pgs_cons (pg_name nd rfl (by first | exact .inl rfl | exact .inr rfl)) (pgs_cons (pg_name nd rfl (by first | exact .inl rfl | exact .inr rfl)) pgs_nil))))) (fun _ _ _ _ _ => dts_nil) (fun _ _ _ _ _ => (de_callD c_law_asked hr (by decide) takes0 (da_cons (de_var (pv 7)) (da_cons (de_var (pv 8)) (da_cons de_non da_nil)))))) (dss_cons (ds_set (i := 2) nd rfl (by first | exact .inl rfl | exact .inr rfl) (de_new (df_lst (da_cons de_bl (da_cons de_bl (da_cons de_bl (da_cons de_bl (da_cons de_bl (da_cons de_bl (da_cons de_bl (da_cons de_bl (da_cons de_bl (da_cons de_bl (da_cons (de_new (df_lst (da_cons de_str (da_cons de_bl da_nil)))) da_nil)))))))))))))) (dss_cons (ds_set (i := 2) nd rfl (by first | exact .inl rfl | exact .inr rfl) (de_add (de_var (pv 2)) (de_new (df_lst (da_cons (de_new (df_lst (da_cons de_str (da_cons de_bl da_nil)))) (da_cons de_bl da_nil)))))) (dss_cons (ds_own (i := 0) nd rfl (by first | exact .inl rfl | exact .inr rfl) (df_lst (da_cons (de_tup (da_cons (de_var (pv 6)) (da_cons (de_var (pv 5)) (da_cons (de_var (pv 3)) da_nil)))) (da_cons (de_tup (da_cons (de_var (pv 6)) (da_cons (de_var (pv 5)) (da_cons (de_var (pv 4)) da_nil)))) (da_cons (de_tup (da_cons (de_var (pv 3)) (da_cons (de_var (pv 5)) (da_cons (de_var (pv 4)) da_nil)))) da_nil))))) (dss_cons (ds_own (i := 0) nd rfl (by first | exact .inl rfl | exact .inr rfl) (df_cat (de_var (pv 0)) (de_new (df_lst (da_cons (de_tup (da_cons (de_var (pv 6)) (da_cons (de_var (pv 5)) (da_cons (de_var (pv 6)) da_nil)))) da_nil))))) (dss_cons (ds_own (i := 0) nd rfl (by first | exact .inl rfl | exact .inr rfl) (df_cat (de_var (pv 0)) (de_new (df_lst (da_cons (de_tup (da_cons (de_var (pv 6)) (da_cons (de_var (pv 5)) (da_cons (de_var (pv 5)) da_nil)))) (da_cons (de_tup (da_cons (de_var (pv 5)) (da_cons (de_var (pv 6)) (da_cons (de_var (pv 3)) da_nil)))) (da_cons (de_tup (da_cons (de_var (pv 3)) (da_cons (de_var (pv 3)) (da_cons (de_var (pv 3)) da_nil)))) da_nil))))))) (dss_cons (ds_own (i := 0) nd rfl (by first | exact .inl rfl | exact .inr rfl) (df_cat (de_var (pv 0)) (de_new (df_lst (da_cons (de_tup (da_cons (de_var (pv 6)) (da_cons (de_var (pv 4)) (da_cons (de_var (pv 3)) da_nil)))) da_nil))))) (dss_cons (ds_own (i := 0) nd rfl (by first | exact .inl rfl | exact .inr rfl) (df_cat (de_var (pv 0)) (de_new (df_lst (da_cons (de_tup (da_cons (de_var (pv 3)) (da_cons (de_var (pv 5)) (da_cons (de_ob0 o_Turns hr (by decide) tk) da_nil)))) (da_cons (de_tup (da_cons (de_var (pv 3)) (da_cons (de_ob0 o_Turns hr (by decide) tk) (da_cons (de_var (pv 5)) da_nil)))) da_nil)))))) (dss_cons (ds_append (i := 0) (pv 0) (de_tup (da_cons (de_stat t_of hr (by decide) tk (da_cons de_str da_nil)) (da_cons (de_stat t_of hr (by decide) tk (da_cons de_str da_nil)) (da_cons (de_stat t_of hr (by decide) tk (da_cons de_str da_nil)) da_nil)))) rfl (ps_expr (pe_bm PySem.F.plainAttrs_list PySem.F.slot_list_append PySem.F.type_list_append mt_append (pv 0) (pa_cons (de_tup (da_cons (de_stat t_of hr (by decide) tk (da_cons de_str da_nil)) (da_cons (de_stat t_of hr (by decide) tk (da_cons de_str da_nil)) (da_cons (de_stat t_of hr (by decide) tk (da_cons de_str da_nil)) da_nil)))) pa_nil)))) (dss_cons (ds_append (i := 0) (pv 0) (de_tup (da_cons (de_stat t_of hr (by decide) tk (da_cons de_str da_nil)) (da_cons (de_stat t_of hr (by decide) tk (da_cons de_str da_nil)) (da_cons (de_stat t_of hr (by decide) tk (da_cons de_str da_nil)) da_nil)))) rfl (ps_expr (pe_bm PySem.F.plainAttrs_list PySem.F.slot_list_append PySem.F.type_list_append mt_append (pv 0) (pa_cons (de_tup (da_cons (de_stat t_of hr (by decide) tk (da_cons de_str da_nil)) (da_cons (de_stat t_of hr (by decide) tk (da_cons de_str da_nil)) (da_cons (de_stat t_of hr (by decide) tk (da_cons de_str da_nil)) da_nil)))) pa_nil)))) (dss_cons (ds_set (i := 1) nd rfl (by first | exact .inl rfl | exact .inr rfl) (de_add (de_var (pv 1)) (de_new (df_comp (own := [("_law_own", 7), ("_law_its", 8), ("_law_far", 9)]) (k := (.tp [7, 8, 9])) rfl nd (di_seq (de_var (pv 0))) (blkOk_by (N := N_law_by_hand_right) (sc := defScope s_law_by_hand_right) (by decide +kernel)) (by decide) (fun _ _ _ _ _ => (dg_tup (pg_tup rfl (pgs_cons (pg_name nd rfl (by first | exact .inl rfl | exact .inr rfl)) (pgs_cons (pg_name nd rfl (by first | exact .inl rfl | exact .inr rfl)) (pgs_cons (pg_name nd rfl (by first | exact .inl rfl | exact .inr rfl)) pgs_nil)))) (pg_unl rfl (pgs_cons (pg_name nd rfl (by first | exact .inl rfl | exact .inr rfl)) (pgs_cons (pg_name nd rfl (by first | exact .inl rfl | exact .inr rfl)) (pgs_cons (pg_name nd rfl (by first | exact .inl rfl | exact .inr rfl)) pgs_nil)))))) (fun _ _ _ _ _ => dts_nil) (fun _ _ _ _ _ => (de_callD c_law_asked hr (by decide) takes0 (da_cons (de_var (pv 7)) (da_cons (de_var (pv 8)) (da_cons (de_var (pv 9)) da_nil))))))))) (dss_cons (ds_set (i := 2) nd rfl (by first | exact .inl rfl | exact .inr rfl) (de_add (de_add (de_var (pv 2)) (de_new (df_lst (da_cons de_bl (da_cons de_bl (da_cons de_bl (da_cons de_bl (da_cons de_bl (da_cons de_bl (da_cons de_bl (da_cons de_bl da_nil))))))))))) (de_mul (de_new (df_lst (da_cons (de_new (df_lst (da_cons de_str (da_cons de_bl da_nil)))) da_nil))) de_int))) (dss_cons (ds_set (i := 0) nd rfl (by first | exact .inl rfl | exact .inr rfl) (de_tup (da_cons (de_var (pv 3)) (da_cons (de_var (pv 4)) (da_cons (de_var (pv 5)) (da_cons (de_var (pv 6)) (da_cons (de_ob0 o_Turns hr (by decide) tk) (da_cons (de_stat t_of hr (by decide) tk (da_cons de_str da_nil)) (da_cons (de_stat t_of hr (by decide) tk (da_cons de_str da_nil)) da_nil))))))))) (dss_cons (ds_set (i := 1) nd rfl (by first | exact .inl rfl | exact .inr rfl) (de_add (de_var (pv 1)) (de_new (df_comp (own := [("_law_own", 7)]) (k := (.nm 7)) rfl nd (di_seq (de_var (pv 0))) (blkOk_by (N := N_law_by_hand_right) (sc := defScope s_law_by_hand_right) (by decide +kernel)) (by decide) (fun _ _ _ _ _ => (dg_name nd rfl (by first | exact .inl rfl | exact .inr rfl))) (fun _ _ _ _ _ => dts_nil) (fun _ _ _ _ _ => (de_callD c_height hr (by decide) takes0 (da_cons (de_var (pv 7)) da_nil))))))) (dss_cons (ds_set (i := 2) nd rfl (by first | exact .inl rfl | exact .inr rfl) (de_add (de_var (pv 2)) (de_new (df_lst (da_cons de_int (da_cons de_int (da_cons de_int (da_cons de_int (da_cons de_int (da_cons de_int (da_cons de_int da_nil))))))))))) (dss_one (ds_ret (de_and (de_callD c_law_same hr (by decide) tk (da_cons (de_var (pv 1)) (da_cons (de_var (pv 2)) da_nil))) (de_one (de_callD c_law_great_ones_right hr (by decide) tk (da_cons (de_var (pv 3)) da_nil))))))))))))))))))))))))))))))
/-! _law_take -/
abbrev s_law_take : Stmt := topS 36
abbrev N_law_take : List Str := ["_law_box_here", "_law_size_so", "_law_once", "_law_far", "_law_again", "_law_drawn_so"]
theorem sc_law_take : FnScope N_law_take ["_law_box_here", "_law_size_so"] (defScope s_law_take) := ⟨rfl, rfl, rfl, by decide +kernel, rfl, by decide +kernel, by decide +kernel⟩
def B_law_take : S → R Out := (dSeq (dIf (dBinB hGt (dBin hIx (dV 0) (dC (.int 0))) (dC (.int 0))) (dSeq (dSet 5 (dBin hMod (dCB hInt (dCons (dBin hIx (dV 0) (dC (.int 0))) dNil)) (dV 1))) (dSeq (dSetIx 0 (dBin hDiv (dBin hIx (dV 0) (dC (.int 0))) (dV 1)) (dC (.int 0))) (dRet (dV 5)))) dNext) (dSeq (dSetIx 0 (dBin hAdd (dBin hIx (dV 0) (dC (.int 2))) (dC (.int 1))) (dC (.int 2))) (dSeq (dSet 2 (dBin hMod (dCB hInt (dCons (dBin hMul (dBin hAdd (dBin hIx (dV 0) (dC (.int 1))) (dBin hMul (dC (.int 48271)) (dBin hIx (dV 0) (dC (.int 2))))) (dBin hAdd (dC (.int 39373)) (dBin hIx (dV 0) (dC (.int 2))))) dNil)) (dC (.int 2147483647)))) (dSeq (dSet 3 (dBin hAdd (dBin hMod (dCB hInt (dCons (dV 2) dNil)) (dC (.int 40009))) (dC (.int 7)))) (dSeq (dSet 4 (dBin hMod (dCB hInt (dCons (dBin hMul (dBin hAdd (dBin hAdd (dV 2) (dBin hIx (dV 0) (dC (.int 2)))) (dBin hDiv (dBin hIx (dV 0) (dC (.int 1))) (dC (.int 1000003)))) (dV 3)) dNil)) (dC (.int 2147483629)))) (dRet (dBin hMod (dCB hInt (dCons (dBin hDiv (dBin hMod (dCB hInt (dCons (dBin hAdd (dBin hMul (dV 4) (dC (.int 48271))) (dV 2)) dNil)) (dC (.int 2147483587))) (dC (.int 64))) dNil)) (dV 1))))))))
def F_law_take : Fn := runFn 2 6 B_law_take
theorem ok_law_take (Z : Bi mg) {f : Addr} {fd : FuncData} (F : Fun K "_law_take" "_law_take" s_law_take f fd) : FnOk P w K mg base (L2.CX P w) 1 f fd ["_law_box_here", "_law_size_so"] (spD K T 2 F_law_take) := by
  refine fn_okj F sc_law_take fun cdv A outer s H E W hr hp tk => ?_
  have nd := sc_law_take.nd
  exact (dss_cons (ds_if (dt_gt (de_ix (de_var (pv 0)) de_int) de_int) (dss_cons (ds_set (i := 5) nd rfl (by first | exact .inl rfl | exact .inr rfl) (de_mod (de_intc (by rfl) Z.int (da_cons (de_ix (de_var (pv 0)) de_int) da_nil)) (de_var (pv 1)))) (dss_cons (ds_setIx (i := 0) (pv 0) de_int (de_div (de_ix (de_var (pv 0)) de_int) (de_var (pv 1))) (ps_asg (de_div (de_ix (de_var (pv 0)) de_int) (de_var (pv 1))) (pg_sub (pv 0) de_int set_list))) (dss_one (ds_ret (de_var (pv 5)))))) dss_nil) (dss_cons (ds_setIx (i := 0) (pv 0) de_int (de_add (de_ix (de_var (pv 0)) de_int) de_int) (ps_asg (de_add (de_ix (de_var (pv 0)) de_int) de_int) (pg_sub (pv 0) de_int set_list))) (dss_cons (ds_set (i := 2) nd rfl (by first | exact .inl rfl | exact .inr rfl) (de_mod (de_intc (by rfl) Z.int (da_cons (de_mul (de_add (de_ix (de_var (pv 0)) de_int) (de_mul de_int (de_ix (de_var (pv 0)) de_int))) (de_add de_int (de_ix (de_var (pv 0)) de_int))) da_nil)) de_int)) (dss_cons (ds_set (i := 3) nd rfl (by first | exact .inl rfl | exact .inr rfl) (de_add (de_mod (de_intc (by rfl) Z.int (da_cons (de_var (pv 2)) da_nil)) de_int) de_int)) (dss_cons (ds_set (i := 4) nd rfl (by first | exact .inl rfl | exact .inr rfl) (de_mod (de_intc (by rfl) Z.int (da_cons (de_mul (de_add (de_add (de_var (pv 2)) (de_ix (de_var (pv 0)) de_int)) (de_div (de_ix (de_var (pv 0)) de_int) de_int)) (de_var (pv 3))) da_nil)) de_int)) (dss_one (ds_ret (de_mod (de_intc (by rfl) Z.int (da_cons (de_div (de_mod (de_intc (by rfl) Z.int (da_cons (de_add (de_mul (de_var (pv 4)) de_int) (de_var (pv 2))) da_nil)) de_int) de_int) da_nil)) (de_var (pv 1))))))))))
/-! _law_of -/
abbrev s_law_of : Stmt := topS 38
abbrev N_law_of : List Str := ["_law_box_here", "_law_goods_so"]
theorem sc_law_of : FnScope N_law_of ["_law_box_here", "_law_goods_so"] (defScope s_law_of) := ⟨rfl, rfl, rfl, by decide +kernel, rfl, by decide +kernel, by decide +kernel⟩
def B_law_of : S → R Out := (dRet (dBin hIx (dV 1) (dCall 2 F_law_take [] (dCons (dV 0) (dCons (dCB hLen (dCons (dV 1) dNil)) dNil)))))
def F_law_of : Fn := runFn 2 2 B_law_of
theorem ok_law_of (Z : Bi mg) (c_law_take : DefAt P w K mg base T "_law_take" ["_law_box_here", "_law_size_so"] 2 1 F_law_take) {f : Addr} {fd : FuncData} (F : Fun K "_law_of" "_law_of" s_law_of f fd) : FnOk P w K mg base (L2.CX P w) 2 f fd ["_law_box_here", "_law_goods_so"] (spD K T 2 F_law_of) := by
  refine fn_okj F sc_law_of fun cdv A outer s H E W hr hp tk => ?_
  have nd := sc_law_of.nd
  exact (dss_one (ds_ret (de_ix (de_var (pv 1)) (de_callD c_law_take hr (by decide) tk (da_cons (de_var (pv 0)) (da_cons (de_len (by rfl) Z.len (da_cons (de_var (pv 1)) da_nil)) da_nil))))))
/-! _law_word -/
abbrev s_law_word : Stmt := topS 43
abbrev N_law_word : List Str := ["_law_box_here", "_law_size_so", "_law_turn"]
theorem sc_law_word : FnScope N_law_word ["_law_box_here", "_law_size_so"] (defScope s_law_word) := ⟨rfl, rfl, rfl, by decide +kernel, rfl, by decide +kernel, by decide +kernel⟩
def B_law_word : S → R Out := (dRet (dCB hTupOf (dCons (dClose (dComp (.nm 2) [2] (dCBF hRange1 (dCons (dV 1) dNil)) dYes (dCall 2 F_law_of [] (dCons (dV 0) (dCons (dClose (dLst (dCons (dC (.str "a")) (dCons (dC (.str "b")) dNil)))) dNil))))) dNil)))
def F_law_word : Fn := runFn 2 3 B_law_word
theorem ok_law_word (Z : Bi mg) (c_law_of : DefAt P w K mg base T "_law_of" ["_law_box_here", "_law_goods_so"] 2 2 F_law_of) {f : Addr} {fd : FuncData} (F : Fun K "_law_word" "_law_word" s_law_word f fd) : FnOk P w K mg base (L2.CX P w) 3 f fd ["_law_box_here", "_law_size_so"] (spD K T 2 F_law_word) := by
  refine fn_okj F sc_law_word fun cdv A outer s H E W hr hp tk => ?_
  have nd := sc_law_word.nd
  exact (dss_one (ds_ret (de_tupleOf (by rfl) Z.tuple (da_cons (de_new (df_comp (own := [("_law_turn", 2)]) (k := (.nm 2)) rfl nd (di_range1 (by rfl) Z.range (da_cons (de_var (pv 1)) da_nil)) (blkOk_by (N := N_law_word) (sc := defScope s_law_word) (by decide +kernel)) (by decide) (fun _ _ _ _ _ => (dg_name nd rfl (by first | exact .inl rfl | exact .inr rfl))) (fun _ _ _ _ _ => dts_nil) (fun _ _ _ _ _ => (de_callD c_law_of hr (by decide) takes0 (da_cons (de_var (pv 0)) (da_cons (de_new (df_lst (da_cons de_str (da_cons de_str da_nil)))) da_nil)))))) da_nil))))
/-! _law_near -/
abbrev s_law_near : Stmt := topS 44
abbrev N_law_near : List Str := ["_law_box_here", "_law_flat_so", "_law_found", "_law_turn", "_law_k"]
theorem sc_law_near : FnScope N_law_near ["_law_box_here", "_law_flat_so"] (defScope s_law_near) := ⟨rfl, rfl, rfl, by decide +kernel, rfl, by decide +kernel, by decide +kernel⟩
def B_law_near : S → R Out := (dSeq (dOwn 2 (dCBF hListOf (dCons (dV 1) dNil))) (dSeq (dFor (.nm 3) (dCBF hRange1 (dCons (dLend 2 (dBin hMul (dCall 2 F_law_take [] (dCons (dV 0) (dCons (dC (.int 4)) dNil))) (dCB hInt (dCons (dOfB (dBinB hGt (dCB hLen (dCons (dV 2) dNil)) (dC (.int 1)))) dNil)))) dNil)) (dSeq (dSet 4 (dCall 2 F_law_take [] (dCons (dV 0) (dCons (dLend 2 (dBin hSub (dCB hLen (dCons (dV 2) dNil)) (dC (.int 1)))) dNil)))) (dOwn 2 (dLendF 2 (dCat (dBin hAdd (dSlice (dV 2) dNoP (dPart (dV 4))) (dUn hBack (dSlice (dV 2) (dPart (dV 4)) (dPart (dBin hAdd (dV 4) (dC (.int 2))))))) (dSlice (dV 2) (dPart (dBin hAdd (dV 4) (dC (.int 2)))) dNoP)))))) (dSeq (dIf (dLendB 2 (dAnd (dBinB hNe (dV 2) (dClose (dLst dNil))) (dBinB hEq (dCall 2 F_law_take [] (dCons (dV 0) (dCons (dC (.int 3)) dNil))) (dC (.int 0))))) (dSetIx 2 (dCall 2 F_law_of [] (dCons (dV 0) (dCons (dClose (dLst (dCons (dC (.str "a")) (dCons (dC (.str "b")) dNil)))) dNil))) (dCall 2 F_law_take [] (dCons (dV 0) (dCons (dLend 2 (dCB hLen (dCons (dV 2) dNil))) dNil)))) dNext) (dRet (dCB hTupOf (dCons (dV 2) dNil))))))
def F_law_near : Fn := runFn 2 5 B_law_near
theorem ok_law_near (Z : Bi mg) (c_law_take : DefAt P w K mg base T "_law_take" ["_law_box_here", "_law_size_so"] 2 1 F_law_take) (c_law_of : DefAt P w K mg base T "_law_of" ["_law_box_here", "_law_goods_so"] 2 2 F_law_of) {f : Addr} {fd : FuncData} (F : Fun K "_law_near" "_law_near" s_law_near f fd) : FnOk P w K mg base (L2.CX P w) 3 f fd ["_law_box_here", "_law_flat_so"] (spD K T 2 F_law_near) := by
  refine fn_okj F sc_law_near fun cdv A outer s H E W hr hp tk => ?_
  have nd := sc_law_near.nd
  exact (dss_cons (ds_own (i := 2) nd rfl (by first | exact .inl rfl | exact .inr rfl) (df_list (by rfl) Z.list (da_cons (de_var (pv 1)) da_nil))) (dss_cons (ds_for hp rfl (di_range1 (by rfl) Z.range (da_cons (de_lend 2 (de_mul (de_callD c_law_take hr (by decide) tk (da_cons (de_var (pv 0)) (da_cons de_int da_nil))) (de_intc (by rfl) Z.int (da_cons (de_gt (de_len (by rfl) Z.len (da_cons (de_var (pv 2)) da_nil)) de_int) da_nil)))) da_nil)) (dg_name nd rfl (by first | exact .inl rfl | exact .inr rfl)) (dss_cons (ds_set (i := 4) nd rfl (by first | exact .inl rfl | exact .inr rfl) (de_callD c_law_take hr (by decide) tk (da_cons (de_var (pv 0)) (da_cons (de_lend 2 (de_sub (de_len (by rfl) Z.len (da_cons (de_var (pv 2)) da_nil)) de_int)) da_nil)))) (dss_one (ds_own (i := 2) nd rfl (by first | exact .inl rfl | exact .inr rfl) (df_lend 2 (df_cat (de_add (de_slice (de_var (pv 2)) do_none (do_some (de_var (pv 4)))) (de_back (de_slice (de_var (pv 2)) (do_some (de_var (pv 4))) (do_some (de_add (de_var (pv 4)) de_int))))) (de_slice (de_var (pv 2)) (do_some (de_add (de_var (pv 4)) de_int)) do_none))))))) (dss_cons (ds_if (dt_lend 2 (dt_bool (dw_and (dt_ne hr.units (de_var (pv 2)) (de_new (df_lst da_nil))) (dw_and1 (dt_eq hr.units (de_callD c_law_take hr (by decide) tk (da_cons (de_var (pv 0)) (da_cons de_int da_nil))) de_int))))) (dss_one (ds_setIx (i := 2) (pv 2) (de_callD c_law_take hr (by decide) tk (da_cons (de_var (pv 0)) (da_cons (de_lend 2 (de_len (by rfl) Z.len (da_cons (de_var (pv 2)) da_nil))) da_nil))) (de_callD c_law_of hr (by decide) tk (da_cons (de_var (pv 0)) (da_cons (de_new (df_lst (da_cons de_str (da_cons de_str da_nil)))) da_nil))) (ps_asg (de_callD c_law_of hr (by decide) tk (da_cons (de_var (pv 0)) (da_cons (de_new (df_lst (da_cons de_str (da_cons de_str da_nil)))) da_nil))) (pg_sub (pv 2) (de_callD c_law_take hr (by decide) tk (da_cons (de_var (pv 0)) (da_cons (de_lend 2 (de_len (by rfl) Z.len (da_cons (de_var (pv 2)) da_nil))) da_nil))) set_list)))) dss_nil) (dss_one (ds_ret (de_tupleOf (by rfl) Z.tuple (da_cons (de_var (pv 2)) da_nil)))))))
/-! _law_sums -/
abbrev s_law_sums : Stmt := topS 45
abbrev N_law_sums : List Str := ["_law_flat_so", "_law_k", "_law_own"]
theorem sc_law_sums : FnScope N_law_sums ["_law_flat_so"] (defScope s_law_sums) := ⟨rfl, rfl, rfl, by decide +kernel, rfl, by decide +kernel, by decide +kernel⟩
def B_law_sums : S → R Out := (dRetF (dComp (.nm 1) [1] (dCBF hRange1 (dCons (dBin hAdd (dCB hLen (dCons (dV 0) dNil)) (dC (.int 1))) dNil)) dYes (dCB hLen (dCons (dClose (dComp (.nm 2) [2] (dSeqI (dSlice (dV 0) dNoP (dPart (dV 1)))) (dBinB hEq (dV 2) (dC (.str "a"))) (dV 2))) dNil))))
def F_law_sums : Fn := runFn 1 3 B_law_sums
theorem ok_law_sums (Z : Bi mg) {f : Addr} {fd : FuncData} (F : Fun K "_law_sums" "_law_sums" s_law_sums f fd) : FnOk P w K mg base (L2.CX P w) 1 f fd ["_law_flat_so"] (spD K T 1 F_law_sums) := by
  refine fn_okj F sc_law_sums fun cdv A outer s H E W hr hp tk => ?_
  have nd := sc_law_sums.nd
  exact (dss_one (ds_retF (df_comp (own := [("_law_k", 1)]) (k := (.nm 1)) rfl nd (di_range1 (by rfl) Z.range (da_cons (de_add (de_len (by rfl) Z.len (da_cons (de_var (pv 0)) da_nil)) de_int) da_nil)) (blkOk_by (N := N_law_sums) (sc := defScope s_law_sums) (by decide +kernel)) (by decide) (fun _ _ _ _ _ => (dg_name nd rfl (by first | exact .inl rfl | exact .inr rfl))) (fun _ _ _ _ _ => dts_nil) (fun _ _ _ _ _ => (de_len (by rfl) Z.len (da_cons (de_new (df_comp (own := [("_law_own", 2)]) (k := (.nm 2)) rfl nd (di_seq (de_slice (de_var (pv 0)) do_none (do_some (de_var (pv 1))))) (by dsimp only [L2.Cx.blk, compEnvC, L2.cxOf]; exact blkOk_by (N := N_law_sums) (by kernel_rfl)) (by decide) (fun _ _ _ _ _ => (dg_name nd rfl (by first | exact .inl rfl | exact .inr rfl))) (fun _ _ _ _ _ => (dts_one (dt_eq hr.units (de_var (pv 2)) de_str))) (fun _ _ _ _ _ => (de_var (pv 2))))) da_nil))))))
/-! _law_over -/
abbrev s_law_over : Stmt := topS 46
abbrev N_law_over : List Str := ["_law_mine_so", "_law_its_so", "_law_a_so", "_law_b_so"]
theorem sc_law_over : FnScope N_law_over ["_law_mine_so", "_law_its_so"] (defScope s_law_over) := ⟨rfl, rfl, rfl, by decide +kernel, rfl, by decide +kernel, by decide +kernel⟩
def B_law_over : S → R Out := (dRet (dCB hAll (dCons (dClose (dComp (.tp [2, 3]) [2, 3] (dCBF hZip (dCons (dCall 1 F_law_sums [] (dCons (dV 0) dNil)) (dCons (dCall 1 F_law_sums [] (dCons (dV 1) dNil)) dNil))) dYes (dOfB (dBinB hGe (dV 2) (dV 3))))) dNil)))
def F_law_over : Fn := runFn 2 4 B_law_over
theorem ok_law_over (Z : Bi mg) (c_law_sums : DefAt P w K mg base T "_law_sums" ["_law_flat_so"] 1 1 F_law_sums) {f : Addr} {fd : FuncData} (F : Fun K "_law_over" "_law_over" s_law_over f fd) : FnOk P w K mg base (L2.CX P w) 2 f fd ["_law_mine_so", "_law_its_so"] (spD K T 2 F_law_over) := by
  refine fn_okj F sc_law_over fun cdv A outer s H E W hr hp tk => ?_
  have nd := sc_law_over.nd
  exact (dss_one (ds_ret (de_all rfl (by rfl) Z.all (da_cons (de_new (df_comp (own := [("_law_a_so", 2), ("_law_b_so", 3)]) (k := (.tp [2, 3])) rfl nd (di_zip (by rfl) Z.zip (da_cons (de_callD c_law_sums hr (by decide) tk (da_cons (de_var (pv 0)) da_nil)) (da_cons (de_callD c_law_sums hr (by decide) tk (da_cons (de_var (pv 1)) da_nil)) da_nil))) (blkOk_by (N := N_law_over) (sc := defScope s_law_over) (by decide +kernel)) (by decide) (fun _ _ _ _ _ => (dg_tup (pg_tup rfl (pgs_cons (pg_name nd rfl (by first | exact .inl rfl | exact .inr rfl)) (pgs_cons (pg_name nd rfl (by first | exact .inl rfl | exact .inr rfl)) pgs_nil))) (pg_unl rfl (pgs_cons (pg_name nd rfl (by first | exact .inl rfl | exact .inr rfl)) (pgs_cons (pg_name nd rfl (by first | exact .inl rfl | exact .inr rfl)) pgs_nil))))) (fun _ _ _ _ _ => dts_nil) (fun _ _ _ _ _ => (de_ge (de_var (pv 2)) (de_var (pv 3)))))) da_nil))))
/-! _law_case_right -/
abbrev s_law_case_right : Stmt := topS 50
abbrev N_law_case_right : List Str := ["_law_box_here", "_law_flat_so", "_law_its_so", "_law_far_so", "_law_got", "_law_due", "_law_more", "_law_one_so", "_law_other_so", "_law_third_so"]
theorem sc_law_case_right : FnScope N_law_case_right ["_law_box_here", "_law_flat_so", "_law_its_so", "_law_far_so"] (defScope s_law_case_right) := ⟨rfl, rfl, rfl, by decide +kernel, rfl, by decide +kernel, by decide +kernel⟩
def B_law_case_right : S → R Out := (dSeq (dPar3 7 8 9 (dCons (dCall 1 F_turns_of [] (dCons (dV 1) dNil)) (dCons (dCall 1 F_turns_of [] (dCons (dV 2) dNil)) (dCons (dCall 1 F_turns_of [] (dCons (dV 3) dNil)) dNil)))) (dSeq (dSet 4 (dClose (dLst (dCons (dCall 2 F_is_above [] (dCons (dV 7) (dCons (dV 8) dNil))) (dCons (dCall 2 F_is_above [] (dCons (dV 8) (dCons (dV 7) dNil))) (dCons (dCall 3 F_is_between [] (dCons (dV 7) (dCons (dV 8) (dCons (dV 9) dNil)))) dNil)))))) (dSeq (dSet 4 (dBin hAdd (dV 4) (dClose (dLst (dCons (dCall 3 F_is_between [] (dCons (dV 8) (dCons (dV 7) (dCons (dV 9) dNil)))) (dCons (dCall 1 F_height [] (dCons (dV 7) dNil)) (dCons (dCall 1 F_height [] (dCons (dV 9) dNil)) dNil))))))) (dSeq (dSet 4 (dBin hAdd (dV 4) (dClose (dLst (dCons (dCall 2 F_is_above [] (dCons (dV 7) (dCons (dV 7) dNil))) dNil))))) (dSeq (dOwn 5 (dLst (dCons (dCall 2 F_law_over [] (dCons (dV 1) (dCons (dV 2) dNil))) (dCons (dCall 2 F_law_over [] (dCons (dV 2) (dCons (dV 1) dNil))) dNil)))) (dSeq (dApp 5 (dAndV (dCall 2 F_law_over [] (dCons (dV 1) (dCons (dV 3) dNil))) (dCall 2 F_law_over [] (dCons (dV 3) (dCons (dV 2) dNil))))) (dSeq (dApp 5 (dAndV (dCall 2 F_law_over [] (dCons (dV 2) (dCons (dV 3) dNil))) (dCall 2 F_law_over [] (dCons (dV 3) (dCons (dV 1) dNil))))) (dSeq (dIf (dLendB 5 (dNot (dTru (dCall 2 (F_law_same 8) [] (dCons (dV 4) (dCons (dBin hAdd (dV 5) (dClose (dLst (dCons (dCB hSum (dCons (dCall 1 F_law_sums [] (dCons (dV 1) dNil)) dNil)) (dCons (dCB hSum (dCons (dCall 1 F_law_sums [] (dCons (dV 3) dNil)) dNil)) (dCons (dC (.bl true)) dNil)))))) dNil)))))) (dRet (dC (.bl false))) dNext) (dSeq (dSet 6 (dCall 1 F_turns_of [] (dCons (dBin hAdd (dV 2) (dTup (dCons (dC (.str "a")) dNil))) dNil))) (dSeq (dSet 4 (dClose (dLst (dCons (dCall 3 F_law_asked [] (dCons (dV 7) (dCons (dV 6) (dCons (dC .non) dNil)))) (dCons (dCall 3 F_law_asked [] (dCons (dV 6) (dCons (dV 7) (dCons (dC .non) dNil)))) dNil))))) (dSeq (dSet 4 (dBin hAdd (dV 4) (dClose (dLst (dCons (dCall 3 F_law_asked [] (dCons (dV 7) (dCons (dV 8) (dCons (dV 6) dNil)))) dNil))))) (dRet (dCall 2 (F_law_same 8) [] (dCons (dV 4) (dCons (dBin hMul (dClose (dLst (dCons (dClose (dLst (dCons (dC (.str "unlike")) (dCons (dC (.bl true)) dNil)))) dNil))) (dC (.int 3))) dNil)))))))))))))))
def F_law_case_right : Fn := runFn 4 10 B_law_case_right
theorem ok_law_case_right (Z : Bi mg) (c_turns_of : DefAt P w K mg base T "turns_of" ["heirs_told"] 1 6 F_turns_of) (c_is_between : DefAt P w K mg base T "is_between" ["one", "other", "third"] 3 11 F_is_between) (c_is_above : DefAt P w K mg base T "is_above" ["one", "other"] 2 10 F_is_above) (c_height : DefAt P w K mg base T "height" ["turns"] 1 4 F_height) (c_law_over : DefAt P w K mg base T "_law_over" ["_law_mine_so", "_law_its_so"] 2 2 F_law_over) (c_law_sums : DefAt P w K mg base T "_law_sums" ["_law_flat_so"] 1 1 F_law_sums) (c_law_same : DefAt P w K mg base T "_law_same" ["_law_got", "_law_due"] 2 9 (F_law_same 8)) (c_law_asked : DefAt P w K mg base T "_law_asked" ["_law_one_so", "_law_other_so", "_law_third_so"] 3 12 F_law_asked) {f : Addr} {fd : FuncData} (F : Fun K "_law_case_right" "_law_case_right" s_law_case_right f fd) : FnOk P w K mg base (L2.CX P w) 13 f fd ["_law_box_here", "_law_flat_so", "_law_its_so", "_law_far_so"] (spD K T 4 F_law_case_right) := by
  refine fn_okj F sc_law_case_right fun cdv A outer s H E W hr hp tk => ?_
  have nd := sc_law_case_right.nd
  exact (dss_cons (ds_par3 (i := 7) (j := 8) (l := 9) rfl nd rfl rfl rfl (by decide) (by decide) (by decide) rfl rfl rfl (da_cons (de_callD c_turns_of hr (by decide) tk (da_cons (de_var (pv 1)) da_nil)) (da_cons (de_callD c_turns_of hr (by decide) tk (da_cons (de_var (pv 2)) da_nil)) (da_cons (de_callD c_turns_of hr (by decide) tk (da_cons (de_var (pv 3)) da_nil)) da_nil))) rfl rfl) (dss_cons (ds_set (i := 4) nd rfl (by first | exact .inl rfl | exact .inr rfl) (de_new (df_lst (da_cons (de_callD c_is_above hr (by decide) tk (da_cons (de_var (pv 7)) (da_cons (de_var (pv 8)) da_nil))) (da_cons (de_callD c_is_above hr (by decide) tk (da_cons (de_var (pv 8)) (da_cons (de_var (pv 7)) da_nil))) (da_cons (de_callD c_is_between hr (by decide) tk (da_cons (de_var (pv 7)) (da_cons (de_var (pv 8)) (da_cons (de_var (pv 9)) da_nil)))) da_nil)))))) (dss_cons (ds_set (i := 4) nd rfl (by first | exact .inl rfl | exact .inr rfl) (de_add (de_var (pv 4)) (de_new (df_lst (da_cons (de_callD c_is_between hr (by decide) tk (da_cons (de_var (pv 8)) (da_cons (de_var (pv 7)) (da_cons (de_var (pv 9)) da_nil)))) (da_cons (de_callD c_height hr (by decide) tk (da_cons (de_var (pv 7)) da_nil)) (da_cons (de_callD c_height hr (by decide) tk (da_cons (de_var (pv 9)) da_nil)) da_nil))))))) (dss_cons (ds_set (i := 4) nd rfl (by first | exact .inl rfl | exact .inr rfl) (de_add (de_var (pv 4)) (de_new (df_lst (da_cons (de_callD c_is_above hr (by decide) tk (da_cons (de_var (pv 7)) (da_cons (de_var (pv 7)) da_nil))) da_nil))))) (dss_cons (ds_own (i := 5) nd rfl (by first | exact .inl rfl | exact .inr rfl) (df_lst (da_cons (de_callD c_law_over hr (by decide) tk (da_cons (de_var (pv 1)) (da_cons (de_var (pv 2)) da_nil))) (da_cons (de_callD c_law_over hr (by decide) tk (da_cons (de_var (pv 2)) (da_cons (de_var (pv 1)) da_nil))) da_nil)))) (dss_cons (ds_append (i := 5) (pv 5) (de_and (de_callD c_law_over hr (by decide) tk (da_cons (de_var (pv 1)) (da_cons (de_var (pv 3)) da_nil))) (de_one (de_callD c_law_over hr (by decide) tk (da_cons (de_var (pv 3)) (da_cons (de_var (pv 2)) da_nil))))) rfl (ps_expr (pe_bm PySem.F.plainAttrs_list PySem.F.slot_list_append PySem.F.type_list_append mt_append (pv 5) (pa_cons (de_and (de_callD c_law_over hr (by decide) tk (da_cons (de_var (pv 1)) (da_cons (de_var (pv 3)) da_nil))) (de_one (de_callD c_law_over hr (by decide) tk (da_cons (de_var (pv 3)) (da_cons (de_var (pv 2)) da_nil))))) pa_nil)))) (dss_cons (ds_append (i := 5) (pv 5) (de_and (de_callD c_law_over hr (by decide) tk (da_cons (de_var (pv 2)) (da_cons (de_var (pv 3)) da_nil))) (de_one (de_callD c_law_over hr (by decide) tk (da_cons (de_var (pv 3)) (da_cons (de_var (pv 1)) da_nil))))) rfl (ps_expr (pe_bm PySem.F.plainAttrs_list PySem.F.slot_list_append PySem.F.type_list_append mt_append (pv 5) (pa_cons (de_and (de_callD c_law_over hr (by decide) tk (da_cons (de_var (pv 2)) (da_cons (de_var (pv 3)) da_nil))) (de_one (de_callD c_law_over hr (by decide) tk (da_cons (de_var (pv 3)) (da_cons (de_var (pv 1)) da_nil))))) pa_nil)))) (dss_cons (ds_if (dt_lend 5 (dt_not (dt_tru (de_callD c_law_same hr (by decide) tk (da_cons (de_var (pv 4)) (da_cons (de_add (de_var (pv 5)) (de_new (df_lst (da_cons (de_sum rfl (by rfl) Z.sum (da_cons (de_callD c_law_sums hr (by decide) tk (da_cons (de_var (pv 1)) da_nil)) da_nil)) (da_cons (de_sum rfl (by rfl) Z.sum (da_cons (de_callD c_law_sums hr (by decide) tk (da_cons (de_var (pv 3)) da_nil)) da_nil)) (da_cons de_bl da_nil)))))) da_nil)))))) (dss_one (ds_ret de_bl)) dss_nil) (dss_cons (ds_set (i := 6) nd rfl (by first | exact .inl rfl | exact .inr rfl) (de_callD c_turns_of hr (by decide) tk (da_cons (de_add (de_var (pv 2)) (de_tup (da_cons de_str da_nil))) da_nil))) (dss_cons (ds_set (i := 4) nd rfl (by first | exact .inl rfl | exact .inr rfl) (de_new (df_lst (da_cons (de_callD c_law_asked hr (by decide) tk (da_cons (de_var (pv 7)) (da_cons (de_var (pv 6)) (da_cons de_non da_nil)))) (da_cons (de_callD c_law_asked hr (by decide) tk (da_cons (de_var (pv 6)) (da_cons (de_var (pv 7)) (da_cons de_non da_nil)))) da_nil))))) (dss_cons (ds_set (i := 4) nd rfl (by first | exact .inl rfl | exact .inr rfl) (de_add (de_var (pv 4)) (de_new (df_lst (da_cons (de_callD c_law_asked hr (by decide) tk (da_cons (de_var (pv 7)) (da_cons (de_var (pv 8)) (da_cons (de_var (pv 6)) da_nil)))) da_nil))))) (dss_one (ds_ret (de_callD c_law_same hr (by decide) tk (da_cons (de_var (pv 4)) (da_cons (de_mul (de_new (df_lst (da_cons (de_new (df_lst (da_cons de_str (da_cons de_bl da_nil)))) da_nil))) de_int) da_nil))))))))))))))))
/-! _law_much -/
abbrev s_law_much : Stmt := topS 41
abbrev N_law_much : List Str := ["_law_box_here", "_law_high_so"]
theorem sc_law_much : FnScope N_law_much ["_law_box_here", "_law_high_so"] (defScope s_law_much) := ⟨rfl, rfl, rfl, by decide +kernel, rfl, by decide +kernel, by decide +kernel⟩
def B_law_much : S → R Out := (dSeq (dIf (dBinB hLt (dV 1) (dBin hPow (dC (.int 10)) (dC (.int 6)))) (dRet (dBin hAdd (dC (.int 1)) (dCall 2 F_law_take [] (dCons (dV 0) (dCons (dV 1) dNil))))) dNext) (dRet (dBin hAdd (dBin hMul (dBin hAdd (dC (.int 1)) (dCall 2 F_law_take [] (dCons (dV 0) (dCons (dC (.int 9)) dNil)))) (dBin hDiv (dV 1) (dC (.int 10)))) (dCall 2 F_law_take [] (dCons (dV 0) (dCons (dBin hPow (dC (.int 10)) (dC (.int 6))) dNil))))))
def F_law_much : Fn := runFn 2 2 B_law_much
theorem ok_law_much (Z : Bi mg) (c_law_take : DefAt P w K mg base T "_law_take" ["_law_box_here", "_law_size_so"] 2 1 F_law_take) {f : Addr} {fd : FuncData} (F : Fun K "_law_much" "_law_much" s_law_much f fd) : FnOk P w K mg base (L2.CX P w) 2 f fd ["_law_box_here", "_law_high_so"] (spD K T 2 F_law_much) := by
  refine fn_okj F sc_law_much fun cdv A outer s H E W hr hp tk => ?_
  have nd := sc_law_much.nd
  exact (dss_cons (ds_if (dt_lt (de_var (pv 1)) (de_pow de_int de_int)) (dss_one (ds_ret (de_add de_int (de_callD c_law_take hr (by decide) tk (da_cons (de_var (pv 0)) (da_cons (de_var (pv 1)) da_nil)))))) dss_nil) (dss_one (ds_ret (de_add (de_mul (de_add de_int (de_callD c_law_take hr (by decide) tk (da_cons (de_var (pv 0)) (da_cons de_int da_nil)))) (de_div (de_var (pv 1)) de_int)) (de_callD c_law_take hr (by decide) tk (da_cons (de_var (pv 0)) (da_cons (de_pow de_int de_int) da_nil)))))))
/-! _law_bits -/
abbrev s_law_bits : Stmt := topS 42
abbrev N_law_bits : List Str := ["_law_box_here", "_law_most_so", "_law_high_so", "_law_found", "_law_turn"]
theorem sc_law_bits : FnScope N_law_bits ["_law_box_here", "_law_most_so", "_law_high_so"] (defScope s_law_bits) := ⟨rfl, rfl, rfl, by decide +kernel, rfl, by decide +kernel, by decide +kernel⟩
def B_law_bits : S → R Out := (dSeq (dOwn 3 (dLst dNil)) (dSeq (dFor (.nm 4) (dCBF hRange1 (dCons (dCall 2 F_law_take [] (dCons (dV 0) (dCons (dBin hAdd (dV 1) (dC (.int 1))) dNil))) dNil)) (dApp 3 (dTup (dCons (dCall 2 F_law_of [] (dCons (dV 0) (dCons (dClose (dLst (dCons (dC (.str "a")) (dCons (dC (.str "b")) dNil)))) dNil))) (dCons (dCall 2 F_law_much [] (dCons (dV 0) (dCons (dV 2) dNil))) dNil))))) (dRet (dCB hTupOf (dCons (dV 3) dNil)))))
def F_law_bits : Fn := runFn 3 5 B_law_bits
theorem ok_law_bits (Z : Bi mg) (c_law_take : DefAt P w K mg base T "_law_take" ["_law_box_here", "_law_size_so"] 2 1 F_law_take) (c_law_much : DefAt P w K mg base T "_law_much" ["_law_box_here", "_law_high_so"] 2 2 F_law_much) (c_law_of : DefAt P w K mg base T "_law_of" ["_law_box_here", "_law_goods_so"] 2 2 F_law_of) {f : Addr} {fd : FuncData} (F : Fun K "_law_bits" "_law_bits" s_law_bits f fd) : FnOk P w K mg base (L2.CX P w) 3 f fd ["_law_box_here", "_law_most_so", "_law_high_so"] (spD K T 3 F_law_bits) := by
  refine fn_okj F sc_law_bits fun cdv A outer s H E W hr hp tk => ?_
  have nd := sc_law_bits.nd
  exact (dss_cons (ds_own (i := 3) nd rfl (by first | exact .inl rfl | exact .inr rfl) (df_lst da_nil)) (dss_cons (ds_for hp rfl (di_range1 (by rfl) Z.range (da_cons (de_callD c_law_take hr (by decide) tk (da_cons (de_var (pv 0)) (da_cons (de_add (de_var (pv 1)) de_int) da_nil))) da_nil)) (dg_name nd rfl (by first | exact .inl rfl | exact .inr rfl)) (dss_one (ds_append (i := 3) (pv 3) (de_tup (da_cons (de_callD c_law_of hr (by decide) tk (da_cons (de_var (pv 0)) (da_cons (de_new (df_lst (da_cons de_str (da_cons de_str da_nil)))) da_nil))) (da_cons (de_callD c_law_much hr (by decide) tk (da_cons (de_var (pv 0)) (da_cons (de_var (pv 2)) da_nil))) da_nil))) rfl (ps_expr (pe_bm PySem.F.plainAttrs_list PySem.F.slot_list_append PySem.F.type_list_append mt_append (pv 3) (pa_cons (de_tup (da_cons (de_callD c_law_of hr (by decide) tk (da_cons (de_var (pv 0)) (da_cons (de_new (df_lst (da_cons de_str (da_cons de_str da_nil)))) da_nil))) (da_cons (de_callD c_law_much hr (by decide) tk (da_cons (de_var (pv 0)) (da_cons (de_var (pv 2)) da_nil))) da_nil))) pa_nil)))))) (dss_one (ds_ret (de_tupleOf (by rfl) Z.tuple (da_cons (de_var (pv 3)) da_nil))))))
/-! _law_pick -/
abbrev s_law_pick : Stmt := topS 39
abbrev N_law_pick : List Str := ["_law_box_here", "_law_goods_so", "_law_count_so", "_law_turn", "_law_pool_so", "_law_found"]
theorem sc_law_pick : FnScope N_law_pick ["_law_box_here", "_law_goods_so", "_law_count_so"] (defScope s_law_pick) := ⟨rfl, rfl, rfl, by decide +kernel, rfl, by decide +kernel, by decide +kernel⟩
def B_law_pick : S → R Out := (dSeq (dPar 4 5 Sl.own Sl.own (dCBF hListOf (dCons (dV 1) dNil)) (dLst dNil)) (dSeq (dFor (.nm 3) (dCBF hRange1 (dCons (dLend 4 (dCB (h2 gMin) (dCons (dCB hInt (dCons (dV 2) dNil)) (dCons (dCB hLen (dCons (dV 4) dNil)) dNil)))) dNil)) (dApp 5 (dPop 4 (dCall 2 F_law_take [] (dCons (dV 0) (dCons (dLend 4 (dCB hLen (dCons (dV 4) dNil))) dNil)))))) (dRet (dV 5))))
def F_law_pick : Fn := runFn 3 6 B_law_pick
theorem ok_law_pick (Z : Bi mg) (c_law_take : DefAt P w K mg base T "_law_take" ["_law_box_here", "_law_size_so"] 2 1 F_law_take) {f : Addr} {fd : FuncData} (F : Fun K "_law_pick" "_law_pick" s_law_pick f fd) : FnOk P w K mg base (L2.CX P w) 2 f fd ["_law_box_here", "_law_goods_so", "_law_count_so"] (spD K T 3 F_law_pick) := by
  refine fn_okj F sc_law_pick fun cdv A outer s H E W hr hp tk => ?_
  have nd := sc_law_pick.nd
  exact (dss_cons (ds_par (i := 4) (j := 5) rfl nd rfl rfl (by decide) rfl rfl (df_list (by rfl) Z.list (da_cons (de_var (pv 1)) da_nil)) (df_lst da_nil) (dPar_oo _ (by decide)) rfl rfl rfl rfl) (dss_cons (ds_for hp rfl (di_range1 (by rfl) Z.range (da_cons (de_lend 4 (de_min2 rfl (by rfl) Z.min (da_cons (de_intc (by rfl) Z.int (da_cons (de_var (pv 2)) da_nil)) (da_cons (de_len (by rfl) Z.len (da_cons (de_var (pv 4)) da_nil)) da_nil)))) da_nil)) (dg_name nd rfl (by first | exact .inl rfl | exact .inr rfl)) (dss_one (ds_append (i := 5) (pv 5) (de_pop (i := 4) (pv 4) (de_callD c_law_take hr (by decide) tk (da_cons (de_var (pv 0)) (da_cons (de_lend 4 (de_len (by rfl) Z.len (da_cons (de_var (pv 4)) da_nil))) da_nil))) (pe_bm PySem.F.plainAttrs_list PySem.F.slot_list_pop PySem.F.type_list_pop mt_popAt (pv 4) (pa_cons (de_callD c_law_take hr (by decide) tk (da_cons (de_var (pv 0)) (da_cons (de_lend 4 (de_len (by rfl) Z.len (da_cons (de_var (pv 4)) da_nil))) da_nil))) pa_nil))) rfl (ps_expr (pe_bm PySem.F.plainAttrs_list PySem.F.slot_list_append PySem.F.type_list_append mt_append (pv 5) (pa_cons (de_pop (i := 4) (pv 4) (de_callD c_law_take hr (by decide) tk (da_cons (de_var (pv 0)) (da_cons (de_lend 4 (de_len (by rfl) Z.len (da_cons (de_var (pv 4)) da_nil))) da_nil))) (pe_bm PySem.F.plainAttrs_list PySem.F.slot_list_pop PySem.F.type_list_pop mt_popAt (pv 4) (pa_cons (de_callD c_law_take hr (by decide) tk (da_cons (de_var (pv 0)) (da_cons (de_lend 4 (de_len (by rfl) Z.len (da_cons (de_var (pv 4)) da_nil))) da_nil))) pa_nil))) pa_nil)))))) (dss_one (ds_ret (de_var (pv 5))))))
/-! _law_great_right -/
abbrev s_law_great_right : Stmt := topS 51
abbrev N_law_great_right : List Str := ["_law_box_here", "_law_bits_so", "_law_its_so", "_law_spots", "_law_gaps", "_law_got", "_law_due", "_law_total_so", "_law_k", "_law_one_so", "_law_other_so", "_law_low_so", "_law_high_so", "_law_many_so", "_law_own"]
theorem sc_law_great_right : FnScope N_law_great_right ["_law_box_here"] (defScope s_law_great_right) := ⟨rfl, rfl, rfl, by decide +kernel, rfl, by decide +kernel, by decide +kernel⟩
def B_law_great_right : S → R Out := (dSeq (dSet 1 (dCall 3 F_law_bits [] (dCons (dV 0) (dCons (dC (.int 5)) (dCons (dBin hPow (dC (.int 10)) (dC (.int 28))) dNil))))) (dSeq (dSet 2 (dCB hTupOf (dCons (dCall 3 F_law_pick [] (dCons (dV 0) (dCons (dV 1) (dCons (dCB hLen (dCons (dV 1) dNil)) dNil)))) dNil))) (dSeq (dUnpack (.tp [9, 10]) (dTup (dCons (dMkOb 5 F_Turns_init (dV 1)) (dCons (dMkOb 5 F_Turns_init (dV 2)) dNil)))) (dSeq (dSet 3 (dClose (dUnF hSortSetB (dBin hAdd (dBin hAdd (dTup (dCons (dC (.int 0)) dNil)) (dProp 5 F_Turns_ends (dV 9))) (dProp 5 F_Turns_ends (dV 10)))))) (dSeq (dSet 4 (dClose (dComp (.nm 8) [8] (dSeqI (dV 3)) dYes (dBin hSub (dCall 2 F_ahead [] (dCons (dV 9) (dCons (dV 8) dNil))) (dCall 2 F_ahead [] (dCons (dV 10) (dCons (dV 8) dNil))))))) (dSeq (dSet 5 (dClose (dLst (dCons (dCall 2 F_is_above [] (dCons (dV 9) (dCons (dV 10) dNil))) (dCons (dCall 2 F_is_above [] (dCons (dV 10) (dCons (dV 9) dNil))) dNil))))) (dSeq (dSet 6 (dClose (dLst (dCons (dOfB (dBinB hEq (dClose (dComp (.nm 14) [14] (dSeqI (dV 4)) (dBinB hLt (dV 14) (dC (.int 0))) (dV 14))) (dClose (dLst dNil)))) (dCons (dOfB (dBinB hEq (dClose (dComp (.nm 14) [14] (dSeqI (dV 4)) (dBinB hGt (dV 14) (dC (.int 0))) (dV 14))) (dClose (dLst dNil)))) dNil))))) (dSeq (dSet 7 (dC (.int 0))) (dSeq (dFor (.nm 8) (dCBF hRange1 (dCons (dBin hSub (dCB hLen (dCons (dV 3) dNil)) (dC (.int 1))) dNil)) (dSeq (dPar3 11 12 13 (dCons (dCall 2 F_ahead [] (dCons (dV 9) (dCons (dBin hIx (dV 3) (dV 8)) dNil))) (dCons (dCall 2 F_ahead [] (dCons (dV 9) (dCons (dBin hIx (dV 3) (dBin hAdd (dV 8) (dC (.int 1)))) dNil))) (dCons (dBin hSub (dBin hIx (dV 3) (dBin hAdd (dV 8) (dC (.int 1)))) (dBin hIx (dV 3) (dV 8))) dNil)))) (dSet 7 (dBin hSub (dBin hAdd (dBin hAdd (dV 7) (dBin hMulG (dV 13) (dBin hAdd (dV 11) (dV 12)))) (dV 12)) (dV 11))))) (dRet (dCall 2 (F_law_same 8) [] (dCons (dBin hAdd (dV 5) (dClose (dLst (dCons (dBin hMulG (dC (.int 2)) (dCall 1 F_height [] (dCons (dV 9) dNil))) dNil)))) (dCons (dBin hAdd (dV 6) (dClose (dLst (dCons (dV 7) dNil)))) dNil)))))))))))))
def F_law_great_right : Fn := runFn 1 15 B_law_great_right
theorem ok_law_great_right (Z : Bi mg) (c_law_bits : DefAt P w K mg base T "_law_bits" ["_law_box_here", "_law_most_so", "_law_high_so"] 3 3 F_law_bits) (c_law_pick : DefAt P w K mg base T "_law_pick" ["_law_box_here", "_law_goods_so", "_law_count_so"] 3 2 F_law_pick) (c_ahead : DefAt P w K mg base T "ahead" ["turns", "number"] 2 7 F_ahead) (c_is_above : DefAt P w K mg base T "is_above" ["one", "other"] 2 10 F_is_above) (c_height : DefAt P w K mg base T "height" ["turns"] 1 4 F_height) (c_law_same : DefAt P w K mg base T "_law_same" ["_law_got", "_law_due"] 2 9 (F_law_same 8)) (o_Turns : ObAt P w K mg base T "Turns" "_runs" "runs" 5 4 F_Turns_init (.tu [])) (p_ends : PropAt P w K mg base T 5 "ends" 1 F_Turns_ends) {f : Addr} {fd : FuncData} (F : Fun K "_law_great_right" "_law_great_right" s_law_great_right f fd) : FnOk P w K mg base (L2.CX P w) 11 f fd ["_law_box_here"] (spD K T 1 F_law_great_right) := by
  refine fn_okj F sc_law_great_right fun cdv A outer s H E W hr hp tk => ?_
  have nd := sc_law_great_right.nd
  exact (dss_cons (ds_set (i := 1) nd rfl (by first | exact .inl rfl | exact .inr rfl) (de_callD c_law_bits hr (by decide) tk (da_cons (de_var (pv 0)) (da_cons de_int (da_cons (de_pow de_int de_int) da_nil))))) (dss_cons (ds_set (i := 2) nd rfl (by first | exact .inl rfl | exact .inr rfl) (de_tupleOf (by rfl) Z.tuple (da_cons (de_callD c_law_pick hr (by decide) tk (da_cons (de_var (pv 0)) (da_cons (de_var (pv 1)) (da_cons (de_len (by rfl) Z.len (da_cons (de_var (pv 1)) da_nil)) da_nil)))) da_nil))) (dss_cons (ds_asg (de_tup (da_cons (de_ob1 o_Turns hr (by decide) tk (de_var (pv 1))) (da_cons (de_ob1 o_Turns hr (by decide) tk (de_var (pv 2))) da_nil))) (dg_tup (pg_tup rfl (pgs_cons (pg_name nd rfl (by first | exact .inl rfl | exact .inr rfl)) (pgs_cons (pg_name nd rfl (by first | exact .inl rfl | exact .inr rfl)) pgs_nil))) (pg_unl rfl (pgs_cons (pg_name nd rfl (by first | exact .inl rfl | exact .inr rfl)) (pgs_cons (pg_name nd rfl (by first | exact .inl rfl | exact .inr rfl)) pgs_nil))))) (dss_cons (ds_set (i := 3) nd rfl (by first | exact .inl rfl | exact .inr rfl) (de_new (df_sortSetB rfl (by rfl) Z.sorted (by rfl) Z.set (de_add (de_add (de_tup (da_cons de_int da_nil)) (de_prop p_ends hr (by decide) (de_var (pv 9)))) (de_prop p_ends hr (by decide) (de_var (pv 10))))))) (dss_cons (ds_setLc (j := 4) (own := [("_law_k", 8)]) (k := (.nm 8)) rfl nd rfl rfl (sw_true rfl rfl rfl (by decide +kernel)) (di_seq (de_var (pv 3))) (blkOk_by (N := N_law_great_right) (sc := defScope s_law_great_right) (by decide +kernel)) (by decide) (fun _ _ _ _ _ => (dg_name nd rfl (by first | exact .inl rfl | exact .inr rfl))) (fun _ _ _ _ _ => dts_nil) (fun _ _ _ _ _ => (de_sub (de_callD c_ahead hr (by decide) takes0 (da_cons (de_var (pv 9)) (da_cons (de_var (pv 8)) da_nil))) (de_callD c_ahead hr (by decide) takes0 (da_cons (de_var (pv 10)) (da_cons (de_var (pv 8)) da_nil)))))) (dss_cons (ds_set (i := 5) nd rfl (by first | exact .inl rfl | exact .inr rfl) (de_new (df_lst (da_cons (de_callD c_is_above hr (by decide) tk (da_cons (de_var (pv 9)) (da_cons (de_var (pv 10)) da_nil))) (da_cons (de_callD c_is_above hr (by decide) tk (da_cons (de_var (pv 10)) (da_cons (de_var (pv 9)) da_nil))) da_nil))))) (dss_cons (ds_set (i := 6) nd rfl (by first | exact .inl rfl | exact .inr rfl) (de_new (df_lst (da_cons (de_eq hr.units (de_new (df_comp (own := [("_law_own", 14)]) (k := (.nm 14)) rfl nd (di_seq (de_var (pv 4))) (blkOk_by (N := N_law_great_right) (sc := defScope s_law_great_right) (by decide +kernel)) (by decide) (fun _ _ _ _ _ => (dg_name nd rfl (by first | exact .inl rfl | exact .inr rfl))) (fun _ _ _ _ _ => (dts_one (dt_lt (de_var (pv 14)) de_int))) (fun _ _ _ _ _ => (de_var (pv 14))))) (de_new (df_lst da_nil))) (da_cons (de_eq hr.units (de_new (df_comp (own := [("_law_own", 14)]) (k := (.nm 14)) rfl nd (di_seq (de_var (pv 4))) (blkOk_by (N := N_law_great_right) (sc := defScope s_law_great_right) (by decide +kernel)) (by decide) (fun _ _ _ _ _ => (dg_name nd rfl (by first | exact .inl rfl | exact .inr rfl))) (fun _ _ _ _ _ => (dts_one (dt_gt (de_var (pv 14)) de_int))) (fun _ _ _ _ _ => (de_var (pv 14))))) (de_new (df_lst da_nil))) da_nil))))) (dss_cons (ds_set (i := 7) nd rfl (by first | exact .inl rfl | exact .inr rfl) de_int) (dss_cons (ds_for hp rfl (di_range1 (by rfl) Z.range (da_cons (de_sub (de_len (by rfl) Z.len (da_cons (de_var (pv 3)) da_nil)) de_int) da_nil)) (dg_name nd rfl (by first | exact .inl rfl | exact .inr rfl)) (dss_cons (ds_par3 (i := 11) (j := 12) (l := 13) rfl nd rfl rfl rfl (by decide) (by decide) (by decide) rfl rfl rfl (da_cons (de_callD c_ahead hr (by decide) tk (da_cons (de_var (pv 9)) (da_cons (de_ix (de_var (pv 3)) (de_var (pv 8))) da_nil))) (da_cons (de_callD c_ahead hr (by decide) tk (da_cons (de_var (pv 9)) (da_cons (de_ix (de_var (pv 3)) (de_add (de_var (pv 8)) de_int)) da_nil))) (da_cons (de_sub (de_ix (de_var (pv 3)) (de_add (de_var (pv 8)) de_int)) (de_ix (de_var (pv 3)) (de_var (pv 8)))) da_nil))) rfl rfl) (dss_one (ds_set (i := 7) nd rfl (by first | exact .inl rfl | exact .inr rfl) (de_sub (de_add (de_add (de_var (pv 7)) (de_mulG (de_var (pv 13)) (de_add (de_var (pv 11)) (de_var (pv 12))))) (de_var (pv 12))) (de_var (pv 11))))))) (dss_one (ds_ret (de_callD c_law_same hr (by decide) tk (da_cons (de_add (de_var (pv 5)) (de_new (df_lst (da_cons (de_mulG de_int (de_callD c_height hr (by decide) tk (da_cons (de_var (pv 9)) da_nil))) da_nil)))) (da_cons (de_add (de_var (pv 6)) (de_new (df_lst (da_cons (de_var (pv 7)) da_nil)))) da_nil))))))))))))))
/-! _law_right -/
abbrev s_law_right : Stmt := topS 52
abbrev N_law_right : List Str := ["_law_box_here", "_law_turn", "_law_flat_so", "_law_its_so", "_law_far_so"]
theorem sc_law_right : FnScope N_law_right ["_law_box_here"] (defScope s_law_right) := ⟨rfl, rfl, rfl, by decide +kernel, rfl, by decide +kernel, by decide +kernel⟩
def B_law_right : S → R Out := (dSeq (dFor (.nm 1) (dCBF hRange1 (dCons (dC (.int 9)) dNil)) (dSeq (dSet 2 (dCall 2 F_law_word [] (dCons (dV 0) (dCons (dCall 2 F_law_take [] (dCons (dV 0) (dCons (dC (.int 11)) dNil))) dNil)))) (dSeq (dPar 3 4 Sl.val Sl.val (dCall 2 F_law_near [] (dCons (dV 0) (dCons (dV 2) dNil))) (dCall 2 F_law_near [] (dCons (dV 0) (dCons (dV 2) dNil)))) (dIf (dOr (dNot (dTru (dCall 4 F_law_case_right [] (dCons (dV 0) (dCons (dV 2) (dCons (dV 3) (dCons (dV 4) dNil))))))) (dNot (dTru (dCall 1 F_law_great_right [] (dCons (dV 0) dNil))))) (dRet (dC (.bl false))) dNext)))) (dRet (dC (.bl true))))
def F_law_right : Fn := runFn 1 5 B_law_right
theorem ok_law_right (Z : Bi mg) (c_law_take : DefAt P w K mg base T "_law_take" ["_law_box_here", "_law_size_so"] 2 1 F_law_take) (c_law_word : DefAt P w K mg base T "_law_word" ["_law_box_here", "_law_size_so"] 2 3 F_law_word) (c_law_near : DefAt P w K mg base T "_law_near" ["_law_box_here", "_law_flat_so"] 2 3 F_law_near) (c_law_case_right : DefAt P w K mg base T "_law_case_right" ["_law_box_here", "_law_flat_so", "_law_its_so", "_law_far_so"] 4 13 F_law_case_right) (c_law_great_right : DefAt P w K mg base T "_law_great_right" ["_law_box_here"] 1 11 F_law_great_right) {f : Addr} {fd : FuncData} (F : Fun K "_law_right" "_law_right" s_law_right f fd) : FnOk P w K mg base (L2.CX P w) 14 f fd ["_law_box_here"] (spD K T 1 F_law_right) := by
  refine fn_okj F sc_law_right fun cdv A outer s H E W hr hp tk => ?_
  have nd := sc_law_right.nd
  exact (dss_cons (ds_for hp rfl (di_range1 (by rfl) Z.range (da_cons de_int da_nil)) (dg_name nd rfl (by first | exact .inl rfl | exact .inr rfl)) (dss_cons (ds_set (i := 2) nd rfl (by first | exact .inl rfl | exact .inr rfl) (de_callD c_law_word hr (by decide) tk (da_cons (de_var (pv 0)) (da_cons (de_callD c_law_take hr (by decide) tk (da_cons (de_var (pv 0)) (da_cons de_int da_nil))) da_nil)))) (dss_cons (ds_par (i := 3) (j := 4) rfl nd rfl rfl (by decide) rfl rfl (de_callD c_law_near hr (by decide) tk (da_cons (de_var (pv 0)) (da_cons (de_var (pv 2)) da_nil))) (de_callD c_law_near hr (by decide) tk (da_cons (de_var (pv 0)) (da_cons (de_var (pv 2)) da_nil))) (dPar_vv _) rfl rfl rfl rfl) (dss_one (ds_if (dt_bool (dw_or (dt_not (dt_tru (de_callD c_law_case_right hr (by decide) tk (da_cons (de_var (pv 0)) (da_cons (de_var (pv 2)) (da_cons (de_var (pv 3)) (da_cons (de_var (pv 4)) da_nil))))))) (dw_or1 (dt_not (dt_tru (de_callD c_law_great_right hr (by decide) tk (da_cons (de_var (pv 0)) da_nil))))))) (dss_one (ds_ret de_bl)) dss_nil))))) (dss_one (ds_ret de_bl)))
/-! _law_box -/
abbrev s_law_box : Stmt := topS 35
abbrev N_law_box : List Str := ["_law_script", "_law_k", "_law_cell"]
theorem sc_law_box : FnScope N_law_box ["_law_script", "_law_k"] (defScope s_law_box) := ⟨rfl, rfl, rfl, by decide +kernel, rfl, by decide +kernel, by decide +kernel⟩
def B_law_box : S → R Out := (dSeq (dSet 2 (dIfE (dBinB hLt (dV 1) (dCB hLen (dCons (dV 0) dNil))) (dBin hIx (dV 0) (dV 1)) (dC (.int 0)))) (dRetF (dLst (dCons (dBin hMul (dCB hAbs (dCons (dV 2) dNil)) (dCB hInt (dCons (dOfB (dBinB hGe (dCB hAbs (dCons (dV 2) dNil)) (dBin hPow (dC (.int 10)) (dC (.int 18))))) dNil))) (dCons (dBin hAdd (dBin hAdd (dBin hMod (dCB hInt (dCons (dV 2) dNil)) (dC (.int 2305843009213693951))) (dBin hMul (dC (.int 39373)) (dV 1))) (dC (.int 83012))) (dCons (dC (.int 0)) dNil))))))
def F_law_box : Fn := runFn 2 3 B_law_box
theorem ok_law_box (Z : Bi mg) {f : Addr} {fd : FuncData} (F : Fun K "_law_box" "_law_box" s_law_box f fd) : FnOk P w K mg base (L2.CX P w) 1 f fd ["_law_script", "_law_k"] (spD K T 2 F_law_box) := by
  refine fn_okj F sc_law_box fun cdv A outer s H E W hr hp tk => ?_
  have nd := sc_law_box.nd
  exact (dss_cons (ds_set (i := 2) nd rfl (by first | exact .inl rfl | exact .inr rfl) (de_ifE (dt_lt (de_var (pv 1)) (de_len (by rfl) Z.len (da_cons (de_var (pv 0)) da_nil))) (de_ix (de_var (pv 0)) (de_var (pv 1))) de_int)) (dss_one (ds_retF (df_lst (da_cons (de_mul (de_abs (by rfl) Z.abs (da_cons (de_var (pv 2)) da_nil)) (de_intc (by rfl) Z.int (da_cons (de_ge (de_abs (by rfl) Z.abs (da_cons (de_var (pv 2)) da_nil)) (de_pow de_int de_int)) da_nil))) (da_cons (de_add (de_add (de_mod (de_intc (by rfl) Z.int (da_cons (de_var (pv 2)) da_nil)) de_int) (de_mul de_int (de_var (pv 1)))) de_int) (da_cons de_int da_nil)))))))
/-! law -/
abbrev s_law : Stmt := topS 53
abbrev N_law : List Str := ["_law_script", "_law_cells_so", "_law_k"]
theorem sc_law : FnScope N_law ["_law_script"] (defScope s_law) := ⟨rfl, rfl, rfl, by decide +kernel, rfl, by decide +kernel, by decide +kernel⟩
def B_law : S → R Out := (dSeq (dSet 1 (dCall 2 F_law_cells [] (dCons (dV 0) (dCons (dC (.int 3)) dNil)))) (dSeq (dIf (dNot (dTru (dCall 0 F_law_by_hand_right [] dNil))) (dRet (dC (.bl false))) dNext) (dRet (dCB hAll (dCons (dClose (dComp (.nm 2) [2] (dCBF hRange1 (dCons (dCB hLen (dCons (dV 1) dNil)) dNil)) dYes (dCallBox 1 F_law_right 2 F_law_box (dCons (dV 1) (dCons (dV 2) dNil))))) dNil)))))
def F_law : Fn := runFn 1 3 B_law
theorem ok_law (Z : Bi mg) (c_law_cells : DefAt P w K mg base T "_law_cells" ["_law_script", "_law_top_so"] 2 1 F_law_cells) (c_law_by_hand_right : DefAt P w K mg base T "_law_by_hand_right" [] 0 13 F_law_by_hand_right) (c_law_right : DefAt P w K mg base T "_law_right" ["_law_box_here"] 1 14 F_law_right) (c_law_box : DefAt P w K mg base T "_law_box" ["_law_script", "_law_k"] 2 1 F_law_box) {f : Addr} {fd : FuncData} (F : Fun K "law" "law" s_law f fd) : FnOk P w K mg base (L2.CX P w) 15 f fd ["_law_script"] (spD K T 1 F_law) := by
  refine fn_okj F sc_law fun cdv A outer s H E W hr hp tk => ?_
  have nd := sc_law.nd
  exact (dss_cons (ds_set (i := 1) nd rfl (by first | exact .inl rfl | exact .inr rfl) (de_callD c_law_cells hr (by decide) tk (da_cons (de_var (pv 0)) (da_cons de_int da_nil)))) (dss_cons (ds_if (dt_not (dt_tru (de_callD0 c_law_by_hand_right hr (by decide) tk))) (dss_one (ds_ret de_bl)) dss_nil) (dss_one (ds_ret (de_all rfl (by rfl) Z.all (da_cons (de_new (df_comp (own := [("_law_k", 2)]) (k := (.nm 2)) rfl nd (di_range1 (by rfl) Z.range (da_cons (de_len (by rfl) Z.len (da_cons (de_var (pv 1)) da_nil)) da_nil)) (blkOk_by (N := N_law) (sc := defScope s_law) (by decide +kernel)) (by decide) (fun _ _ _ _ _ => (dg_name nd rfl (by first | exact .inl rfl | exact .inr rfl))) (fun _ _ _ _ _ => dts_nil) (fun _ _ _ _ _ => (de_callBox c_law_right c_law_box hr (by decide) (by decide) takes0 (da_cons (de_var (pv 1)) (da_cons (de_var (pv 2)) da_nil)))))) da_nil))))))
end
end LW

namespace LW
open PySem PySem.Spec PyProof.Rows L2 DL
local macro_rules
  | `(tactic| decreasing_trivial_pre_omega) => `(tactic| first
    | with_reducible assumption
    | with_reducible exact dC_ok
    | with_reducible exact dNil_ok
    | with_reducible exact dNoP_ok
    | with_reducible exact s_next
    | ((with_reducible apply dV_ok); exact rfl)
    | with_reducible apply dCons_ok
    | with_reducible apply dBin_ok
    | with_reducible apply dBinB_ok
    | with_reducible apply e_call
    | with_reducible apply dCB_ok
    | with_reducible apply dCBF_ok
    | with_reducible apply dClose_ok
    | with_reducible apply dTup_ok
    | with_reducible apply dLst_ok
    | with_reducible apply dUn_ok
    | with_reducible apply dPart_ok
    | with_reducible apply dSlice_ok
    | with_reducible apply dSeqI_ok
    | with_reducible apply dOfB_ok
    | with_reducible apply dTru_bl
    | with_reducible apply dRet_ok
    | with_reducible apply e_prop
    | ((with_reducible apply e_lend); focus (exact rfl))
    | ((with_reducible apply t_lend); focus (exact rfl))
    | ((with_reducible apply sq); focus ((repeat' decreasing_trivial_pre_omega); done); focus (try dsimp only [List.set_cons_zero, List.set_cons_succ]); focus (exact rfl))
    | with_reducible apply s_set
    | with_reducible apply s_own
    | ((with_reducible apply s_app); focus (exact rfl))
    | with_reducible apply s_setIx
    | with_reducible apply s_par
    | with_reducible apply s_par3
    | with_reducible apply s_unp
    | ((with_reducible apply s_if_t); focus ((repeat' decreasing_trivial_pre_omega); done))
    | ((with_reducible apply s_if_f); focus ((repeat' decreasing_trivial_pre_omega); done))
    | (with_reducible apply o_not_t)
    | (with_reducible apply o_not_f)
    | ((with_reducible apply dAnd_t); focus ((repeat' decreasing_trivial_pre_omega); done))
    | ((with_reducible apply dAnd_f); ((repeat' decreasing_trivial_pre_omega); done))
    | ((with_reducible apply dOr_t); ((repeat' decreasing_trivial_pre_omega); done))
    | ((with_reducible apply dOr_f); focus ((repeat' decreasing_trivial_pre_omega); done))
    | ((with_reducible apply o_chain_t) <;> ((repeat' decreasing_trivial_pre_omega); done))
    | ((with_reducible apply o_chain_f) <;> ((repeat' decreasing_trivial_pre_omega); done))
    | ((with_reducible apply o_ltt); omega)
    | ((with_reducible apply o_ltf); omega)
    | ((with_reducible apply o_let); omega)
    | ((with_reducible apply o_lef); omega)
    | ((with_reducible apply o_gtt); omega)
    | ((with_reducible apply o_gtf); omega)
    | ((with_reducible apply o_get); omega)
    | ((with_reducible apply o_gef); omega)
    | ((with_reducible apply e_mulr); omega)
    | ((with_reducible apply e_mull); omega)
    | ((with_reducible apply e_div); omega)
    | ((with_reducible apply e_mod); omega)
    | ((with_reducible apply e_add_ls); first | exact Nat.le_of_ble_eq_true rfl | (simp; done) | (simp; omega))
    | ((with_reducible apply e_add_tu); first | exact Nat.le_of_ble_eq_true rfl | (simp; done) | (simp; omega))
    | exact (rfl : (_ : S) = _)
    | exact (rfl : (_ : R D) = _)
    | exact (rfl : (_ : R Bool) = _)
    | exact (rfl : (_ : R (List D)) = _)
    | exact (rfl : (_ : Option _) = _)
    | exact (rfl : (_ : Nat) = _)
    | exact Nat.le_of_ble_eq_true rfl
    | exact Nat.lt_of_lt_of_le (Nat.lt_succ_self _) (Nat.le_of_ble_eq_true rfl))
section
variable {b : Bx} {X Y : Sl} {rs bs : List Pr} {k p n : Int}
/-! take -/
theorem take_hi {n a s c : Int} (hn : 0 < n) (hl : n < 18446744073709551616) (ha : 0 < a) : F_law_take [.box, .int n] (a, s, c) = .ok (.int (a % n)) (a / n, s, c) := by
  simp [F_law_take, runFn, B_law_take, dSeq, oBind, dIf, dBinB, dBin, dV, dC, hIx, R.bind, hOrd, dSet, dCB, dCons, dNil, hInt, hMod_ok, dSetIx, hDiv_ok, dRet, atI, ixN, S.put, ha, hn, hl]
theorem take_lo {n s c : Int} (hn : 0 < n) (hs : 0 ≤ s) (hs2 : s < 4611686018427387904) (hc : 0 ≤ c) (hc2 : c < 1000000) : ∃ k, F_law_take [.box, .int n] (0, s, c) = .ok (.int k) (0, s, c + 1) ∧ 0 ≤ k ∧ k < n := by
  have f1 : ∀ (x : Int) (st : S), hMulI x (39373 + (c + 1)) st = .ok (.int (x * (39373 + (c + 1)))) st := fun x st => hMulI_r (by omega)
  have f2 : ∀ (x y : Int) (st : S), hMulI x (y % 40009 + 7) st = .ok (.int (x * (y % 40009 + 7))) st := fun x y st => hMulI_r (by omega)
  have f3 : ∀ (x : Int) (st : S), hMulI 48271 x st = .ok (.int (48271 * x)) st := fun x st => hMulI_l (by omega)
  have f4 : ∀ (x : Int) (st : S), hMulI x 48271 st = .ok (.int (x * 48271)) st := fun x st => hMulI_r (by omega)
  simp [F_law_take, runFn, B_law_take, dSeq, dIf, dBinB, dBin, dV, dC, hIx, bind_ok, oBind_nx, oBind_rt, hOrd, dSet, dCB, dCons, dNil, hInt, hMod_ok, dSetIx, hDiv_ok, dRet, atI, ixN, S.put, hn, dNext, hAdd, hMul, f1, f2, f3, f4]
  exact ⟨Int.emod_nonneg _ (by omega), Int.emod_lt_of_pos _ hn⟩
theorem take_spec : Takes1 F_law_take := fun n m b hn hl h => by
  obtain ⟨a, s, c⟩ := b
  obtain ⟨h1, h2, h3, h4, h5⟩ := h
  dsimp only at h1 h2 h3 h4 h5
  by_cases ha : 0 < a
  · exact ⟨_, _, take_hi hn hl ha, Int.emod_nonneg _ (by omega), Int.emod_lt_of_pos _ hn, Int.ediv_nonneg h1 (by omega), h2, h3, h4, by dsimp only; omega⟩
  · have : a = 0 := by omega
    subst this
    obtain ⟨k, e, k0, k1⟩ := take_lo hn h2 h3 h4 (by omega)
    exact ⟨k, _, e, k0, k1, by dsimp only; omega, h2, h3, by dsimp only; omega, by dsimp only; omega⟩
/-! same -/
theorem same_turn {k : Nat} {xs : List D} {a c : D} {b : Bx} {d : D} (ih : ∀ (d : D) (b : Bx), plainN k d = true → F_law_same k [d, d] b = FR.ok (D.bl true) b) (hx : ∀ x ∈ xs, plainN k x = true) (h : d ∈ zipD xs xs) :
    ∃ env', turnD (.tp [2, 3]) [2, 3] dYes (dCall 2 (F_law_same k) [] (dCons (dV 2) (dCons (dV 3) dNil))) d ⟨[.val a, .val c, .un, .un], b⟩ = .ok (some (.bl true)) ⟨env', b⟩ := by
  obtain ⟨x, hx', rfl⟩ := mem_zipD h
  refine ⟨[.val a, .val c, .val x, .val x], ?_⟩
  simp [turnD, S.hide, Sl.hide, wipeS, tgD, DL.putAll, S.put, bind_ok, dYes, dCall, dCons, dNil, dV, ih x b (hx x hx'), fromF]
theorem same_refl : ∀ (k : Nat) (d : D) (b : Bx), plainN k d = true → F_law_same k [d, d] b = .ok (.bl true) b := by
  intro k
  induction k with
  | zero => intro d b h; simp [plainN] at h
  | succ k ih =>
    intro d b h
    cases d with
    | int i => simp [F_law_same, runFn, B_law_same, dSeq, dIf, dTru, dIsi2, hIsi2, kindD, isKind, dV, bind_ok, oBind_nx, oBind_rt, hTru, truD, dNext, dOr, dBinB, hIsN, DL.isNon, dC, dRet, dAndV, dIsi, hIsi, dNotV, dOfB, toD, hEq, deq_int]
    | non => simp [F_law_same, runFn, B_law_same, dSeq, dIf, dTru, dIsi2, hIsi2, kindD, isKind, dV, bind_ok, oBind_nx, oBind_rt, hTru, truD, dNext, dOr, dBinB, hIsN, DL.isNon, dC, dRet, dAndV, dIsi, hIsi, dNotV, dOfB, toD, hEq, deq_bl, deq_non]
    | bl i => simp [F_law_same, runFn, B_law_same, dSeq, dIf, dTru, dIsi2, hIsi2, kindD, isKind, dV, bind_ok, oBind_nx, oBind_rt, hTru, truD, dNext, dOr, dBinB, hIsN, DL.isNon, dC, dRet, dAndV, dIsi, hIsi, dNotV, dOfB, toD, hEq, deq_bl, deq_non]
    | str x =>
      have hx : PyData.canLay0 (.str x) = true := h
      simp [F_law_same, runFn, B_law_same, dSeq, dIf, dTru, dIsi2, hIsi2, kindD, isKind, dV, bind_ok, oBind_nx, oBind_rt, hTru, truD, dNext, dOr, dBinB, hIsN, DL.isNon, dC, dRet, dAndV, dIsi, hIsi, dNotV, dOfB, toD, hEq, deq_bl, deq_str hx]
    | ls xs =>
      simp [plainN] at h
      obtain ⟨hl, hx⟩ := h
      simp [F_law_same, runFn, B_law_same, dSeq, dIf, dTru, dIsi2, hIsi2, kindD, isKind, dV, bind_ok, oBind_nx, oBind_rt, hTru, truD, dNext, dBinB, dC, dRet, dAndV, dIsi, hIsi, dOfB, toD, hNe, hEq, deq_bl, deq_int, dCB, dCons, dNil, hLen, dClose, dComp, dCBF, hZip]
      rw [compD_map (f := fun _ => .bl true) (fun d hd => same_turn ih hx hd) (by simpa [zipD] using hl)]
      simp [bind_ok, oBind_rt, hAll_true]
    | tu xs =>
      simp [plainN] at h
      obtain ⟨hl, hx⟩ := h
      simp [F_law_same, runFn, B_law_same, dSeq, dIf, dTru, dIsi2, hIsi2, kindD, isKind, dV, bind_ok, oBind_nx, oBind_rt, hTru, truD, dNext, dBinB, dC, dRet, dAndV, dIsi, hIsi, dOfB, toD, hNe, hEq, deq_bl, deq_int, dCB, dCons, dNil, hLen, dClose, dComp, dCBF, hZip]
      rw [compD_map (f := fun _ => .bl true) (fun d hd => same_turn ih hx hd) (by simpa [zipD] using hl)]
      simp [bind_ok, oBind_rt, hAll_true]
    | ro _ => simp [plainN] at h
    | box => simp [plainN] at h
    | ob _ _ => simp [plainN] at h
    | er _ _ => simp [plainN] at h
/-! box -/
theorem atI_ints (cs : List Int) (k : Nat) (h : k < cs.length) : atI (cs.map D.int) (k : Int) = some (.int cs[k]) := atI_nat (by rw [List.getElem?_map, List.getElem?_eq_getElem h]; rfl)
theorem box_spec {cs : List Int} {k : Nat} (h : k < cs.length) (h3 : cs.length ≤ 3) (b : Bx) : ∃ a s, F_law_box [.ls (cs.map .int), .int (k : Nat)] b = .okF [.int a, .int s, .int 0] b ∧ Gd 900000 (a, s, 0) := by
  have hk : (k : Int) < (cs.length : Int) := by omega
  have f1 : ∀ (x : Int) (c : Prop) [Decidable c] (st : S), hMulI x (if c then 1 else 0) st = .ok (.int (x * (if c then 1 else 0))) st := fun x c _ st => hMulI_r (by split <;> omega)
  have f2 : ∀ (x : Int) (st : S), hMulI 39373 x st = .ok (.int (39373 * x)) st := fun x st => hMulI_l (by omega)
  simp [F_law_box, runFn, B_law_box, dSeq, dSet, dIfE, dBinB, dBin, dV, dC, bind_ok, oBind_nx, oBind_rtF, hOrd, dCB, dCons, dNil, hLen, hk, hIx, ixD, atI_ints cs k h, S.put, dRetF, dLst, hLs, hMul, hAbs, hInt, dOfB, toD, hPow, hMod_ok, hAdd, f1, f2]
  refine ⟨_, _, ⟨rfl, rfl⟩, ?_, ?_, ?_, ?_, ?_⟩
  · dsimp only
    split <;> split <;> omega
  · dsimp only; omega
  · dsimp only; omega
  · dsimp only; omega
  · dsimp only; omega
abbrev cellsBody : S → R Out := (dSeq (dSet 5 (dBin hMod (dCB hInt (dCons (dV 3) dNil)) (dV 1))) (dSetIx 2 (dLend 2 (dBin hAdd (dBin hIx (dV 2) (dV 5)) (dBin hMul (dV 4) (dBin hAdd (dV 3) (dC (.int 2)))))) (dV 5)))
theorem cells_turn (k : Nat) (r : Int) (ns cs : List Int) (x3 x4 x5 : Sl) (b : Bx) (h : cs.length = 3) (hk : k ≤ 63) :
    ∃ cs' : List Int, cs'.length = 3 ∧ cellsBody ⟨[.val (.ro ns), .val (.int 3), .own (cs.map .int), .val (.int (k : Nat)), .val (.int r), x5], b⟩ = .ok .nx ⟨[.val (.ro ns), .val (.int 3), .own (cs'.map .int), .val (.int (k : Nat)), .val (.int r), .val (.int ((k : Int) % 3))], b⟩ := by
  have h3 : k % 3 < cs.length := by omega
  have e1 : ((k : Int) % 3) = ((k % 3 : Nat) : Int) := by omega
  have e2 : ixN cs.length ((k : Int) % 3) = some (k % 3) := by unfold ixN; rw [if_pos (by omega), if_pos (by omega)]; congr 1
  have f1 : ∀ (x : Int) (st : S), hMulI x ((k : Int) + 2) st = .ok (.int (x * ((k : Int) + 2))) st := fun x st => hMulI_r (by omega)
  refine ⟨cs.set (k % 3) (cs[k % 3] + r * ((k : Int) + 2)), by simpa using h, ?_⟩
  have a1 : atI (cs.map D.int) ((k : Int) % 3) = some (.int cs[k % 3]) := by rw [e1]; exact atI_ints cs (k % 3) h3
  simp only [cellsBody, dSeq, dSet, dBin, dCB, dCons, dNil, dV, bind_ok, oBind_nx, hInt, S.put, List.getElem?_cons_succ, List.getElem?_cons_zero, List.set_cons_succ, List.set_cons_zero, dC]
  rw [hMod_ok (by omega)]
  simp only [bind_ok, oBind_nx, dSetIx, dLend, dBin, dV, List.getElem?_cons_succ, List.getElem?_cons_zero, S.put, S.hide, List.set_cons_succ, List.set_cons_zero, List.map_cons, List.map_nil, Sl.hide, hIx, ixD, a1, hAdd, hMul, f1, flatD, dC]
  simp [e2, bind_ok, h3]
theorem cells_loop : ∀ (rest : List Int) (k : Nat) (ns cs : List Int) (x3 x4 x5 : Sl) (b : Bx), cs.length = 3 → k + rest.length ≤ 63 →
    ∃ (cs' : List Int) (y3 y4 y5 : Sl), cs'.length = 3 ∧ forD (.tp [3, 4]) cellsBody (enumD k (rest.map .int)) ⟨[.val (.ro ns), .val (.int 3), .own (cs.map .int), x3, x4, x5], b⟩ = .ok .nx ⟨[.val (.ro ns), .val (.int 3), .own (cs'.map .int), y3, y4, y5], b⟩
  | [], k, ns, cs, x3, x4, x5, b, h, _ => ⟨cs, x3, x4, x5, h, rfl⟩
  | r :: rest, k, ns, cs, x3, x4, x5, b, h, hk => by
    obtain ⟨cs1, h1, e1⟩ := cells_turn k r ns cs x3 x4 x5 b h (by simp at hk; omega)
    obtain ⟨cs', y3, y4, y5, hl, e⟩ := cells_loop rest (k + 1) ns cs1 (.val (.int (k : Nat))) (.val (.int r)) (.val (.int ((k : Int) % 3))) b h1 (by simp at hk; omega)
    refine ⟨cs', y3, y4, y5, hl, ?_⟩
    rw [← e]
    exact forD_nx rfl e1
theorem sIx3 (n : Nat) : HT.sIx n 0 (some 3) = min 3 n := HT.sIx_nat n 0 3
theorem sIx63 (n : Nat) : HT.sIx n n (some 63) = min 63 n := HT.sIx_nat n n 63
theorem sIx3n (n : Nat) : HT.sIx n n (some 3) = min 3 n := HT.sIx_nat n n 3
theorem cells_spec (ns : List Int) (b : Bx) : ∃ cs : List Int, cs ≠ [] ∧ cs.length ≤ 3 ∧ F_law_cells [.ro ns, .int 3] b = .ok (.ls (cs.map .int)) b := by
  have c1 : DL.cutD ns none (some 3) = ns.take 3 := by
    unfold DL.cutD
    rw [HT.sIx_none, sIx3n, List.drop_zero, Nat.sub_zero, List.take_eq_take_iff]; omega
  have c2 : ∃ r : List Int, DL.cutD ns (some 3) (some 63) = r ∧ r.length ≤ 60 ∧ (ns.length < 3 → r = []) := by
    refine ⟨_, rfl, ?_, fun h => ?_⟩
    · unfold DL.cutD; rw [sIx3, sIx63, List.length_take, List.length_drop]; omega
    · unfold DL.cutD; rw [sIx3, sIx63]; simp; omega
  obtain ⟨r, c2, hr, hr0⟩ := c2
  have start : ∃ cs : List Int, cs ≠ [] ∧ cs.length ≤ 3 ∧ (3 ≤ ns.length → cs.length = 3) ∧ dOwn 2 (dOrF (dCBF hListOf (dCons (dSlice (dV 0) dNoP (dPart (dV 1))) dNil)) (dLst (dCons (dC (.int 0)) dNil))) ⟨[.val (.ro ns), .val (.int 3), .un, .un, .un, .un], b⟩ = .ok .nx ⟨[.val (.ro ns), .val (.int 3), .own (cs.map .int), .un, .un, .un], b⟩ := by
    by_cases h : ns = []
    · subst h
      exact ⟨[0], by simp, by simp, by simp, rfl⟩
    · refine ⟨ns.take 3, by simp [h], by rw [List.length_take]; omega, fun z => by rw [List.length_take]; omega, ?_⟩
      simp [dOwn, dOrF, dCBF, dCons, dSlice, dV, dNoP, dPart, dNil, bind_ok, sliceD, c1, hListOf, S.put, h]
  obtain ⟨cs, n0, l3, l3', e0⟩ := start
  have loop : ∃ (cs' : List Int) (y3 y4 y5 : Sl), cs' ≠ [] ∧ cs'.length ≤ 3 ∧ forD (.tp [3, 4]) cellsBody (enumD 0 (r.map .int)) ⟨[.val (.ro ns), .val (.int 3), .own (cs.map .int), .un, .un, .un], b⟩ = .ok .nx ⟨[.val (.ro ns), .val (.int 3), .own (cs'.map .int), y3, y4, y5], b⟩ := by
    by_cases h : ns.length < 3
    · rw [hr0 h]
      exact ⟨cs, .un, .un, .un, n0, l3, rfl⟩
    · obtain ⟨cs', y3, y4, y5, hl, e⟩ := cells_loop r 0 ns cs .un .un .un b (l3' (by omega)) (by omega)
      exact ⟨cs', y3, y4, y5, by intro z; subst z; simp at hl, by omega, e⟩
  obtain ⟨cs', y3, y4, y5, n1, l1, e1⟩ := loop
  refine ⟨cs', n1, l1, ?_⟩
  have e2 : dFor (.tp [3, 4]) (dCBF hEnumB (dCons (dSlice (dV 0) (dPart (dV 1)) (dPart (dC (.int 63)))) dNil)) cellsBody ⟨[.val (.ro ns), .val (.int 3), .own (cs.map .int), .un, .un, .un], b⟩ = .ok .nx ⟨[.val (.ro ns), .val (.int 3), .own (cs'.map .int), y3, y4, y5], b⟩ := by
    rw [← e1]
    simp [dFor, dCBF, dCons, dSlice, dV, dC, dPart, dNil, bind_ok, sliceD, c2, hEnumB]
  refine run_rt (s := ⟨[.val (.ro ns), .val (.int 3), .val (.ls (cs'.map .int)), y3, y4, y5], b⟩) rfl ?_
  show dSeq _ (dSeq _ _) ⟨[.val (.ro ns), .val (.int 3), .un, .un, .un, .un], b⟩ = _
  rw [seq_nx e0, seq_nx e2]
  rfl
theorem of_spec {gs : List D} {m : Nat} {b : Bx} (hg : gs ≠ []) (hl : gs.length < 1000000) (h : Gd (m + 1) b) : ∃ (k : Nat) (b' : Bx) (hk : k < gs.length), F_law_of [.box, .ls gs] b = .ok gs[k] b' ∧ Gd m b' := by
  have l0 : 0 < gs.length := List.length_pos_iff.mpr hg
  obtain ⟨k, b', e, k0, k1, g⟩ := take_spec (gs.length : Nat) m b (by omega) (by omega) h
  have hk : k.toNat < gs.length := by omega
  have e1 : atI gs k = some gs[k.toNat] := by
    have q : atI gs ((k.toNat : Nat) : Int) = some gs[k.toNat] := atI_nat (List.getElem?_eq_getElem hk)
    rwa [show ((k.toNat : Nat) : Int) = k by omega] at q
  refine ⟨k.toNat, b', hk, ?_, g⟩
  simp [F_law_of, runFn, B_law_of, dRet, dBin, dV, bind_ok, dCall, dCons, dNil, dCB, hLen, e, fromF_ok, hIx, ixD, e1]
/-! put -/
theorem heir_ok (h : Bool) (b : Bx) : F_is_heir [.str (hS h)] b = .ok (.bl true) b := by cases h <;> kernel_rfl
def PB : S → R Out := (dSeq (dIf (dOr (dNot (dTru (dCall 1 F_is_heir [] (dCons (dV 3) dNil)))) (dBinB hLt (dV 4) (dC (.int 1)))) (dRaise 1 (dV 2)) dNext) (dIf (dLendB 1 (dAnd (dTru (dV 1)) (dBinB hEq (dBin hIx (dBin hIx (dV 1) (dUn hNeg (dC (.int 1)))) (dC (.int 0))) (dV 3)))) (dSetIx 1 (dTup (dCons (dV 3) (dCons (dLend 1 (dBin hAdd (dBin hIx (dBin hIx (dV 1) (dUn hNeg (dC (.int 1)))) (dC (.int 1))) (dV 4))) dNil))) (dUn hNeg (dC (.int 1)))) (dApp 1 (dTup (dCons (dV 3) (dCons (dV 4) dNil))))))
theorem PB_is : B_put_together = dSeq (dOwn 1 (dLst dNil)) (dSeq (dFor (.np 2 [3, 4]) (dCBF hEnumB (dCons (dV 0) dNil)) PB) (dRet (dCB hTupOf (dCons (dV 1) dNil)))) := rfl
def PS0 (X : Sl) (acc : List Pr) (k : D) (r : Pr) (b : Bx) : S := ⟨[X, .own (acc.map pr), .val k, .val (.str (hS r.1)), .val (.int r.2)], b⟩
theorem PB_ok {acc : List Pr} {k : D} {r : Pr} (hr : 1 ≤ r.2) (hl : acc.length < 1000) : PB (PS0 X acc k r b) = .ok .nx (PS0 X (put acc r) k r b) := by
  have c1 : dOr (dNot (dTru (dCall 1 F_is_heir [] (dCons (dV 3) dNil)))) (dBinB hLt (dV 4) (dC (.int 1))) (PS0 X acc k r b) = .ok false (PS0 X acc k r b) := by
    refine dOr_f (dNot_ok (k := true) (dTru_bl (dCall_ok (dCons_ok (dV_ok rfl) dNil_ok) rfl (heir_ok r.1 b)))) ?_
    refine dBinB_ok (dV_ok rfl) dC_ok ?_
    show R.ok (decide (r.2 < 1)) _ = _
    rw [decide_eq_false (by omega)]
    rfl
  unfold PB
  have n1 : dIf (dOr (dNot (dTru (dCall 1 F_is_heir [] (dCons (dV 3) dNil)))) (dBinB hLt (dV 4) (dC (.int 1)))) (dRaise 1 (dV 2)) dNext (PS0 X acc k r b) = .ok .nx (PS0 X acc k r b) := dIf_f c1 rfl
  rw [seq_nx n1]
  rcases List.eq_nil_or_concat acc with e | ⟨i, l, e⟩
  · subst e
    exact dIf_f (t := dLendB 1 _) rfl rfl
  · rw [List.concat_eq_append] at e
    subst e
    have em : (i ++ [l]).map pr = i.map pr ++ [pr l] := by simp
    have at1 : L2.atI ((i ++ [l]).map pr) (-1) = some (pr l) := by rw [em]; exact atI_last _ _
    -- the last one
    have ix1 : ∀ {st : S}, st.env[1]? = some (.val (.ls ((i ++ [l]).map pr))) → dBin hIx (dV 1) (dUn hNeg (dC (.int 1))) st = .ok (pr l) st := fun {st} h => by
      refine dBin_ok (dV_ok h) (dUn_ok dC_ok rfl) ?_
      show (match L2.atI ((i ++ [l]).map pr) (-1) with | some d => R.ok d st | none => .stuck) = _
      rw [at1]
    have test : dLendB 1 (dAnd (dTru (dV 1)) (dBinB hEq (dBin hIx (dBin hIx (dV 1) (dUn hNeg (dC (.int 1)))) (dC (.int 0))) (dV 3))) (PS0 X (i ++ [l]) k r b) = .ok (decide (l.1 = r.1)) (PS0 X (i ++ [l]) k r b) := by
      have inner : ∀ {st : S}, st.env[1]? = some (.val (.ls ((i ++ [l]).map pr))) → st.env[3]? = some (.val (.str (hS r.1))) → dAnd (dTru (dV 1)) (dBinB hEq (dBin hIx (dBin hIx (dV 1) (dUn hNeg (dC (.int 1)))) (dC (.int 0))) (dV 3)) st = .ok (decide (l.1 = r.1)) st := fun {st} h h3 => by
        refine dAnd_t (dTru_ok (dV_ok h) ?_) (dBinB_ok (dBin_ok (ix1 h) dC_ok rfl) (dV_ok h3) ?_)
        · show (match some (!(((i ++ [l]).map pr).isEmpty)) with | some k => R.ok k st | none => .stuck) = _
          rw [em]; simp
        · show (match deq (.str (hS l.1)) (.str (hS r.1)) with | some k => R.ok k st | none => .stuck) = _
          rw [deq_str2 (hS_ok _) (hS_ok _)]
          simp only [hS_inj]
      unfold dLendB
      have e1 : (PS0 X (i ++ [l]) k r b).env[1]? = some (.own ((i ++ [l]).map pr)) := rfl
      rw [e1]
      dsimp only
      rw [inner rfl rfl]
      rfl
    rw [put_snoc]
    by_cases q : l.1 = r.1
    · rw [decide_eq_true q] at test
      rw [if_pos q]
      refine dIf_t test ?_
      have lend : dLend 1 (dBin hAdd (dBin hIx (dBin hIx (dV 1) (dUn hNeg (dC (.int 1)))) (dC (.int 1))) (dV 4)) (PS0 X (i ++ [l]) k r b) = .ok (.int (l.2 + r.2)) (PS0 X (i ++ [l]) k r b) := by
        have inner : ∀ {st : S}, st.env[1]? = some (.val (.ls ((i ++ [l]).map pr))) → st.env[4]? = some (.val (.int r.2)) → dBin hAdd (dBin hIx (dBin hIx (dV 1) (dUn hNeg (dC (.int 1)))) (dC (.int 1))) (dV 4) st = .ok (.int (l.2 + r.2)) st := fun {st} h h4 =>
          dBin_ok (dBin_ok (ix1 h) dC_ok rfl) (dV_ok h4) rfl
        unfold dLend
        have e1 : (PS0 X (i ++ [l]) k r b).env[1]? = some (.own ((i ++ [l]).map pr)) := rfl
        rw [e1]
        dsimp only
        rw [inner rfl rfl]
        rfl
      have tup : dTup (dCons (dV 3) (dCons (dLend 1 (dBin hAdd (dBin hIx (dBin hIx (dV 1) (dUn hNeg (dC (.int 1)))) (dC (.int 1))) (dV 4))) dNil)) (PS0 X (i ++ [l]) k r b) = .ok (pr (r.1, l.2 + r.2)) (PS0 X (i ++ [l]) k r b) := dTup_ok (dCons_ok (dV_ok rfl) (dCons_ok lend dNil_ok)) (show (2 : Nat) ≤ 16777216 by decide)
      unfold dSetIx
      rw [tup, bind_ok]
      have e1 : (PS0 X (i ++ [l]) k r b).env[1]? = some (.own ((i ++ [l]).map pr)) := rfl
      have g1 : dUn hNeg (dC (.int 1)) (PS0 X (i ++ [l]) k r b) = .ok (.int (-1)) (PS0 X (i ++ [l]) k r b) := dUn_ok dC_ok rfl
      rw [e1]
      dsimp only
      rw [g1, bind_ok, e1]
      dsimp only
      have ln : ((i ++ [l]).map pr).length = i.length + 1 := by simp
      rw [ln, ixN_last]
      dsimp only
      have es : ((i ++ [l]).map pr).set i.length (pr (r.1, l.2 + r.2)) = (i ++ [(r.1, l.2 + r.2)]).map pr := by simp
      rw [es]
      rfl
    · rw [decide_eq_false q] at test
      rw [if_neg q]
      refine dIf_f test ?_
      have tup : dTup (dCons (dV 3) (dCons (dV 4) dNil)) (PS0 X (i ++ [l]) k r b) = .ok (pr r) (PS0 X (i ++ [l]) k r b) := dTup_ok (dCons_ok (dV_ok rfl) (dCons_ok (dV_ok rfl) dNil_ok)) (show (2 : Nat) ≤ 16777216 by decide)
      unfold dApp
      have e1 : (PS0 X (i ++ [l]) k r b).env[1]? = some (.own ((i ++ [l]).map pr)) := rfl
      rw [e1]
      dsimp only
      rw [tup, bind_ok, e1]
      dsimp only
      rw [if_pos (by rw [List.length_map]; omega)]
      have es : (i ++ [l]).map pr ++ [pr r] = (i ++ [l] ++ [r]).map pr := by simp
      rw [es]
      rfl
theorem put_loop : ∀ (rs : List Pr) (n : Nat) (acc : List Pr) (x2 x3 x4 : Sl), (∀ r ∈ rs, 1 ≤ r.2) → acc.length + rs.length < 1000 →
    ∃ y2 y3 y4, forD (.np 2 [3, 4]) PB (enumD n (rs.map pr)) ⟨[X, .own (acc.map pr), x2, x3, x4], b⟩ = .ok .nx ⟨[X, .own ((rs.foldl put acc).map pr), y2, y3, y4], b⟩
  | [], n, acc, x2, x3, x4, _, _ => ⟨x2, x3, x4, rfl⟩
  | r :: rs, n, acc, x2, x3, x4, h, l => by
    have l2 := put_length acc r
    rw [List.length_cons] at l
    obtain ⟨y2, y3, y4, e⟩ := put_loop rs (n + 1) (put acc r) (.val (.int n)) (.val (.str (hS r.1))) (.val (.int r.2)) (fun q hq => h q (List.mem_cons_of_mem _ hq)) (by omega)
    refine ⟨y2, y3, y4, ?_⟩
    have h1 : tgD (.np 2 [3, 4]) (.tu [.int n, pr r]) ⟨[X, .own (acc.map pr), x2, x3, x4], b⟩ = .ok () (PS0 X acc (.int n) r b) := rfl
    have h2 : PB (PS0 X acc (.int n) r b) = .ok .nx (PS0 X (put acc r) (.int n) r b) := PB_ok (h r List.mem_cons_self) (by omega)
    show forD (.np 2 [3, 4]) PB (.tu [.int n, pr r] :: enumD (n + 1) (rs.map pr)) _ = _
    rw [forD_nx h1 h2]
    exact e
def IsRow (d : D) (rs : List Pr) : Prop := d = .tu (rs.map pr) ∨ d = .ls (rs.map pr)
theorem put_ok {d : D} {rs : List Pr} (hd : IsRow d rs) (h : ∀ r ∈ rs, 1 ≤ r.2) (l : rs.length < 1000) : F_put_together [d] b = .ok (.tu ((joinP rs).map pr)) b := by
  obtain ⟨y2, y3, y4, e⟩ := put_loop (X := .val d) (b := b) rs 0 [] .un .un .un h (by simpa using l)
  refine run_rt (s := ⟨[.val d, .val (.ls ((joinP rs).map pr)), y2, y3, y4], b⟩) rfl ?_
  rw [PB_is]
  have o1 : dOwn 1 (dLst dNil) ⟨[d].map Sl.val ++ List.replicate (5 - 1) Sl.un, b⟩ = .ok .nx ⟨[.val d, .own [], .un, .un, .un], b⟩ := rfl
  rw [seq_nx o1]
  have en : dCBF hEnumB (dCons (dV 0) dNil) ⟨[.val d, .own [], .un, .un, .un], b⟩ = .ok (enumD 0 (rs.map pr)) ⟨[.val d, .own [], .un, .un, .un], b⟩ := by
    refine dCBF_ok (dCons_ok (dV_ok rfl) dNil_ok) ?_
    rcases hd with e | e <;> subst e <;> rfl
  rw [seq_nx (dFor_ok en e)]
  rfl
theorem init_ok {d : D} {rs : List Pr} (hd : IsRow d rs) (h : ∀ r ∈ rs, 1 ≤ r.2) (l : rs.length < 1000) : F_Turns_init [d] b = .ok (.tu ((joinP rs).map pr)) b := by
  unfold F_Turns_init initFn
  rw [if_pos (show [d].length = 1 from rfl)]
  have e : dCall 1 F_put_together [] (dCons (dV 1) dNil) ⟨.un :: ([d].map Sl.val ++ List.replicate (1 - 1) Sl.un), b⟩ = .ok (.tu ((joinP rs).map pr)) ⟨.un :: ([d].map Sl.val ++ List.replicate (1 - 1) Sl.un), b⟩ := dCall_ok (dCons_ok (dV_ok rfl) dNil_ok) rfl (put_ok hd h l)
  rw [e]
/-! ob -/
def tD (rs : List Pr) : D := .ob 5 [.tu (rs.map pr)]
/-! runs -/
theorem runs_ok (rs : List Pr) : F_Turns_runs [tD rs] b = .ok (.tu (rs.map pr)) b := rfl
/-! mk -/
theorem mk_ok {f : S → R D} {rs : List Pr} {st st1 : S} {d : D} (e : f st = .ok d st1) (hd : IsRow d rs) (h : Pos1 rs) (l : rs.length < 1000) : dMkOb 5 F_Turns_init f st = .ok (tD (joinP rs)) st1 := by
  unfold dMkOb dOb
  rw [e, bind_ok]
  show (match F_Turns_init [d] st1.bx with | .ok d b => R.ok (D.ob 5 [d]) { st1 with bx := b } | .err e b => .err e { st1 with bx := b } | _ => .stuck) = _
  rw [init_ok hd h l]
  rfl
/-! first -/
def FB : S → R Out := (dSeq (dIf (dBinB hGt (dV 3) (dC (.int 0))) (dApp 2 (dTup (dCons (dV 4) (dCons (dCB (h2 gMin) (dCons (dV 5) (dCons (dV 3) dNil))) dNil)))) dNext) (dSet 3 (dBin hSub (dV 3) (dV 5))))
def FS (X Y : Sl) (acc : List Pr) (n : Int) (r : Pr) (b : Bx) : S := ⟨[X, Y, .own (acc.map pr), .val (.int n), .val (.str (hS r.1)), .val (.int r.2)], b⟩
theorem sub_ok {acc : List Pr} {n : Int} {r : Pr} : dSet 3 (dBin hSub (dV 3) (dV 5)) (FS X Y acc n r b) = .ok .nx (FS X Y acc (n - r.2) r b) := by
  have s1 : dBin hSub (dV 3) (dV 5) (FS X Y acc n r b) = .ok (.int (n - r.2)) (FS X Y acc n r b) := dBin_ok (x := .int n) (y := .int r.2) (dV_ok rfl) (dV_ok rfl) rfl
  exact dSet_ok s1
theorem FB_ok {acc : List Pr} {n : Int} {r : Pr} (l : acc.length < 1000) : FB (FS X Y acc n r b) = .ok .nx (FS X Y (acc ++ if 0 < n then [(r.1, gMin r.2 n)] else []) (n - r.2) r b) := by
  have c : dBinB hGt (dV 3) (dC (.int 0)) (FS X Y acc n r b) = .ok (decide (0 < n)) (FS X Y acc n r b) := dBinB_ok (dV_ok rfl) dC_ok rfl
  unfold FB
  by_cases q : 0 < n
  · rw [decide_eq_true q] at c
    rw [if_pos q]
    have tup : dTup (dCons (dV 4) (dCons (dCB (h2 gMin) (dCons (dV 5) (dCons (dV 3) dNil))) dNil)) (FS X Y acc n r b) = .ok (pr (r.1, gMin r.2 n)) (FS X Y acc n r b) := dTup_ok (dCons_ok (dV_ok rfl) (dCons_ok (dCB_ok (dCons_ok (dV_ok rfl) (dCons_ok (dV_ok rfl) dNil_ok)) rfl) dNil_ok)) (show (2 : Nat) ≤ 16777216 by decide)
    have e1 : (FS X Y acc n r b).env[2]? = some (.own (acc.map pr)) := rfl
    have ap : dApp 2 (dTup (dCons (dV 4) (dCons (dCB (h2 gMin) (dCons (dV 5) (dCons (dV 3) dNil))) dNil))) (FS X Y acc n r b) = .ok .nx (FS X Y (acc ++ [(r.1, gMin r.2 n)]) n r b) := by
      unfold dApp
      rw [e1]
      dsimp only
      rw [tup, bind_ok, e1]
      dsimp only
      rw [if_pos (by rw [List.length_map]; omega)]
      have es : acc.map pr ++ [pr (r.1, gMin r.2 n)] = (acc ++ [(r.1, gMin r.2 n)]).map pr := by simp
      rw [es]
      rfl
    rw [seq_nx (dIf_t c ap)]
    exact sub_ok
  · rw [decide_eq_false q] at c
    rw [if_neg q, List.append_nil]
    have n1 : dIf (dBinB hGt (dV 3) (dC (.int 0))) (dApp 2 (dTup (dCons (dV 4) (dCons (dCB (h2 gMin) (dCons (dV 5) (dCons (dV 3) dNil))) dNil)))) dNext (FS X Y acc n r b) = .ok .nx (FS X Y acc n r b) := dIf_f c rfl
    rw [seq_nx n1]
    exact sub_ok
theorem first_loop : ∀ (rs : List Pr) (acc : List Pr) (n : Int) (x4 x5 : Sl), acc.length + rs.length < 1000 →
    ∃ y4 y5, forD (.tp [4, 5]) FB (rs.map pr) ⟨[X, Y, .own (acc.map pr), .val (.int n), x4, x5], b⟩ = .ok .nx ⟨[X, Y, .own ((acc ++ firstP n rs).map pr), .val (.int (leftP n rs)), y4, y5], b⟩
  | [], acc, n, x4, x5, _ => ⟨x4, x5, by rw [firstP, List.append_nil]; rfl⟩
  | r :: rs, acc, n, x4, x5, l => by
    rw [List.length_cons] at l
    have ll : (acc ++ if 0 < n then [(r.1, gMin r.2 n)] else []).length ≤ acc.length + 1 := by rw [List.length_append]; split <;> simp
    obtain ⟨y4, y5, e⟩ := first_loop rs (acc ++ if 0 < n then [(r.1, gMin r.2 n)] else []) (n - r.2) (.val (.str (hS r.1))) (.val (.int r.2)) (by omega)
    refine ⟨y4, y5, ?_⟩
    have h1 : tgD (.tp [4, 5]) (pr r) ⟨[X, Y, .own (acc.map pr), .val (.int n), x4, x5], b⟩ = .ok () (FS X Y acc n r b) := rfl
    show forD (.tp [4, 5]) FB (pr r :: rs.map pr) _ = _
    rw [forD_nx h1 (FB_ok (by omega))]
    rw [firstP, ← List.append_assoc]
    exact e
theorem first_ok {rs : List Pr} {n : Int} (h : ∀ r ∈ rs, 1 ≤ r.2) (l : rs.length < 1000) : F_first_part [tD rs, .int n] b = .ok (tD (joinP (firstP n rs))) b := by
  obtain ⟨y4, y5, e⟩ := first_loop (X := .val (tD rs)) (Y := .val (.int n)) (b := b) rs [] n .un .un (by simpa using l)
  refine run_rt (s := ⟨[.val (tD rs), .val (.int n), .val (.ls ((firstP n rs).map pr)), .val (.int (leftP n rs)), y4, y5], b⟩) rfl ?_
  have o1 : dOwn 2 (dLst dNil) ⟨[tD rs, .int n].map Sl.val ++ List.replicate (6 - 2) Sl.un, b⟩ = .ok .nx ⟨[.val (tD rs), .val (.int n), .own [], .un, .un, .un], b⟩ := rfl
  have o2 : dSet 3 (dV 1) ⟨[.val (tD rs), .val (.int n), .own [], .un, .un, .un], b⟩ = .ok .nx ⟨[.val (tD rs), .val (.int n), .own [], .val (.int n), .un, .un], b⟩ := rfl
  show dSeq _ (dSeq _ (dSeq (dFor (.tp [4, 5]) (dSeqI (dProp 5 F_Turns_runs (dV 0))) FB) (dRet (dMkOb 5 F_Turns_init (dV 2))))) _ = _
  have p1 : dProp 5 F_Turns_runs (dV 0) ⟨[.val (tD rs), .val (.int n), .own [], .val (.int n), .un, .un], b⟩ = .ok (.tu (rs.map pr)) ⟨[.val (tD rs), .val (.int n), .own [], .val (.int n), .un, .un], b⟩ := rfl
  rw [seq_nx o1, seq_nx o2, seq_nx (dFor_ok (dSeqI_ok p1 rfl) e)]
  refine dRet_ok ?_
  have mk := init_ok (b := b) (d := .ls ((firstP n rs).map pr)) (.inr rfl) (firstP_pos rs n h) (Nat.lt_of_le_of_lt (firstP_length rs n) l)
  unfold dMkOb dOb
  have v : dV 2 (⟨[.val (tD rs), .val (.int n), .own ((([] : List Pr) ++ firstP n rs).map pr), .val (.int (leftP n rs)), y4, y5], b⟩ : S) = .ok (.ls ((firstP n rs).map pr)) ⟨[.val (tD rs), .val (.int n), .val (.ls ((firstP n rs).map pr)), .val (.int (leftP n rs)), y4, y5], b⟩ := rfl
  rw [v, bind_ok]
  dsimp only
  rw [mk]
  rfl
/-! ends -/
def EB : S → R Out := (dSeq (dSet 2 (dBin hAdd (dV 2) (dV 4))) (dApp 1 (dV 2)))
theorem ends_loop : ∀ (rs : List Pr) (acc : List D) (e : Int) (x3 x4 : Sl), acc.length + rs.length < 1000 →
    ∃ y3 y4, forD (.tp [3, 4]) EB (rs.map pr) ⟨[X, .own acc, .val (.int e), x3, x4], b⟩ = .ok .nx ⟨[X, .own (acc ++ (endsP e rs).map .int), .val (.int (e + whole rs)), y3, y4], b⟩
  | [], acc, e, x3, x4, _ => ⟨x3, x4, by
      have e1 : acc ++ (endsP e []).map D.int = acc := by simp [endsP]
      have e2 : e + whole [] = e := by simp [whole]
      rw [e1, e2]; rfl⟩
  | r :: rs, acc, e, x3, x4, l => by
    rw [List.length_cons] at l
    obtain ⟨y3, y4, q⟩ := ends_loop rs (acc ++ [.int (e + r.2)]) (e + r.2) (.val (.str (hS r.1))) (.val (.int r.2)) (by simp; omega)
    refine ⟨y3, y4, ?_⟩
    have h1 : tgD (.tp [3, 4]) (pr r) ⟨[X, .own acc, .val (.int e), x3, x4], b⟩ = .ok () ⟨[X, .own acc, .val (.int e), .val (.str (hS r.1)), .val (.int r.2)], b⟩ := rfl
    have s1 : dSet 2 (dBin hAdd (dV 2) (dV 4)) ⟨[X, .own acc, .val (.int e), .val (.str (hS r.1)), .val (.int r.2)], b⟩ = .ok .nx ⟨[X, .own acc, .val (.int (e + r.2)), .val (.str (hS r.1)), .val (.int r.2)], b⟩ := rfl
    have h2 : EB ⟨[X, .own acc, .val (.int e), .val (.str (hS r.1)), .val (.int r.2)], b⟩ = .ok .nx ⟨[X, .own (acc ++ [.int (e + r.2)]), .val (.int (e + r.2)), .val (.str (hS r.1)), .val (.int r.2)], b⟩ := by
      unfold EB
      rw [seq_nx s1]
      show (if acc.length < 16777216 then R.ok Out.nx _ else .stuck) = _
      rw [if_pos (by omega)]
      rfl
    show forD (.tp [3, 4]) EB (pr r :: rs.map pr) _ = _
    rw [forD_nx h1 h2, q, endsP, whole, Int.add_assoc]
    simp
theorem ends_ok {rs : List Pr} (l : rs.length < 1000) : F_Turns_ends [tD rs] b = .ok (.tu ((endsP 0 rs).map .int)) b := by
  obtain ⟨y3, y4, e⟩ := ends_loop (X := .val (tD rs)) (b := b) rs [] 0 .un .un (by simpa using l)
  refine run_rt (s := ⟨[.val (tD rs), .val (.ls ((endsP 0 rs).map .int)), .val (.int (0 + whole rs)), y3, y4], b⟩) rfl ?_
  have o1 : dOwn 1 (dLst dNil) ⟨[tD rs].map Sl.val ++ List.replicate (5 - 1) Sl.un, b⟩ = .ok .nx ⟨[.val (tD rs), .own [], .un, .un, .un], b⟩ := rfl
  have o2 : dSet 2 (dC (.int 0)) ⟨[.val (tD rs), .own [], .un, .un, .un], b⟩ = .ok .nx ⟨[.val (tD rs), .own [], .val (.int 0), .un, .un], b⟩ := rfl
  have p1 : dSeqI (dFld 5 (dV 0)) ⟨[.val (tD rs), .own [], .val (.int 0), .un, .un], b⟩ = .ok (rs.map pr) ⟨[.val (tD rs), .own [], .val (.int 0), .un, .un], b⟩ := rfl
  show dSeq _ (dSeq _ (dSeq (dFor (.tp [3, 4]) (dSeqI (dFld 5 (dV 0))) EB) _)) _ = _
  rw [seq_nx o1, seq_nx o2, seq_nx (dFor_ok p1 e)]
  rfl
/-! size -/
theorem size_ok {rs : List Pr} (l : rs.length < 1000) : F_Turns_size [tD rs] b = .ok (.int (whole rs)) b := by
  refine run_rt (s := ⟨[.val (tD rs), .un, .un], b⟩) rfl (dRet_ok ?_)
  have c : dComp (.tp [1, 2]) [1, 2] (dSeqI (dFld 5 (dV 0))) dYes (dV 2) ⟨[.val (tD rs), .un, .un], b⟩ = .ok ((rs.map (·.2)).map .int) ⟨[.val (tD rs), .un, .un], b⟩ := by
    refine dComp_ok (ds := rs.map pr) (st1 := ⟨[.val (tD rs), .un, .un], b⟩) rfl ?_
    refine (compD_mapI (gs := (rs.map (·.2)).map .int) (by simp) (fun i d g hd hg => ?_) (by simp; omega)).trans (by simp)
    rw [List.getElem?_map] at hd
    rw [List.map_map, List.getElem?_map] at hg
    cases q : rs[i]? with
    | none => rw [q] at hd; cases hd
    | some r =>
      rw [q] at hd hg
      cases hd; cases hg
      exact ⟨_, rfl⟩
  refine dCB_ok (dCons_ok (dClose_ok c) dNil_ok) ?_
  show (match intDs ((rs.map (·.2)).map .int) with | some is => R.ok (D.int is.sum) _ | none => .stuck) = _
  rw [intDs_ints]
  dsimp only
  rw [sum_whole]
/-! much -/
theorem much_spec {m : Nat} {h : Int} (hh : HighOk h) (g : Gd (m + 2) b) : ∃ (v : Int) (b' : Bx), F_law_much [.box, .int h] b = .ok (.int v) b' ∧ 1 ≤ v ∧ v ≤ 2 * h ∧ (h ≤ 9 → v ≤ h) ∧ Gd m b' := by
  have pw : ∀ {st : S}, dBin hPow (dC (.int 10)) (dC (.int 6)) st = .ok (.int 1000000) st := fun {st} => dBin_ok dC_ok dC_ok ((hPow_ok (by omega) (by omega) (by decide)).trans rfl)
  have small : h ≤ 9 → 0 < h → ∃ (v : Int) (b' : Bx), F_law_much [.box, .int h] b = .ok (.int v) b' ∧ 1 ≤ v ∧ v ≤ h ∧ Gd m b' := fun h4 h0 => by
    obtain ⟨k, b', e, k0, k1, g'⟩ := take_spec h (m + 1) b h0 (by omega) g
    refine ⟨1 + k, b', ?_, by omega, by omega, g'.less (by omega)⟩
    refine run_rt (s := ⟨[.val .box, .val (.int h)], b'⟩) rfl ?_
    have pw1 : dBin hPow (dC (.int 10)) (dC (.int 6)) ⟨[.val .box, .val (.int h)], b⟩ = .ok (.int 1000000) ⟨[.val .box, .val (.int h)], b⟩ := pw
    have t : dBinB hLt (dV 1) (dBin hPow (dC (.int 10)) (dC (.int 6))) ⟨[.val .box, .val (.int h)], b⟩ = .ok true ⟨[.val .box, .val (.int h)], b⟩ := dBinB_ok (dV_ok rfl) pw1 (o_ltt (by omega))
    have r : dRet (dBin hAdd (dC (.int 1)) (dCall 2 F_law_take [] (dCons (dV 0) (dCons (dV 1) dNil)))) ⟨[.val .box, .val (.int h)], b⟩ = .ok (.rt (.int (1 + k))) ⟨[.val .box, .val (.int h)], b'⟩ := by
      repeat' decreasing_trivial_pre_omega
    exact seq_rt (dIf_t t r)
  rcases hh with ⟨hl, hu⟩ | rfl
  · obtain ⟨v, b', e, h1, h2, g'⟩ := small hu (by omega)
    exact ⟨v, b', e, h1, by omega, fun _ => h2, g'⟩
  · obtain ⟨k, b1, e, k0, k1, g1⟩ := take_spec 9 (m + 1) b (by omega) (by omega) g
    obtain ⟨j, b2, e2, j0, j1, g2⟩ := take_spec 1000000 m b1 (by omega) (by omega) g1
    refine ⟨(1 + k) * 1000000000000000000000000000 + j, b2, ?_, by omega, by omega, fun h => by omega, g2⟩
    refine run_rt (s := ⟨[.val .box, .val (.int 10000000000000000000000000000)], b2⟩) rfl ?_
    have pw1 : dBin hPow (dC (.int 10)) (dC (.int 6)) ⟨[.val .box, .val (.int 10000000000000000000000000000)], b⟩ = .ok (.int 1000000) ⟨[.val .box, .val (.int 10000000000000000000000000000)], b⟩ := pw
    have pw2 : dBin hPow (dC (.int 10)) (dC (.int 6)) ⟨[.val .box, .val (.int 10000000000000000000000000000)], b1⟩ = .ok (.int 1000000) ⟨[.val .box, .val (.int 10000000000000000000000000000)], b1⟩ := pw
    have t : dBinB hLt (dV 1) (dBin hPow (dC (.int 10)) (dC (.int 6))) ⟨[.val .box, .val (.int 10000000000000000000000000000)], b⟩ = .ok false ⟨[.val .box, .val (.int 10000000000000000000000000000)], b⟩ := dBinB_ok (dV_ok rfl) pw1 (o_ltf (by omega))
    have dv : ∀ {st : S}, hDiv (.int 10000000000000000000000000000) (.int 10) st = .ok (.int 1000000000000000000000000000) st := fun {st} => (hDiv_ok (by omega) (by omega)).trans rfl
    have ml : ∀ {st : S}, hMul (.int (1 + k)) (.int 1000000000000000000000000000) st = .ok (.int ((1 + k) * 1000000000000000000000000000)) st := fun {st} => hMulI_l (by omega)
    have d1 : dBin hDiv (dV 1) (dC (.int 10)) ⟨[.val .box, .val (.int 10000000000000000000000000000)], b1⟩ = .ok (.int 1000000000000000000000000000) ⟨[.val .box, .val (.int 10000000000000000000000000000)], b1⟩ := dBin_ok (dV_ok rfl) dC_ok dv
    have a1 : dBin hAdd (dC (.int 1)) (dCall 2 F_law_take [] (dCons (dV 0) (dCons (dC (.int 9)) dNil))) ⟨[.val .box, .val (.int 10000000000000000000000000000)], b⟩ = .ok (.int (1 + k)) ⟨[.val .box, .val (.int 10000000000000000000000000000)], b1⟩ := by
      repeat' decreasing_trivial_pre_omega
    have p1 := dBin_ok a1 d1 ml
    have c1 : dCall 2 F_law_take [] (dCons (dV 0) (dCons (dBin hPow (dC (.int 10)) (dC (.int 6))) dNil)) ⟨[.val .box, .val (.int 10000000000000000000000000000)], b1⟩ = .ok (.int j) ⟨[.val .box, .val (.int 10000000000000000000000000000)], b2⟩ := by
      repeat' decreasing_trivial_pre_omega
    have n1 : dIf (dBinB hLt (dV 1) (dBin hPow (dC (.int 10)) (dC (.int 6)))) (dRet (dBin hAdd (dC (.int 1)) (dCall 2 F_law_take [] (dCons (dV 0) (dCons (dV 1) dNil))))) dNext ⟨[.val .box, .val (.int 10000000000000000000000000000)], b⟩ = .ok .nx ⟨[.val .box, .val (.int 10000000000000000000000000000)], b⟩ := dIf_f t rfl
    show dSeq _ _ (⟨[.val .box, .val (.int 10000000000000000000000000000)], b⟩ : S) = _
    rw [seq_nx n1]
    exact dRet_ok (dBin_ok p1 c1 rfl)
/-! BT -/
def BT_1 : S → R Out := (dOwn 3 (dLst dNil))
def BT_2b_1 : S → R Out := (dApp 3 (dTup (dCons (dCall 2 F_law_of [] (dCons (dV 0) (dCons (dClose (dLst (dCons (dC (.str "a")) (dCons (dC (.str "b")) dNil)))) dNil))) (dCons (dCall 2 F_law_much [] (dCons (dV 0) (dCons (dV 2) dNil))) dNil))))
def BT_2b : S → R Out := BT_2b_1
def BT_2 : S → R Out := dFor (.nm 4) (dCBF hRange1 (dCons (dCall 2 F_law_take [] (dCons (dV 0) (dCons (dBin hAdd (dV 1) (dC (.int 1))) dNil))) dNil)) BT_2b
def BT_3 : S → R Out := (dRet (dCB hTupOf (dCons (dV 3) dNil)))
theorem BT_is : B_law_bits = (dSeq BT_1 (dSeq BT_2 BT_3)) := rfl
/-! bits -/
theorem bit_turn {m : Nat} {h : Int} {M : Int} (hh : HighOk h) (g : Gd (m + 3) b) {acc : List Pr} {x4 : Sl} (l : acc.length ≤ 100) : ∃ (r : Pr) (b' : Bx), 1 ≤ r.2 ∧ r.2 ≤ 2 * h ∧ (h ≤ 9 → r.2 ≤ h) ∧ BT_2b ⟨[.val .box, .val (.int M), .val (.int h), .own (acc.map pr), x4], b⟩ = .ok .nx ⟨[.val .box, .val (.int M), .val (.int h), .own ((acc ++ [r]).map pr), x4], b'⟩ ∧ Gd m b' := by
  obtain ⟨k, b1, hk, e1, g1⟩ := of_spec (gs := [.str "a", .str "b"]) (m := m + 2) (b := b) (by simp) (by decide) g
  obtain ⟨v, b2, e2, v1, v2, v3, g2⟩ := much_spec (m := m) (b := b1) hh g1
  obtain ⟨t, ht⟩ : ∃ t : Bool, ([.str "a", .str "b"] : List D)[k] = .str (hS t) := by
    match k, hk with
    | 0, _ => exact ⟨true, rfl⟩
    | 1, _ => exact ⟨false, rfl⟩
  rw [ht] at e1
  refine ⟨(t, v), b2, v1, v2, v3, ?_, g2⟩
  have es : (acc ++ [((t, v) : Pr)]).map pr = acc.map pr ++ [pr (t, v)] := by simp
  rw [es]
  unfold BT_2b BT_2b_1
  refine s_app0 (xs := acc.map pr) (ds := acc.map pr) (d := .tu [.str (hS t), .int v]) (τ := [.val .box, .val (.int M), .val (.int h), .own (acc.map pr), x4]) (b := b2) rfl ?_ rfl (by rw [List.length_map]; omega)
  repeat' decreasing_trivial_pre_omega
theorem bit_loop {h M : Int} (hh : HighOk h) : ∀ (j n : Nat) (m : Nat) (b : Bx) (acc : List Pr) (x4 : Sl), Gd (m + 3 * n) b → acc.length + n ≤ 100 → Pos1 acc → whole acc ≤ 2 * h * acc.length → (h ≤ 9 → whole acc ≤ h * acc.length) →
    ∃ (bs : List Pr) (b' : Bx) (y4 : Sl), forD (.nm 4) BT_2b ((List.range n).map fun i => D.int ((j : Int) + (i : Nat))) ⟨[.val .box, .val (.int M), .val (.int h), .own (acc.map pr), x4], b⟩ = .ok .nx ⟨[.val .box, .val (.int M), .val (.int h), .own (bs.map pr), y4], b'⟩ ∧ Gd m b' ∧ Pos1 bs ∧ bs.length = acc.length + n ∧ whole bs ≤ 2 * h * bs.length ∧ (h ≤ 9 → whole bs ≤ h * bs.length) := by
  intro j n
  induction n generalizing j with
  | zero => intro m b acc x4 g l p w w2; exact ⟨acc, b, x4, rfl, g, p, rfl, w, w2⟩
  | succ n ih =>
    intro m b acc x4 g l p w w2
    obtain ⟨r, b1, r1, r2, r3, e, g1⟩ := bit_turn (m := m + 3 * n) (acc := acc) (x4 := .val (.int ((j : Int) + (0 : Nat)))) (b := b) hh (g.less (by omega)) (by omega)
    have wl : whole (acc ++ [r]) = whole acc + r.2 := whole_snoc acc r
    have ln : (acc ++ [r]).length = acc.length + 1 := by simp
    have c1 : ((acc.length + 1 : Nat) : Int) = (acc.length : Int) + 1 := by omega
    obtain ⟨bs, b', y4, e2, g2, p2, l2, w3, w4⟩ := ih (j + 1) m b1 (acc ++ [r]) (.val (.int ((j : Int) + (0 : Nat)))) g1 (by omega) (fun z hz => (List.mem_append.mp hz).elim (p z) fun hz => by rw [List.mem_singleton.mp hz]; exact r1) (by rw [wl, ln, c1, Int.mul_add]; omega) (fun h4 => by have := w2 h4; have := r3 h4; rw [wl, ln, c1, Int.mul_add]; omega)
    refine ⟨bs, b', y4, ?_, g2, p2, by rw [l2, ln]; omega, w3, w4⟩
    rw [List.range_succ_eq_map, List.map_cons, List.map_map]
    refine (forD_nx (st1 := ⟨[.val .box, .val (.int M), .val (.int h), .own (acc.map pr), .val (.int ((j : Int) + (0 : Nat)))], b⟩) rfl e).trans ?_
    have ee : ((fun i : Nat => D.int ((j : Int) + (i : Nat))) ∘ Nat.succ) = fun i : Nat => D.int (((j + 1 : Nat) : Int) + (i : Nat)) := by
      funext i
      show D.int _ = D.int _
      congr 1
      show (j : Int) + ((i + 1 : Nat) : Int) = _
      omega
    rw [ee]
    exact e2
theorem bits_ok {m : Nat} {h : Int} {M : Nat} (hM : M ≤ 60) (hh : HighOk h) (g : Gd (m + (3 * M + 1)) b) : ∃ (bs : List Pr) (b' : Bx), F_law_bits [.box, .int (M : Nat), .int h] b = .ok (.tu (bs.map pr)) b' ∧ Gd m b' ∧ Pos1 bs ∧ bs.length ≤ M ∧ whole bs ≤ 2 * h * M ∧ (h ≤ 9 → whole bs ≤ h * M) := by
  obtain ⟨k, b1, e, k0, k1, g1⟩ := take_spec ((M : Nat) + 1) (m + 3 * M) b (by omega) (by omega) g
  obtain ⟨n, rfl⟩ : ∃ n : Nat, k = (n : Nat) := ⟨k.toNat, by omega⟩
  obtain ⟨bs, b', y4, e2, g2, p, l, w, w2⟩ := bit_loop hh 0 n m b1 [] .un (g1.less (by omega)) (by show 0 + n ≤ 100; omega) (fun z hz => by simp at hz) (by simp [whole]) (fun _ => by simp [whole])
  have l' : bs.length = n := by rw [l]; show 0 + n = n; omega
  have h0 : 0 ≤ h := by rcases hh with ⟨_, _⟩ | rfl <;> omega
  have bound : ∀ c : Int, 0 ≤ c → c * (bs.length : Int) ≤ c * M := fun c hc => Int.mul_le_mul_of_nonneg_left (by omega) hc
  refine ⟨bs, b', ?_, g2, p, by omega, by have := bound (2 * h) (by omega); omega, fun h4 => by have := bound h h0; have := w2 h4; omega⟩
  refine run_rt (s := ⟨[.val .box, .val (.int (M : Nat)), .val (.int h), .val (.ls (bs.map pr)), y4], b'⟩) rfl ?_
  rw [BT_is]
  have o1 : BT_1 ⟨[.box, .int (M : Nat), .int h].map Sl.val ++ List.replicate (5 - 3) Sl.un, b⟩ = .ok .nx ⟨[.val .box, .val (.int (M : Nat)), .val (.int h), .own ([].map pr), .un], b⟩ := rfl
  have o2 : BT_2 ⟨[.val .box, .val (.int (M : Nat)), .val (.int h), .own ([].map pr), .un], b⟩ = .ok .nx ⟨[.val .box, .val (.int (M : Nat)), .val (.int h), .own (bs.map pr), y4], b'⟩ := by
    unfold BT_2
    refine dFor_ok (ds := rangeD 0 n) (st1 := ⟨[.val .box, .val (.int (M : Nat)), .val (.int h), .own ([].map pr), .un], b1⟩) ?_ e2
    refine dCBF_ok (xs := [.int (n : Nat)]) (st1 := ⟨[.val .box, .val (.int (M : Nat)), .val (.int h), .own ([].map pr), .un], b1⟩) ?_ (hRange1_nat (by omega))
    repeat' decreasing_trivial_pre_omega
  rw [seq_nx o1, seq_nx o2]
  rfl

end
end LW

namespace LW
open PySem PySem.Spec PyProof.Rows L2 DL
local macro_rules
  | `(tactic| decreasing_trivial_pre_omega) => `(tactic| first
    | with_reducible assumption
    | with_reducible exact dC_ok
    | with_reducible exact dNil_ok
    | with_reducible exact dNoP_ok
    | with_reducible exact s_next
    | ((with_reducible apply dV_ok); exact rfl)
    | with_reducible apply dCons_ok
    | with_reducible apply dBin_ok
    | with_reducible apply dBinB_ok
    | with_reducible apply e_call
    | with_reducible apply dCB_ok
    | with_reducible apply dCBF_ok
    | with_reducible apply dClose_ok
    | with_reducible apply dTup_ok
    | with_reducible apply dLst_ok
    | with_reducible apply dUn_ok
    | with_reducible apply dPart_ok
    | with_reducible apply dSlice_ok
    | with_reducible apply dSeqI_ok
    | with_reducible apply dOfB_ok
    | with_reducible apply dTru_bl
    | with_reducible apply dRet_ok
    | with_reducible apply e_prop
    | ((with_reducible apply e_lend); focus (exact rfl))
    | ((with_reducible apply t_lend); focus (exact rfl))
    | ((with_reducible apply sq); focus ((repeat' decreasing_trivial_pre_omega); done); focus (try dsimp only [List.set_cons_zero, List.set_cons_succ]); focus (exact rfl))
    | with_reducible apply s_set
    | with_reducible apply s_own
    | ((with_reducible apply s_app); focus (exact rfl))
    | with_reducible apply s_setIx
    | with_reducible apply s_par
    | with_reducible apply s_par3
    | with_reducible apply s_unp
    | ((with_reducible apply s_if_t); focus ((repeat' decreasing_trivial_pre_omega); done))
    | ((with_reducible apply s_if_f); focus ((repeat' decreasing_trivial_pre_omega); done))
    | (with_reducible apply o_not_t)
    | (with_reducible apply o_not_f)
    | ((with_reducible apply dAnd_t); focus ((repeat' decreasing_trivial_pre_omega); done))
    | ((with_reducible apply dAnd_f); ((repeat' decreasing_trivial_pre_omega); done))
    | ((with_reducible apply dOr_t); ((repeat' decreasing_trivial_pre_omega); done))
    | ((with_reducible apply dOr_f); focus ((repeat' decreasing_trivial_pre_omega); done))
    | ((with_reducible apply o_chain_t) <;> ((repeat' decreasing_trivial_pre_omega); done))
    | ((with_reducible apply o_chain_f) <;> ((repeat' decreasing_trivial_pre_omega); done))
    | ((with_reducible apply o_ltt); omega)
    | ((with_reducible apply o_ltf); omega)
    | ((with_reducible apply o_let); omega)
    | ((with_reducible apply o_lef); omega)
    | ((with_reducible apply o_gtt); omega)
    | ((with_reducible apply o_gtf); omega)
    | ((with_reducible apply o_get); omega)
    | ((with_reducible apply o_gef); omega)
    | ((with_reducible apply e_mulr); omega)
    | ((with_reducible apply e_mull); omega)
    | ((with_reducible apply e_div); omega)
    | ((with_reducible apply e_mod); omega)
    | ((with_reducible apply e_add_ls); first | exact Nat.le_of_ble_eq_true rfl | (simp; done) | (simp; omega))
    | ((with_reducible apply e_add_tu); first | exact Nat.le_of_ble_eq_true rfl | (simp; done) | (simp; omega))
    | exact (rfl : (_ : S) = _)
    | exact (rfl : (_ : R D) = _)
    | exact (rfl : (_ : R Bool) = _)
    | exact (rfl : (_ : R (List D)) = _)
    | exact (rfl : (_ : Option _) = _)
    | exact (rfl : (_ : Nat) = _)
    | exact Nat.le_of_ble_eq_true rfl
    | exact Nat.lt_of_lt_of_le (Nat.lt_succ_self _) (Nat.le_of_ble_eq_true rfl))
section
variable {b : Bx} {X : Sl} {rs ts bs : List Pr} {n w : Int} {g h who : Bool}
theorem eqS {st : S} : hEq (.str (hS g)) (.str (hS h)) st = .ok (decide (g = h)) st := by
  show (match deq (.str (hS g)) (.str (hS h)) with | some k => R.ok k st | none => .stuck) = _
  rw [deq_str2 (hS_ok _) (hS_ok _)]
  simp only [hS_inj]
def herP : List Pr → Int
  | [] => 0
  | r :: rs => (if r.1 = true then r.2 else 0) + herP rs
theorem herP_count : ∀ {rs : List Pr}, Pos1 rs → herP rs = ((flatP rs).count true : Nat)
  | [], _ => rfl
  | r :: rs, hp => by
    have r1 := hp r List.mem_cons_self
    have ih := herP_count hp.tail
    rw [herP, flatP, List.count_append, List.count_replicate]
    obtain ⟨t, m⟩ := r
    dsimp only at r1 ⊢
    cases t <;> simp <;> omega
theorem compD_sel {k : Tg} {vs : List Nat} {t : S → R Bool} {e : S → R D} {st : S} {α : Type} {f : α → D} {q : α → Bool} {v : α → D} : ∀ {as : List α} {acc : List D}, (∀ a ∈ as, ∃ env', turnD k vs t e (f a) st = (if q a = true then .ok (some (v a)) ⟨env', st.bx⟩ else .ok none ⟨env', st.bx⟩)) → acc.length + as.length ≤ 16777216 → compD k vs t e (as.map f) acc st = .ok (acc ++ (as.filter q).map v) st
  | [], acc, _, _ => by simp [compD]
  | a :: as, acc, h, l => by
    obtain ⟨env', e1⟩ := h a List.mem_cons_self
    have l1 : acc.length < 16777216 := by simp at l; omega
    rw [List.map_cons]
    unfold compD
    rw [e1]
    by_cases z : q a = true
    · rw [if_pos z]
      show (if acc.length < 16777216 then compD k vs t e (as.map f) (acc ++ [v a]) st else .stuck) = _
      rw [if_pos l1, compD_sel (fun a' h' => h a' (List.mem_cons_of_mem _ h')) (by simp at l ⊢; omega), List.filter_cons_of_pos z]
      simp
    · rw [if_neg z]
      show compD k vs t e (as.map f) acc st = _
      rw [compD_sel (fun a' h' => h a' (List.mem_cons_of_mem _ h')) (by simp at l ⊢; omega), List.filter_cons_of_neg z]
theorem sum_her : ∀ rs : List Pr, ((rs.filter fun r => r.1).map (·.2)).sum = herP rs
  | [] => rfl
  | (t, m) :: rs => by
    have ih := sum_her rs
    cases t with
    | true => rw [List.filter_cons_of_pos rfl, List.map_cons, List.sum_cons, ih]; rfl
    | false => rw [List.filter_cons_of_neg (by simp), ih]; simp [herP]
theorem hers_ok (l : rs.length < 1000) : F_Turns_hers [tD rs] b = .ok (.int (herP rs)) b := by
  refine run_rt (s := ⟨[.val (tD rs), .un, .un], b⟩) rfl (dRet_ok ?_)
  have c : dComp (.tp [1, 2]) [1, 2] (dSeqI (dFld 5 (dV 0))) (dBinB hEq (dV 1) (dC (.str "a"))) (dV 2) ⟨[.val (tD rs), .un, .un], b⟩ = .ok (((rs.filter fun r => r.1).map (·.2)).map .int) ⟨[.val (tD rs), .un, .un], b⟩ := by
    refine dComp_ok (ds := rs.map pr) (st1 := ⟨[.val (tD rs), .un, .un], b⟩) rfl ?_
    refine (compD_sel (f := pr) (q := fun r => r.1) (v := fun r => .int r.2) (fun r _ => ⟨[.val (tD rs), .val (.str (hS r.1)), .val (.int r.2)], ?_⟩) (by simp; omega)).trans (by simp)
    have e : dBinB hEq (dV 1) (dC (.str "a")) ⟨[.val (tD rs), .val (.str (hS r.1)), .val (.int r.2)], b⟩ = .ok (decide (r.1 = true)) ⟨[.val (tD rs), .val (.str (hS r.1)), .val (.int r.2)], b⟩ := dBinB_ok (dV_ok rfl) dC_ok (eqS (h := true))
    show (R.bind (dBinB hEq (dV 1) (dC (.str "a")) ⟨[.val (tD rs), .val (.str (hS r.1)), .val (.int r.2)], b⟩) _) = _
    rw [e, bind_ok]
    by_cases z : r.1 = true
    · rw [if_pos (decide_eq_true z), if_pos z]; rfl
    · rw [if_neg (by simpa using z), if_neg z]
  refine dCB_ok (dCons_ok (dClose_ok c) dNil_ok) ?_
  show (match intDs (((rs.filter fun r => r.1).map (·.2)).map .int) with | some is => R.ok (D.int is.sum) _ | none => .stuck) = _
  rw [intDs_ints]
  dsimp only
  rw [sum_her]
def aheadP (n : Int) (rs : List Pr) : Int := (((flatP rs).take n.toNat).count true : Nat)
theorem ahead_ok (hp : Pos1 rs) (l : rs.length < 1000) : F_ahead [tD rs, .int n] b = .ok (.int (aheadP n rs)) b := by
  have f1 := first_ok (b := b) (n := n) hp l
  have lj := joinP_length (firstP n rs)
  have lf := firstP_length rs n
  have h1 := hers_ok (b := b) (rs := joinP (firstP n rs)) (by omega)
  have e : herP (joinP (firstP n rs)) = aheadP n rs := by
    rw [herP_count (joinP_pos (firstP_pos rs n hp)), flat_join (firstP_pos rs n hp), flat_first rs n hp]; rfl
  rw [e] at h1
  refine run_rt (s := ⟨[.val (tD rs), .val (.int n)], b⟩) rfl ?_
  show dRet _ (⟨[.val (tD rs), .val (.int n)], b⟩ : S) = _
  refine dRet_ok (e_prop (a := b) (dCall_ok (dCons_ok (dV_ok rfl) (dCons_ok (dV_ok rfl) dNil_ok)) rfl f1) h1)
theorem turnsof_ok {d : D} {hs : List Bool} (hd : d = .tu (hT hs) ∨ d = .ls (hT hs)) (l : hs.length ≤ 100) : F_turns_of [d] b = .ok (tD (joinP (units hs))) b := by
  refine run_rt (s := ⟨[.val d, .un], b⟩) rfl (dRet_ok ?_)
  have c : dComp (.nm 1) [1] (dSeqI (dV 0)) dYes (dTup (dCons (dV 1) (dCons (dC (.int 1)) dNil))) ⟨[.val d, .un], b⟩ = .ok ((units hs).map pr) ⟨[.val d, .un], b⟩ := by
    refine unit_comp (r := (units hs).map pr) (by show 1 < 2; omega) ?_ (by omega)
    rcases hd with rfl | rfl <;> exact dSeqI_ok (dV_ok rfl) rfl
  exact mk_ok (dClose_ok c) (.inr rfl) (units_pos hs) (by rw [units_len]; omega)
theorem sort_ok {ds : List Int} {st : S} (l : ds.length < 64) : hSortSetB (.tu (ds.map D.int)) st = .ok ((sortU ds).map D.int) st := by
  show (match intDs (ds.map D.int) with | some ns => if ns.length < 64 then R.ok ((sortU ns).map D.int) st else .stuck | none => .stuck) = _
  rw [intDs_ints]; dsimp only; rw [if_pos l]
theorem sort_okL {ds : List Int} {st : S} (l : ds.length < 64) : hSortSetB (.ls (ds.map D.int)) st = .ok ((sortU ds).map D.int) st := by
  show (match intDs (ds.map D.int) with | some ns => if ns.length < 64 then R.ok ((sortU ns).map D.int) st else .stuck | none => .stuck) = _
  rw [intDs_ints]; dsimp only; rw [if_pos l]
theorem endsAt_ok {i : Nat} {st : S} (h : st.env[i]? = some (.val (tD rs))) (l : rs.length < 1000) : dProp 5 F_Turns_ends (dV i) st = .ok (.tu ((endsP 0 rs).map D.int)) st := by
  obtain ⟨env, b⟩ := st
  exact e_prop (dV_ok h) (ends_ok l)
theorem sizeAt_ok {i : Nat} {st : S} (h : st.env[i]? = some (.val (tD rs))) (l : rs.length < 1000) : dProp 5 F_Turns_size (dV i) st = .ok (.int (whole rs)) st := by
  obtain ⟨env, b⟩ := st
  exact e_prop (dV_ok h) (size_ok l)
theorem corners_ok (l : rs.length + ts.length < 60) : F_corners [tD rs, tD ts] b = .ok (.tu ((cornL rs ts).map D.int)) b := by
  refine run_rt (s := ⟨[.val (tD rs), .val (tD ts)], b⟩) rfl (dRet_ok ?_)
  have p1 := endsAt_ok (i := 0) (rs := rs) (st := ⟨[.val (tD rs), .val (tD ts)], b⟩) rfl (by omega)
  have p2 := endsAt_ok (i := 1) (rs := ts) (st := ⟨[.val (tD rs), .val (tD ts)], b⟩) rfl (by omega)
  have l1 := ends_length rs 0
  have l2 := ends_length ts 0
  have t0 : dTup (dCons (dC (.int 0)) dNil) ⟨[.val (tD rs), .val (tD ts)], b⟩ = .ok (.tu ([0].map D.int)) ⟨[.val (tD rs), .val (tD ts)], b⟩ := dTup_ok (dCons_ok dC_ok dNil_ok) (Nat.le_of_ble_eq_true rfl)
  have a1 := dBin_ok t0 p1 (e_add_tu (xs := [0].map D.int) (ys := (endsP 0 rs).map D.int) (st := ⟨[.val (tD rs), .val (tD ts)], b⟩) (by simp; omega))
  have a2 := dBin_ok a1 p2 (e_add_tu (xs := [0].map D.int ++ (endsP 0 rs).map D.int) (ys := (endsP 0 ts).map D.int) (st := ⟨[.val (tD rs), .val (tD ts)], b⟩) (by simp; omega))
  have ee : [0].map D.int ++ (endsP 0 rs).map D.int ++ (endsP 0 ts).map D.int = (0 :: endsP 0 rs ++ endsP 0 ts).map D.int := by simp
  rw [ee] at a2
  have u : dUnF hSortSetB (dBin hAdd (dBin hAdd (dTup (dCons (dC (.int 0)) dNil)) (dProp 5 F_Turns_ends (dV 0))) (dProp 5 F_Turns_ends (dV 1))) ⟨[.val (tD rs), .val (tD ts)], b⟩ = .ok ((cornL rs ts).map D.int) ⟨[.val (tD rs), .val (tD ts)], b⟩ := by
    unfold dUnF
    rw [a2, bind_ok]
    exact sort_ok (by simp; omega)
  exact dCB_ok (dCons_ok (dClose_ok u) dNil_ok) rfl
theorem check_ok (l : rs.length < 1000 ∧ ts.length < 1000) (e : whole rs = whole ts) : F_check_size [tD rs, tD ts] b = .ok .non b := by
  have p1 := sizeAt_ok (i := 0) (rs := rs) (st := ⟨[.val (tD rs), .val (tD ts)], b⟩) rfl l.1
  have p2 := sizeAt_ok (i := 1) (rs := ts) (st := ⟨[.val (tD rs), .val (tD ts)], b⟩) rfl l.2
  have q : dBinB hNe (dProp 5 F_Turns_size (dV 0)) (dProp 5 F_Turns_size (dV 1)) ⟨[.val (tD rs), .val (tD ts)], b⟩ = .ok false ⟨[.val (tD rs), .val (tD ts)], b⟩ := by
    refine dBinB_ok p1 p2 ?_
    simp [hNe, hEq, deq_int, e]
  have f : B_check_size ⟨[.val (tD rs), .val (tD ts)], b⟩ = .ok .nx ⟨[.val (tD rs), .val (tD ts)], b⟩ := dIf_f q rfl
  exact run_nx (s := ⟨[.val (tD rs), .val (tD ts)], b⟩) rfl f
theorem check_err (l : rs.length < 1000 ∧ ts.length < 1000) (e : whole rs ≠ whole ts) : F_check_size [tD rs, tD ts] b = .err ⟨4, []⟩ b := by
  have p1 := sizeAt_ok (i := 0) (rs := rs) (st := ⟨[.val (tD rs), .val (tD ts)], b⟩) rfl l.1
  have p2 := sizeAt_ok (i := 1) (rs := ts) (st := ⟨[.val (tD rs), .val (tD ts)], b⟩) rfl l.2
  have q : dBinB hNe (dProp 5 F_Turns_size (dV 0)) (dProp 5 F_Turns_size (dV 1)) ⟨[.val (tD rs), .val (tD ts)], b⟩ = .ok true ⟨[.val (tD rs), .val (tD ts)], b⟩ := by
    refine dBinB_ok p1 p2 ?_
    simp [hNe, hEq, deq_int, e]
  have f : B_check_size ⟨[.val (tD rs), .val (tD ts)], b⟩ = .err ⟨4, []⟩ ⟨[.val (tD rs), .val (tD ts)], b⟩ := dIf_t q rfl
  exact run_err (s := ⟨[.val (tD rs), .val (tD ts)], b⟩) rfl f
theorem tryN_ok {tbl : Nat → Bool} {m iy iN : Nat} {f : S → R Out} {st st1 : S} {o : Out} (h : f st = .ok o st1) : dTry tbl m iy iN f st = .ok o st1 := by unfold dTry; rw [h]
theorem tryN_err {tbl : Nat → Bool} {m iy iN c : Nat} {ds : List D} {f : S → R Out} {st st1 : S} (h : f st = .err ⟨c, ds⟩ st1) (l : c < m ∧ iN < st1.env.length) (t : tbl c = true) : dTry tbl m iy iN f st = .ok .nx ((st1.put iy (.val (.er c ds))).put iN .un) := by
  unfold dTry; rw [h]; dsimp only; rw [if_pos l, if_pos t]
def unlike : D := .ls [.str "unlike", .bl true]
theorem plain_ls {n : Nat} {xs : List D} (l : xs.length ≤ 1000) (h : ∀ x ∈ xs, plainN n x = true) : plainN (n + 1) (.ls xs) = true := by
  show (decide (xs.length ≤ 16777216) && xs.all (plainN n)) = true
  rw [decide_eq_true (by omega), List.all_eq_true.mpr h]; rfl
theorem plain_tu {n : Nat} {xs : List D} (l : xs.length ≤ 1000) (h : ∀ x ∈ xs, plainN n x = true) : plainN (n + 1) (.tu xs) = true := by
  show (decide (xs.length ≤ 16777216) && xs.all (plainN n)) = true
  rw [decide_eq_true (by omega), List.all_eq_true.mpr h]; rfl
theorem plain_hT {n : Nat} {hs : List Bool} (l : hs.length ≤ 1000) : plainN (n + 2) (.tu (hT hs)) = true := plain_tu (by simpa using l) fun x hx => by
  obtain ⟨h, _, rfl⟩ := List.mem_map.mp hx
  exact hS_ok h
theorem plain_ints {n : Nat} {xs : List Int} (l : xs.length ≤ 1000) : plainN (n + 2) (.tu (xs.map D.int)) = true := plain_tu (by simpa using l) fun x hx => by
  obtain ⟨h, _, rfl⟩ := List.mem_map.mp hx
  rfl
end
end LW

namespace LW
open PySem PySem.Spec PyProof.Rows L2 DL
local macro_rules
  | `(tactic| decreasing_trivial_pre_omega) => `(tactic| first
    | with_reducible assumption
    | with_reducible exact dC_ok
    | with_reducible exact dNil_ok
    | with_reducible exact dNoP_ok
    | with_reducible exact s_next
    | ((with_reducible apply dV_ok); exact rfl)
    | with_reducible apply dCons_ok
    | with_reducible apply dBin_ok
    | with_reducible apply dBinB_ok
    | with_reducible apply e_call
    | with_reducible apply dCB_ok
    | with_reducible apply dCBF_ok
    | with_reducible apply dClose_ok
    | with_reducible apply dTup_ok
    | with_reducible apply dLst_ok
    | with_reducible apply dUn_ok
    | with_reducible apply dPart_ok
    | with_reducible apply dSlice_ok
    | with_reducible apply dSeqI_ok
    | with_reducible apply dOfB_ok
    | with_reducible apply dTru_bl
    | with_reducible apply dRet_ok
    | with_reducible apply e_prop
    | ((with_reducible apply e_lend); focus (exact rfl))
    | ((with_reducible apply t_lend); focus (exact rfl))
    | ((with_reducible apply sq); focus ((repeat' decreasing_trivial_pre_omega); done); focus (try dsimp only [List.set_cons_zero, List.set_cons_succ]); focus (exact rfl))
    | with_reducible apply s_set
    | with_reducible apply s_own
    | ((with_reducible apply s_app); focus (exact rfl))
    | with_reducible apply s_setIx
    | with_reducible apply s_par
    | with_reducible apply s_par3
    | with_reducible apply s_unp
    | ((with_reducible apply s_if_t); focus ((repeat' decreasing_trivial_pre_omega); done))
    | ((with_reducible apply s_if_f); focus ((repeat' decreasing_trivial_pre_omega); done))
    | (with_reducible apply o_not_t)
    | (with_reducible apply o_not_f)
    | ((with_reducible apply dAnd_t); focus ((repeat' decreasing_trivial_pre_omega); done))
    | ((with_reducible apply dAnd_f); ((repeat' decreasing_trivial_pre_omega); done))
    | ((with_reducible apply dOr_t); ((repeat' decreasing_trivial_pre_omega); done))
    | ((with_reducible apply dOr_f); focus ((repeat' decreasing_trivial_pre_omega); done))
    | ((with_reducible apply o_chain_t) <;> ((repeat' decreasing_trivial_pre_omega); done))
    | ((with_reducible apply o_chain_f) <;> ((repeat' decreasing_trivial_pre_omega); done))
    | ((with_reducible apply o_ltt); omega)
    | ((with_reducible apply o_ltf); omega)
    | ((with_reducible apply o_let); omega)
    | ((with_reducible apply o_lef); omega)
    | ((with_reducible apply o_gtt); omega)
    | ((with_reducible apply o_gtf); omega)
    | ((with_reducible apply o_get); omega)
    | ((with_reducible apply o_gef); omega)
    | ((with_reducible apply e_mulr); omega)
    | ((with_reducible apply e_mull); omega)
    | ((with_reducible apply e_div); omega)
    | ((with_reducible apply e_mod); omega)
    | ((with_reducible apply e_add_ls); first | exact Nat.le_of_ble_eq_true rfl | (simp; done) | (simp; omega))
    | ((with_reducible apply e_add_tu); first | exact Nat.le_of_ble_eq_true rfl | (simp; done) | (simp; omega))
    | exact (rfl : (_ : S) = _)
    | exact (rfl : (_ : R D) = _)
    | exact (rfl : (_ : R Bool) = _)
    | exact (rfl : (_ : R (List D)) = _)
    | exact (rfl : (_ : Option _) = _)
    | exact (rfl : (_ : Nat) = _)
    | exact Nat.le_of_ble_eq_true rfl
    | exact Nat.lt_of_lt_of_le (Nat.lt_succ_self _) (Nat.le_of_ble_eq_true rfl))
def NE_1 : S → R Out := (dOwn 2 (dCBF hListOf (dCons (dV 1) dNil)))
def NE_2b_1 : S → R Out := (dSet 4 (dCall 2 F_law_take [] (dCons (dV 0) (dCons (dLend 2 (dBin hSub (dCB hLen (dCons (dV 2) dNil)) (dC (.int 1)))) dNil))))
def NE_2b_2 : S → R Out := (dOwn 2 (dLendF 2 (dCat (dBin hAdd (dSlice (dV 2) dNoP (dPart (dV 4))) (dUn hBack (dSlice (dV 2) (dPart (dV 4)) (dPart (dBin hAdd (dV 4) (dC (.int 2))))))) (dSlice (dV 2) (dPart (dBin hAdd (dV 4) (dC (.int 2)))) dNoP))))
def NE_2b : S → R Out := (dSeq NE_2b_1 NE_2b_2)
def NE_2 : S → R Out := dFor (.nm 3) (dCBF hRange1 (dCons (dLend 2 (dBin hMul (dCall 2 F_law_take [] (dCons (dV 0) (dCons (dC (.int 4)) dNil))) (dCB hInt (dCons (dOfB (dBinB hGt (dCB hLen (dCons (dV 2) dNil)) (dC (.int 1)))) dNil)))) dNil)) NE_2b
def NE_3 : S → R Out := (dIf (dLendB 2 (dAnd (dBinB hNe (dV 2) (dClose (dLst dNil))) (dBinB hEq (dCall 2 F_law_take [] (dCons (dV 0) (dCons (dC (.int 3)) dNil))) (dC (.int 0))))) (dSetIx 2 (dCall 2 F_law_of [] (dCons (dV 0) (dCons (dClose (dLst (dCons (dC (.str "a")) (dCons (dC (.str "b")) dNil)))) dNil))) (dCall 2 F_law_take [] (dCons (dV 0) (dCons (dLend 2 (dCB hLen (dCons (dV 2) dNil))) dNil)))) dNext)
def NE_4 : S → R Out := (dRet (dCB hTupOf (dCons (dV 2) dNil)))
theorem NE_is : B_law_near = (dSeq NE_1 (dSeq NE_2 (dSeq NE_3 NE_4))) := rfl
section
variable {b : Bx} {X : Sl} {rs ts bs : List Pr} {n w : Int} {g h who : Bool}
theorem lenPr (p : List Pr) {st : S} : hLen [.ls (p.map pr)] st = .ok (.int (p.length : Nat)) st := by
  show R.ok (D.int ((p.map pr).length : Nat)) _ = _
  rw [List.length_map]
theorem eqI {p q : Int} {st : S} : hEq (.int p) (.int q) st = .ok (decide (p = q)) st := by
  by_cases z : p = q <;> simp [hEq, deq_int, z]
theorem perm_erase {α : Type} : ∀ (l : List α) (i : Nat) (x : α), l[i]? = some x → (x :: l.eraseIdx i).Perm l
  | [], _, _, h => by simp at h
  | y :: l, 0, x, h => by
    have : y = x := by simpa using h
    rw [this]; exact .refl _
  | y :: l, i + 1, x, h => ((List.Perm.swap y x _).trans ((perm_erase l i x (by simpa using h)).cons y))
theorem erase_prs : ∀ (l : List Pr) (i : Nat), (l.map pr).eraseIdx i = (l.eraseIdx i).map pr
  | [], _ => rfl
  | _ :: _, 0 => rfl
  | x :: l, i + 1 => congrArg (pr x :: ·) (erase_prs l i)
theorem moveP_turn {st : S} {i j : Nat} {p f : List Pr} {m : Nat} (hb : st.env[0]? = some (.val .box)) (hi : st.env[i]? = some (.own (p.map pr))) (hj : st.env[j]? = some (.own (f.map pr))) (ij : i ≠ j) (i0 : i ≠ 0)
    (hp : 0 < p.length) (hl : p.length < 1000) (hf : f.length < 1000) (g : Gd (m + 1) st.bx) :
    ∃ (k : Nat) (x : Pr) (b' : Bx), p[k]? = some x ∧ Gd m b' ∧
      dApp j (dPop i (dCall 2 F_law_take [] (dCons (dV 0) (dCons (dLend i (dCB hLen (dCons (dV i) dNil))) dNil)))) st = .ok .nx ⟨(st.env.set i (.own ((p.eraseIdx k).map pr))).set j (.own ((f ++ [x]).map pr)), b'⟩ := by
  obtain ⟨k, b', e, k0, k1, g1⟩ := take_spec (p.length : Nat) m st.bx (by omega) (by omega) g
  have hk : k.toNat < p.length := by omega
  refine ⟨k.toNat, p[k.toNat], b', List.getElem?_eq_getElem hk, g1, ?_⟩
  have li : i < st.env.length := (List.getElem?_eq_some_iff.mp hi).1
  have ln : dLend i (dCB hLen (dCons (dV i) dNil)) st = .ok (.int (p.length : Nat)) st := by
    unfold dLend
    rw [hi]
    dsimp only
    have e1 : (dCB hLen (dCons (dV i) dNil)) (st.put i (.val (.ls (p.map pr)))).hide = .ok (.int (p.length : Nat)) (st.put i (.val (.ls (p.map pr)))).hide := by
      refine dCB_ok (dCons_ok (dV_ok ?_) dNil_ok) (lenPr p)
      show ((st.env.set i (.val (.ls (p.map pr)))).map Sl.hide)[i]? = _
      rw [List.getElem?_map, List.getElem?_set_self li]
      rfl
    rw [e1]
    rfl
  have cl : dCall 2 F_law_take [] (dCons (dV 0) (dCons (dLend i (dCB hLen (dCons (dV i) dNil))) dNil)) st = .ok (.int k) { st with bx := b' } := dCall_ok (dCons_ok (dV_ok hb) (dCons_ok ln dNil_ok)) rfl e
  have pp : dPop i (dCall 2 F_law_take [] (dCons (dV 0) (dCons (dLend i (dCB hLen (dCons (dV i) dNil))) dNil))) st = .ok (pr p[k.toNat]) ⟨st.env.set i (.own ((p.eraseIdx k.toNat).map pr)), b'⟩ := by
    unfold dPop
    rw [hi]
    dsimp only
    rw [cl, bind_ok]
    dsimp only
    rw [hi]
    dsimp only
    rw [if_pos ⟨k0, by omega⟩, List.getElem?_map, List.getElem?_eq_getElem hk, erase_prs]
    rfl
  unfold dApp
  rw [hj]
  dsimp only
  rw [pp, bind_ok]
  have hj2 : (st.env.set i (.own ((p.eraseIdx k.toNat).map pr)))[j]? = some (.own (f.map pr)) := by rw [List.getElem?_set_ne ij]; exact hj
  dsimp only
  rw [hj2]
  dsimp only
  rw [List.length_map, if_pos (by omega), List.map_append]
  rfl
abbrev movePB (i j : Nat) : S → R Out := dApp j (dPop i (dCall 2 F_law_take [] (dCons (dV 0) (dCons (dLend i (dCB hLen (dCons (dV i) dNil))) dNil))))
theorem moveP_loop {i j t : Nat} (ij : i ≠ j) (i0 : i ≠ 0) (j0 : j ≠ 0) (t0 : t ≠ 0) (ti : t ≠ i) (tj : t ≠ j) : ∀ (ds : List D) (st : S) (p f : List Pr) (m : Nat), st.env[0]? = some (.val .box) → st.env[i]? = some (.own (p.map pr)) → st.env[j]? = some (.own (f.map pr)) →
    ds.length ≤ p.length → p.length + f.length < 1000 → Gd (m + ds.length) st.bx →
    ∃ (st' : S) (p' f' : List Pr), forD (.nm t) (movePB i j) ds st = .ok .nx st' ∧ st'.env[j]? = some (.own (f'.map pr)) ∧ (f' ++ p').Perm (f ++ p) ∧ f'.length = f.length + ds.length ∧ Gd m st'.bx
  | [], st, p, f, m, hb, hi, hj, _, _, g => ⟨st, p, f, rfl, hj, .refl _, by simp, by simpa using g⟩
  | d :: ds, st, p, f, m, hb, hi, hj, hl, hs, g => by
    have hp : 0 < p.length := by simp at hl; omega
    have b1 : (st.put t (.val d)).env[0]? = some (.val .box) := by show (st.env.set t _)[0]? = _; rw [List.getElem?_set_ne t0]; exact hb
    have i1 : (st.put t (.val d)).env[i]? = some (.own (p.map pr)) := by show (st.env.set t _)[i]? = _; rw [List.getElem?_set_ne ti]; exact hi
    have j1 : (st.put t (.val d)).env[j]? = some (.own (f.map pr)) := by show (st.env.set t _)[j]? = _; rw [List.getElem?_set_ne tj]; exact hj
    obtain ⟨k, x, b', hk, g1, e⟩ := moveP_turn (m := m + ds.length) (st := st.put t (.val d)) b1 i1 j1 ij i0 hp (by omega) (by omega) (by show Gd (m + ds.length + 1) st.bx; exact g)
    have lj : j < ((st.put t (.val d)).env.set i (.own ((p.eraseIdx k).map pr))).length := by rw [List.length_set]; exact (List.getElem?_eq_some_iff.mp j1).1
    have li : i < (st.put t (.val d)).env.length := (List.getElem?_eq_some_iff.mp i1).1
    have kl : k < p.length := (List.getElem?_eq_some_iff.mp hk).1
    have el : (p.eraseIdx k).length = p.length - 1 := List.length_eraseIdx_of_lt kl
    obtain ⟨st', p', f', e2, h2, pm, ln, g2⟩ := moveP_loop ij i0 j0 t0 ti tj ds ⟨((st.put t (.val d)).env.set i (.own ((p.eraseIdx k).map pr))).set j (.own ((f ++ [x]).map pr)), b'⟩ (p.eraseIdx k) (f ++ [x]) m
      (by show (List.set _ _ _)[0]? = _; rw [List.getElem?_set_ne j0, List.getElem?_set_ne i0]; exact b1)
      (by show (List.set _ _ _)[i]? = _; rw [List.getElem?_set_ne (Ne.symm ij), List.getElem?_set_self li])
      (by show (List.set _ _ _)[j]? = _; rw [List.getElem?_set_self lj])
      (by simp at hl; omega) (by simp; omega) g1
    refine ⟨st', p', f', (forD_nx rfl e).trans e2, h2, pm.trans ?_, by rw [ln]; simp; omega, g2⟩
    rw [List.append_assoc]
    exact (List.Perm.append_left f (perm_erase p k x hk))
theorem pickP_spec {goods : List Pr} {m : Nat} {b : Bx} (hl : goods.length < 400) (g : Gd (m + goods.length) b) : ∃ (f' : List Pr) (b' : Bx), F_law_pick [.box, .tu (goods.map pr), .int (goods.length : Nat)] b = .ok (.ls (f'.map pr)) b' ∧ f'.Perm goods ∧ Gd m b' := by
  obtain ⟨st', p', f', e, hj, pm, ln, g2⟩ := moveP_loop (i := 4) (j := 5) (t := 3) (by decide) (by decide) (by decide) (by decide) (by decide) (by decide) (rangeD 0 goods.length) ⟨[.val .box, .val (.tu (goods.map pr)), .val (.int (goods.length : Nat)), .un, .own (goods.map pr), .own []], b⟩ goods [] m rfl rfl rfl
    (by unfold rangeD; simp) (by simp; omega) (g.less (by unfold rangeD; simp))
  have rl : (rangeD 0 goods.length).length = goods.length := by unfold rangeD; simp
  have pm' : (f' ++ p').Perm goods := by simpa using pm
  have fl : f'.length = goods.length := by rw [ln, rl]; simp
  have p0 : p' = [] := by
    have := pm'.length_eq
    rw [List.length_append] at this
    exact List.length_eq_zero_iff.mp (by omega)
  subst p0
  rw [List.append_nil] at pm'
  refine ⟨f', st'.bx, ?_, pm', g2⟩
  refine run_rt (s := st'.put 5 (.val (.ls (f'.map pr)))) rfl ?_
  refine (seq_nx (st1 := ⟨[.val .box, .val (.tu (goods.map pr)), .val (.int (goods.length : Nat)), .un, .own (goods.map pr), .own []], b⟩) rfl).trans ?_
  have mn : gMin (goods.length : Int) (goods.length : Int) = (goods.length : Int) := by unfold gMin; split <;> rfl
  have rg : dCBF hRange1 (dCons (dLend 4 (dCB (h2 gMin) (dCons (dCB hInt (dCons (dV 2) dNil)) (dCons (dCB hLen (dCons (dV 4) dNil)) dNil)))) dNil) ⟨[.val .box, .val (.tu (goods.map pr)), .val (.int (goods.length : Nat)), .un, .own (goods.map pr), .own []], b⟩ = .ok (rangeD 0 goods.length) ⟨[.val .box, .val (.tu (goods.map pr)), .val (.int (goods.length : Nat)), .un, .own (goods.map pr), .own []], b⟩ := by
    have hl4 : hLen [.ls (goods.map pr)] ⟨[.val .box, .val (.tu (goods.map pr)), .val (.int (goods.length : Nat)), .un, .val (.ls (goods.map pr)), .un], b⟩ = .ok (.int (goods.length : Nat)) ⟨[.val .box, .val (.tu (goods.map pr)), .val (.int (goods.length : Nat)), .un, .val (.ls (goods.map pr)), .un], b⟩ := by
      show R.ok (D.int ((goods.map pr).length : Nat)) _ = _
      rw [List.length_map]
    have e2 : dCB (h2 gMin) (dCons (dCB hInt (dCons (dV 2) dNil)) (dCons (dCB hLen (dCons (dV 4) dNil)) dNil)) ⟨[.val .box, .val (.tu (goods.map pr)), .val (.int (goods.length : Nat)), .un, .val (.ls (goods.map pr)), .un], b⟩ = .ok (.int (goods.length : Nat)) ⟨[.val .box, .val (.tu (goods.map pr)), .val (.int (goods.length : Nat)), .un, .val (.ls (goods.map pr)), .un], b⟩ :=
      dCB_ok (dCons_ok (dCB_ok (dCons_ok (dV_ok rfl) dNil_ok) rfl) (dCons_ok (dCB_ok (dCons_ok (dV_ok rfl) dNil_ok) hl4) dNil_ok)) (by
        show R.ok (D.int (gMin (goods.length : Int) (goods.length : Int))) _ = _
        rw [mn])
    exact dCBF_ok (dCons_ok (e_lend rfl e2 rfl) dNil_ok) (hRange1_nat (by omega))
  refine (seq_nx (dFor_ok rg e)).trans (dRet_ok ?_)
  unfold dV
  rw [hj]
theorem ofAB {m : Nat} (g : Gd (m + 1) b) : ∃ (t : Bool) (b' : Bx), F_law_of [.box, .ls [.str "a", .str "b"]] b = .ok (.str (hS t)) b' ∧ Gd m b' := by
  obtain ⟨k, b1, hk, e1, g1⟩ := of_spec (gs := [.str "a", .str "b"]) (m := m) (b := b) (by simp) (by decide) g
  obtain ⟨t, ht⟩ : ∃ t : Bool, ([.str "a", .str "b"] : List D)[k] = .str (hS t) := by
    match k, hk with
    | 0, _ => exact ⟨true, rfl⟩
    | 1, _ => exact ⟨false, rfl⟩
  rw [ht] at e1
  exact ⟨t, b1, e1, g1⟩
theorem word_comp {n : Int} : ∀ (ds : List D) (m : Nat) (b : Bx) (hs : List Bool), Gd (m + ds.length) b → hs.length + ds.length ≤ 1000 → ∃ (gs : List Bool) (b' : Bx), compD (.nm 2) [2] dYes (dCall 2 F_law_of [] (dCons (dV 0) (dCons (dClose (dLst (dCons (dC (.str "a")) (dCons (dC (.str "b")) dNil)))) dNil))) ds (hT hs) ⟨[.val .box, .val (.int n), .un], b⟩ = .ok (hT gs) ⟨[.val .box, .val (.int n), .un], b'⟩ ∧ gs.length = hs.length + ds.length ∧ Gd m b'
  | [], m, b, hs, g, l => ⟨hs, b, rfl, rfl, g⟩
  | d :: ds, m, b, hs, g, l => by
    rw [List.length_cons] at g l
    obtain ⟨t, b1, e1, g1⟩ := ofAB (m := m + ds.length) (b := b) (g.less (by omega))
    obtain ⟨gs, b', e2, l2, g2⟩ := word_comp ds m b1 (hs ++ [t]) g1 (by simp; omega)
    refine ⟨gs, b', ?_, by rw [l2, List.length_cons]; simp; omega, g2⟩
    have c : dCall 2 F_law_of [] (dCons (dV 0) (dCons (dClose (dLst (dCons (dC (.str "a")) (dCons (dC (.str "b")) dNil)))) dNil)) ⟨[.val .box, .val (.int n), .val d], b⟩ = .ok (.str (hS t)) ⟨[.val .box, .val (.int n), .val d], b1⟩ :=
      e_call (dCons_ok (dV_ok rfl) (dCons_ok (dClose_ok (dLst_ok (dCons_ok dC_ok (dCons_ok dC_ok dNil_ok)) (Nat.le_of_ble_eq_true rfl))) dNil_ok)) rfl e1
    have tn : turnD (.nm 2) [2] dYes (dCall 2 F_law_of [] (dCons (dV 0) (dCons (dClose (dLst (dCons (dC (.str "a")) (dCons (dC (.str "b")) dNil)))) dNil))) d ⟨[.val .box, .val (.int n), .un], b⟩ = .ok (some (.str (hS t))) ⟨[.val .box, .val (.int n), .val d], b1⟩ := by
      unfold turnD
      show (R.bind (R.ok () ⟨[.val .box, .val (.int n), .val d], b⟩) _) = _
      rw [bind_ok]
      show (R.bind (R.ok true _) _) = _
      rw [bind_ok, if_pos rfl, c]
      rfl
    unfold compD
    rw [tn]
    have hl : (hT hs).length < 16777216 := by simp; omega
    dsimp only
    rw [if_pos hl]
    have ee : hT hs ++ [.str (hS t)] = hT (hs ++ [t]) := by simp [hT]
    rw [ee]
    exact e2
theorem word_ok {n m : Nat} (hn : n ≤ 100) (g : Gd (m + n) b) : ∃ (hs : List Bool) (b' : Bx), F_law_word [.box, .int (n : Nat)] b = .ok (.tu (hT hs)) b' ∧ hs.length = n ∧ Gd m b' := by
  have rl : (rangeD 0 n).length = n := by unfold rangeD; simp
  obtain ⟨hs, b', e, l, g'⟩ := word_comp (n := (n : Nat)) (rangeD 0 n) m b [] (by rw [rl]; exact g) (by rw [rl]; simp; omega)
  refine ⟨hs, b', ?_, by rw [l, rl]; simp, g'⟩
  refine run_rt (s := ⟨[.val .box, .val (.int (n : Nat)), .un], b'⟩) rfl (dRet_ok ?_)
  have c : dComp (.nm 2) [2] (dCBF hRange1 (dCons (dV 1) dNil)) dYes (dCall 2 F_law_of [] (dCons (dV 0) (dCons (dClose (dLst (dCons (dC (.str "a")) (dCons (dC (.str "b")) dNil)))) dNil))) ⟨[.val .box, .val (.int (n : Nat)), .un], b⟩ = .ok (hT hs) ⟨[.val .box, .val (.int (n : Nat)), .un], b'⟩ :=
    dComp_ok (dCBF_ok (dCons_ok (dV_ok rfl) dNil_ok) (hRange1_nat (by omega))) e
  exact dCB_ok (dCons_ok (dClose_ok c) dNil_ok) rfl
theorem flats_hT : ∀ hs : List Bool, flatDs (hT hs) = some (hs.map fun h => V.str (hS h))
  | [] => rfl
  | h :: hs => by
    show (some (V.str (hS h))).bind (fun v => (flatDs (hT hs)).map fun vs => v :: vs) = _
    rw [flats_hT hs]; rfl
theorem lendF_ok {i : Nat} {f : S → R (List D)} {σ ρ : List Sl} {a c : Bx} {ds es : List D} {vs : List V} (h0 : σ[i]? = some (.own ds)) (h1 : f ⟨(σ.set i (.val (.ls ds))).map Sl.hide, a⟩ = .ok es ⟨ρ, c⟩) (h2 : flatDs es = some vs) : dLendF i f ⟨σ, a⟩ = .ok es ⟨σ, c⟩ := by
  unfold dLendF
  dsimp only
  rw [h0]
  dsimp only
  show (match f ⟨(σ.set i (.val (.ls ds))).map Sl.hide, a⟩ with | .ok d s => if (flatDs d).isSome then R.ok d _ else .stuck | _ => .stuck) = _
  rw [h1]
  dsimp only
  rw [h2]; rfl
theorem lenT (hs : List Bool) {st : S} : hLen [.ls (hT hs)] st = .ok (.int (hs.length : Nat)) st := by
  show R.ok (D.int ((hT hs).length : Nat)) _ = _
  rw [List.length_map]
theorem lsl_to {hs : List Bool} {i : Int} (h : 0 ≤ i) : sliceD (.ls (hT hs)) none (some i) = some (.ls (hT (hs.take i.toNat))) := by
  show some (D.ls (DL.cutD (hT hs) none (some i))) = _
  rw [cut_to _ h]; simp [hT, List.map_take]
theorem lsl_from {hs : List Bool} {i : Int} (h : 0 ≤ i) : sliceD (.ls (hT hs)) (some i) none = some (.ls (hT (hs.drop i.toNat))) := by
  show some (D.ls (DL.cutD (hT hs) (some i) none)) = _
  rw [cut_from _ h]; simp [hT, List.map_drop]
theorem lsl_mid {hs : List Bool} {i j : Int} (h : 0 ≤ i) (hj : i ≤ j) : sliceD (.ls (hT hs)) (some i) (some j) = some (.ls (hT ((hs.drop i.toNat).take (j - i).toNat))) := by
  show some (D.ls (DL.cutD (hT hs) (some i) (some j))) = _
  rw [cut_mid _ h hj]; simp [hT, List.map_drop, List.map_take]
abbrev NS (d : D) (hs : List Bool) (x3 x4 : Sl) (b : Bx) : S := ⟨[.val .box, .val d, .own (hT hs), x3, x4], b⟩
abbrev NV (d : D) (hs : List Bool) (x3 x4 : Sl) (b : Bx) : S := ⟨[.val .box, .val d, .val (.ls (hT hs)), x3, x4], b⟩
theorem near_turn {d : D} {hs : List Bool} {m : Nat} {y : D} {x4 : Sl} (l : 2 ≤ hs.length ∧ hs.length ≤ 100) (g : Gd (m + 1) b) : ∃ (hs' : List Bool) (k : Int) (b' : Bx), NE_2b (NS d hs (.val y) x4 b) = .ok .nx (NS d hs' (.val y) (.val (.int k)) b') ∧ hs'.length = hs.length ∧ Gd m b' := by
  obtain ⟨k, b1, e, k0, k1, g1⟩ := take_spec ((hs.length : Int) - 1) m b (by omega) (by omega) g
  obtain ⟨n, rfl⟩ : ∃ n : Nat, k = (n : Nat) := ⟨k.toNat, by omega⟩
  refine ⟨hs.take n ++ ((hs.drop n).take 2).reverse ++ hs.drop (n + 2), (n : Nat), b1, ?_, by simp; omega, g1⟩
  have c : dLend 2 (dBin hSub (dCB hLen (dCons (dV 2) dNil)) (dC (.int 1))) (NS d hs (.val y) x4 b) = .ok (.int ((hs.length : Int) - 1)) (NS d hs (.val y) x4 b) :=
    e_lend (ds := hT hs) rfl (dBin_ok (dCB_ok (dCons_ok (dV_ok rfl) dNil_ok) (lenT hs)) dC_ok rfl) rfl
  have o1 : NE_2b_1 (NS d hs (.val y) x4 b) = .ok .nx (NS d hs (.val y) (.val (.int (n : Nat))) b1) := dSet_ok (e_call (dCons_ok (dV_ok rfl) (dCons_ok c dNil_ok)) rfl e)
  have o2 : NE_2b_2 (NS d hs (.val y) (.val (.int (n : Nat))) b1) = .ok .nx (NS d (hs.take n ++ ((hs.drop n).take 2).reverse ++ hs.drop (n + 2)) (.val y) (.val (.int (n : Nat))) b1) := by
    have n2 : dPart (dBin hAdd (dV 4) (dC (.int 2))) (NV d hs (.val y) (.val (.int (n : Nat))) b1) = .ok (some ((n : Int) + 2)) (NV d hs (.val y) (.val (.int (n : Nat))) b1) := dPart_ok (dBin_ok (dV_ok rfl) dC_ok rfl)
    have n1 : dPart (dV 4) (NV d hs (.val y) (.val (.int (n : Nat))) b1) = .ok (some (n : Int)) (NV d hs (.val y) (.val (.int (n : Nat))) b1) := dPart_ok (dV_ok rfl)
    have s1 := dSlice_ok (f := dV 2) (st := NV d hs (.val y) (.val (.int (n : Nat))) b1) (dV_ok rfl) dNoP_ok n1 (lsl_to (hs := hs) (by omega))
    have s2 := dSlice_ok (f := dV 2) (st := NV d hs (.val y) (.val (.int (n : Nat))) b1) (dV_ok rfl) n1 n2 (lsl_mid (hs := hs) (by omega) (by omega))
    have s3 := dSlice_ok (f := dV 2) (st := NV d hs (.val y) (.val (.int (n : Nat))) b1) (dV_ok rfl) n2 dNoP_ok (lsl_from (hs := hs) (by omega))
    rw [show (n : Int).toNat = n by omega] at s1
    rw [show (n : Int).toNat = n by omega, show ((n : Int) + 2 - (n : Int)).toNat = 2 by omega] at s2
    rw [show ((n : Int) + 2).toNat = n + 2 by omega] at s3
    have bk : dUn hBack (dSlice (dV 2) (dPart (dV 4)) (dPart (dBin hAdd (dV 4) (dC (.int 2))))) (NV d hs (.val y) (.val (.int (n : Nat))) b1) = .ok (.ls (hT ((hs.drop n).take 2).reverse)) (NV d hs (.val y) (.val (.int (n : Nat))) b1) := dUn_ok s2 (by
      show R.ok (D.ls (hT ((hs.drop n).take 2)).reverse) _ = _
      simp [hT])
    have ad := dBin_ok s1 bk (e_add_ls (xs := hT (hs.take n)) (ys := hT ((hs.drop n).take 2).reverse) (by simp; omega))
    have ct : dCat (dBin hAdd (dSlice (dV 2) dNoP (dPart (dV 4))) (dUn hBack (dSlice (dV 2) (dPart (dV 4)) (dPart (dBin hAdd (dV 4) (dC (.int 2))))))) (dSlice (dV 2) (dPart (dBin hAdd (dV 4) (dC (.int 2)))) dNoP) (NV d hs (.val y) (.val (.int (n : Nat))) b1) = .ok (hT (hs.take n ++ ((hs.drop n).take 2).reverse ++ hs.drop (n + 2))) (NV d hs (.val y) (.val (.int (n : Nat))) b1) := by
      refine dCat_ok ad s3 ?_
      refine (if_pos (by simp; omega)).trans ?_
      simp [hT]
    exact dOwn_ok (lendF_ok (σ := [.val .box, .val d, .own (hT hs), .val y, .val (.int (n : Nat))]) (ds := hT hs) rfl ct (flats_hT _))
  unfold NE_2b
  rw [seq_nx o1]
  exact o2
theorem near_loop {d : D} : ∀ (ds : List D) (m : Nat) (b : Bx) (hs : List Bool) (x3 x4 : Sl), 2 ≤ hs.length ∧ hs.length ≤ 100 → Gd (m + ds.length) b → ∃ (hs' : List Bool) (b' : Bx) (y3 y4 : Sl), forD (.nm 3) NE_2b ds (NS d hs x3 x4 b) = .ok .nx (NS d hs' y3 y4 b') ∧ hs'.length = hs.length ∧ Gd m b'
  | [], m, b, hs, x3, x4, l, g => ⟨hs, b, x3, x4, rfl, rfl, g⟩
  | y :: ds, m, b, hs, x3, x4, l, g => by
    rw [List.length_cons] at g
    obtain ⟨hs1, k, b1, e, l1, g1⟩ := near_turn (d := d) (y := y) (x4 := x4) (m := m + ds.length) l (g.less (by omega))
    obtain ⟨hs', b', y3, y4, e2, l2, g2⟩ := near_loop ds m b1 hs1 (.val y) (.val (.int k)) (by omega) g1
    exact ⟨hs', b', y3, y4, (forD_nx (st1 := NS d hs (.val y) x4 b) rfl e).trans e2, by omega, g2⟩
theorem ne_nil (h : Bool) (hs : List Bool) {st : S} : hNe (.ls (hT (h :: hs))) (.ls []) st = .ok true st := by
  have e : deq (.ls (hT (h :: hs))) (.ls []) = some false := by
    unfold deq
    have t : toP (.ls (hT (h :: hs))) = some (.list ((h :: hs).map fun h => .str (hS h))) := by
      show (toPs (hT (h :: hs))).map _ = _
      rw [toP_hT]; rfl
    have sh : SeqAt.shaped (.list ((h :: hs).map fun h => .str (hS h))) = true := by
      unfold SeqAt.shaped
      rw [PyData.canLay0, canAll_hT, PyData.depth, depth_hT]
      rfl
    have h0 : SeqAt.shaped (.list []) = true := shaped_row []
    have t0 : toP (.ls []) = some (.list []) := rfl
    rw [t, t0]
    dsimp only
    rw [sh, h0]
    rw [PyData.eqv, List.map_cons, PyData.eqvAll]
    all_goals simp
  unfold hNe
  rw [e]; rfl
theorem near_ok {hs : List Bool} {m : Nat} (l : hs.length ≤ 100) (g : Gd (m + 10) b) : ∃ (hs' : List Bool) (b' : Bx), F_law_near [.box, .tu (hT hs)] b = .ok (.tu (hT hs')) b' ∧ hs'.length = hs.length ∧ Gd m b' := by
  obtain ⟨j, b1, e1, j0, j1, g1⟩ := take_spec 4 (m + 9) b (by omega) (by omega) g
  have o1 : NE_1 ⟨[.box, .tu (hT hs)].map Sl.val ++ List.replicate (5 - 2) Sl.un, b⟩ = .ok .nx (NS (.tu (hT hs)) hs .un .un b) := rfl
  -- the exchanges
  have c1 : dCall 2 F_law_take [] (dCons (dV 0) (dCons (dC (.int 4)) dNil)) (NV (.tu (hT hs)) hs .un .un b) = .ok (.int j) (NV (.tu (hT hs)) hs .un .un b1) := e_call (dCons_ok (dV_ok rfl) (dCons_ok dC_ok dNil_ok)) rfl e1
  have c2 : dCB hInt (dCons (dOfB (dBinB hGt (dCB hLen (dCons (dV 2) dNil)) (dC (.int 1)))) dNil) (NV (.tu (hT hs)) hs .un .un b1) = .ok (.int (if 1 < hs.length then 1 else 0)) (NV (.tu (hT hs)) hs .un .un b1) := by
    have q : dBinB hGt (dCB hLen (dCons (dV 2) dNil)) (dC (.int 1)) (NV (.tu (hT hs)) hs .un .un b1) = .ok (decide (1 < hs.length)) (NV (.tu (hT hs)) hs .un .un b1) := by
      refine dBinB_ok (dCB_ok (dCons_ok (dV_ok rfl) dNil_ok) (lenT hs)) dC_ok ?_
      show R.ok (decide ((1 : Int) < (hs.length : Nat))) _ = _
      by_cases z : 1 < hs.length
      · rw [decide_eq_true z, decide_eq_true (by omega)]
      · rw [decide_eq_false z, decide_eq_false (by omega)]
    refine dCB_ok (dCons_ok (dOfB_ok q) dNil_ok) ?_
    by_cases z : 1 < hs.length
    · rw [decide_eq_true z, if_pos z]; rfl
    · rw [decide_eq_false z, if_neg z]; rfl
  have c3 : dLend 2 (dBin hMul (dCall 2 F_law_take [] (dCons (dV 0) (dCons (dC (.int 4)) dNil))) (dCB hInt (dCons (dOfB (dBinB hGt (dCB hLen (dCons (dV 2) dNil)) (dC (.int 1)))) dNil))) (NS (.tu (hT hs)) hs .un .un b) = .ok (.int (j * (if 1 < hs.length then 1 else 0))) (NS (.tu (hT hs)) hs .un .un b1) :=
    e_lend (ds := hT hs) rfl (dBin_ok c1 c2 (e_mulr (by split <;> omega))) rfl
  obtain ⟨n, hn, nj⟩ : ∃ n : Nat, j * (if 1 < hs.length then 1 else 0) = (n : Int) ∧ n ≤ 3 ∧ (0 < n → 2 ≤ hs.length) := by
    by_cases z : 1 < hs.length
    · rw [if_pos z]; exact ⟨j.toNat, by omega, by omega, fun _ => by omega⟩
    · rw [if_neg z]; exact ⟨0, by omega, by omega, fun h => by omega⟩
  rw [hn] at c3
  have rl : (rangeD 0 n).length = n := by unfold rangeD; simp
  obtain ⟨hs1, b2, y3, y4, e2, l2, g2⟩ : ∃ (hs' : List Bool) (b' : Bx) (y3 y4 : Sl), forD (.nm 3) NE_2b (rangeD 0 n) (NS (.tu (hT hs)) hs .un .un b1) = .ok .nx (NS (.tu (hT hs)) hs' y3 y4 b') ∧ hs'.length = hs.length ∧ Gd (m + 6) b' := by
    by_cases z : 0 < n
    · exact near_loop (rangeD 0 n) (m + 6) b1 hs .un .un ⟨nj.2 z, l⟩ (g1.less (by omega))
    · have : n = 0 := by omega
      subst this
      exact ⟨hs, b1, .un, .un, rfl, rfl, g1.less (by omega)⟩
  have o2 : NE_2 (NS (.tu (hT hs)) hs .un .un b) = .ok .nx (NS (.tu (hT hs)) hs1 y3 y4 b2) := dFor_ok (dCBF_ok (dCons_ok c3 dNil_ok) (hRange1_nat (by omega))) e2
  -- one of them changed, maybe
  obtain ⟨hs2, b3, o3, l3, g3⟩ : ∃ (hs' : List Bool) (b' : Bx), NE_3 (NS (.tu (hT hs)) hs1 y3 y4 b2) = .ok .nx (NS (.tu (hT hs)) hs' y3 y4 b') ∧ hs'.length = hs1.length ∧ Gd m b' := by
    match hs1, l2 with
    | [], _ => exact ⟨[], b2, rfl, rfl, g2.less (by omega)⟩
    | h :: hs0, l2 =>
      have ll : hs0.length + 1 ≤ 100 := by rw [List.length_cons] at l2; omega
      obtain ⟨q, b3, e3, q0, q1, g3⟩ := take_spec 3 (m + 5) b2 (by omega) (by omega) (g2.less (by omega))
      have v2 : dBinB hNe (dV 2) (dClose (dLst dNil)) ⟨([.val .box, .val (.tu (hT hs)), .val (.ls (hT (h :: hs0))), y3, y4] : List Sl).map Sl.hide, b2⟩ = .ok true ⟨([.val .box, .val (.tu (hT hs)), .val (.ls (hT (h :: hs0))), y3, y4] : List Sl).map Sl.hide, b2⟩ :=
        dBinB_ok (dV_ok rfl) (dClose_ok (dLst_ok dNil_ok (Nat.le_of_ble_eq_true rfl))) (ne_nil h hs0)
      have v3 : dCall 2 F_law_take [] (dCons (dV 0) (dCons (dC (.int 3)) dNil)) ⟨([.val .box, .val (.tu (hT hs)), .val (.ls (hT (h :: hs0))), y3, y4] : List Sl).map Sl.hide, b2⟩ = .ok (.int q) ⟨([.val .box, .val (.tu (hT hs)), .val (.ls (hT (h :: hs0))), y3, y4] : List Sl).map Sl.hide, b3⟩ := e_call (dCons_ok (dV_ok rfl) (dCons_ok dC_ok dNil_ok)) rfl e3
      have v4 : dLendB 2 (dAnd (dBinB hNe (dV 2) (dClose (dLst dNil))) (dBinB hEq (dCall 2 F_law_take [] (dCons (dV 0) (dCons (dC (.int 3)) dNil))) (dC (.int 0)))) (NS (.tu (hT hs)) (h :: hs0) y3 y4 b2) = .ok (decide (q = 0)) (NS (.tu (hT hs)) (h :: hs0) y3 y4 b3) :=
        t_lend (ds := hT (h :: hs0)) rfl (dAnd_t v2 (dBinB_ok v3 dC_ok eqI))
      by_cases z : q = 0
      · rw [decide_eq_true z] at v4
        obtain ⟨t, b4, e4, g4⟩ := ofAB (m := m + 4) (b := b3) (g3.less (by omega))
        obtain ⟨p, b5, e5, p0, p1, g5⟩ := take_spec ((hs0.length : Int) + 1) (m + 3) b4 (by omega) (by omega) g4
        obtain ⟨i, rfl⟩ : ∃ i : Nat, p = (i : Nat) := ⟨p.toNat, by omega⟩
        refine ⟨(h :: hs0).set i t, b5, ?_, by simp, g5.less (by omega)⟩
        have w1 : dCall 2 F_law_of [] (dCons (dV 0) (dCons (dClose (dLst (dCons (dC (.str "a")) (dCons (dC (.str "b")) dNil)))) dNil)) (NS (.tu (hT hs)) (h :: hs0) y3 y4 b3) = .ok (.str (hS t)) (NS (.tu (hT hs)) (h :: hs0) y3 y4 b4) :=
          e_call (dCons_ok (dV_ok rfl) (dCons_ok (dClose_ok (dLst_ok (dCons_ok dC_ok (dCons_ok dC_ok dNil_ok)) (Nat.le_of_ble_eq_true rfl))) dNil_ok)) rfl e4
        have w2 : dLend 2 (dCB hLen (dCons (dV 2) dNil)) (NS (.tu (hT hs)) (h :: hs0) y3 y4 b4) = .ok (.int ((hs0.length : Int) + 1)) (NS (.tu (hT hs)) (h :: hs0) y3 y4 b4) :=
          e_lend (ds := hT (h :: hs0)) rfl (dCB_ok (dCons_ok (dV_ok rfl) dNil_ok) ((lenT (h :: hs0)).trans (by rw [List.length_cons]; rfl))) rfl
        have w3 : dCall 2 F_law_take [] (dCons (dV 0) (dCons (dLend 2 (dCB hLen (dCons (dV 2) dNil))) dNil)) (NS (.tu (hT hs)) (h :: hs0) y3 y4 b4) = .ok (.int (i : Nat)) (NS (.tu (hT hs)) (h :: hs0) y3 y4 b5) := e_call (dCons_ok (dV_ok rfl) (dCons_ok w2 dNil_ok)) rfl e5
        have ix : ixN (hT (h :: hs0)).length (i : Nat) = some i := by
          rw [List.length_map, List.length_cons]
          unfold ixN
          rw [if_pos (by omega), if_pos (by omega)]
          congr 1
        have st := s_setIx0 (i := 2) (xs := hT (h :: hs0)) (ds := hT (h :: hs0)) w1 rfl w3 rfl ix
        have es : (hT (h :: hs0)).set i (.str (hS t)) = hT ((h :: hs0).set i t) := by rw [hT, hT, List.map_set]
        rw [es] at st
        unfold NE_3
        exact (dIf_t v4 rfl).trans st
      · rw [decide_eq_false z] at v4
        exact ⟨h :: hs0, b3, dIf_f v4 rfl, rfl, g3.less (by omega)⟩
  refine ⟨hs2, b3, ?_, by omega, g3⟩
  refine run_rt (s := ⟨[.val .box, .val (.tu (hT hs)), .val (.ls (hT hs2)), y3, y4], b3⟩) rfl ?_
  rw [NE_is, seq_nx o1, seq_nx o2, seq_nx o3]
  rfl
end
end LW

namespace LW
open PySem PySem.Spec PyProof.Rows L2 DL
local macro_rules
  | `(tactic| decreasing_trivial_pre_omega) => `(tactic| first
    | with_reducible assumption
    | with_reducible exact dC_ok
    | with_reducible exact dNil_ok
    | with_reducible exact dNoP_ok
    | with_reducible exact s_next
    | ((with_reducible apply dV_ok); exact rfl)
    | with_reducible apply dCons_ok
    | with_reducible apply dBin_ok
    | with_reducible apply dBinB_ok
    | with_reducible apply e_call
    | with_reducible apply dCB_ok
    | with_reducible apply dCBF_ok
    | with_reducible apply dClose_ok
    | with_reducible apply dTup_ok
    | with_reducible apply dLst_ok
    | with_reducible apply dUn_ok
    | with_reducible apply dPart_ok
    | with_reducible apply dSlice_ok
    | with_reducible apply dSeqI_ok
    | with_reducible apply dOfB_ok
    | with_reducible apply dTru_bl
    | with_reducible apply dRet_ok
    | with_reducible apply e_prop
    | ((with_reducible apply e_lend); focus (exact rfl))
    | ((with_reducible apply t_lend); focus (exact rfl))
    | ((with_reducible apply sq); focus ((repeat' decreasing_trivial_pre_omega); done); focus (try dsimp only [List.set_cons_zero, List.set_cons_succ]); focus (exact rfl))
    | with_reducible apply s_set
    | with_reducible apply s_own
    | ((with_reducible apply s_app); focus (exact rfl))
    | with_reducible apply s_setIx
    | with_reducible apply s_par
    | with_reducible apply s_par3
    | with_reducible apply s_unp
    | ((with_reducible apply s_if_t); focus ((repeat' decreasing_trivial_pre_omega); done))
    | ((with_reducible apply s_if_f); focus ((repeat' decreasing_trivial_pre_omega); done))
    | (with_reducible apply o_not_t)
    | (with_reducible apply o_not_f)
    | ((with_reducible apply dAnd_t); focus ((repeat' decreasing_trivial_pre_omega); done))
    | ((with_reducible apply dAnd_f); ((repeat' decreasing_trivial_pre_omega); done))
    | ((with_reducible apply dOr_t); ((repeat' decreasing_trivial_pre_omega); done))
    | ((with_reducible apply dOr_f); focus ((repeat' decreasing_trivial_pre_omega); done))
    | ((with_reducible apply o_chain_t) <;> ((repeat' decreasing_trivial_pre_omega); done))
    | ((with_reducible apply o_chain_f) <;> ((repeat' decreasing_trivial_pre_omega); done))
    | ((with_reducible apply o_ltt); omega)
    | ((with_reducible apply o_ltf); omega)
    | ((with_reducible apply o_let); omega)
    | ((with_reducible apply o_lef); omega)
    | ((with_reducible apply o_gtt); omega)
    | ((with_reducible apply o_gtf); omega)
    | ((with_reducible apply o_get); omega)
    | ((with_reducible apply o_gef); omega)
    | ((with_reducible apply e_mulr); omega)
    | ((with_reducible apply e_mull); omega)
    | ((with_reducible apply e_div); omega)
    | ((with_reducible apply e_mod); omega)
    | ((with_reducible apply e_add_ls); first | exact Nat.le_of_ble_eq_true rfl | (simp; done) | (simp; omega))
    | ((with_reducible apply e_add_tu); first | exact Nat.le_of_ble_eq_true rfl | (simp; done) | (simp; omega))
    | exact (rfl : (_ : S) = _)
    | exact (rfl : (_ : R D) = _)
    | exact (rfl : (_ : R Bool) = _)
    | exact (rfl : (_ : R (List D)) = _)
    | exact (rfl : (_ : Option _) = _)
    | exact (rfl : (_ : Nat) = _)
    | exact Nat.le_of_ble_eq_true rfl
    | exact Nat.lt_of_lt_of_le (Nat.lt_succ_self _) (Nat.le_of_ble_eq_true rfl))
def AG_1 : S → R Out := (dDrop (dCall 2 F_check_size [] (dCons (dV 0) (dCons (dV 1) dNil))))
def AG_2b_1 : S → R Out := (dIf (dBinB hLt (dCall 2 F_ahead [] (dCons (dV 0) (dCons (dV 2) dNil))) (dCall 2 F_ahead [] (dCons (dV 1) (dCons (dV 2) dNil)))) (dRet (dCall 2 F_ahead [] (dCons (dV 1) (dCons (dV 2) dNil)))) dNext)
def AG_2b : S → R Out := AG_2b_1
def AG_2 : S → R Out := dFor (.nm 2) (dSeqI (dCall 2 F_corners [] (dCons (dV 0) (dCons (dV 1) dNil)))) AG_2b
def AG_3 : S → R Out := (dRet (dC .non))
theorem AG_is : B_against = (dSeq AG_1 (dSeq AG_2 AG_3)) := rfl
def IB_1 : S → R Out := (dDrop (dCall 2 F_check_size [] (dCons (dV 0) (dCons (dV 1) dNil))))
def IB_2 : S → R Out := (dRet (dAndV (dCall 2 F_is_above [] (dCons (dV 0) (dCons (dV 2) dNil))) (dCall 2 F_is_above [] (dCons (dV 2) (dCons (dV 1) dNil)))))
theorem IB_is : B_is_between = (dSeq IB_1 IB_2) := rfl
section
variable {b : Bx} {X : Sl} {rs ts bs : List Pr}
/-! never_worse: nowhere among the corners fewer -/
def overP (rs ts : List Pr) : Bool := decide (∀ k ∈ cornL rs ts, aheadP k ts ≤ aheadP k rs)
theorem ag_loop (p1 : Pos1 rs) (p2 : Pos1 ts) (l : rs.length < 1000 ∧ ts.length < 1000) : ∀ (ks : List Int) (x : Sl),
    ((∀ k ∈ ks, aheadP k ts ≤ aheadP k rs) ∧ ∃ y, forD (.nm 2) AG_2b (ks.map D.int) ⟨[.val (tD rs), .val (tD ts), x], b⟩ = .ok .nx ⟨[.val (tD rs), .val (tD ts), y], b⟩) ∨
    (¬ (∀ k ∈ ks, aheadP k ts ≤ aheadP k rs) ∧ ∃ (y : Sl) (v : Int), forD (.nm 2) AG_2b (ks.map D.int) ⟨[.val (tD rs), .val (tD ts), x], b⟩ = .ok (.rt (.int v)) ⟨[.val (tD rs), .val (tD ts), y], b⟩)
  | [], x => .inl ⟨fun _ h => by simp at h, x, rfl⟩
  | k :: ks, x => by
    have a1 := ahead_ok (b := b) (n := k) p1 l.1
    have a2 := ahead_ok (b := b) (n := k) p2 l.2
    have c1 : dCall 2 F_ahead [] (dCons (dV 0) (dCons (dV 2) dNil)) ⟨[.val (tD rs), .val (tD ts), .val (.int k)], b⟩ = .ok (.int (aheadP k rs)) ⟨[.val (tD rs), .val (tD ts), .val (.int k)], b⟩ := e_call (dCons_ok (dV_ok rfl) (dCons_ok (dV_ok rfl) dNil_ok)) rfl a1
    have c2 : dCall 2 F_ahead [] (dCons (dV 1) (dCons (dV 2) dNil)) ⟨[.val (tD rs), .val (tD ts), .val (.int k)], b⟩ = .ok (.int (aheadP k ts)) ⟨[.val (tD rs), .val (tD ts), .val (.int k)], b⟩ := e_call (dCons_ok (dV_ok rfl) (dCons_ok (dV_ok rfl) dNil_ok)) rfl a2
    by_cases q : aheadP k rs < aheadP k ts
    · refine .inr ⟨fun h => by have := h k List.mem_cons_self; omega, .val (.int k), aheadP k ts, ?_⟩
      have t : AG_2b ⟨[.val (tD rs), .val (tD ts), .val (.int k)], b⟩ = .ok (.rt (.int (aheadP k ts))) ⟨[.val (tD rs), .val (tD ts), .val (.int k)], b⟩ := dIf_t (dBinB_ok c1 c2 (o_ltt q)) (dRet_ok c2)
      exact forD_rt (st1 := ⟨[.val (tD rs), .val (tD ts), .val (.int k)], b⟩) rfl t
    · have t : AG_2b ⟨[.val (tD rs), .val (tD ts), .val (.int k)], b⟩ = .ok .nx ⟨[.val (tD rs), .val (tD ts), .val (.int k)], b⟩ := dIf_f (dBinB_ok c1 c2 (o_ltf (by omega))) rfl
      have f := forD_nx (k := .nm 2) (ds := ks.map D.int) (st := ⟨[.val (tD rs), .val (tD ts), x], b⟩) (st1 := ⟨[.val (tD rs), .val (tD ts), .val (.int k)], b⟩) (d := .int k) rfl t
      rcases ag_loop p1 p2 l ks (.val (.int k)) with ⟨h, y, e⟩ | ⟨h, y, v, e⟩
      · exact .inl ⟨fun z hz => (List.mem_cons.mp hz).elim (fun e => by rw [e]; omega) (h z), y, f.trans e⟩
      · exact .inr ⟨fun h' => h fun z hz => h' z (List.mem_cons_of_mem _ hz), y, v, f.trans e⟩
theorem check_st (l : rs.length < 1000 ∧ ts.length < 1000) (e : whole rs = whole ts) {st : S} {i j : Nat} (h0 : st.env[i]? = some (.val (tD rs))) (h1 : st.env[j]? = some (.val (tD ts))) : dDrop (dCall 2 F_check_size [] (dCons (dV i) (dCons (dV j) dNil))) st = .ok .nx st := by
  obtain ⟨env, b⟩ := st
  have c : dCall 2 F_check_size [] (dCons (dV i) (dCons (dV j) dNil)) ⟨env, b⟩ = .ok .non ⟨env, b⟩ := e_call (dCons_ok (dV_ok h0) (dCons_ok (dV_ok h1) dNil_ok)) rfl (check_ok l e)
  unfold dDrop; rw [c]; rfl
theorem check_stE (l : rs.length < 1000 ∧ ts.length < 1000) (e : whole rs ≠ whole ts) {st : S} {i j : Nat} (h0 : st.env[i]? = some (.val (tD rs))) (h1 : st.env[j]? = some (.val (tD ts))) : dDrop (dCall 2 F_check_size [] (dCons (dV i) (dCons (dV j) dNil))) st = .err ⟨4, []⟩ st := by
  obtain ⟨env, b⟩ := st
  have a : dCons (dV i) (dCons (dV j) dNil) ⟨env, b⟩ = .ok [tD rs, tD ts] ⟨env, b⟩ := dCons_ok (dV_ok h0) (dCons_ok (dV_ok h1) dNil_ok)
  have c : dCall 2 F_check_size [] (dCons (dV i) (dCons (dV j) dNil)) ⟨env, b⟩ = .err ⟨4, []⟩ ⟨env, b⟩ := by
    unfold dCall
    rw [a, bind_ok]
    show fromF (F_check_size [tD rs, tD ts] b) _ = _
    rw [check_err l e]; rfl
  unfold dDrop; rw [c]; rfl
theorem against_ok (p1 : Pos1 rs) (p2 : Pos1 ts) (l : rs.length + ts.length < 60) (e : whole rs = whole ts) : ∃ d, F_against [tD rs, tD ts] b = .ok d b ∧ ((overP rs ts = true ∧ d = .non) ∨ (overP rs ts = false ∧ ∃ v : Int, d = .int v)) := by
  have k1 := corners_ok (b := b) (rs := rs) (ts := ts) l
  have o1 : AG_1 ⟨[.val (tD rs), .val (tD ts), .un], b⟩ = .ok .nx ⟨[.val (tD rs), .val (tD ts), .un], b⟩ := check_st (by omega) e rfl rfl
  have sq1 : dSeqI (dCall 2 F_corners [] (dCons (dV 0) (dCons (dV 1) dNil))) ⟨[.val (tD rs), .val (tD ts), .un], b⟩ = .ok ((cornL rs ts).map D.int) ⟨[.val (tD rs), .val (tD ts), .un], b⟩ :=
    dSeqI_ok (e_call (dCons_ok (dV_ok rfl) (dCons_ok (dV_ok rfl) dNil_ok)) rfl k1) rfl
  rcases ag_loop (b := b) p1 p2 (by omega) (cornL rs ts) .un with ⟨h, y, f⟩ | ⟨h, y, v, f⟩
  · refine ⟨.non, ?_, .inl ⟨decide_eq_true h, rfl⟩⟩
    have o2 : AG_2 ⟨[.val (tD rs), .val (tD ts), .un], b⟩ = .ok .nx ⟨[.val (tD rs), .val (tD ts), y], b⟩ := dFor_ok sq1 f
    refine run_rt (s := ⟨[.val (tD rs), .val (tD ts), y], b⟩) rfl ?_
    show B_against ⟨[.val (tD rs), .val (tD ts), .un], b⟩ = _
    rw [AG_is, seq_nx o1, seq_nx o2]
    rfl
  · refine ⟨.int v, ?_, .inr ⟨decide_eq_false h, v, rfl⟩⟩
    have o2 : AG_2 ⟨[.val (tD rs), .val (tD ts), .un], b⟩ = .ok (.rt (.int v)) ⟨[.val (tD rs), .val (tD ts), y], b⟩ := dFor_ok sq1 f
    refine run_rt (s := ⟨[.val (tD rs), .val (tD ts), y], b⟩) rfl ?_
    show B_against ⟨[.val (tD rs), .val (tD ts), .un], b⟩ = _
    rw [AG_is, seq_nx o1]
    unfold dSeq
    rw [o2]; rfl
theorem above_ok (p1 : Pos1 rs) (p2 : Pos1 ts) (l : rs.length + ts.length < 60) (e : whole rs = whole ts) : F_is_above [tD rs, tD ts] b = .ok (.bl (overP rs ts)) b := by
  obtain ⟨d, ea, hd⟩ := against_ok (b := b) p1 p2 l e
  have n : F_never_worse [tD rs, tD ts] b = .ok (.bl (overP rs ts)) b := by
    refine run_rt (s := ⟨[.val (tD rs), .val (tD ts)], b⟩) rfl (dRet_ok ?_)
    have c : dCall 2 F_against [] (dCons (dV 0) (dCons (dV 1) dNil)) ⟨[.val (tD rs), .val (tD ts)], b⟩ = .ok d ⟨[.val (tD rs), .val (tD ts)], b⟩ := e_call (dCons_ok (dV_ok rfl) (dCons_ok (dV_ok rfl) dNil_ok)) rfl ea
    refine dOfB_ok (dBinB_ok c dC_ok ?_)
    rcases hd with ⟨h, rfl⟩ | ⟨h, v, rfl⟩
    · rw [h]; rfl
    · rw [h]; rfl
  exact run_rt (s := ⟨[.val (tD rs), .val (tD ts)], b⟩) rfl (dRet_ok (e_call (dCons_ok (dV_ok rfl) (dCons_ok (dV_ok rfl) dNil_ok)) rfl n))
theorem call_err {n : Nat} {F : Fn} {fs : S → R (List D)} {xs : List D} {σ τ : List Sl} {a b c : Bx} {e : Er} (h1 : fs ⟨σ, a⟩ = .ok xs ⟨τ, b⟩) (hn : xs.length = n) (h2 : F xs b = .err e c) : dCall n F [] fs ⟨σ, a⟩ = .err e ⟨τ, c⟩ := by
  unfold dCall
  rw [h1, bind_ok]
  have : (xs ++ []).length = n := by simpa using hn
  simp [hn, h2, fromF]
theorem above_err (l : rs.length + ts.length < 60) (e : whole rs ≠ whole ts) : F_is_above [tD rs, tD ts] b = .err ⟨4, []⟩ b := by
  have o1 : AG_1 ⟨[.val (tD rs), .val (tD ts), .un], b⟩ = .err ⟨4, []⟩ ⟨[.val (tD rs), .val (tD ts), .un], b⟩ := check_stE (by omega) e rfl rfl
  have a : F_against [tD rs, tD ts] b = .err ⟨4, []⟩ b := by
    refine run_err (s := ⟨[.val (tD rs), .val (tD ts), .un], b⟩) rfl ?_
    show B_against ⟨[.val (tD rs), .val (tD ts), .un], b⟩ = _
    rw [AG_is]
    unfold dSeq
    rw [o1]; rfl
  have n : F_never_worse [tD rs, tD ts] b = .err ⟨4, []⟩ b := by
    refine run_err (s := ⟨[.val (tD rs), .val (tD ts)], b⟩) rfl ?_
    have c : dCall 2 F_against [] (dCons (dV 0) (dCons (dV 1) dNil)) ⟨[.val (tD rs), .val (tD ts)], b⟩ = .err ⟨4, []⟩ ⟨[.val (tD rs), .val (tD ts)], b⟩ := call_err (dCons_ok (dV_ok rfl) (dCons_ok (dV_ok rfl) dNil_ok)) rfl a
    show dRet (dOfB (dBinB hIsN (dCall 2 F_against [] (dCons (dV 0) (dCons (dV 1) dNil))) (dC .non))) ⟨[.val (tD rs), .val (tD ts)], b⟩ = _
    unfold dRet dOfB dBinB
    rw [c]; rfl
  refine run_err (s := ⟨[.val (tD rs), .val (tD ts)], b⟩) rfl ?_
  have c : dCall 2 F_never_worse [] (dCons (dV 0) (dCons (dV 1) dNil)) ⟨[.val (tD rs), .val (tD ts)], b⟩ = .err ⟨4, []⟩ ⟨[.val (tD rs), .val (tD ts)], b⟩ := call_err (dCons_ok (dV_ok rfl) (dCons_ok (dV_ok rfl) dNil_ok)) rfl n
  show dRet (dCall 2 F_never_worse [] (dCons (dV 0) (dCons (dV 1) dNil))) ⟨[.val (tD rs), .val (tD ts)], b⟩ = _
  unfold dRet
  rw [c]; rfl
/-! is_between -/
theorem between_ok {us : List Pr} (p1 : Pos1 rs) (p2 : Pos1 ts) (p3 : Pos1 us) (l : rs.length + ts.length + us.length < 60) (e : whole rs = whole ts) (e2 : whole us = whole rs) : F_is_between [tD rs, tD ts, tD us] b = .ok (.bl (overP rs us && overP us ts)) b := by
  have a1 := above_ok (b := b) p1 p3 (by omega) e2.symm
  have a2 := above_ok (b := b) p3 p2 (by omega) (e2.trans e)
  have o1 : IB_1 ⟨[.val (tD rs), .val (tD ts), .val (tD us)], b⟩ = .ok .nx ⟨[.val (tD rs), .val (tD ts), .val (tD us)], b⟩ := check_st (by omega) e rfl rfl
  have c1 : dCall 2 F_is_above [] (dCons (dV 0) (dCons (dV 2) dNil)) ⟨[.val (tD rs), .val (tD ts), .val (tD us)], b⟩ = .ok (.bl (overP rs us)) ⟨[.val (tD rs), .val (tD ts), .val (tD us)], b⟩ := e_call (dCons_ok (dV_ok rfl) (dCons_ok (dV_ok rfl) dNil_ok)) rfl a1
  have c2 : dCall 2 F_is_above [] (dCons (dV 2) (dCons (dV 1) dNil)) ⟨[.val (tD rs), .val (tD ts), .val (tD us)], b⟩ = .ok (.bl (overP us ts)) ⟨[.val (tD rs), .val (tD ts), .val (tD us)], b⟩ := e_call (dCons_ok (dV_ok rfl) (dCons_ok (dV_ok rfl) dNil_ok)) rfl a2
  refine run_rt (s := ⟨[.val (tD rs), .val (tD ts), .val (tD us)], b⟩) rfl ?_
  show B_is_between ⟨[.val (tD rs), .val (tD ts), .val (tD us)], b⟩ = _
  rw [IB_is, seq_nx o1]
  refine dRet_ok ?_
  cases q : overP rs us with
  | true => rw [q] at c1; exact dAndV_t c1 rfl c2
  | false => rw [q] at c1; exact dAndV_f c1 rfl
theorem between_err {us : List Pr} (l : rs.length + ts.length + us.length < 60) (e : whole rs = whole ts) (e2 : whole us ≠ whole rs) : F_is_between [tD rs, tD ts, tD us] b = .err ⟨4, []⟩ b := by
  have a1 := above_err (b := b) (rs := rs) (ts := us) (by omega) (fun z => e2 z.symm)
  have o1 : IB_1 ⟨[.val (tD rs), .val (tD ts), .val (tD us)], b⟩ = .ok .nx ⟨[.val (tD rs), .val (tD ts), .val (tD us)], b⟩ := check_st (by omega) e rfl rfl
  have c1 : dCall 2 F_is_above [] (dCons (dV 0) (dCons (dV 2) dNil)) ⟨[.val (tD rs), .val (tD ts), .val (tD us)], b⟩ = .err ⟨4, []⟩ ⟨[.val (tD rs), .val (tD ts), .val (tD us)], b⟩ := call_err (dCons_ok (dV_ok rfl) (dCons_ok (dV_ok rfl) dNil_ok)) rfl a1
  refine run_err (s := ⟨[.val (tD rs), .val (tD ts), .val (tD us)], b⟩) rfl ?_
  show B_is_between ⟨[.val (tD rs), .val (tD ts), .val (tD us)], b⟩ = _
  rw [IB_is, seq_nx o1]
  show dRet (dAndV _ _) _ = _
  unfold dRet dAndV
  rw [c1]; rfl
end
end LW

namespace LW
open PySem PySem.Spec PyProof.Rows L2 DL
local macro_rules
  | `(tactic| decreasing_trivial_pre_omega) => `(tactic| first
    | with_reducible assumption
    | with_reducible exact dC_ok
    | with_reducible exact dNil_ok
    | with_reducible exact dNoP_ok
    | with_reducible exact s_next
    | ((with_reducible apply dV_ok); exact rfl)
    | with_reducible apply dCons_ok
    | with_reducible apply dBin_ok
    | with_reducible apply dBinB_ok
    | with_reducible apply e_call
    | with_reducible apply dCB_ok
    | with_reducible apply dCBF_ok
    | with_reducible apply dClose_ok
    | with_reducible apply dTup_ok
    | with_reducible apply dLst_ok
    | with_reducible apply dUn_ok
    | with_reducible apply dPart_ok
    | with_reducible apply dSlice_ok
    | with_reducible apply dSeqI_ok
    | with_reducible apply dOfB_ok
    | with_reducible apply dTru_bl
    | with_reducible apply dRet_ok
    | with_reducible apply e_prop
    | ((with_reducible apply e_lend); focus (exact rfl))
    | ((with_reducible apply t_lend); focus (exact rfl))
    | ((with_reducible apply sq); focus ((repeat' decreasing_trivial_pre_omega); done); focus (try dsimp only [List.set_cons_zero, List.set_cons_succ]); focus (exact rfl))
    | with_reducible apply s_set
    | with_reducible apply s_own
    | ((with_reducible apply s_app); focus (exact rfl))
    | with_reducible apply s_setIx
    | with_reducible apply s_par
    | with_reducible apply s_par3
    | with_reducible apply s_unp
    | ((with_reducible apply s_if_t); focus ((repeat' decreasing_trivial_pre_omega); done))
    | ((with_reducible apply s_if_f); focus ((repeat' decreasing_trivial_pre_omega); done))
    | (with_reducible apply o_not_t)
    | (with_reducible apply o_not_f)
    | ((with_reducible apply dAnd_t); focus ((repeat' decreasing_trivial_pre_omega); done))
    | ((with_reducible apply dAnd_f); ((repeat' decreasing_trivial_pre_omega); done))
    | ((with_reducible apply dOr_t); ((repeat' decreasing_trivial_pre_omega); done))
    | ((with_reducible apply dOr_f); focus ((repeat' decreasing_trivial_pre_omega); done))
    | ((with_reducible apply o_chain_t) <;> ((repeat' decreasing_trivial_pre_omega); done))
    | ((with_reducible apply o_chain_f) <;> ((repeat' decreasing_trivial_pre_omega); done))
    | ((with_reducible apply o_ltt); omega)
    | ((with_reducible apply o_ltf); omega)
    | ((with_reducible apply o_let); omega)
    | ((with_reducible apply o_lef); omega)
    | ((with_reducible apply o_gtt); omega)
    | ((with_reducible apply o_gtf); omega)
    | ((with_reducible apply o_get); omega)
    | ((with_reducible apply o_gef); omega)
    | ((with_reducible apply e_mulr); omega)
    | ((with_reducible apply e_mull); omega)
    | ((with_reducible apply e_div); omega)
    | ((with_reducible apply e_mod); omega)
    | ((with_reducible apply e_add_ls); first | exact Nat.le_of_ble_eq_true rfl | (simp; done) | (simp; omega))
    | ((with_reducible apply e_add_tu); first | exact Nat.le_of_ble_eq_true rfl | (simp; done) | (simp; omega))
    | exact (rfl : (_ : S) = _)
    | exact (rfl : (_ : R D) = _)
    | exact (rfl : (_ : R Bool) = _)
    | exact (rfl : (_ : R (List D)) = _)
    | exact (rfl : (_ : Option _) = _)
    | exact (rfl : (_ : Nat) = _)
    | exact Nat.le_of_ble_eq_true rfl
    | exact Nat.lt_of_lt_of_le (Nat.lt_succ_self _) (Nat.le_of_ble_eq_true rfl))
def PL_1 : S → R Out := (dSet 2 (dC (.int 0)))
def PL_2 : S → R Out := (dSet 3 (dC (.int 0)))
def PL_3b_1 : S → R Out := (dIf (dBinB hEq (dV 4) (dV 1)) (dSet 2 (dBin hAdd (dBin hAdd (dV 2) (dBin hMulG (dV 5) (dV 3))) (dBin hDiv (dBin hMulG (dV 5) (dBin hAdd (dV 5) (dC (.int 1)))) (dC (.int 2))))) dNext)
def PL_3b_2 : S → R Out := (dSet 3 (dBin hAdd (dV 3) (dV 5)))
def PL_3b : S → R Out := (dSeq PL_3b_1 PL_3b_2)
def PL_3 : S → R Out := dFor (.tp [4, 5]) (dSeqI (dProp 5 F_Turns_runs (dV 0))) PL_3b
def PL_4 : S → R Out := (dRet (dV 2))
theorem PL_is : B_places_sum = (dSeq PL_1 (dSeq PL_2 (dSeq PL_3 PL_4))) := rfl
section
variable {b : Bx} {X : Sl} {rs ts bs : List Pr}
/-! height -/
theorem plP_loop : ∀ (rs : List Pr) (t e : Int) (x4 x5 : Sl), (∀ r ∈ rs, inG r.2 ∧ inG (r.2 + 1)) → (∀ r ∈ rs, 1 ≤ r.2) → 0 ≤ e → inG (e + whole rs) →
    ∃ y4 y5, forD (.tp [4, 5]) PL_3b (rs.map pr) ⟨[X, .val (.str "a"), .val (.int t), .val (.int e), x4, x5], b⟩ = .ok .nx ⟨[X, .val (.str "a"), .val (.int (plP t e rs)), .val (.int (e + whole rs)), y4, y5], b⟩
  | [], t, e, x4, x5, _, _, _, _ => ⟨x4, x5, by
    have : e + whole [] = e := by simp [whole]
    rw [this]; rfl⟩
  | r :: rs, t, e, x4, x5, h, hp, e0, eg => by
    have r1 := hp r List.mem_cons_self
    have w0 : 0 ≤ whole rs := whole_pos (Pos1.tail (r := r) hp)
    have wr : whole (r :: rs) = r.2 + whole rs := rfl
    rw [wr] at eg
    have eg' : inG e := ⟨by omega, by have := eg.2; omega⟩
    obtain ⟨y4, y5, ih⟩ := plP_loop rs (if r.1 = true then t + r.2 * e + r.2 * (r.2 + 1) / 2 else t) (e + r.2) (.val (.str (hS r.1))) (.val (.int r.2)) (fun z hz => h z (List.mem_cons_of_mem _ hz)) (fun z hz => hp z (List.mem_cons_of_mem _ hz)) (by omega) (by rw [Int.add_assoc]; exact eg)
    refine ⟨y4, y5, ?_⟩
    obtain ⟨g, m⟩ := r
    have q : dBinB hEq (dV 4) (dV 1) ⟨[X, .val (.str "a"), .val (.int t), .val (.int e), .val (.str (hS g)), .val (.int m)], b⟩ = .ok (decide (g = true)) ⟨[X, .val (.str "a"), .val (.int t), .val (.int e), .val (.str (hS g)), .val (.int m)], b⟩ := dBinB_ok (dV_ok rfl) (dV_ok rfl) (eqS (h := true))
    have hm := h (g, m) List.mem_cons_self
    have b1 : PL_3b_1 ⟨[X, .val (.str "a"), .val (.int t), .val (.int e), .val (.str (hS g)), .val (.int m)], b⟩ = .ok .nx ⟨[X, .val (.str "a"), .val (.int (if g = true then t + m * e + m * (m + 1) / 2 else t)), .val (.int e), .val (.str (hS g)), .val (.int m)], b⟩ := by
      cases g with
      | false => exact dIf_f q rfl
      | true =>
        have m1 : dBin hMulG (dV 5) (dV 3) ⟨[X, .val (.str "a"), .val (.int t), .val (.int e), .val (.str (hS true)), .val (.int m)], b⟩ = .ok (.int (m * e)) ⟨[X, .val (.str "a"), .val (.int t), .val (.int e), .val (.str (hS true)), .val (.int m)], b⟩ := dBin_ok (dV_ok rfl) (dV_ok rfl) (mulG_ok hm.1 eg')
        have m2 : dBin hMulG (dV 5) (dBin hAdd (dV 5) (dC (.int 1))) ⟨[X, .val (.str "a"), .val (.int t), .val (.int e), .val (.str (hS true)), .val (.int m)], b⟩ = .ok (.int (m * (m + 1))) ⟨[X, .val (.str "a"), .val (.int t), .val (.int e), .val (.str (hS true)), .val (.int m)], b⟩ := dBin_ok (dV_ok rfl) (dBin_ok (dV_ok rfl) dC_ok rfl) (mulG_ok hm.1 hm.2)
        have m3 : dBin hDiv (dBin hMulG (dV 5) (dBin hAdd (dV 5) (dC (.int 1)))) (dC (.int 2)) ⟨[X, .val (.str "a"), .val (.int t), .val (.int e), .val (.str (hS true)), .val (.int m)], b⟩ = .ok (.int (m * (m + 1) / 2)) ⟨[X, .val (.str "a"), .val (.int t), .val (.int e), .val (.str (hS true)), .val (.int m)], b⟩ := dBin_ok m2 dC_ok (hDiv_ok (by omega) (by omega))
        have a1 : dBin hAdd (dV 2) (dBin hMulG (dV 5) (dV 3)) ⟨[X, .val (.str "a"), .val (.int t), .val (.int e), .val (.str (hS true)), .val (.int m)], b⟩ = .ok (.int (t + m * e)) ⟨[X, .val (.str "a"), .val (.int t), .val (.int e), .val (.str (hS true)), .val (.int m)], b⟩ := dBin_ok (dV_ok rfl) m1 rfl
        have a2 : dBin hAdd (dBin hAdd (dV 2) (dBin hMulG (dV 5) (dV 3))) (dBin hDiv (dBin hMulG (dV 5) (dBin hAdd (dV 5) (dC (.int 1)))) (dC (.int 2))) ⟨[X, .val (.str "a"), .val (.int t), .val (.int e), .val (.str (hS true)), .val (.int m)], b⟩ = .ok (.int (t + m * e + m * (m + 1) / 2)) ⟨[X, .val (.str "a"), .val (.int t), .val (.int e), .val (.str (hS true)), .val (.int m)], b⟩ := dBin_ok a1 m3 rfl
        have m4 : dSet 2 (dBin hAdd (dBin hAdd (dV 2) (dBin hMulG (dV 5) (dV 3))) (dBin hDiv (dBin hMulG (dV 5) (dBin hAdd (dV 5) (dC (.int 1)))) (dC (.int 2)))) ⟨[X, .val (.str "a"), .val (.int t), .val (.int e), .val (.str (hS true)), .val (.int m)], b⟩ = .ok .nx ⟨[X, .val (.str "a"), .val (.int (t + m * e + m * (m + 1) / 2)), .val (.int e), .val (.str (hS true)), .val (.int m)], b⟩ :=
          dSet_ok a2
        exact dIf_t q m4
    have b2 : PL_3b_2 ⟨[X, .val (.str "a"), .val (.int (if g = true then t + m * e + m * (m + 1) / 2 else t)), .val (.int e), .val (.str (hS g)), .val (.int m)], b⟩ = .ok .nx ⟨[X, .val (.str "a"), .val (.int (if g = true then t + m * e + m * (m + 1) / 2 else t)), .val (.int (e + m)), .val (.str (hS g)), .val (.int m)], b⟩ := rfl
    have tn : PL_3b ⟨[X, .val (.str "a"), .val (.int t), .val (.int e), .val (.str (hS g)), .val (.int m)], b⟩ = .ok .nx ⟨[X, .val (.str "a"), .val (.int (if g = true then t + m * e + m * (m + 1) / 2 else t)), .val (.int (e + m)), .val (.str (hS g)), .val (.int m)], b⟩ := by
      unfold PL_3b
      rw [seq_nx b1]; exact b2
    rw [List.map_cons]
    refine (forD_nx (st1 := ⟨[X, .val (.str "a"), .val (.int t), .val (.int e), .val (.str (hS g)), .val (.int m)], b⟩) rfl tn).trans ?_
    have ew : e + whole (((g, m) : Pr) :: rs) = e + m + whole rs := by show e + (m + whole rs) = _; omega
    rw [ih, ew]; rfl
theorem her_whole : ∀ {rs : List Pr}, Pos1 rs → 0 ≤ herP rs ∧ herP rs ≤ whole rs
  | [], _ => by simp [herP, whole]
  | r :: rs, hp => by
    have := her_whole hp.tail
    have r1 := hp r List.mem_cons_self
    rw [herP, whole]
    split <;> omega
theorem le_whole : ∀ {rs : List Pr}, Pos1 rs → ∀ r ∈ rs, r.2 ≤ whole rs
  | [], _, r, h => by simp at h
  | x :: rs, hp, r, h => by
    have w0 := whole_pos hp.tail
    have x1 := hp x List.mem_cons_self
    rw [whole]
    rcases List.mem_cons.mp h with rfl | h
    · omega
    · have := le_whole hp.tail r h; omega
theorem her_eq : ∀ rs : List Pr, hgt.herP' rs = herP rs
  | [] => rfl
  | r :: rs => by rw [hgt.herP', herP, her_eq rs]
theorem height_ok (hp : Pos1 rs) (l : rs.length < 1000) (w : whole rs < 10000000000000000000000000000000) : F_height [tD rs] b = .ok (.int (hgt rs)) b := by
  have w0 := whole_pos hp
  have hw := her_whole hp
  have ig : ∀ {i : Int}, -1 ≤ i → i ≤ 10000000000000000000000000000001 → inG i := fun h1 h2 => ⟨by omega, by omega⟩
  obtain ⟨y4, y5, e⟩ := plP_loop (X := .val (tD rs)) (b := b) rs 0 0 .un .un (fun r hr => by have := le_whole hp r hr; have := hp r hr; exact ⟨ig (by omega) (by omega), ig (by omega) (by omega)⟩) hp (by omega) (ig (by omega) (by omega))
  have ps : F_places_sum [tD rs, .str "a"] b = .ok (.int (plP 0 0 rs)) b := by
    refine run_rt (s := ⟨[.val (tD rs), .val (.str "a"), .val (.int (plP 0 0 rs)), .val (.int (0 + whole rs)), y4, y5], b⟩) rfl ?_
    show B_places_sum ⟨[.val (tD rs), .val (.str "a"), .un, .un, .un, .un], b⟩ = _
    have o1 : PL_1 ⟨[.val (tD rs), .val (.str "a"), .un, .un, .un, .un], b⟩ = .ok .nx ⟨[.val (tD rs), .val (.str "a"), .val (.int 0), .un, .un, .un], b⟩ := rfl
    have o2 : PL_2 ⟨[.val (tD rs), .val (.str "a"), .val (.int 0), .un, .un, .un], b⟩ = .ok .nx ⟨[.val (tD rs), .val (.str "a"), .val (.int 0), .val (.int 0), .un, .un], b⟩ := rfl
    have sq1 : dSeqI (dProp 5 F_Turns_runs (dV 0)) ⟨[.val (tD rs), .val (.str "a"), .val (.int 0), .val (.int 0), .un, .un], b⟩ = .ok (rs.map pr) ⟨[.val (tD rs), .val (.str "a"), .val (.int 0), .val (.int 0), .un, .un], b⟩ := dSeqI_ok (e_prop (dV_ok rfl) (runs_ok rs)) rfl
    have o3 : PL_3 ⟨[.val (tD rs), .val (.str "a"), .val (.int 0), .val (.int 0), .un, .un], b⟩ = .ok .nx ⟨[.val (tD rs), .val (.str "a"), .val (.int (plP 0 0 rs)), .val (.int (0 + whole rs)), y4, y5], b⟩ := dFor_ok sq1 e
    rw [PL_is, seq_nx o1, seq_nx o2, seq_nx o3]
    rfl
  refine run_rt (s := ⟨[.val (tD rs)], b⟩) rfl ?_
  have h1 : dProp 5 F_Turns_hers (dV 0) ⟨[.val (tD rs)], b⟩ = .ok (.int (herP rs)) ⟨[.val (tD rs)], b⟩ := e_prop (dV_ok rfl) (hers_ok l)
  have h2 : dProp 5 F_Turns_size (dV 0) ⟨[.val (tD rs)], b⟩ = .ok (.int (whole rs)) ⟨[.val (tD rs)], b⟩ := e_prop (dV_ok rfl) (size_ok l)
  have h3 : dCall 2 F_places_sum [] (dCons (dV 0) (dCons (dC (.str "a")) dNil)) ⟨[.val (tD rs)], b⟩ = .ok (.int (plP 0 0 rs)) ⟨[.val (tD rs)], b⟩ := e_call (dCons_ok (dV_ok rfl) (dCons_ok dC_ok dNil_ok)) rfl ps
  have h4 : dBin hMulG (dProp 5 F_Turns_hers (dV 0)) (dBin hAdd (dProp 5 F_Turns_size (dV 0)) (dC (.int 1))) ⟨[.val (tD rs)], b⟩ = .ok (.int (herP rs * (whole rs + 1))) ⟨[.val (tD rs)], b⟩ := dBin_ok h1 (dBin_ok h2 dC_ok rfl) (mulG_ok (ig (by omega) (by omega)) (ig (by omega) (by omega)))
  have h5 : dBin hSub (dBin hMulG (dProp 5 F_Turns_hers (dV 0)) (dBin hAdd (dProp 5 F_Turns_size (dV 0)) (dC (.int 1)))) (dCall 2 F_places_sum [] (dCons (dV 0) (dCons (dC (.str "a")) dNil))) ⟨[.val (tD rs)], b⟩ = .ok (.int (hgt rs)) ⟨[.val (tD rs)], b⟩ := dBin_ok h4 h3 (by
    show R.ok (D.int (herP rs * (whole rs + 1) - plP 0 0 rs)) _ = _
    unfold hgt; rw [her_eq])
  exact dRet_ok h5
/-! the law's own counts -/
theorem filt_cnt : ∀ l : List Bool, (l.filter fun h => h).length = l.count true
  | [] => rfl
  | true :: l => by rw [List.filter_cons_of_pos rfl, List.length_cons, filt_cnt l, List.count_cons_self]
  | false :: l => by rw [List.filter_cons_of_neg (by simp), filt_cnt l]; simp
theorem sums_ok {hs : List Bool} (l : hs.length ≤ 100) : F_law_sums [.tu (hT hs)] b = .okF ((List.range (hs.length + 1)).map fun k => D.int (cn hs k : Nat)) b := by
  refine run_rtF (s := ⟨[.val (.tu (hT hs)), .un, .un], b⟩) rfl ?_
  have ln : dCB hLen (dCons (dV 0) dNil) ⟨[.val (.tu (hT hs)), .un, .un], b⟩ = .ok (.int (hs.length : Nat)) ⟨[.val (.tu (hT hs)), .un, .un], b⟩ := dCB_ok (dCons_ok (dV_ok rfl) dNil_ok) (by
    show R.ok (D.int ((hT hs).length : Nat)) _ = _
    rw [List.length_map])
  have ad : dBin hAdd (dCB hLen (dCons (dV 0) dNil)) (dC (.int 1)) ⟨[.val (.tu (hT hs)), .un, .un], b⟩ = .ok (.int ((hs.length + 1 : Nat) : Nat)) ⟨[.val (.tu (hT hs)), .un, .un], b⟩ := dBin_ok ln dC_ok rfl
  have rg : dCBF hRange1 (dCons (dBin hAdd (dCB hLen (dCons (dV 0) dNil)) (dC (.int 1))) dNil) ⟨[.val (.tu (hT hs)), .un, .un], b⟩ = .ok (rangeD 0 (hs.length + 1)) ⟨[.val (.tu (hT hs)), .un, .un], b⟩ := dCBF_ok (dCons_ok ad dNil_ok) (hRange1_nat (by omega))
  have one : ∀ k : Nat, k < hs.length + 1 → ∃ env', turnD (.nm 1) [1] dYes (dCB hLen (dCons (dClose (dComp (.nm 2) [2] (dSeqI (dSlice (dV 0) dNoP (dPart (dV 1)))) (dBinB hEq (dV 2) (dC (.str "a"))) (dV 2))) dNil)) (.int (0 + (k : Nat))) ⟨[.val (.tu (hT hs)), .un, .un], b⟩ = .ok (some (.int (cn hs k : Nat))) ⟨env', b⟩ := fun k hk => by
    refine ⟨[.val (.tu (hT hs)), .val (.int (0 + (k : Nat))), .un], ?_⟩
    have sl : dSlice (dV 0) dNoP (dPart (dV 1)) ⟨[.val (.tu (hT hs)), .val (.int (0 + (k : Nat))), .un], b⟩ = .ok (.tu (hT (hs.take k))) ⟨[.val (.tu (hT hs)), .val (.int (0 + (k : Nat))), .un], b⟩ := dSlice_ok (dV_ok rfl) dNoP_ok (dPart_ok (dV_ok rfl)) (by
      have := sl_to (hs := hs) (i := 0 + (k : Nat)) (by omega)
      rwa [show (0 + (k : Int)).toNat = k by omega] at this)
    have c : dComp (.nm 2) [2] (dSeqI (dSlice (dV 0) dNoP (dPart (dV 1)))) (dBinB hEq (dV 2) (dC (.str "a"))) (dV 2) ⟨[.val (.tu (hT hs)), .val (.int (0 + (k : Nat))), .un], b⟩ = .ok (((hs.take k).filter fun h => h).map fun h => D.str (hS h)) ⟨[.val (.tu (hT hs)), .val (.int (0 + (k : Nat))), .un], b⟩ := by
      refine dComp_ok (dSeqI_ok sl rfl) ?_
      refine (compD_sel (f := fun h => D.str (hS h)) (q := fun h => h) (v := fun h => D.str (hS h)) (fun h _ => ⟨[.val (.tu (hT hs)), .val (.int (0 + (k : Nat))), .val (.str (hS h))], ?_⟩) (by simp; omega)).trans (by simp)
      have e : dBinB hEq (dV 2) (dC (.str "a")) ⟨[.val (.tu (hT hs)), .val (.int (0 + (k : Nat))), .val (.str (hS h))], b⟩ = .ok (decide (h = true)) ⟨[.val (.tu (hT hs)), .val (.int (0 + (k : Nat))), .val (.str (hS h))], b⟩ := dBinB_ok (dV_ok rfl) dC_ok (eqS (h := true))
      show (R.bind (dBinB hEq (dV 2) (dC (.str "a")) ⟨[.val (.tu (hT hs)), .val (.int (0 + (k : Nat))), .val (.str (hS h))], b⟩) _) = _
      rw [e, bind_ok]
      cases h <;> rfl
    have ll : dCB hLen (dCons (dClose (dComp (.nm 2) [2] (dSeqI (dSlice (dV 0) dNoP (dPart (dV 1)))) (dBinB hEq (dV 2) (dC (.str "a"))) (dV 2))) dNil) ⟨[.val (.tu (hT hs)), .val (.int (0 + (k : Nat))), .un], b⟩ = .ok (.int (cn hs k : Nat)) ⟨[.val (.tu (hT hs)), .val (.int (0 + (k : Nat))), .un], b⟩ := dCB_ok (dCons_ok (dClose_ok c) dNil_ok) (by
      show R.ok (D.int ((((hs.take k).filter fun h => h).map fun h => D.str (hS h)).length : Nat)) _ = _
      rw [List.length_map, filt_cnt]; rfl)
    unfold turnD
    show (R.bind (R.ok () ⟨[.val (.tu (hT hs)), .val (.int (0 + (k : Nat))), .un], b⟩) _) = _
    rw [bind_ok]
    show (R.bind (R.ok true _) _) = _
    rw [bind_ok, if_pos rfl, ll]
    rfl
  have c : dComp (.nm 1) [1] (dCBF hRange1 (dCons (dBin hAdd (dCB hLen (dCons (dV 0) dNil)) (dC (.int 1))) dNil)) dYes (dCB hLen (dCons (dClose (dComp (.nm 2) [2] (dSeqI (dSlice (dV 0) dNoP (dPart (dV 1)))) (dBinB hEq (dV 2) (dC (.str "a"))) (dV 2))) dNil)) ⟨[.val (.tu (hT hs)), .un, .un], b⟩ = .ok ((List.range (hs.length + 1)).map fun k => D.int (cn hs k : Nat)) ⟨[.val (.tu (hT hs)), .un, .un], b⟩ := by
    refine dComp_ok rg ?_
    refine (compD_mapI (gs := (List.range (hs.length + 1)).map fun k => D.int (cn hs k : Nat)) (by unfold rangeD; simp) (fun i d g hd hg => ?_) (by unfold rangeD; simp; omega)).trans (by simp)
    unfold rangeD at hd
    rw [List.getElem?_map] at hd hg
    by_cases z : i < hs.length + 1
    · rw [List.getElem?_range z] at hd hg
      cases hd; cases hg
      exact one i z
    · rw [List.getElem?_eq_none (by simp; omega)] at hd; cases hd
  exact dRetF_ok c
def overL (hs gs : List Bool) : Bool := (List.range (hs.length + 1)).all fun n => decide (cn gs n ≤ cn hs n)
theorem overL_iff {hs gs : List Bool} : overL hs gs = true ↔ ∀ n, n ≤ hs.length → cn gs n ≤ cn hs n := by
  unfold overL
  rw [List.all_eq_true]
  constructor
  · intro h n l
    exact of_decide_eq_true (h n (List.mem_range.mpr (by omega)))
  · intro h n l
    exact decide_eq_true (h n (by have := List.mem_range.mp l; omega))
theorem over_ok {hs gs : List Bool} (l : hs.length ≤ 100) (e : gs.length = hs.length) : F_law_over [.tu (hT hs), .tu (hT gs)] b = .ok (.bl (overL hs gs)) b := by
  have s1 := sums_ok (b := b) l
  have s2 := sums_ok (b := b) (hs := gs) (by omega)
  rw [e] at s2
  refine run_rt (s := ⟨[.val (.tu (hT hs)), .val (.tu (hT gs)), .un, .un], b⟩) rfl ?_
  have c1 : dCall 1 F_law_sums [] (dCons (dV 0) dNil) ⟨[.val (.tu (hT hs)), .val (.tu (hT gs)), .un, .un], b⟩ = .ok (.ls ((List.range (hs.length + 1)).map fun k => D.int (cn hs k : Nat))) ⟨[.val (.tu (hT hs)), .val (.tu (hT gs)), .un, .un], b⟩ := e_callF (dCons_ok (dV_ok rfl) dNil_ok) rfl s1
  have c2 : dCall 1 F_law_sums [] (dCons (dV 1) dNil) ⟨[.val (.tu (hT hs)), .val (.tu (hT gs)), .un, .un], b⟩ = .ok (.ls ((List.range (hs.length + 1)).map fun k => D.int (cn gs k : Nat))) ⟨[.val (.tu (hT hs)), .val (.tu (hT gs)), .un, .un], b⟩ := e_callF (dCons_ok (dV_ok rfl) dNil_ok) rfl s2
  have zp : ∀ (ks : List Nat), zipD (ks.map fun k => D.int (cn hs k : Nat)) (ks.map fun k => D.int (cn gs k : Nat)) = ks.map fun k => D.tu [.int (cn hs k : Nat), .int (cn gs k : Nat)] := fun ks => by
    induction ks with
    | nil => rfl
    | cons k ks ih => simpa [zipD] using ih
  have z : dCBF hZip (dCons (dCall 1 F_law_sums [] (dCons (dV 0) dNil)) (dCons (dCall 1 F_law_sums [] (dCons (dV 1) dNil)) dNil)) ⟨[.val (.tu (hT hs)), .val (.tu (hT gs)), .un, .un], b⟩ = .ok ((List.range (hs.length + 1)).map fun k => D.tu [.int (cn hs k : Nat), .int (cn gs k : Nat)]) ⟨[.val (.tu (hT hs)), .val (.tu (hT gs)), .un, .un], b⟩ := by
    refine dCBF_ok (dCons_ok c1 (dCons_ok c2 dNil_ok)) ?_
    show R.ok (zipD _ _) _ = _
    rw [zp]
  have c : dComp (.tp [2, 3]) [2, 3] (dCBF hZip (dCons (dCall 1 F_law_sums [] (dCons (dV 0) dNil)) (dCons (dCall 1 F_law_sums [] (dCons (dV 1) dNil)) dNil))) dYes (dOfB (dBinB hGe (dV 2) (dV 3))) ⟨[.val (.tu (hT hs)), .val (.tu (hT gs)), .un, .un], b⟩ = .ok ((List.range (hs.length + 1)).map fun k => D.bl (decide (cn gs k ≤ cn hs k))) ⟨[.val (.tu (hT hs)), .val (.tu (hT gs)), .un, .un], b⟩ := by
    refine dComp_ok z ?_
    refine (compD_mapI (gs := (List.range (hs.length + 1)).map fun k => D.bl (decide (cn gs k ≤ cn hs k))) (by simp) (fun i d g hd hg => ?_) (by simp; omega)).trans (by simp)
    rw [List.getElem?_map] at hd hg
    by_cases q : i < hs.length + 1
    · rw [List.getElem?_range q] at hd hg
      cases hd; cases hg
      refine ⟨[.val (.tu (hT hs)), .val (.tu (hT gs)), .val (.int (cn hs i : Nat)), .val (.int (cn gs i : Nat))], ?_⟩
      have e : dBinB hGe (dV 2) (dV 3) ⟨[.val (.tu (hT hs)), .val (.tu (hT gs)), .val (.int (cn hs i : Nat)), .val (.int (cn gs i : Nat))], b⟩ = .ok (decide (cn gs i ≤ cn hs i)) ⟨[.val (.tu (hT hs)), .val (.tu (hT gs)), .val (.int (cn hs i : Nat)), .val (.int (cn gs i : Nat))], b⟩ := dBinB_ok (dV_ok rfl) (dV_ok rfl) (by
        by_cases w : cn gs i ≤ cn hs i
        · rw [decide_eq_true w]; exact o_get (by omega)
        · rw [decide_eq_false w]; exact o_gef (by omega))
      unfold turnD
      show (R.bind (R.ok () ⟨[.val (.tu (hT hs)), .val (.tu (hT gs)), .val (.int (cn hs i : Nat)), .val (.int (cn gs i : Nat))], b⟩) _) = _
      rw [bind_ok]
      show (R.bind (R.ok true _) _) = _
      rw [bind_ok, if_pos rfl, dOfB_ok e]
      rfl
    · rw [List.getElem?_eq_none (by simp; omega)] at hd; cases hd
  refine dRet_ok (dCB_ok (dCons_ok (dClose_ok c) dNil_ok) ?_)
  have ab : ∀ (ks : List Nat), blDs (ks.map fun k => D.bl (decide (cn gs k ≤ cn hs k))) = some (ks.map fun k => decide (cn gs k ≤ cn hs k)) := fun ks => by
    induction ks with
    | nil => rfl
    | cons k ks ih => show (some _).bind _ = _; rw [ih]; rfl
  show (match blDs ((List.range (hs.length + 1)).map fun k => D.bl (decide (cn gs k ≤ cn hs k))) with | some bs => R.ok (D.bl (bs.all id)) _ | none => .stuck) = _
  rw [ab]
  dsimp only
  unfold overL
  rw [List.all_map]
  rfl
end
end LW

namespace LW
open PySem PySem.Spec PyProof.Rows L2 DL
local macro_rules
  | `(tactic| decreasing_trivial_pre_omega) => `(tactic| first
    | with_reducible assumption
    | with_reducible exact dC_ok
    | with_reducible exact dNil_ok
    | with_reducible exact dNoP_ok
    | with_reducible exact s_next
    | ((with_reducible apply dV_ok); exact rfl)
    | with_reducible apply dCons_ok
    | with_reducible apply dBin_ok
    | with_reducible apply dBinB_ok
    | with_reducible apply e_call
    | with_reducible apply dCB_ok
    | with_reducible apply dCBF_ok
    | with_reducible apply dClose_ok
    | with_reducible apply dTup_ok
    | with_reducible apply dLst_ok
    | with_reducible apply dUn_ok
    | with_reducible apply dPart_ok
    | with_reducible apply dSlice_ok
    | with_reducible apply dSeqI_ok
    | with_reducible apply dOfB_ok
    | with_reducible apply dTru_bl
    | with_reducible apply dRet_ok
    | with_reducible apply e_prop
    | ((with_reducible apply e_lend); focus (exact rfl))
    | ((with_reducible apply t_lend); focus (exact rfl))
    | ((with_reducible apply sq); focus ((repeat' decreasing_trivial_pre_omega); done); focus (try dsimp only [List.set_cons_zero, List.set_cons_succ]); focus (exact rfl))
    | with_reducible apply s_set
    | with_reducible apply s_own
    | ((with_reducible apply s_app); focus (exact rfl))
    | with_reducible apply s_setIx
    | with_reducible apply s_par
    | with_reducible apply s_par3
    | with_reducible apply s_unp
    | ((with_reducible apply s_if_t); focus ((repeat' decreasing_trivial_pre_omega); done))
    | ((with_reducible apply s_if_f); focus ((repeat' decreasing_trivial_pre_omega); done))
    | (with_reducible apply o_not_t)
    | (with_reducible apply o_not_f)
    | ((with_reducible apply dAnd_t); focus ((repeat' decreasing_trivial_pre_omega); done))
    | ((with_reducible apply dAnd_f); ((repeat' decreasing_trivial_pre_omega); done))
    | ((with_reducible apply dOr_t); ((repeat' decreasing_trivial_pre_omega); done))
    | ((with_reducible apply dOr_f); focus ((repeat' decreasing_trivial_pre_omega); done))
    | ((with_reducible apply o_chain_t) <;> ((repeat' decreasing_trivial_pre_omega); done))
    | ((with_reducible apply o_chain_f) <;> ((repeat' decreasing_trivial_pre_omega); done))
    | ((with_reducible apply o_ltt); omega)
    | ((with_reducible apply o_ltf); omega)
    | ((with_reducible apply o_let); omega)
    | ((with_reducible apply o_lef); omega)
    | ((with_reducible apply o_gtt); omega)
    | ((with_reducible apply o_gtf); omega)
    | ((with_reducible apply o_get); omega)
    | ((with_reducible apply o_gef); omega)
    | ((with_reducible apply e_mulr); omega)
    | ((with_reducible apply e_mull); omega)
    | ((with_reducible apply e_div); omega)
    | ((with_reducible apply e_mod); omega)
    | ((with_reducible apply e_add_ls); first | exact Nat.le_of_ble_eq_true rfl | (simp; done) | (simp; omega))
    | ((with_reducible apply e_add_tu); first | exact Nat.le_of_ble_eq_true rfl | (simp; done) | (simp; omega))
    | exact (rfl : (_ : S) = _)
    | exact (rfl : (_ : R D) = _)
    | exact (rfl : (_ : R Bool) = _)
    | exact (rfl : (_ : R (List D)) = _)
    | exact (rfl : (_ : Option _) = _)
    | exact (rfl : (_ : Nat) = _)
    | exact Nat.le_of_ble_eq_true rfl
    | exact Nat.lt_of_lt_of_le (Nat.lt_succ_self _) (Nat.le_of_ble_eq_true rfl))
def LA_1 : S → R Out := (dUnpack (.tp [4, 5]) (dTup (dCons (dC .non) (dCons (dC .non) dNil))))
def LA_2 : S → R Out := (dTry tbl_OtherThings 5 5 3 (dSet 4 (dIfE (dBinB hIsN (dV 2) (dC .non)) (dCall 2 F_is_above [] (dCons (dV 0) (dCons (dV 1) dNil))) (dCall 3 F_is_between [] (dCons (dV 0) (dCons (dV 1) (dCons (dV 2) dNil)))))))
def LA_3 : S → R Out := (dRet (dIfE (dBinB hIsN (dV 5) (dC .non)) (dV 4) (dClose (dLst (dCons (dC (.str "unlike")) (dCons (dIsE 5 (tbl_ValueError) (dV 5)) dNil))))))
theorem LA_is : B_law_asked = (dSeq LA_1 (dSeq LA_2 LA_3)) := rfl
def CA_1 : S → R Out := (dPar3 7 8 9 (dCons (dCall 1 F_turns_of [] (dCons (dV 1) dNil)) (dCons (dCall 1 F_turns_of [] (dCons (dV 2) dNil)) (dCons (dCall 1 F_turns_of [] (dCons (dV 3) dNil)) dNil))))
def CA_2 : S → R Out := (dSet 4 (dClose (dLst (dCons (dCall 2 F_is_above [] (dCons (dV 7) (dCons (dV 8) dNil))) (dCons (dCall 2 F_is_above [] (dCons (dV 8) (dCons (dV 7) dNil))) (dCons (dCall 3 F_is_between [] (dCons (dV 7) (dCons (dV 8) (dCons (dV 9) dNil)))) dNil))))))
def CA_3 : S → R Out := (dSet 4 (dBin hAdd (dV 4) (dClose (dLst (dCons (dCall 3 F_is_between [] (dCons (dV 8) (dCons (dV 7) (dCons (dV 9) dNil)))) (dCons (dCall 1 F_height [] (dCons (dV 7) dNil)) (dCons (dCall 1 F_height [] (dCons (dV 9) dNil)) dNil)))))))
def CA_4 : S → R Out := (dSet 4 (dBin hAdd (dV 4) (dClose (dLst (dCons (dCall 2 F_is_above [] (dCons (dV 7) (dCons (dV 7) dNil))) dNil)))))
def CA_5 : S → R Out := (dOwn 5 (dLst (dCons (dCall 2 F_law_over [] (dCons (dV 1) (dCons (dV 2) dNil))) (dCons (dCall 2 F_law_over [] (dCons (dV 2) (dCons (dV 1) dNil))) dNil))))
def CA_6 : S → R Out := (dApp 5 (dAndV (dCall 2 F_law_over [] (dCons (dV 1) (dCons (dV 3) dNil))) (dCall 2 F_law_over [] (dCons (dV 3) (dCons (dV 2) dNil)))))
def CA_7 : S → R Out := (dApp 5 (dAndV (dCall 2 F_law_over [] (dCons (dV 2) (dCons (dV 3) dNil))) (dCall 2 F_law_over [] (dCons (dV 3) (dCons (dV 1) dNil)))))
def CA_8 : S → R Out := (dIf (dLendB 5 (dNot (dTru (dCall 2 (F_law_same 8) [] (dCons (dV 4) (dCons (dBin hAdd (dV 5) (dClose (dLst (dCons (dCB hSum (dCons (dCall 1 F_law_sums [] (dCons (dV 1) dNil)) dNil)) (dCons (dCB hSum (dCons (dCall 1 F_law_sums [] (dCons (dV 3) dNil)) dNil)) (dCons (dC (.bl true)) dNil)))))) dNil)))))) (dRet (dC (.bl false))) dNext)
def CA_9 : S → R Out := (dSet 6 (dCall 1 F_turns_of [] (dCons (dBin hAdd (dV 2) (dTup (dCons (dC (.str "a")) dNil))) dNil)))
def CA_10 : S → R Out := (dSet 4 (dClose (dLst (dCons (dCall 3 F_law_asked [] (dCons (dV 7) (dCons (dV 6) (dCons (dC .non) dNil)))) (dCons (dCall 3 F_law_asked [] (dCons (dV 6) (dCons (dV 7) (dCons (dC .non) dNil)))) dNil)))))
def CA_11 : S → R Out := (dSet 4 (dBin hAdd (dV 4) (dClose (dLst (dCons (dCall 3 F_law_asked [] (dCons (dV 7) (dCons (dV 8) (dCons (dV 6) dNil)))) dNil)))))
def CA_12 : S → R Out := (dRet (dCall 2 (F_law_same 8) [] (dCons (dV 4) (dCons (dBin hMul (dClose (dLst (dCons (dClose (dLst (dCons (dC (.str "unlike")) (dCons (dC (.bl true)) dNil)))) dNil))) (dC (.int 3))) dNil))))
theorem CA_is : B_law_case_right = (dSeq CA_1 (dSeq CA_2 (dSeq CA_3 (dSeq CA_4 (dSeq CA_5 (dSeq CA_6 (dSeq CA_7 (dSeq CA_8 (dSeq CA_9 (dSeq CA_10 (dSeq CA_11 CA_12))))))))))) := rfl
section
variable {b : Bx} {X : Sl} {rs ts bs us : List Pr}
theorem ahead_cn (k : Int) (rs : List Pr) : aheadP k rs = ((cn (flatP rs) k.toNat : Nat) : Int) := rfl
theorem overP_iff : overP rs ts = true ↔ ∀ k ∈ cornL rs ts, cn (flatP ts) k.toNat ≤ cn (flatP rs) k.toNat := by
  unfold overP
  rw [decide_eq_true_iff]
  constructor
  · intro h k hk
    have := h k hk
    rw [ahead_cn, ahead_cn] at this
    omega
  · intro h k hk
    rw [ahead_cn, ahead_cn]
    have := h k hk
    omega
theorem over_J {hs gs : List Bool} (e : gs.length = hs.length) : overP (J hs) (J gs) = overL hs gs := by
  have c := over_corner (rs := J hs) (ts := J gs) (joinP_alt _) (joinP_pos (units_pos hs)) (joinP_alt _) (joinP_pos (units_pos gs)) (by rw [J_flat, J_flat, e])
  rw [← overP_iff, J_flat, J_flat, ← overL_iff] at c
  exact Bool.eq_iff_iff.mpr c
theorem over_self (rs : List Pr) : overP rs rs = true := overP_iff.mpr fun k _ => Nat.le_refl _
theorem J_pos (hs : List Bool) : Pos1 (J hs) := joinP_pos (units_pos hs)
theorem hgt_J (hs : List Bool) : hgt (J hs) = sumN hs hs.length := by
  have := hgt_sum (J_pos hs)
  rw [J_flat, sumC_sumN] at this
  omega
theorem range_sum (hs : List Bool) : ∀ n : Nat, ((List.range (n + 1)).map fun k => ((cn hs k : Nat) : Int)).sum = sumN hs n
  | 0 => by simp [sumN, cn_zero]
  | n + 1 => by rw [List.range_succ, List.map_append, List.sum_append, range_sum hs n]; simp [sumN]
theorem sumAll_ok {hs : List Bool} {i : Nat} {σ : List Sl} (l : hs.length ≤ 100) (h : σ[i]? = some (.val (.tu (hT hs)))) : dCB hSum (dCons (dCall 1 F_law_sums [] (dCons (dV i) dNil)) dNil) ⟨σ, b⟩ = .ok (.int (sumN hs hs.length)) ⟨σ, b⟩ := by
  have c1 : dCall 1 F_law_sums [] (dCons (dV i) dNil) ⟨σ, b⟩ = .ok (.ls ((List.range (hs.length + 1)).map fun k => D.int (cn hs k : Nat))) ⟨σ, b⟩ := e_callF (dCons_ok (dV_ok h) dNil_ok) rfl (sums_ok l)
  refine dCB_ok (dCons_ok c1 dNil_ok) ?_
  have e : ((List.range (hs.length + 1)).map fun k => D.int (cn hs k : Nat)) = ((List.range (hs.length + 1)).map fun k => ((cn hs k : Nat) : Int)).map D.int := by rw [List.map_map]; rfl
  rw [e]
  show (match intDs (((List.range (hs.length + 1)).map fun k => ((cn hs k : Nat) : Int)).map D.int) with | some is => R.ok (D.int is.sum) _ | none => .stuck) = _
  rw [intDs_ints]
  dsimp only
  rw [range_sum]
/-! asked: only of unlike sizes -/
theorem asked2_ok (l : rs.length + ts.length < 60) (e : whole rs ≠ whole ts) : F_law_asked [tD rs, tD ts, .non] b = .ok unlike b := by
  have u : LA_1 ⟨[tD rs, tD ts, .non].map Sl.val ++ List.replicate (6 - 3) Sl.un, b⟩ = .ok .nx ⟨[.val (tD rs), .val (tD ts), .val .non, .un, .val .non, .val .non], b⟩ := rfl
  have c : dCall 2 F_is_above [] (dCons (dV 0) (dCons (dV 1) dNil)) ⟨[.val (tD rs), .val (tD ts), .val .non, .un, .val .non, .val .non], b⟩ = .err ⟨4, []⟩ ⟨[.val (tD rs), .val (tD ts), .val .non, .un, .val .non, .val .non], b⟩ := call_err (dCons_ok (dV_ok rfl) (dCons_ok (dV_ok rfl) dNil_ok)) rfl (above_err l e)
  have s : dSet 4 (dIfE (dBinB hIsN (dV 2) (dC .non)) (dCall 2 F_is_above [] (dCons (dV 0) (dCons (dV 1) dNil))) (dCall 3 F_is_between [] (dCons (dV 0) (dCons (dV 1) (dCons (dV 2) dNil))))) ⟨[.val (tD rs), .val (tD ts), .val .non, .un, .val .non, .val .non], b⟩ = .err ⟨4, []⟩ ⟨[.val (tD rs), .val (tD ts), .val .non, .un, .val .non, .val .non], b⟩ := by
    unfold dSet
    rw [dIfE_t (t := dBinB hIsN (dV 2) (dC .non)) (st1 := ⟨[.val (tD rs), .val (tD ts), .val .non, .un, .val .non, .val .non], b⟩) rfl c]; rfl
  have t : LA_2 ⟨[.val (tD rs), .val (tD ts), .val .non, .un, .val .non, .val .non], b⟩ = .ok .nx ⟨[.val (tD rs), .val (tD ts), .val .non, .un, .val .non, .val (.er 4 [])], b⟩ := tryN_err s ⟨by decide, by show 3 < 6; omega⟩ rfl
  refine run_rt (s := ⟨[.val (tD rs), .val (tD ts), .val .non, .un, .val .non, .val (.er 4 [])], b⟩) rfl ?_
  rw [LA_is, seq_nx u, seq_nx t]
  rfl
theorem asked3_ok (l : rs.length + ts.length + us.length < 60) (e : whole rs = whole ts) (e2 : whole us ≠ whole rs) : F_law_asked [tD rs, tD ts, tD us] b = .ok unlike b := by
  have u : LA_1 ⟨[tD rs, tD ts, tD us].map Sl.val ++ List.replicate (6 - 3) Sl.un, b⟩ = .ok .nx ⟨[.val (tD rs), .val (tD ts), .val (tD us), .un, .val .non, .val .non], b⟩ := rfl
  have c : dCall 3 F_is_between [] (dCons (dV 0) (dCons (dV 1) (dCons (dV 2) dNil))) ⟨[.val (tD rs), .val (tD ts), .val (tD us), .un, .val .non, .val .non], b⟩ = .err ⟨4, []⟩ ⟨[.val (tD rs), .val (tD ts), .val (tD us), .un, .val .non, .val .non], b⟩ := call_err (dCons_ok (dV_ok rfl) (dCons_ok (dV_ok rfl) (dCons_ok (dV_ok rfl) dNil_ok))) rfl (between_err l e e2)
  have s : dSet 4 (dIfE (dBinB hIsN (dV 2) (dC .non)) (dCall 2 F_is_above [] (dCons (dV 0) (dCons (dV 1) dNil))) (dCall 3 F_is_between [] (dCons (dV 0) (dCons (dV 1) (dCons (dV 2) dNil))))) ⟨[.val (tD rs), .val (tD ts), .val (tD us), .un, .val .non, .val .non], b⟩ = .err ⟨4, []⟩ ⟨[.val (tD rs), .val (tD ts), .val (tD us), .un, .val .non, .val .non], b⟩ := by
    unfold dSet
    rw [dIfE_f (t := dBinB hIsN (dV 2) (dC .non)) (st1 := ⟨[.val (tD rs), .val (tD ts), .val (tD us), .un, .val .non, .val .non], b⟩) rfl c]; rfl
  have t : LA_2 ⟨[.val (tD rs), .val (tD ts), .val (tD us), .un, .val .non, .val .non], b⟩ = .ok .nx ⟨[.val (tD rs), .val (tD ts), .val (tD us), .un, .val .non, .val (.er 4 [])], b⟩ := tryN_err s ⟨by decide, by show 3 < 6; omega⟩ rfl
  refine run_rt (s := ⟨[.val (tD rs), .val (tD ts), .val (tD us), .un, .val .non, .val (.er 4 [])], b⟩) rfl ?_
  rw [LA_is, seq_nx u, seq_nx t]
  rfl
theorem and_ok {p q : Bool} {f g : S → R D} {st : S} (h1 : f st = .ok (.bl p) st) (h2 : g st = .ok (.bl q) st) : dAndV f g st = .ok (.bl (p && q)) st := by
  cases p with
  | true => exact dAndV_t h1 rfl h2
  | false => exact dAndV_f h1 rfl
abbrev CS (hs gs fs : List Bool) (x4 x5 x6 : Sl) (b : Bx) : S := ⟨[.val .box, .val (.tu (hT hs)), .val (.tu (hT gs)), .val (.tu (hT fs)), x4, x5, x6, .val (tD (J hs)), .val (tD (J gs)), .val (tD (J fs))], b⟩
theorem case_ok {hs gs fs : List Bool} (l : hs.length ≤ 12) (eg : gs.length = hs.length) (ef : fs.length = hs.length) : F_law_case_right [.box, .tu (hT hs), .tu (hT gs), .tu (hT fs)] b = .ok (.bl true) b := by
  have t1 := turnsof_ok (b := b) (hs := hs) (.inl rfl) (by omega)
  have t2 := turnsof_ok (b := b) (hs := gs) (.inl rfl) (by omega)
  have t3 := turnsof_ok (b := b) (hs := fs) (.inl rfl) (by omega)
  have jl1 := J_len hs
  have jl2 := J_len gs
  have jl3 := J_len fs
  have w12 : whole (J hs) = whole (J gs) := by rw [J_whole, J_whole, eg]
  have w31 : whole (J fs) = whole (J hs) := by rw [J_whole, J_whole, ef]
  have w32 : whole (J fs) = whole (J gs) := w31.trans w12
  have a12 := above_ok (b := b) (J_pos hs) (J_pos gs) (by omega) w12
  have a21 := above_ok (b := b) (J_pos gs) (J_pos hs) (by omega) w12.symm
  have a11 := above_ok (b := b) (J_pos hs) (J_pos hs) (by omega) rfl
  have b1 := between_ok (b := b) (J_pos hs) (J_pos gs) (J_pos fs) (by omega) w12 w31
  have b2 := between_ok (b := b) (J_pos gs) (J_pos hs) (J_pos fs) (by omega) w12.symm w32
  have hw : ∀ hs : List Bool, hs.length ≤ 12 → whole (J hs) < 10000000000000000000000000000000 := fun hs l => by rw [J_whole]; omega
  have h1 := height_ok (b := b) (J_pos hs) (by omega) (hw hs (by omega))
  have h3 := height_ok (b := b) (J_pos fs) (by omega) (hw fs (by omega))
  rw [hgt_J] at h1 h3
  rw [over_J eg] at a12
  rw [over_J eg.symm] at a21
  rw [over_self] at a11
  rw [over_J ef, over_J (eg.trans ef.symm)] at b1
  rw [over_J (ef.trans eg.symm), over_J ef.symm] at b2
  have o12 := over_ok (b := b) (hs := hs) (gs := gs) (by omega) eg
  have o21 := over_ok (b := b) (hs := gs) (gs := hs) (by omega) eg.symm
  have o13 := over_ok (b := b) (hs := hs) (gs := fs) (by omega) ef
  have o32 := over_ok (b := b) (hs := fs) (gs := gs) (by omega) (eg.trans ef.symm)
  have o23 := over_ok (b := b) (hs := gs) (gs := fs) (by omega) (ef.trans eg.symm)
  have o31 := over_ok (b := b) (hs := fs) (gs := hs) (by omega) ef.symm
  generalize overL hs gs = k12 at *
  generalize overL gs hs = k21 at *
  generalize overL hs fs = k13 at *
  generalize overL fs gs = k32 at *
  generalize overL gs fs = k23 at *
  generalize overL fs hs = k31 at *
  have s1 : CA_1 ⟨[.box, .tu (hT hs), .tu (hT gs), .tu (hT fs)].map Sl.val ++ List.replicate (10 - 4) Sl.un, b⟩ = .ok .nx (CS hs gs fs .un .un .un b) :=
    s_par30 (σ := [.val .box, .val (.tu (hT hs)), .val (.tu (hT gs)), .val (.tu (hT fs)), .un, .un, .un, .un, .un, .un]) (dCons_ok (e_call (dCons_ok (dV_ok rfl) dNil_ok) rfl t1) (dCons_ok (e_call (dCons_ok (dV_ok rfl) dNil_ok) rfl t2) (dCons_ok (e_call (dCons_ok (dV_ok rfl) dNil_ok) rfl t3) dNil_ok)))
  have s2 : CA_2 (CS hs gs fs .un .un .un b) = .ok .nx (CS hs gs fs (.val (.ls [.bl k12, .bl k21, .bl (k13 && k32)])) .un .un b) := by
    have c1 : dCall 2 F_is_above [] (dCons (dV 7) (dCons (dV 8) dNil)) (CS hs gs fs .un .un .un b) = .ok (.bl k12) (CS hs gs fs .un .un .un b) := e_call (dCons_ok (dV_ok rfl) (dCons_ok (dV_ok rfl) dNil_ok)) rfl a12
    have c2 : dCall 2 F_is_above [] (dCons (dV 8) (dCons (dV 7) dNil)) (CS hs gs fs .un .un .un b) = .ok (.bl k21) (CS hs gs fs .un .un .un b) := e_call (dCons_ok (dV_ok rfl) (dCons_ok (dV_ok rfl) dNil_ok)) rfl a21
    have c3 : dCall 3 F_is_between [] (dCons (dV 7) (dCons (dV 8) (dCons (dV 9) dNil))) (CS hs gs fs .un .un .un b) = .ok (.bl (k13 && k32)) (CS hs gs fs .un .un .un b) := e_call (dCons_ok (dV_ok rfl) (dCons_ok (dV_ok rfl) (dCons_ok (dV_ok rfl) dNil_ok))) rfl b1
    exact dSet_ok (dClose_ok (dLst_ok (dCons_ok c1 (dCons_ok c2 (dCons_ok c3 dNil_ok))) (Nat.le_of_ble_eq_true rfl)))
  have s3 : CA_3 (CS hs gs fs (.val (.ls [.bl k12, .bl k21, .bl (k13 && k32)])) .un .un b) = .ok .nx (CS hs gs fs (.val (.ls [.bl k12, .bl k21, .bl (k13 && k32), .bl (k23 && k31), .int (sumN hs hs.length), .int (sumN fs fs.length)])) .un .un b) := by
    generalize hx : D.ls [.bl k12, .bl k21, .bl (k13 && k32)] = x
    have c3 : dCall 3 F_is_between [] (dCons (dV 8) (dCons (dV 7) (dCons (dV 9) dNil))) (CS hs gs fs (.val x) .un .un b) = .ok (.bl (k23 && k31)) (CS hs gs fs (.val x) .un .un b) := e_call (dCons_ok (dV_ok rfl) (dCons_ok (dV_ok rfl) (dCons_ok (dV_ok rfl) dNil_ok))) rfl b2
    have c1 : dCall 1 F_height [] (dCons (dV 7) dNil) (CS hs gs fs (.val x) .un .un b) = .ok (.int (sumN hs hs.length)) (CS hs gs fs (.val x) .un .un b) := e_call (dCons_ok (dV_ok rfl) dNil_ok) rfl h1
    have c2 : dCall 1 F_height [] (dCons (dV 9) dNil) (CS hs gs fs (.val x) .un .un b) = .ok (.int (sumN fs fs.length)) (CS hs gs fs (.val x) .un .un b) := e_call (dCons_ok (dV_ok rfl) dNil_ok) rfl h3
    have v4 : dV 4 (CS hs gs fs (.val x) .un .un b) = .ok (.ls [.bl k12, .bl k21, .bl (k13 && k32)]) (CS hs gs fs (.val x) .un .un b) := dV_ok (by rw [hx]; rfl)
    exact dSet_ok (dBin_ok v4 (dClose_ok (dLst_ok (dCons_ok c3 (dCons_ok c1 (dCons_ok c2 dNil_ok))) (Nat.le_of_ble_eq_true rfl))) (e_add_ls (xs := [.bl k12, .bl k21, .bl (k13 && k32)]) (ys := [.bl (k23 && k31), .int (sumN hs hs.length), .int (sumN fs fs.length)]) (Nat.le_of_ble_eq_true rfl)))
  generalize hp : (k13 && k32) = p1 at s2 s3
  generalize hq : (k23 && k31) = p2 at s3
  have s4 : CA_4 (CS hs gs fs (.val (.ls [.bl k12, .bl k21, .bl p1, .bl p2, .int (sumN hs hs.length), .int (sumN fs fs.length)])) .un .un b) = .ok .nx (CS hs gs fs (.val (.ls [.bl k12, .bl k21, .bl p1, .bl p2, .int (sumN hs hs.length), .int (sumN fs fs.length), .bl true])) .un .un b) := by
    generalize hx : D.ls [.bl k12, .bl k21, .bl p1, .bl p2, .int (sumN hs hs.length), .int (sumN fs fs.length)] = x
    have c1 : dCall 2 F_is_above [] (dCons (dV 7) (dCons (dV 7) dNil)) (CS hs gs fs (.val x) .un .un b) = .ok (.bl true) (CS hs gs fs (.val x) .un .un b) := e_call (dCons_ok (dV_ok rfl) (dCons_ok (dV_ok rfl) dNil_ok)) rfl a11
    have v4 : dV 4 (CS hs gs fs (.val x) .un .un b) = .ok (.ls [.bl k12, .bl k21, .bl p1, .bl p2, .int (sumN hs hs.length), .int (sumN fs fs.length)]) (CS hs gs fs (.val x) .un .un b) := dV_ok (by rw [hx]; rfl)
    exact dSet_ok (dBin_ok v4 (dClose_ok (dLst_ok (dCons_ok c1 dNil_ok) (Nat.le_of_ble_eq_true rfl))) (e_add_ls (xs := [.bl k12, .bl k21, .bl p1, .bl p2, .int (sumN hs hs.length), .int (sumN fs fs.length)]) (ys := [.bl true]) (Nat.le_of_ble_eq_true rfl)))
  generalize hx4 : D.ls [.bl k12, .bl k21, .bl p1, .bl p2, .int (sumN hs hs.length), .int (sumN fs fs.length), .bl true] = x4 at s4
  have s5 : CA_5 (CS hs gs fs (.val x4) .un .un b) = .ok .nx (CS hs gs fs (.val x4) (.own [.bl k12, .bl k21]) .un b) := by
    have c1 : dCall 2 F_law_over [] (dCons (dV 1) (dCons (dV 2) dNil)) (CS hs gs fs (.val x4) .un .un b) = .ok (.bl k12) (CS hs gs fs (.val x4) .un .un b) := e_call (dCons_ok (dV_ok rfl) (dCons_ok (dV_ok rfl) dNil_ok)) rfl o12
    have c2 : dCall 2 F_law_over [] (dCons (dV 2) (dCons (dV 1) dNil)) (CS hs gs fs (.val x4) .un .un b) = .ok (.bl k21) (CS hs gs fs (.val x4) .un .un b) := e_call (dCons_ok (dV_ok rfl) (dCons_ok (dV_ok rfl) dNil_ok)) rfl o21
    exact dOwn_ok (dLst_ok (dCons_ok c1 (dCons_ok c2 dNil_ok)) (Nat.le_of_ble_eq_true rfl))
  have s6 : CA_6 (CS hs gs fs (.val x4) (.own [.bl k12, .bl k21]) .un b) = .ok .nx (CS hs gs fs (.val x4) (.own [.bl k12, .bl k21, .bl p1]) .un b) := by
    have c1 : dCall 2 F_law_over [] (dCons (dV 1) (dCons (dV 3) dNil)) (CS hs gs fs (.val x4) (.own [.bl k12, .bl k21]) .un b) = .ok (.bl k13) (CS hs gs fs (.val x4) (.own [.bl k12, .bl k21]) .un b) := e_call (dCons_ok (dV_ok rfl) (dCons_ok (dV_ok rfl) dNil_ok)) rfl o13
    have c2 : dCall 2 F_law_over [] (dCons (dV 3) (dCons (dV 2) dNil)) (CS hs gs fs (.val x4) (.own [.bl k12, .bl k21]) .un b) = .ok (.bl k32) (CS hs gs fs (.val x4) (.own [.bl k12, .bl k21]) .un b) := e_call (dCons_ok (dV_ok rfl) (dCons_ok (dV_ok rfl) dNil_ok)) rfl o32
    have c3 := and_ok c1 c2
    rw [hp] at c3
    exact dApp_ok (ds1 := [.bl k12, .bl k21]) rfl c3 rfl (by show (2 : Nat) < 16777216; omega)
  have s7 : CA_7 (CS hs gs fs (.val x4) (.own [.bl k12, .bl k21, .bl p1]) .un b) = .ok .nx (CS hs gs fs (.val x4) (.own [.bl k12, .bl k21, .bl p1, .bl p2]) .un b) := by
    have c1 : dCall 2 F_law_over [] (dCons (dV 2) (dCons (dV 3) dNil)) (CS hs gs fs (.val x4) (.own [.bl k12, .bl k21, .bl p1]) .un b) = .ok (.bl k23) (CS hs gs fs (.val x4) (.own [.bl k12, .bl k21, .bl p1]) .un b) := e_call (dCons_ok (dV_ok rfl) (dCons_ok (dV_ok rfl) dNil_ok)) rfl o23
    have c2 : dCall 2 F_law_over [] (dCons (dV 3) (dCons (dV 1) dNil)) (CS hs gs fs (.val x4) (.own [.bl k12, .bl k21, .bl p1]) .un b) = .ok (.bl k31) (CS hs gs fs (.val x4) (.own [.bl k12, .bl k21, .bl p1]) .un b) := e_call (dCons_ok (dV_ok rfl) (dCons_ok (dV_ok rfl) dNil_ok)) rfl o31
    have c3 := and_ok c1 c2
    rw [hq] at c3
    exact dApp_ok (ds1 := [.bl k12, .bl k21, .bl p1]) rfl c3 rfl (by show (3 : Nat) < 16777216; omega)
  have s8 : CA_8 (CS hs gs fs (.val x4) (.own [.bl k12, .bl k21, .bl p1, .bl p2]) .un b) = .ok .nx (CS hs gs fs (.val x4) (.own [.bl k12, .bl k21, .bl p1, .bl p2]) .un b) := by
    have u1 := sumAll_ok (b := b) (hs := hs) (i := 1) (σ := (CS hs gs fs (.val x4) (.val (.ls [.bl k12, .bl k21, .bl p1, .bl p2])) .un b).env) (by omega) rfl
    have u3 := sumAll_ok (b := b) (hs := fs) (i := 3) (σ := (CS hs gs fs (.val x4) (.val (.ls [.bl k12, .bl k21, .bl p1, .bl p2])) .un b).env) (by omega) rfl
    have du := dBin_ok (fa := dV 5) (x := .ls [.bl k12, .bl k21, .bl p1, .bl p2]) (st := CS hs gs fs (.val x4) (.val (.ls [.bl k12, .bl k21, .bl p1, .bl p2])) .un b) (dV_ok rfl) (dClose_ok (dLst_ok (dCons_ok u1 (dCons_ok u3 (dCons_ok (dC_ok (d := .bl true)) dNil_ok))) (Nat.le_of_ble_eq_true rfl))) (e_add_ls (xs := [.bl k12, .bl k21, .bl p1, .bl p2]) (ys := [.int (sumN hs hs.length), .int (sumN fs fs.length), .bl true]) (Nat.le_of_ble_eq_true rfl))
    have ee : D.ls ([.bl k12, .bl k21, .bl p1, .bl p2] ++ [.int (sumN hs hs.length), .int (sumN fs fs.length), .bl true]) = x4 := hx4
    rw [ee] at du
    have pl : plainN 8 x4 = true := by rw [← hx4]; rfl
    have sm := same_refl 8 x4 b pl
    have cl : dCall 2 (F_law_same 8) [] (dCons (dV 4) (dCons (dBin hAdd (dV 5) (dClose (dLst (dCons (dCB hSum (dCons (dCall 1 F_law_sums [] (dCons (dV 1) dNil)) dNil)) (dCons (dCB hSum (dCons (dCall 1 F_law_sums [] (dCons (dV 3) dNil)) dNil)) (dCons (dC (.bl true)) dNil)))))) dNil)) (CS hs gs fs (.val x4) (.val (.ls [.bl k12, .bl k21, .bl p1, .bl p2])) .un b) = .ok (.bl true) (CS hs gs fs (.val x4) (.val (.ls [.bl k12, .bl k21, .bl p1, .bl p2])) .un b) := e_call (dCons_ok (dV_ok rfl) (dCons_ok du dNil_ok)) rfl sm
    have ld := t_lend (i := 5) (σ := (CS hs gs fs (.val x4) (.own [.bl k12, .bl k21, .bl p1, .bl p2]) .un b).env) (a := b) (ds := [.bl k12, .bl k21, .bl p1, .bl p2]) rfl (o_not_f (dTru_bl cl))
    exact dIf_f ld rfl
  generalize Sl.own [.bl k12, .bl k21, .bl p1, .bl p2] = x5 at s7 s8
  have tm := turnsof_ok (b := b) (hs := gs ++ [true]) (.inl rfl) (by simp; omega)
  have jlm := J_len (gs ++ [true])
  rw [List.length_append, List.length_singleton] at jlm
  have wm : whole (J (gs ++ [true])) = (hs.length : Int) + 1 := by rw [J_whole, List.length_append, List.length_singleton]; omega
  have w1 : whole (J hs) = (hs.length : Int) := J_whole hs
  have k1 := asked2_ok (b := b) (rs := J hs) (ts := J (gs ++ [true])) (by omega) (by omega)
  have k2 := asked2_ok (b := b) (rs := J (gs ++ [true])) (ts := J hs) (by omega) (by omega)
  have k3 := asked3_ok (b := b) (rs := J hs) (ts := J gs) (us := J (gs ++ [true])) (by omega) w12 (by omega)
  have s9 : CA_9 (CS hs gs fs (.val x4) x5 .un b) = .ok .nx (CS hs gs fs (.val x4) x5 (.val (tD (J (gs ++ [true])))) b) := by
    have ad : dBin hAdd (dV 2) (dTup (dCons (dC (.str "a")) dNil)) (CS hs gs fs (.val x4) x5 .un b) = .ok (.tu (hT (gs ++ [true]))) (CS hs gs fs (.val x4) x5 .un b) := dBin_ok (x := .tu (hT gs)) (y := .tu [.str "a"]) (dV_ok rfl) rfl (by
      have := e_add_tu (xs := hT gs) (ys := [.str "a"]) (st := CS hs gs fs (.val x4) x5 .un b) (by simp; omega)
      rw [this]; simp [hT]; rfl)
    exact dSet_ok (e_call (dCons_ok ad dNil_ok) rfl tm)
  have s10 : CA_10 (CS hs gs fs (.val x4) x5 (.val (tD (J (gs ++ [true])))) b) = .ok .nx (CS hs gs fs (.val (.ls [unlike, unlike])) x5 (.val (tD (J (gs ++ [true])))) b) := by
    have c1 : dCall 3 F_law_asked [] (dCons (dV 7) (dCons (dV 6) (dCons (dC .non) dNil))) (CS hs gs fs (.val x4) x5 (.val (tD (J (gs ++ [true])))) b) = .ok unlike (CS hs gs fs (.val x4) x5 (.val (tD (J (gs ++ [true])))) b) := e_call (dCons_ok (dV_ok rfl) (dCons_ok (dV_ok rfl) (dCons_ok dC_ok dNil_ok))) rfl k1
    have c2 : dCall 3 F_law_asked [] (dCons (dV 6) (dCons (dV 7) (dCons (dC .non) dNil))) (CS hs gs fs (.val x4) x5 (.val (tD (J (gs ++ [true])))) b) = .ok unlike (CS hs gs fs (.val x4) x5 (.val (tD (J (gs ++ [true])))) b) := e_call (dCons_ok (dV_ok rfl) (dCons_ok (dV_ok rfl) (dCons_ok dC_ok dNil_ok))) rfl k2
    exact dSet_ok (dClose_ok (dLst_ok (dCons_ok c1 (dCons_ok c2 dNil_ok)) (Nat.le_of_ble_eq_true rfl)))
  have s11 : CA_11 (CS hs gs fs (.val (.ls [unlike, unlike])) x5 (.val (tD (J (gs ++ [true])))) b) = .ok .nx (CS hs gs fs (.val (.ls [unlike, unlike, unlike])) x5 (.val (tD (J (gs ++ [true])))) b) := by
    have c1 : dCall 3 F_law_asked [] (dCons (dV 7) (dCons (dV 8) (dCons (dV 6) dNil))) (CS hs gs fs (.val (.ls [unlike, unlike])) x5 (.val (tD (J (gs ++ [true])))) b) = .ok unlike (CS hs gs fs (.val (.ls [unlike, unlike])) x5 (.val (tD (J (gs ++ [true])))) b) := e_call (dCons_ok (dV_ok rfl) (dCons_ok (dV_ok rfl) (dCons_ok (dV_ok rfl) dNil_ok))) rfl k3
    exact dSet_ok (dBin_ok (x := .ls [unlike, unlike]) (dV_ok rfl) (dClose_ok (dLst_ok (dCons_ok c1 dNil_ok) (Nat.le_of_ble_eq_true rfl))) (e_add_ls (xs := [unlike, unlike]) (ys := [unlike]) (Nat.le_of_ble_eq_true rfl)))
  have s12 : CA_12 (CS hs gs fs (.val (.ls [unlike, unlike, unlike])) x5 (.val (tD (J (gs ++ [true])))) b) = .ok (.rt (.bl true)) (CS hs gs fs (.val (.ls [unlike, unlike, unlike])) x5 (.val (tD (J (gs ++ [true])))) b) := by
    have un : dClose (dLst (dCons (dC (.str "unlike")) (dCons (dC (.bl true)) dNil))) (CS hs gs fs (.val (.ls [unlike, unlike, unlike])) x5 (.val (tD (J (gs ++ [true])))) b) = .ok unlike (CS hs gs fs (.val (.ls [unlike, unlike, unlike])) x5 (.val (tD (J (gs ++ [true])))) b) := dClose_ok (dLst_ok (dCons_ok dC_ok (dCons_ok dC_ok dNil_ok)) (Nat.le_of_ble_eq_true rfl))
    have m : dBin hMul (dClose (dLst (dCons (dClose (dLst (dCons (dC (.str "unlike")) (dCons (dC (.bl true)) dNil)))) dNil))) (dC (.int 3)) (CS hs gs fs (.val (.ls [unlike, unlike, unlike])) x5 (.val (tD (J (gs ++ [true])))) b) = .ok (.ls [unlike, unlike, unlike]) (CS hs gs fs (.val (.ls [unlike, unlike, unlike])) x5 (.val (tD (J (gs ++ [true])))) b) :=
      dBin_ok (dClose_ok (dLst_ok (dCons_ok un dNil_ok) (Nat.le_of_ble_eq_true rfl))) dC_ok rfl
    have pl : plainN 8 (.ls [unlike, unlike, unlike]) = true := by decide +kernel
    have sm := same_refl 8 _ b pl
    exact dRet_ok (e_call (dCons_ok (dV_ok rfl) (dCons_ok m dNil_ok)) rfl sm)
  refine run_rt (s := CS hs gs fs (.val (.ls [unlike, unlike, unlike])) x5 (.val (tD (J (gs ++ [true])))) b) rfl ?_
  rw [CA_is, seq_nx s1, seq_nx s2, seq_nx s3, seq_nx s4, seq_nx s5, seq_nx s6, seq_nx s7, seq_nx s8, seq_nx s9, seq_nx s10, seq_nx s11]
  exact s12
end
end LW

namespace LW
open PySem PySem.Spec PyProof.Rows L2 DL
local macro_rules
  | `(tactic| decreasing_trivial_pre_omega) => `(tactic| first
    | with_reducible assumption
    | with_reducible exact dC_ok
    | with_reducible exact dNil_ok
    | with_reducible exact dNoP_ok
    | with_reducible exact s_next
    | ((with_reducible apply dV_ok); exact rfl)
    | with_reducible apply dCons_ok
    | with_reducible apply dBin_ok
    | with_reducible apply dBinB_ok
    | with_reducible apply e_call
    | with_reducible apply dCB_ok
    | with_reducible apply dCBF_ok
    | with_reducible apply dClose_ok
    | with_reducible apply dTup_ok
    | with_reducible apply dLst_ok
    | with_reducible apply dUn_ok
    | with_reducible apply dPart_ok
    | with_reducible apply dSlice_ok
    | with_reducible apply dSeqI_ok
    | with_reducible apply dOfB_ok
    | with_reducible apply dTru_bl
    | with_reducible apply dRet_ok
    | with_reducible apply e_prop
    | ((with_reducible apply e_lend); focus (exact rfl))
    | ((with_reducible apply t_lend); focus (exact rfl))
    | ((with_reducible apply sq); focus ((repeat' decreasing_trivial_pre_omega); done); focus (try dsimp only [List.set_cons_zero, List.set_cons_succ]); focus (exact rfl))
    | with_reducible apply s_set
    | with_reducible apply s_own
    | ((with_reducible apply s_app); focus (exact rfl))
    | with_reducible apply s_setIx
    | with_reducible apply s_par
    | with_reducible apply s_par3
    | with_reducible apply s_unp
    | ((with_reducible apply s_if_t); focus ((repeat' decreasing_trivial_pre_omega); done))
    | ((with_reducible apply s_if_f); focus ((repeat' decreasing_trivial_pre_omega); done))
    | (with_reducible apply o_not_t)
    | (with_reducible apply o_not_f)
    | ((with_reducible apply dAnd_t); focus ((repeat' decreasing_trivial_pre_omega); done))
    | ((with_reducible apply dAnd_f); ((repeat' decreasing_trivial_pre_omega); done))
    | ((with_reducible apply dOr_t); ((repeat' decreasing_trivial_pre_omega); done))
    | ((with_reducible apply dOr_f); focus ((repeat' decreasing_trivial_pre_omega); done))
    | ((with_reducible apply o_chain_t) <;> ((repeat' decreasing_trivial_pre_omega); done))
    | ((with_reducible apply o_chain_f) <;> ((repeat' decreasing_trivial_pre_omega); done))
    | ((with_reducible apply o_ltt); omega)
    | ((with_reducible apply o_ltf); omega)
    | ((with_reducible apply o_let); omega)
    | ((with_reducible apply o_lef); omega)
    | ((with_reducible apply o_gtt); omega)
    | ((with_reducible apply o_gtf); omega)
    | ((with_reducible apply o_get); omega)
    | ((with_reducible apply o_gef); omega)
    | ((with_reducible apply e_mulr); omega)
    | ((with_reducible apply e_mull); omega)
    | ((with_reducible apply e_div); omega)
    | ((with_reducible apply e_mod); omega)
    | ((with_reducible apply e_add_ls); first | exact Nat.le_of_ble_eq_true rfl | (simp; done) | (simp; omega))
    | ((with_reducible apply e_add_tu); first | exact Nat.le_of_ble_eq_true rfl | (simp; done) | (simp; omega))
    | exact (rfl : (_ : S) = _)
    | exact (rfl : (_ : R D) = _)
    | exact (rfl : (_ : R Bool) = _)
    | exact (rfl : (_ : R (List D)) = _)
    | exact (rfl : (_ : Option _) = _)
    | exact (rfl : (_ : Nat) = _)
    | exact Nat.le_of_ble_eq_true rfl
    | exact Nat.lt_of_lt_of_le (Nat.lt_succ_self _) (Nat.le_of_ble_eq_true rfl))
def GA_1 : S → R Out := (dSet 1 (dCall 3 F_law_bits [] (dCons (dV 0) (dCons (dC (.int 5)) (dCons (dBin hPow (dC (.int 10)) (dC (.int 28))) dNil)))))
def GA_2 : S → R Out := (dSet 2 (dCB hTupOf (dCons (dCall 3 F_law_pick [] (dCons (dV 0) (dCons (dV 1) (dCons (dCB hLen (dCons (dV 1) dNil)) dNil)))) dNil)))
def GA_3 : S → R Out := (dUnpack (.tp [9, 10]) (dTup (dCons (dMkOb 5 F_Turns_init (dV 1)) (dCons (dMkOb 5 F_Turns_init (dV 2)) dNil))))
def GA_4 : S → R Out := (dSet 3 (dClose (dUnF hSortSetB (dBin hAdd (dBin hAdd (dTup (dCons (dC (.int 0)) dNil)) (dProp 5 F_Turns_ends (dV 9))) (dProp 5 F_Turns_ends (dV 10))))))
def GA_5 : S → R Out := (dSet 4 (dClose (dComp (.nm 8) [8] (dSeqI (dV 3)) dYes (dBin hSub (dCall 2 F_ahead [] (dCons (dV 9) (dCons (dV 8) dNil))) (dCall 2 F_ahead [] (dCons (dV 10) (dCons (dV 8) dNil)))))))
def GA_6 : S → R Out := (dSet 5 (dClose (dLst (dCons (dCall 2 F_is_above [] (dCons (dV 9) (dCons (dV 10) dNil))) (dCons (dCall 2 F_is_above [] (dCons (dV 10) (dCons (dV 9) dNil))) dNil)))))
def GA_7 : S → R Out := (dSet 6 (dClose (dLst (dCons (dOfB (dBinB hEq (dClose (dComp (.nm 14) [14] (dSeqI (dV 4)) (dBinB hLt (dV 14) (dC (.int 0))) (dV 14))) (dClose (dLst dNil)))) (dCons (dOfB (dBinB hEq (dClose (dComp (.nm 14) [14] (dSeqI (dV 4)) (dBinB hGt (dV 14) (dC (.int 0))) (dV 14))) (dClose (dLst dNil)))) dNil)))))
def GA_8 : S → R Out := (dSet 7 (dC (.int 0)))
def GA_9b_1 : S → R Out := (dPar3 11 12 13 (dCons (dCall 2 F_ahead [] (dCons (dV 9) (dCons (dBin hIx (dV 3) (dV 8)) dNil))) (dCons (dCall 2 F_ahead [] (dCons (dV 9) (dCons (dBin hIx (dV 3) (dBin hAdd (dV 8) (dC (.int 1)))) dNil))) (dCons (dBin hSub (dBin hIx (dV 3) (dBin hAdd (dV 8) (dC (.int 1)))) (dBin hIx (dV 3) (dV 8))) dNil))))
def GA_9b_2 : S → R Out := (dSet 7 (dBin hSub (dBin hAdd (dBin hAdd (dV 7) (dBin hMulG (dV 13) (dBin hAdd (dV 11) (dV 12)))) (dV 12)) (dV 11)))
def GA_9b : S → R Out := (dSeq GA_9b_1 GA_9b_2)
def GA_9 : S → R Out := dFor (.nm 8) (dCBF hRange1 (dCons (dBin hSub (dCB hLen (dCons (dV 3) dNil)) (dC (.int 1))) dNil)) GA_9b
def GA_10 : S → R Out := (dRet (dCall 2 (F_law_same 8) [] (dCons (dBin hAdd (dV 5) (dClose (dLst (dCons (dBin hMulG (dC (.int 2)) (dCall 1 F_height [] (dCons (dV 9) dNil))) dNil)))) (dCons (dBin hAdd (dV 6) (dClose (dLst (dCons (dV 7) dNil)))) dNil))))
theorem GA_is : B_law_great_right = (dSeq GA_1 (dSeq GA_2 (dSeq GA_3 (dSeq GA_4 (dSeq GA_5 (dSeq GA_6 (dSeq GA_7 (dSeq GA_8 (dSeq GA_9 GA_10))))))))) := rfl
section
variable {b : Bx} {X : Sl} {rs ts bs us : List Pr}
/-! lists of numbers held against the empty one -/
theorem toPs_ints : ∀ xs : List Int, toPs (xs.map D.int) = some (xs.map PyData.int)
  | [] => rfl
  | x :: xs => by show (some (PyData.int x)).bind _ = _; rw [show (toPs (List.map D.int xs)) = _ from toPs_ints xs]; rfl
theorem canAll_ints : ∀ xs : List Int, PyData.canLayAll0 (xs.map PyData.int) = true
  | [] => by simp [PyData.canLayAll0]
  | x :: xs => by simp [PyData.canLayAll0, PyData.canLay0]; simpa using canAll_ints xs
theorem depth_ints : ∀ xs : List Int, PyData.depthAll (xs.map PyData.int) = 0
  | [] => by simp [PyData.depthAll]
  | x :: xs => by simp [PyData.depthAll, PyData.depth]; simpa using depth_ints xs
theorem eq_nil (xs : List Int) {st : S} : hEq (.ls (xs.map D.int)) (.ls []) st = .ok (decide (xs = [])) st := by
  have e : deq (.ls (xs.map D.int)) (.ls []) = some (decide (xs = [])) := by
    unfold deq
    have t : toP (.ls (xs.map D.int)) = some (.list (xs.map PyData.int)) := by
      show (toPs (xs.map D.int)).map _ = _
      rw [toPs_ints]; rfl
    have sh : SeqAt.shaped (.list (xs.map PyData.int)) = true := by
      unfold SeqAt.shaped
      rw [PyData.canLay0, canAll_ints, PyData.depth, depth_ints]
      rfl
    have h0 : SeqAt.shaped (.list []) = true := shaped_row []
    have t0 : toP (.ls []) = some (.list []) := rfl
    rw [t, t0]
    dsimp only
    rw [sh, h0]
    cases xs with
    | nil => simp [PyData.eqv, PyData.eqvAll]
    | cons x xs =>
      rw [PyData.eqv, List.map_cons, PyData.eqvAll]
      all_goals simp
  unfold hEq
  rw [e]
theorem ixInt {xs : List Int} {k : Nat} {v : Int} {st : S} (h : xs[k]? = some v) : hIx (.ls (xs.map D.int)) (.int (k : Nat)) st = .ok (.int v) st := by
  have q : (xs.map D.int)[k]? = some (.int v) := by rw [List.getElem?_map, h]; rfl
  simp [hIx, ixD, atI_nat q]
theorem lenInts (xs : List Int) {st : S} : hLen [.ls (xs.map D.int)] st = .ok (.int (xs.length : Nat)) st := by
  show R.ok (D.int ((xs.map D.int).length : Nat)) _ = _
  rw [List.length_map]
theorem whole_perm' {xs ys : List Pr} (h : xs.Perm ys) : whole xs = whole ys := whole_perm h
theorem ahead_rg (hp : Pos1 rs) (k : Int) : 0 ≤ aheadP k rs ∧ aheadP k rs ≤ whole rs := by
  rw [ahead_cn]
  have := flat_length hp
  have : cn (flatP rs) k.toNat ≤ (flatP rs).length := by
    unfold cn
    exact Nat.le_trans (List.count_le_length) (List.length_take_le' _ _)
  omega
theorem corn_rg (ar : Alt rs) (p1 : Pos1 rs) (at' : Alt ts) (p2 : Pos1 ts) (e : whole rs = whole ts) : ∀ k ∈ cornL rs ts, 0 ≤ k ∧ k ≤ whole rs := fun k hk => by
  have f1 := flat_length p1
  have f2 := flat_length p2
  rcases (corn_iff k).mp hk with rfl | h | h
  · exact ⟨by omega, whole_pos p1⟩
  · obtain ⟨n, rfl, _, l2, _⟩ := (ends_iff ar p1 _).mp h; omega
  · obtain ⟨n, rfl, _, l2, _⟩ := (ends_iff at' p2 _).mp h; omega
abbrev GT (bs ts : List Pr) (x3 x4 x5 x6 x7 x8 x11 x12 x13 : Sl) (b : Bx) : S := ⟨[.val .box, .val (.tu (bs.map pr)), .val (.tu (ts.map pr)), x3, x4, x5, x6, x7, x8, .val (tD (joinP bs)), .val (tD (joinP ts)), x11, x12, x13, .un], b⟩
/-- the segments, one after another -/
theorem tot_loop {S : List Int} {x4 x5 x6 : Sl} (p1 : Pos1 (joinP bs)) (l : (joinP bs).length < 1000) (w : whole (joinP bs) ≤ 1000000000000000000000000000000) (hS : ∀ k ∈ S, 0 ≤ k ∧ k ≤ whole (joinP bs)) : ∀ (r : List Int) (a : Int) (j : Nat) (t : Int) (x8 x11 x12 x13 : Sl), S.drop j = a :: r →
    ∃ y8 y11 y12 y13, forD (.nm 8) GA_9b ((List.range r.length).map fun i => D.int ((j : Int) + (i : Nat))) (GT bs ts (.val (.ls (S.map D.int))) x4 x5 x6 (.val (.int t)) x8 x11 x12 x13 b) = .ok .nx (GT bs ts (.val (.ls (S.map D.int))) x4 x5 x6 (.val (.int (t + segS (fun k => aheadP k (joinP bs)) (a :: r)))) y8 y11 y12 y13 b)
  | [], a, j, t, x8, x11, x12, x13, e => ⟨x8, x11, x12, x13, by
    have : t + segS (fun k => aheadP k (joinP bs)) [a] = t := by simp [segS]
    rw [this]; rfl⟩
  | c :: r, a, j, t, x8, x11, x12, x13, e => by
    have e0 : S[j]? = some a := by rw [← List.head?_drop, e]; rfl
    have e1 : S.drop (j + 1) = c :: r := by rw [← List.tail_drop, e]; rfl
    have e2 : S[j + 1]? = some c := by rw [← List.head?_drop, e1]; rfl
    have ra := hS a (List.mem_of_getElem? e0)
    have rc := hS c (List.mem_of_getElem? e2)
    have ga := ahead_rg p1 a
    have gc := ahead_rg p1 c
    obtain ⟨y8, y11, y12, y13, ih⟩ := tot_loop (x4 := x4) (x5 := x5) (x6 := x6) p1 l w hS r c (j + 1) (t + (c - a) * (aheadP a (joinP bs) + aheadP c (joinP bs)) + aheadP c (joinP bs) - aheadP a (joinP bs)) (.val (.int (j : Nat))) (.val (.int (aheadP a (joinP bs)))) (.val (.int (aheadP c (joinP bs)))) (.val (.int (c - a))) e1
    refine ⟨y8, y11, y12, y13, ?_⟩
    have ig : ∀ {i : Int}, -2000000000000000000000000000001 ≤ i → i ≤ 2000000000000000000000000000001 → inG i := fun h1 h2 => ⟨by omega, by omega⟩
    have a1 := ahead_ok (b := b) (n := a) p1 l
    have a2 := ahead_ok (b := b) (n := c) p1 l
    generalize hst : GT bs ts (.val (.ls (S.map D.int))) x4 x5 x6 (.val (.int t)) (.val (.int (j : Nat))) x11 x12 x13 b = st
    have v3 : dV 3 st = .ok (.ls (S.map D.int)) st := dV_ok (by rw [← hst]; rfl)
    have v8 : dV 8 st = .ok (.int (j : Nat)) st := dV_ok (by rw [← hst]; rfl)
    have v9 : dV 9 st = .ok (tD (joinP bs)) st := dV_ok (by rw [← hst]; rfl)
    have i1 : dBin hIx (dV 3) (dV 8) st = .ok (.int a) st := dBin_ok v3 v8 (ixInt e0)
    have i2 : dBin hIx (dV 3) (dBin hAdd (dV 8) (dC (.int 1))) st = .ok (.int c) st := dBin_ok v3 (dBin_ok v8 dC_ok rfl) (ixInt (k := j + 1) e2)
    have i3 : dBin hSub (dBin hIx (dV 3) (dBin hAdd (dV 8) (dC (.int 1)))) (dBin hIx (dV 3) (dV 8)) st = .ok (.int (c - a)) st := dBin_ok i2 i1 rfl
    have bx : st.bx = b := by rw [← hst]
    have c1 : dCall 2 F_ahead [] (dCons (dV 9) (dCons (dBin hIx (dV 3) (dV 8)) dNil)) st = .ok (.int (aheadP a (joinP bs))) st := by
      obtain ⟨env, b'⟩ := st
      have bx2 : b' = b := bx
      subst bx2
      exact e_call (dCons_ok v9 (dCons_ok i1 dNil_ok)) rfl a1
    have c2 : dCall 2 F_ahead [] (dCons (dV 9) (dCons (dBin hIx (dV 3) (dBin hAdd (dV 8) (dC (.int 1)))) dNil)) st = .ok (.int (aheadP c (joinP bs))) st := by
      obtain ⟨env, b'⟩ := st
      have bx2 : b' = b := bx
      subst bx2
      exact e_call (dCons_ok v9 (dCons_ok i2 dNil_ok)) rfl a2
    have al := dCons_ok c1 (dCons_ok c2 (dCons_ok i3 dNil_ok))
    rw [← hst] at al
    have t1 : GA_9b_1 (GT bs ts (.val (.ls (S.map D.int))) x4 x5 x6 (.val (.int t)) (.val (.int (j : Nat))) x11 x12 x13 b) = .ok .nx (GT bs ts (.val (.ls (S.map D.int))) x4 x5 x6 (.val (.int t)) (.val (.int (j : Nat))) (.val (.int (aheadP a (joinP bs)))) (.val (.int (aheadP c (joinP bs)))) (.val (.int (c - a))) b) := s_par30 al
    have t2 : GA_9b_2 (GT bs ts (.val (.ls (S.map D.int))) x4 x5 x6 (.val (.int t)) (.val (.int (j : Nat))) (.val (.int (aheadP a (joinP bs)))) (.val (.int (aheadP c (joinP bs)))) (.val (.int (c - a))) b) = .ok .nx (GT bs ts (.val (.ls (S.map D.int))) x4 x5 x6 (.val (.int (t + (c - a) * (aheadP a (joinP bs) + aheadP c (joinP bs)) + aheadP c (joinP bs) - aheadP a (joinP bs)))) (.val (.int (j : Nat))) (.val (.int (aheadP a (joinP bs)))) (.val (.int (aheadP c (joinP bs)))) (.val (.int (c - a))) b) := by
      clear ih
      generalize aheadP a (joinP bs) = fa at ga
      generalize aheadP c (joinP bs) = fc at gc
      have m1 : dBin hMulG (dV 13) (dBin hAdd (dV 11) (dV 12)) (GT bs ts (.val (.ls (S.map D.int))) x4 x5 x6 (.val (.int t)) (.val (.int (j : Nat))) (.val (.int fa)) (.val (.int fc)) (.val (.int (c - a))) b) = .ok (.int ((c - a) * (fa + fc))) (GT bs ts (.val (.ls (S.map D.int))) x4 x5 x6 (.val (.int t)) (.val (.int (j : Nat))) (.val (.int fa)) (.val (.int fc)) (.val (.int (c - a))) b) := dBin_ok (dV_ok rfl) (dBin_ok (y := .int fc) (dV_ok rfl) (dV_ok rfl) rfl) (mulG_ok (ig (by omega) (by omega)) (ig (by omega) (by omega)))
      generalize (c - a) * (fa + fc) = q at m1
      have m2 : dBin hAdd (dV 7) (dBin hMulG (dV 13) (dBin hAdd (dV 11) (dV 12))) (GT bs ts (.val (.ls (S.map D.int))) x4 x5 x6 (.val (.int t)) (.val (.int (j : Nat))) (.val (.int fa)) (.val (.int fc)) (.val (.int (c - a))) b) = .ok (.int (t + q)) (GT bs ts (.val (.ls (S.map D.int))) x4 x5 x6 (.val (.int t)) (.val (.int (j : Nat))) (.val (.int fa)) (.val (.int fc)) (.val (.int (c - a))) b) := dBin_ok (dV_ok rfl) m1 rfl
      have m3 : dBin hAdd (dBin hAdd (dV 7) (dBin hMulG (dV 13) (dBin hAdd (dV 11) (dV 12)))) (dV 12) (GT bs ts (.val (.ls (S.map D.int))) x4 x5 x6 (.val (.int t)) (.val (.int (j : Nat))) (.val (.int fa)) (.val (.int fc)) (.val (.int (c - a))) b) = .ok (.int (t + q + fc)) (GT bs ts (.val (.ls (S.map D.int))) x4 x5 x6 (.val (.int t)) (.val (.int (j : Nat))) (.val (.int fa)) (.val (.int fc)) (.val (.int (c - a))) b) := dBin_ok m2 (dV_ok rfl) rfl
      have m4 : dBin hSub (dBin hAdd (dBin hAdd (dV 7) (dBin hMulG (dV 13) (dBin hAdd (dV 11) (dV 12)))) (dV 12)) (dV 11) (GT bs ts (.val (.ls (S.map D.int))) x4 x5 x6 (.val (.int t)) (.val (.int (j : Nat))) (.val (.int fa)) (.val (.int fc)) (.val (.int (c - a))) b) = .ok (.int (t + q + fc - fa)) (GT bs ts (.val (.ls (S.map D.int))) x4 x5 x6 (.val (.int t)) (.val (.int (j : Nat))) (.val (.int fa)) (.val (.int fc)) (.val (.int (c - a))) b) := dBin_ok m3 (dV_ok rfl) rfl
      exact dSet_ok m4
    have tn : GA_9b (GT bs ts (.val (.ls (S.map D.int))) x4 x5 x6 (.val (.int t)) (.val (.int (j : Nat))) x11 x12 x13 b) = .ok .nx (GT bs ts (.val (.ls (S.map D.int))) x4 x5 x6 (.val (.int (t + (c - a) * (aheadP a (joinP bs) + aheadP c (joinP bs)) + aheadP c (joinP bs) - aheadP a (joinP bs)))) (.val (.int (j : Nat))) (.val (.int (aheadP a (joinP bs)))) (.val (.int (aheadP c (joinP bs)))) (.val (.int (c - a))) b) := by
      unfold GA_9b
      rw [seq_nx t1]; exact t2
    rw [List.length_cons, List.range_succ_eq_map, List.map_cons, List.map_map]
    have z0 : (D.int ((j : Int) + (0 : Nat))) = D.int (j : Nat) := by simp
    rw [z0]
    refine (forD_nx (st1 := GT bs ts (.val (.ls (S.map D.int))) x4 x5 x6 (.val (.int t)) (.val (.int (j : Nat))) x11 x12 x13 b) rfl tn).trans ?_
    have ee : ((fun i : Nat => D.int ((j : Int) + (i : Nat))) ∘ Nat.succ) = fun i : Nat => D.int (((j + 1 : Nat) : Int) + (i : Nat)) := by
      funext i
      show D.int _ = D.int _
      congr 1
      show (j : Int) + ((i + 1 : Nat) : Int) = _
      omega
    rw [ee, ih]
    have es : t + (c - a) * (aheadP a (joinP bs) + aheadP c (joinP bs)) + aheadP c (joinP bs) - aheadP a (joinP bs) + segS (fun k => aheadP k (joinP bs)) (c :: r) = t + segS (fun k => aheadP k (joinP bs)) (a :: c :: r) := by
      rw [segS]; omega
    rw [es]
end
end LW

namespace LW
open PySem PySem.Spec PyProof.Rows L2 DL
local macro_rules
  | `(tactic| decreasing_trivial_pre_omega) => `(tactic| first
    | with_reducible assumption
    | with_reducible exact dC_ok
    | with_reducible exact dNil_ok
    | with_reducible exact dNoP_ok
    | with_reducible exact s_next
    | ((with_reducible apply dV_ok); exact rfl)
    | with_reducible apply dCons_ok
    | with_reducible apply dBin_ok
    | with_reducible apply dBinB_ok
    | with_reducible apply e_call
    | with_reducible apply dCB_ok
    | with_reducible apply dCBF_ok
    | with_reducible apply dClose_ok
    | with_reducible apply dTup_ok
    | with_reducible apply dLst_ok
    | with_reducible apply dUn_ok
    | with_reducible apply dPart_ok
    | with_reducible apply dSlice_ok
    | with_reducible apply dSeqI_ok
    | with_reducible apply dOfB_ok
    | with_reducible apply dTru_bl
    | with_reducible apply dRet_ok
    | with_reducible apply e_prop
    | ((with_reducible apply e_lend); focus (exact rfl))
    | ((with_reducible apply t_lend); focus (exact rfl))
    | ((with_reducible apply sq); focus ((repeat' decreasing_trivial_pre_omega); done); focus (try dsimp only [List.set_cons_zero, List.set_cons_succ]); focus (exact rfl))
    | with_reducible apply s_set
    | with_reducible apply s_own
    | ((with_reducible apply s_app); focus (exact rfl))
    | with_reducible apply s_setIx
    | with_reducible apply s_par
    | with_reducible apply s_par3
    | with_reducible apply s_unp
    | ((with_reducible apply s_if_t); focus ((repeat' decreasing_trivial_pre_omega); done))
    | ((with_reducible apply s_if_f); focus ((repeat' decreasing_trivial_pre_omega); done))
    | (with_reducible apply o_not_t)
    | (with_reducible apply o_not_f)
    | ((with_reducible apply dAnd_t); focus ((repeat' decreasing_trivial_pre_omega); done))
    | ((with_reducible apply dAnd_f); ((repeat' decreasing_trivial_pre_omega); done))
    | ((with_reducible apply dOr_t); ((repeat' decreasing_trivial_pre_omega); done))
    | ((with_reducible apply dOr_f); focus ((repeat' decreasing_trivial_pre_omega); done))
    | ((with_reducible apply o_chain_t) <;> ((repeat' decreasing_trivial_pre_omega); done))
    | ((with_reducible apply o_chain_f) <;> ((repeat' decreasing_trivial_pre_omega); done))
    | ((with_reducible apply o_ltt); omega)
    | ((with_reducible apply o_ltf); omega)
    | ((with_reducible apply o_let); omega)
    | ((with_reducible apply o_lef); omega)
    | ((with_reducible apply o_gtt); omega)
    | ((with_reducible apply o_gtf); omega)
    | ((with_reducible apply o_get); omega)
    | ((with_reducible apply o_gef); omega)
    | ((with_reducible apply e_mulr); omega)
    | ((with_reducible apply e_mull); omega)
    | ((with_reducible apply e_div); omega)
    | ((with_reducible apply e_mod); omega)
    | ((with_reducible apply e_add_ls); first | exact Nat.le_of_ble_eq_true rfl | (simp; done) | (simp; omega))
    | ((with_reducible apply e_add_tu); first | exact Nat.le_of_ble_eq_true rfl | (simp; done) | (simp; omega))
    | exact (rfl : (_ : S) = _)
    | exact (rfl : (_ : R D) = _)
    | exact (rfl : (_ : R Bool) = _)
    | exact (rfl : (_ : R (List D)) = _)
    | exact (rfl : (_ : Option _) = _)
    | exact (rfl : (_ : Nat) = _)
    | exact Nat.le_of_ble_eq_true rfl
    | exact Nat.lt_of_lt_of_le (Nat.lt_succ_self _) (Nat.le_of_ble_eq_true rfl))
section
variable {b : Bx} {X : Sl} {rs ts bs us : List Pr}
theorem neg_nil (S : List Int) (f : Int → Int) : (decide (((S.map f).filter fun x => decide (x < 0)) = [])) = decide (∀ k ∈ S, 0 ≤ f k) := by
  rw [decide_eq_decide]
  rw [List.filter_eq_nil_iff]
  simp
theorem pos_nil (S : List Int) (f : Int → Int) : (decide (((S.map f).filter fun x => decide (0 < x)) = [])) = decide (∀ k ∈ S, f k ≤ 0) := by
  rw [decide_eq_decide]
  rw [List.filter_eq_nil_iff]
  simp
theorem selI {xs : List Int} {q : Int → Bool} {t : S → R Bool} {σ : List Sl} (l : xs.length ≤ 1000) (h14 : σ.length = 15) (h4 : σ[4]? = some (.val (.ls (xs.map D.int))))
    (ht : ∀ x ∈ xs, ∀ env : List Sl, env[14]? = some (.val (.int x)) → t ⟨env, b⟩ = .ok (q x) ⟨env, b⟩) : dComp (.nm 14) [14] (dSeqI (dV 4)) t (dV 14) ⟨σ, b⟩ = .ok ((xs.filter q).map D.int) ⟨σ, b⟩ := by
  refine dComp_ok (dSeqI_ok (dV_ok h4) rfl) ?_
  refine (compD_sel (f := D.int) (q := q) (v := D.int) (fun x hx => ⟨(wipeS (S.hide ⟨σ, b⟩).env [14]).set 14 (.val (.int x)), ?_⟩) (by simp; omega)).trans (by simp)
  have hl : 14 < (wipeS (S.hide ⟨σ, b⟩).env [14]).length := by rw [wipeS_length]; show 14 < (σ.map Sl.hide).length; rw [List.length_map]; omega
  have hv : ((wipeS (S.hide ⟨σ, b⟩).env [14]).set 14 (.val (.int x)))[14]? = some (.val (.int x)) := List.getElem?_set_self hl
  unfold turnD
  show (R.bind (R.ok () ⟨(wipeS (S.hide ⟨σ, b⟩).env [14]).set 14 (.val (.int x)), b⟩) _) = _
  rw [bind_ok, ht x hx _ hv, bind_ok]
  cases q x with
  | true => rw [if_pos rfl, if_pos rfl, dV_ok (st := ⟨(wipeS (S.hide ⟨σ, b⟩).env [14]).set 14 (.val (.int x)), b⟩) hv]; rfl
  | false => rfl
theorem great_ok {m : Nat} (g : Gd (m + 30) b) : ∃ b', F_law_great_right [.box] b = .ok (.bl true) b' ∧ Gd m b' := by
  obtain ⟨bs, b1, e1, g1, p1, l1, w1, _⟩ := bits_ok (b := b) (m := m + 8) (M := 5) (h := 10000000000000000000000000000) (by omega) (.inr rfl) (g.less (by omega))
  obtain ⟨ts, b2, e2, pm, g2⟩ := pickP_spec (goods := bs) (m := m) (b := b1) (by omega) (g1.less (by omega))
  refine ⟨b2, ?_, g2⟩
  have tl : ts.length = bs.length := pm.length_eq
  have p2 : Pos1 ts := pos_perm pm p1
  have q1 := joinP_pos p1
  have q2 := joinP_pos p2
  have ar := joinP_alt bs
  have at' := joinP_alt ts
  have ww : whole (joinP bs) = whole (joinP ts) := by rw [whole_join p1, whole_join p2, whole_perm pm]
  have wb : whole (joinP bs) ≤ 1000000000000000000000000000000 := by rw [whole_join p1]; omega
  have jl1 := joinP_length bs
  have jl2 := joinP_length ts
  have fl1 := flat_length q1
  have fl2 := flat_length q2
  have lp : ∀ {st : S}, hLen [.tu (bs.map pr)] st = .ok (.int (bs.length : Nat)) st := fun {st} => by
    show R.ok (D.int ((bs.map pr).length : Nat)) _ = _
    rw [List.length_map]
  have o1 : GA_1 ⟨[.box].map Sl.val ++ List.replicate (15 - 1) Sl.un, b⟩ = .ok .nx ⟨[.val .box, .val (.tu (bs.map pr)), .un, .un, .un, .un, .un, .un, .un, .un, .un, .un, .un, .un, .un], b1⟩ := by
    have pw : dBin hPow (dC (.int 10)) (dC (.int 28)) ⟨[.val .box, .un, .un, .un, .un, .un, .un, .un, .un, .un, .un, .un, .un, .un, .un], b⟩ = .ok (.int 10000000000000000000000000000) ⟨[.val .box, .un, .un, .un, .un, .un, .un, .un, .un, .un, .un, .un, .un, .un, .un], b⟩ := rfl
    exact dSet_ok (e_call (σ := [.val .box, .un, .un, .un, .un, .un, .un, .un, .un, .un, .un, .un, .un, .un, .un]) (dCons_ok (dV_ok rfl) (dCons_ok dC_ok (dCons_ok pw dNil_ok))) rfl e1)
  have o2 : GA_2 ⟨[.val .box, .val (.tu (bs.map pr)), .un, .un, .un, .un, .un, .un, .un, .un, .un, .un, .un, .un, .un], b1⟩ = .ok .nx ⟨[.val .box, .val (.tu (bs.map pr)), .val (.tu (ts.map pr)), .un, .un, .un, .un, .un, .un, .un, .un, .un, .un, .un, .un], b2⟩ := by
    have c : dCall 3 F_law_pick [] (dCons (dV 0) (dCons (dV 1) (dCons (dCB hLen (dCons (dV 1) dNil)) dNil))) ⟨[.val .box, .val (.tu (bs.map pr)), .un, .un, .un, .un, .un, .un, .un, .un, .un, .un, .un, .un, .un], b1⟩ = .ok (.ls (ts.map pr)) ⟨[.val .box, .val (.tu (bs.map pr)), .un, .un, .un, .un, .un, .un, .un, .un, .un, .un, .un, .un, .un], b2⟩ :=
      e_call (dCons_ok (dV_ok rfl) (dCons_ok (dV_ok rfl) (dCons_ok (dCB_ok (dCons_ok (dV_ok rfl) dNil_ok) lp) dNil_ok))) rfl e2
    have w : dCB hTupOf (dCons (dCall 3 F_law_pick [] (dCons (dV 0) (dCons (dV 1) (dCons (dCB hLen (dCons (dV 1) dNil)) dNil)))) dNil) ⟨[.val .box, .val (.tu (bs.map pr)), .un, .un, .un, .un, .un, .un, .un, .un, .un, .un, .un, .un, .un], b1⟩ = .ok (.tu (ts.map pr)) ⟨[.val .box, .val (.tu (bs.map pr)), .un, .un, .un, .un, .un, .un, .un, .un, .un, .un, .un, .un, .un], b2⟩ := dCB_ok (dCons_ok c dNil_ok) rfl
    exact dSet_ok w
  have o3 : GA_3 ⟨[.val .box, .val (.tu (bs.map pr)), .val (.tu (ts.map pr)), .un, .un, .un, .un, .un, .un, .un, .un, .un, .un, .un, .un], b2⟩ = .ok .nx (GT bs ts .un .un .un .un .un .un .un .un .un b2) := by
    have m1 := mk_ok (f := dV 1) (st := ⟨[.val .box, .val (.tu (bs.map pr)), .val (.tu (ts.map pr)), .un, .un, .un, .un, .un, .un, .un, .un, .un, .un, .un, .un], b2⟩) (dV_ok rfl) (.inl rfl) p1 (by omega)
    have m2 := mk_ok (f := dV 2) (st := ⟨[.val .box, .val (.tu (bs.map pr)), .val (.tu (ts.map pr)), .un, .un, .un, .un, .un, .un, .un, .un, .un, .un, .un, .un], b2⟩) (dV_ok rfl) (.inl rfl) p2 (by omega)
    exact s_unp0 (dTup_ok (dCons_ok m1 (dCons_ok m2 dNil_ok)) (Nat.le_of_ble_eq_true rfl)) rfl
  have el1 := ends_length (joinP bs) 0
  have el2 := ends_length (joinP ts) 0
  have cll : (cornL (joinP bs) (joinP ts)).length ≤ 60 := by
    have := sortU_len (0 :: endsP 0 (joinP bs) ++ endsP 0 (joinP ts))
    unfold cornL
    simp at this ⊢
    omega
  have o4 : GA_4 (GT bs ts .un .un .un .un .un .un .un .un .un b2) = .ok .nx (GT bs ts (.val (.ls ((cornL (joinP bs) (joinP ts)).map D.int))) .un .un .un .un .un .un .un .un b2) := by
    have r1 := endsAt_ok (i := 9) (rs := joinP bs) (st := GT bs ts .un .un .un .un .un .un .un .un .un b2) rfl (by omega)
    have r2 := endsAt_ok (i := 10) (rs := joinP ts) (st := GT bs ts .un .un .un .un .un .un .un .un .un b2) rfl (by omega)
    have t0 : dTup (dCons (dC (.int 0)) dNil) (GT bs ts .un .un .un .un .un .un .un .un .un b2) = .ok (.tu ([0].map D.int)) (GT bs ts .un .un .un .un .un .un .un .un .un b2) := dTup_ok (dCons_ok dC_ok dNil_ok) (Nat.le_of_ble_eq_true rfl)
    have a1 := dBin_ok t0 r1 (e_add_tu (xs := [0].map D.int) (ys := (endsP 0 (joinP bs)).map D.int) (st := GT bs ts .un .un .un .un .un .un .un .un .un b2) (by simp; omega))
    have a2 := dBin_ok a1 r2 (e_add_tu (xs := [0].map D.int ++ (endsP 0 (joinP bs)).map D.int) (ys := (endsP 0 (joinP ts)).map D.int) (st := GT bs ts .un .un .un .un .un .un .un .un .un b2) (by simp; omega))
    have ee : [0].map D.int ++ (endsP 0 (joinP bs)).map D.int ++ (endsP 0 (joinP ts)).map D.int = (0 :: endsP 0 (joinP bs) ++ endsP 0 (joinP ts)).map D.int := by simp
    rw [ee] at a2
    have u : dUnF hSortSetB (dBin hAdd (dBin hAdd (dTup (dCons (dC (.int 0)) dNil)) (dProp 5 F_Turns_ends (dV 9))) (dProp 5 F_Turns_ends (dV 10))) (GT bs ts .un .un .un .un .un .un .un .un .un b2) = .ok ((cornL (joinP bs) (joinP ts)).map D.int) (GT bs ts .un .un .un .un .un .un .un .un .un b2) := by
      unfold dUnF
      rw [a2, bind_ok]
      exact sort_ok (by simp; omega)
    exact dSet_ok (dClose_ok u)
  have rg := corn_rg ar q1 at' q2 ww
  have sg := corn_seg ar q1 at' q2 (by omega)
  have hg := hgt_sum q1
  have ab1 : overP (joinP bs) (joinP ts) = decide (∀ k ∈ cornL (joinP bs) (joinP ts), 0 ≤ aheadP k (joinP bs) - aheadP k (joinP ts)) := by
    unfold overP; rw [decide_eq_decide]
    exact ⟨fun h k hk => by have := h k hk; omega, fun h k hk => by have := h k hk; omega⟩
  have ab2 : overP (joinP ts) (joinP bs) = decide (∀ k ∈ cornL (joinP bs) (joinP ts), aheadP k (joinP bs) - aheadP k (joinP ts) ≤ 0) := by
    unfold overP; rw [decide_eq_decide]
    have cc : ∀ k, k ∈ cornL (joinP ts) (joinP bs) ↔ k ∈ cornL (joinP bs) (joinP ts) := fun k => by rw [corn_iff, corn_iff]; grind
    exact ⟨fun h k hk => by have := h k ((cc k).mpr hk); omega, fun h k hk => by have := h k ((cc k).mp hk); omega⟩
  have k1 := above_ok (b := b2) q1 q2 (by omega) ww
  have k2 := above_ok (b := b2) q2 q1 (by omega) ww.symm
  rw [ab1] at k1; rw [ab2] at k2
  have hh := height_ok (b := b2) q1 (by omega) (by omega)
  have cne : ∃ a r, cornL (joinP bs) (joinP ts) = a :: r := by
    cases z : cornL (joinP bs) (joinP ts) with
    | nil => have := (corn_iff (rs := joinP bs) (ts := joinP ts) 0).mpr (.inl rfl); rw [z] at this; simp at this
    | cons a r => exact ⟨a, r, rfl⟩
  generalize hS : cornL (joinP bs) (joinP ts) = S at *
  obtain ⟨a, r, eS⟩ := cne
  have o5 : GA_5 (GT bs ts (.val (.ls (S.map D.int))) .un .un .un .un .un .un .un .un b2) = .ok .nx (GT bs ts (.val (.ls (S.map D.int))) (.val (.ls ((S.map fun k => aheadP k (joinP bs) - aheadP k (joinP ts)).map D.int))) .un .un .un .un .un .un .un b2) := by
    have c : dComp (.nm 8) [8] (dSeqI (dV 3)) dYes (dBin hSub (dCall 2 F_ahead [] (dCons (dV 9) (dCons (dV 8) dNil))) (dCall 2 F_ahead [] (dCons (dV 10) (dCons (dV 8) dNil)))) (GT bs ts (.val (.ls (S.map D.int))) .un .un .un .un .un .un .un .un b2) = .ok ((S.map fun k => aheadP k (joinP bs) - aheadP k (joinP ts)).map D.int) (GT bs ts (.val (.ls (S.map D.int))) .un .un .un .un .un .un .un .un b2) := by
      refine dComp_ok (dSeqI_ok (dV_ok rfl) rfl) ?_
      refine (compD_mapI (gs := (S.map fun k => aheadP k (joinP bs) - aheadP k (joinP ts)).map D.int) (by simp) (fun i d g hd hg => ?_) (by simp; omega)).trans (by simp)
      rw [List.getElem?_map] at hd
      rw [List.map_map, List.getElem?_map] at hg
      cases z : S[i]? with
      | none => rw [z] at hd; cases hd
      | some k =>
        rw [z] at hd hg
        cases hd; cases hg
        refine ⟨(GT bs ts (.val (.ls (S.map D.int))) .un .un .un .un (.val (.int k)) .un .un .un b2).env, ?_⟩
        have c1 : dCall 2 F_ahead [] (dCons (dV 9) (dCons (dV 8) dNil)) (GT bs ts (.val (.ls (S.map D.int))) .un .un .un .un (.val (.int k)) .un .un .un b2) = .ok (.int (aheadP k (joinP bs))) (GT bs ts (.val (.ls (S.map D.int))) .un .un .un .un (.val (.int k)) .un .un .un b2) := e_call (dCons_ok (dV_ok rfl) (dCons_ok (dV_ok rfl) dNil_ok)) rfl (ahead_ok q1 (by omega))
        have c2 : dCall 2 F_ahead [] (dCons (dV 10) (dCons (dV 8) dNil)) (GT bs ts (.val (.ls (S.map D.int))) .un .un .un .un (.val (.int k)) .un .un .un b2) = .ok (.int (aheadP k (joinP ts))) (GT bs ts (.val (.ls (S.map D.int))) .un .un .un .un (.val (.int k)) .un .un .un b2) := e_call (dCons_ok (dV_ok rfl) (dCons_ok (dV_ok rfl) dNil_ok)) rfl (ahead_ok q2 (by omega))
        have c3 : dBin hSub (dCall 2 F_ahead [] (dCons (dV 9) (dCons (dV 8) dNil))) (dCall 2 F_ahead [] (dCons (dV 10) (dCons (dV 8) dNil))) (GT bs ts (.val (.ls (S.map D.int))) .un .un .un .un (.val (.int k)) .un .un .un b2) = .ok (.int (aheadP k (joinP bs) - aheadP k (joinP ts))) (GT bs ts (.val (.ls (S.map D.int))) .un .un .un .un (.val (.int k)) .un .un .un b2) := dBin_ok c1 c2 rfl
        unfold turnD
        show (R.bind (R.ok () (GT bs ts (.val (.ls (S.map D.int))) .un .un .un .un (.val (.int k)) .un .un .un b2)) _) = _
        rw [bind_ok]
        show (R.bind (R.ok true _) _) = _
        rw [bind_ok, if_pos rfl, c3]
        rfl
    exact dSet_ok (dClose_ok c)
  have ll : ((S.map fun k => aheadP k (joinP bs) - aheadP k (joinP ts))).length ≤ 1000 := by rw [List.length_map]; omega
  have n1 := neg_nil S fun k => aheadP k (joinP bs) - aheadP k (joinP ts)
  have n2 := pos_nil S fun k => aheadP k (joinP bs) - aheadP k (joinP ts)
  generalize (S.map fun k => aheadP k (joinP bs) - aheadP k (joinP ts)) = gaps at o5 ll n1 n2
  rw [← n1] at k1
  rw [← n2] at k2
  generalize hu1 : decide ((gaps.filter fun x => decide (x < 0)) = []) = u1 at k1 n1
  generalize hu2 : decide ((gaps.filter fun x => decide (0 < x)) = []) = u2 at k2 n2
  generalize hx3 : Sl.val (.ls (S.map D.int)) = x3 at o4 o5
  have o6 : GA_6 (GT bs ts x3 (.val (.ls (gaps.map D.int))) .un .un .un .un .un .un .un b2) = .ok .nx (GT bs ts x3 (.val (.ls (gaps.map D.int))) (.val (.ls [.bl u1, .bl u2])) .un .un .un .un .un .un b2) := by
    have c1 : dCall 2 F_is_above [] (dCons (dV 9) (dCons (dV 10) dNil)) (GT bs ts x3 (.val (.ls (gaps.map D.int))) .un .un .un .un .un .un .un b2) = .ok (.bl u1) (GT bs ts x3 (.val (.ls (gaps.map D.int))) .un .un .un .un .un .un .un b2) := e_call (dCons_ok (dV_ok rfl) (dCons_ok (dV_ok rfl) dNil_ok)) rfl k1
    have c2 : dCall 2 F_is_above [] (dCons (dV 10) (dCons (dV 9) dNil)) (GT bs ts x3 (.val (.ls (gaps.map D.int))) .un .un .un .un .un .un .un b2) = .ok (.bl u2) (GT bs ts x3 (.val (.ls (gaps.map D.int))) .un .un .un .un .un .un .un b2) := e_call (dCons_ok (dV_ok rfl) (dCons_ok (dV_ok rfl) dNil_ok)) rfl k2
    exact dSet_ok (dClose_ok (dLst_ok (dCons_ok c1 (dCons_ok c2 dNil_ok)) (Nat.le_of_ble_eq_true rfl)))
  have o7 : GA_7 (GT bs ts x3 (.val (.ls (gaps.map D.int))) (.val (.ls [.bl u1, .bl u2])) .un .un .un .un .un .un b2) = .ok .nx (GT bs ts x3 (.val (.ls (gaps.map D.int))) (.val (.ls [.bl u1, .bl u2])) (.val (.ls [.bl u1, .bl u2])) .un .un .un .un .un b2) := by
    have s1 := selI (b := b2) (xs := gaps) (q := fun x => decide (x < 0)) (t := dBinB hLt (dV 14) (dC (.int 0))) (σ := (GT bs ts x3 (.val (.ls (gaps.map D.int))) (.val (.ls [.bl u1, .bl u2])) .un .un .un .un .un .un b2).env) ll rfl rfl fun x _ env he => dBinB_ok (dV_ok he) dC_ok rfl
    have s2 := selI (b := b2) (xs := gaps) (q := fun x => decide (0 < x)) (t := dBinB hGt (dV 14) (dC (.int 0))) (σ := (GT bs ts x3 (.val (.ls (gaps.map D.int))) (.val (.ls [.bl u1, .bl u2])) .un .un .un .un .un .un b2).env) ll rfl rfl fun x _ env he => dBinB_ok (dV_ok he) dC_ok rfl
    have z : ∀ {st : DL.S}, dClose (dLst dNil) st = .ok (.ls []) st := dClose_ok (dLst_ok dNil_ok (Nat.le_of_ble_eq_true rfl))
    have d1 := dOfB_ok (dBinB_ok (dClose_ok s1) z (eq_nil _))
    have d2 := dOfB_ok (dBinB_ok (dClose_ok s2) z (eq_nil _))
    rw [hu1] at d1
    rw [hu2] at d2
    exact dSet_ok (dClose_ok (dLst_ok (dCons_ok d1 (dCons_ok d2 dNil_ok)) (Nat.le_of_ble_eq_true rfl)))
  generalize hx4 : Sl.val (.ls (gaps.map D.int)) = x4 at o5 o6 o7
  subst hx3
  have o8 : GA_8 (GT bs ts (.val (.ls (S.map D.int))) x4 (.val (.ls [.bl u1, .bl u2])) (.val (.ls [.bl u1, .bl u2])) .un .un .un .un .un b2) = .ok .nx (GT bs ts (.val (.ls (S.map D.int))) x4 (.val (.ls [.bl u1, .bl u2])) (.val (.ls [.bl u1, .bl u2])) (.val (.int 0)) .un .un .un .un b2) := rfl
  obtain ⟨y8, y11, y12, y13, lp2⟩ := tot_loop (bs := bs) (ts := ts) (b := b2) (S := S) (x4 := x4) (x5 := .val (.ls [.bl u1, .bl u2])) (x6 := .val (.ls [.bl u1, .bl u2])) q1 (by omega) wb rg r a 0 0 .un .un .un .un (by rw [eS]; rfl)
  have o9 : GA_9 (GT bs ts (.val (.ls (S.map D.int))) x4 (.val (.ls [.bl u1, .bl u2])) (.val (.ls [.bl u1, .bl u2])) (.val (.int 0)) .un .un .un .un b2) = .ok .nx (GT bs ts (.val (.ls (S.map D.int))) x4 (.val (.ls [.bl u1, .bl u2])) (.val (.ls [.bl u1, .bl u2])) (.val (.int (2 * hgt (joinP bs)))) y8 y11 y12 y13 b2) := by
    have tt : 0 + segS (fun k => aheadP k (joinP bs)) (a :: r) = 2 * hgt (joinP bs) := by rw [hg, ← sg, ← eS, Int.zero_add]; rfl
    rw [tt] at lp2
    have ln : dBin hSub (dCB hLen (dCons (dV 3) dNil)) (dC (.int 1)) (GT bs ts (.val (.ls (S.map D.int))) x4 (.val (.ls [.bl u1, .bl u2])) (.val (.ls [.bl u1, .bl u2])) (.val (.int 0)) .un .un .un .un b2) = .ok (.int (r.length : Nat)) (GT bs ts (.val (.ls (S.map D.int))) x4 (.val (.ls [.bl u1, .bl u2])) (.val (.ls [.bl u1, .bl u2])) (.val (.int 0)) .un .un .un .un b2) := dBin_ok (dCB_ok (dCons_ok (dV_ok rfl) dNil_ok) (lenInts S)) dC_ok (by
      show R.ok (D.int ((S.length : Int) - 1)) _ = _
      rw [eS, List.length_cons, show (((r.length + 1 : Nat)) : Int) - 1 = (r.length : Nat) by omega])
    have rlen : r.length ≤ 60 := by rw [eS, List.length_cons] at cll; omega
    refine dFor_ok (dCBF_ok (dCons_ok ln dNil_ok) (hRange1_nat (by omega))) ?_
    unfold rangeD
    exact lp2
  obtain ⟨x3, hx3⟩ : ∃ x3, x3 = Sl.val (D.ls (S.map D.int)) := ⟨_, rfl⟩
  rw [← hx3] at o4 o5 o6 o7 o8 o9
  have o10 : GA_10 (GT bs ts x3 x4 (.val (.ls [.bl u1, .bl u2])) (.val (.ls [.bl u1, .bl u2])) (.val (.int (2 * hgt (joinP bs)))) y8 y11 y12 y13 b2) = .ok (.rt (.bl true)) (GT bs ts x3 x4 (.val (.ls [.bl u1, .bl u2])) (.val (.ls [.bl u1, .bl u2])) (.val (.int (2 * hgt (joinP bs)))) y8 y11 y12 y13 b2) := by
    have c1 : dCall 1 F_height [] (dCons (dV 9) dNil) (GT bs ts x3 x4 (.val (.ls [.bl u1, .bl u2])) (.val (.ls [.bl u1, .bl u2])) (.val (.int (2 * hgt (joinP bs)))) y8 y11 y12 y13 b2) = .ok (.int (hgt (joinP bs))) (GT bs ts x3 x4 (.val (.ls [.bl u1, .bl u2])) (.val (.ls [.bl u1, .bl u2])) (.val (.int (2 * hgt (joinP bs)))) y8 y11 y12 y13 b2) := e_call (dCons_ok (dV_ok rfl) dNil_ok) rfl hh
    have c2 := dBin_ok (dC_ok (d := .int 2)) c1 mulG_2
    have g1 := dBin_ok (fa := dV 5) (x := .ls [.bl u1, .bl u2]) (st := GT bs ts x3 x4 (.val (.ls [.bl u1, .bl u2])) (.val (.ls [.bl u1, .bl u2])) (.val (.int (2 * hgt (joinP bs)))) y8 y11 y12 y13 b2) (dV_ok rfl) (dClose_ok (dLst_ok (dCons_ok c2 dNil_ok) (Nat.le_of_ble_eq_true rfl))) (e_add_ls (xs := [.bl u1, .bl u2]) (ys := [.int (2 * hgt (joinP bs))]) (Nat.le_of_ble_eq_true rfl))
    have g2 := dBin_ok (fa := dV 6) (x := .ls [.bl u1, .bl u2]) (st := GT bs ts x3 x4 (.val (.ls [.bl u1, .bl u2])) (.val (.ls [.bl u1, .bl u2])) (.val (.int (2 * hgt (joinP bs)))) y8 y11 y12 y13 b2) (dV_ok rfl) (dClose_ok (dLst_ok (dCons_ok (f := dV 7) (x := .int (2 * hgt (joinP bs))) (dV_ok rfl) dNil_ok) (Nat.le_of_ble_eq_true rfl))) (e_add_ls (xs := [.bl u1, .bl u2]) (ys := [.int (2 * hgt (joinP bs))]) (Nat.le_of_ble_eq_true rfl))
    have pl : plainN 8 (.ls ([.bl u1, .bl u2] ++ [.int (2 * hgt (joinP bs))])) = true := rfl
    exact dRet_ok (e_call (dCons_ok g1 (dCons_ok g2 dNil_ok)) rfl (same_refl 8 _ b2 pl))
  refine run_rt (s := GT bs ts x3 x4 (.val (.ls [.bl u1, .bl u2])) (.val (.ls [.bl u1, .bl u2])) (.val (.int (2 * hgt (joinP bs)))) y8 y11 y12 y13 b2) rfl ?_
  rw [GA_is, seq_nx o1, seq_nx o2, seq_nx o3, seq_nx o4, seq_nx o5, seq_nx o6, seq_nx o7, seq_nx o8, seq_nx o9]
  exact o10
end
end LW

namespace LW
open PySem PySem.Spec PyProof.Rows L2 DL
theorem by_hand (b : Bx) : F_law_by_hand_right [] b = .ok (.bl true) b := by kernel_rfl
end LW

namespace LW
open PySem PySem.Spec PyProof.Rows L2 DL
local macro_rules
  | `(tactic| decreasing_trivial_pre_omega) => `(tactic| first
    | with_reducible assumption
    | with_reducible exact dC_ok
    | with_reducible exact dNil_ok
    | with_reducible exact dNoP_ok
    | with_reducible exact s_next
    | ((with_reducible apply dV_ok); exact rfl)
    | with_reducible apply dCons_ok
    | with_reducible apply dBin_ok
    | with_reducible apply dBinB_ok
    | with_reducible apply e_call
    | with_reducible apply dCB_ok
    | with_reducible apply dCBF_ok
    | with_reducible apply dClose_ok
    | with_reducible apply dTup_ok
    | with_reducible apply dLst_ok
    | with_reducible apply dUn_ok
    | with_reducible apply dPart_ok
    | with_reducible apply dSlice_ok
    | with_reducible apply dSeqI_ok
    | with_reducible apply dOfB_ok
    | with_reducible apply dTru_bl
    | with_reducible apply dRet_ok
    | with_reducible apply e_prop
    | ((with_reducible apply e_lend); focus (exact rfl))
    | ((with_reducible apply t_lend); focus (exact rfl))
    | ((with_reducible apply sq); focus ((repeat' decreasing_trivial_pre_omega); done); focus (try dsimp only [List.set_cons_zero, List.set_cons_succ]); focus (exact rfl))
    | with_reducible apply s_set
    | with_reducible apply s_own
    | ((with_reducible apply s_app); focus (exact rfl))
    | with_reducible apply s_setIx
    | with_reducible apply s_par
    | with_reducible apply s_par3
    | with_reducible apply s_unp
    | ((with_reducible apply s_if_t); focus ((repeat' decreasing_trivial_pre_omega); done))
    | ((with_reducible apply s_if_f); focus ((repeat' decreasing_trivial_pre_omega); done))
    | (with_reducible apply o_not_t)
    | (with_reducible apply o_not_f)
    | ((with_reducible apply dAnd_t); focus ((repeat' decreasing_trivial_pre_omega); done))
    | ((with_reducible apply dAnd_f); ((repeat' decreasing_trivial_pre_omega); done))
    | ((with_reducible apply dOr_t); ((repeat' decreasing_trivial_pre_omega); done))
    | ((with_reducible apply dOr_f); focus ((repeat' decreasing_trivial_pre_omega); done))
    | ((with_reducible apply o_chain_t) <;> ((repeat' decreasing_trivial_pre_omega); done))
    | ((with_reducible apply o_chain_f) <;> ((repeat' decreasing_trivial_pre_omega); done))
    | ((with_reducible apply o_ltt); omega)
    | ((with_reducible apply o_ltf); omega)
    | ((with_reducible apply o_let); omega)
    | ((with_reducible apply o_lef); omega)
    | ((with_reducible apply o_gtt); omega)
    | ((with_reducible apply o_gtf); omega)
    | ((with_reducible apply o_get); omega)
    | ((with_reducible apply o_gef); omega)
    | ((with_reducible apply e_mulr); omega)
    | ((with_reducible apply e_mull); omega)
    | ((with_reducible apply e_div); omega)
    | ((with_reducible apply e_mod); omega)
    | ((with_reducible apply e_add_ls); first | exact Nat.le_of_ble_eq_true rfl | (simp; done) | (simp; omega))
    | ((with_reducible apply e_add_tu); first | exact Nat.le_of_ble_eq_true rfl | (simp; done) | (simp; omega))
    | exact (rfl : (_ : S) = _)
    | exact (rfl : (_ : R D) = _)
    | exact (rfl : (_ : R Bool) = _)
    | exact (rfl : (_ : R (List D)) = _)
    | exact (rfl : (_ : Option _) = _)
    | exact (rfl : (_ : Nat) = _)
    | exact Nat.le_of_ble_eq_true rfl
    | exact Nat.lt_of_lt_of_le (Nat.lt_succ_self _) (Nat.le_of_ble_eq_true rfl))
def RI_1b_1 : S → R Out := (dSet 2 (dCall 2 F_law_word [] (dCons (dV 0) (dCons (dCall 2 F_law_take [] (dCons (dV 0) (dCons (dC (.int 11)) dNil))) dNil))))
def RI_1b_2 : S → R Out := (dPar 3 4 Sl.val Sl.val (dCall 2 F_law_near [] (dCons (dV 0) (dCons (dV 2) dNil))) (dCall 2 F_law_near [] (dCons (dV 0) (dCons (dV 2) dNil))))
def RI_1b_3 : S → R Out := (dIf (dOr (dNot (dTru (dCall 4 F_law_case_right [] (dCons (dV 0) (dCons (dV 2) (dCons (dV 3) (dCons (dV 4) dNil))))))) (dNot (dTru (dCall 1 F_law_great_right [] (dCons (dV 0) dNil))))) (dRet (dC (.bl false))) dNext)
def RI_1b : S → R Out := (dSeq RI_1b_1 (dSeq RI_1b_2 RI_1b_3))
def RI_1 : S → R Out := dFor (.nm 1) (dCBF hRange1 (dCons (dC (.int 9)) dNil)) RI_1b
def RI_2 : S → R Out := (dRet (dC (.bl true)))
theorem RI_is : B_law_right = (dSeq RI_1 RI_2) := rfl
section
variable {b : Bx} {X : Sl} {rs ts bs : List Pr}
abbrev RS (x1 x2 x3 x4 : Sl) (b : Bx) : S := ⟨[.val .box, x1, x2, x3, x4], b⟩
theorem right_turn {m : Nat} {x1 x2 x3 x4 : Sl} (g : Gd (m + 70) b) : ∃ (b' : Bx) (y2 y3 y4 : Sl), RI_1b (RS x1 x2 x3 x4 b) = .ok .nx (RS x1 y2 y3 y4 b') ∧ Gd m b' := by
  obtain ⟨k, b1, e1, k0, k1, g1⟩ := take_spec 11 (m + 69) b (by omega) (by omega) g
  obtain ⟨n, rfl⟩ : ∃ n : Nat, k = (n : Nat) := ⟨k.toNat, by omega⟩
  obtain ⟨hs, b2, e2, l2, g2⟩ := word_ok (n := n) (m := m + 50) (b := b1) (by omega) (g1.less (by omega))
  obtain ⟨gs, b3, e3, l3, g3⟩ := near_ok (hs := hs) (m := m + 40) (b := b2) (by omega) g2
  obtain ⟨fs, b4, e4, l4, g4⟩ := near_ok (hs := hs) (m := m + 30) (b := b3) (by omega) g3
  obtain ⟨b5, e5, g5⟩ := great_ok (m := m) (b := b4) g4
  have cs := case_ok (b := b4) (hs := hs) (gs := gs) (fs := fs) (by omega) l3 l4
  have o1 : RI_1b_1 (RS x1 x2 x3 x4 b) = .ok .nx (RS x1 (.val (.tu (hT hs))) x3 x4 b2) := by
    have c1 : dCall 2 F_law_take [] (dCons (dV 0) (dCons (dC (.int 11)) dNil)) (RS x1 x2 x3 x4 b) = .ok (.int (n : Nat)) (RS x1 x2 x3 x4 b1) := e_call (dCons_ok (dV_ok rfl) (dCons_ok dC_ok dNil_ok)) rfl e1
    exact dSet_ok (e_call (dCons_ok (dV_ok rfl) (dCons_ok c1 dNil_ok)) rfl e2)
  have o2 : RI_1b_2 (RS x1 (.val (.tu (hT hs))) x3 x4 b2) = .ok .nx (RS x1 (.val (.tu (hT hs))) (.val (.tu (hT gs))) (.val (.tu (hT fs))) b4) := by
    have c1 : dCall 2 F_law_near [] (dCons (dV 0) (dCons (dV 2) dNil)) (RS x1 (.val (.tu (hT hs))) x3 x4 b2) = .ok (.tu (hT gs)) (RS x1 (.val (.tu (hT hs))) x3 x4 b3) := e_call (dCons_ok (dV_ok rfl) (dCons_ok (dV_ok rfl) dNil_ok)) rfl e3
    have c2 : dCall 2 F_law_near [] (dCons (dV 0) (dCons (dV 2) dNil)) (RS x1 (.val (.tu (hT hs))) x3 x4 b3) = .ok (.tu (hT fs)) (RS x1 (.val (.tu (hT hs))) x3 x4 b4) := e_call (dCons_ok (dV_ok rfl) (dCons_ok (dV_ok rfl) dNil_ok)) rfl e4
    exact s_par0 c1 c2
  have o3 : RI_1b_3 (RS x1 (.val (.tu (hT hs))) (.val (.tu (hT gs))) (.val (.tu (hT fs))) b4) = .ok .nx (RS x1 (.val (.tu (hT hs))) (.val (.tu (hT gs))) (.val (.tu (hT fs))) b5) := by
    have t1 : dNot (dTru (dCall 4 F_law_case_right [] (dCons (dV 0) (dCons (dV 2) (dCons (dV 3) (dCons (dV 4) dNil)))))) (RS x1 (.val (.tu (hT hs))) (.val (.tu (hT gs))) (.val (.tu (hT fs))) b4) = .ok false (RS x1 (.val (.tu (hT hs))) (.val (.tu (hT gs))) (.val (.tu (hT fs))) b4) :=
      o_not_f (dTru_bl (e_call (dCons_ok (dV_ok rfl) (dCons_ok (dV_ok rfl) (dCons_ok (dV_ok rfl) (dCons_ok (dV_ok rfl) dNil_ok)))) rfl cs))
    have t2 : dNot (dTru (dCall 1 F_law_great_right [] (dCons (dV 0) dNil))) (RS x1 (.val (.tu (hT hs))) (.val (.tu (hT gs))) (.val (.tu (hT fs))) b4) = .ok false (RS x1 (.val (.tu (hT hs))) (.val (.tu (hT gs))) (.val (.tu (hT fs))) b5) :=
      o_not_f (dTru_bl (e_call (dCons_ok (dV_ok rfl) dNil_ok) rfl e5))
    exact dIf_f (dOr_f t1 t2) rfl
  refine ⟨b5, .val (.tu (hT hs)), .val (.tu (hT gs)), .val (.tu (hT fs)), ?_, g5⟩
  unfold RI_1b
  rw [seq_nx o1, seq_nx o2]
  exact o3
theorem right_loop : ∀ (ds : List D) (m : Nat) (b : Bx) (x1 x2 x3 x4 : Sl), Gd (m + 70 * ds.length) b → ∃ (b' : Bx) (y1 y2 y3 y4 : Sl), forD (.nm 1) RI_1b ds ⟨[.val .box, x1, x2, x3, x4], b⟩ = .ok .nx ⟨[.val .box, y1, y2, y3, y4], b'⟩ ∧ Gd m b'
  | [], m, b, x1, x2, x3, x4, g => ⟨b, x1, x2, x3, x4, rfl, g⟩
  | d :: ds, m, b, x1, x2, x3, x4, g => by
    rw [List.length_cons] at g
    obtain ⟨b1, y2, y3, y4, e, g1⟩ := right_turn (m := m + 70 * ds.length) (b := b) (x1 := .val d) (x2 := x2) (x3 := x3) (x4 := x4) (g.less (by omega))
    obtain ⟨b', z1, z2, z3, z4, e2, g2⟩ := right_loop ds m b1 (.val d) y2 y3 y4 g1
    exact ⟨b', z1, z2, z3, z4, (forD_nx (st1 := ⟨[.val .box, .val d, x2, x3, x4], b⟩) rfl e).trans e2, g2⟩
theorem right_spec (b : Bx) (h : Gd 900000 b) : ∃ b', F_law_right [.box] b = .ok (.bl true) b' := by
  obtain ⟨b', y1, y2, y3, y4, e, _⟩ := right_loop (rangeD 0 9) 0 b .un .un .un .un (h.less (by show 0 + 70 * 9 ≤ _; omega))
  refine ⟨b', run_rt (s := ⟨[.val .box, y1, y2, y3, y4], b'⟩) rfl ?_⟩
  rw [RI_is]
  have o1 : RI_1 ⟨[.box].map Sl.val ++ List.replicate (5 - 1) Sl.un, b⟩ = .ok .nx ⟨[.val .box, y1, y2, y3, y4], b'⟩ := dFor_ok (dCBF_ok (dCons_ok dC_ok dNil_ok) (hRange1_nat (n := 9) (by omega))) e
  rw [seq_nx o1]
  rfl
theorem law_turn {ns cs : List Int} (l3 : cs.length ≤ 3) {i : Nat} (hi : i < cs.length) :
    ∃ env', turnD (.nm 2) [2] dYes (dCallBox 1 F_law_right 2 F_law_box (dCons (dV 1) (dCons (dV 2) dNil))) (.int (0 + (i : Nat))) ⟨[.val (.ro ns), .val (.ls (cs.map .int)), .un], (0, 0, 0)⟩ = .ok (some (.bl true)) ⟨env', (0, 0, 0)⟩ := by
  obtain ⟨a, s, e1, g1⟩ := box_spec hi l3 (0, 0, 0)
  obtain ⟨b', e2⟩ := right_spec _ g1
  refine ⟨[.val (.ro ns), .val (.ls (cs.map .int)), .val (.int (i : Nat))], ?_⟩
  simp [turnD, S.hide, Sl.hide, wipeS, tgD, S.put, bind_ok, dYes, dCallBox, dCons, dNil, dV, e1, e2]
theorem law_true (ns : List Int) : ∃ b', F_law [.ro ns] (0, 0, 0) = .ok (.bl true) b' := by
  obtain ⟨cs, n0, l3, e⟩ := cells_spec ns (0, 0, 0)
  refine ⟨(0, 0, 0), ?_⟩
  have hl : (rangeD 0 cs.length).length ≤ 16777216 := by
    unfold rangeD
    rw [List.length_map, List.length_range]
    omega
  have c1 := compD_map (k := .nm 2) (vs := [2]) (t := dYes) (e := dCallBox 1 F_law_right 2 F_law_box (dCons (dV 1) (dCons (dV 2) dNil))) (f := fun _ => .bl true) (st := ⟨[.val (.ro ns), .val (.ls (cs.map .int)), .un], (0, 0, 0)⟩) (ds := rangeD 0 cs.length) (acc := []) (fun d hd => by
      unfold rangeD at hd
      obtain ⟨i, hi, rfl⟩ := List.mem_map.mp hd
      exact law_turn l3 (List.mem_range.mp hi)) (by rw [List.length_nil, Nat.zero_add]; exact hl)
  have e1 : dSet 1 (dCall 2 F_law_cells [] (dCons (dV 0) (dCons (dC (.int 3)) dNil))) ⟨[.val (.ro ns), .un, .un], (0, 0, 0)⟩ = .ok .nx ⟨[.val (.ro ns), .val (.ls (cs.map .int)), .un], (0, 0, 0)⟩ :=
    dSet_ok (dCall_ok (dCons_ok (dV_ok rfl) (dCons_ok dC_ok dNil_ok)) rfl e)
  have bh := by_hand (0, 0, 0)
  have e2 : dIf (dNot (dTru (dCall 0 F_law_by_hand_right [] dNil))) (dRet (dC (.bl false))) dNext ⟨[.val (.ro ns), .val (.ls (cs.map .int)), .un], (0, 0, 0)⟩ = .ok .nx ⟨[.val (.ro ns), .val (.ls (cs.map .int)), .un], (0, 0, 0)⟩ :=
    dIf_f (dNot_ok (k := true) (dTru_bl (dCall_ok dNil_ok rfl bh))) rfl
  have hlen : hLen [.ls (cs.map .int)] ⟨[.val (.ro ns), .val (.ls (cs.map .int)), .un], (0, 0, 0)⟩ = .ok (.int (cs.length : Nat)) ⟨[.val (.ro ns), .val (.ls (cs.map .int)), .un], (0, 0, 0)⟩ := by
    show R.ok (D.int ((cs.map D.int).length : Nat)) _ = _
    rw [List.length_map]
  refine run_rt (s := ⟨[.val (.ro ns), .val (.ls (cs.map .int)), .un], (0, 0, 0)⟩) rfl ?_
  show dSeq _ (dSeq _ _) ⟨[.val (.ro ns), .un, .un], (0, 0, 0)⟩ = _
  rw [seq_nx e1, seq_nx e2]
  exact dRet_ok (dCB_ok (dCons_ok (dClose_ok (dComp_ok (dCBF_ok (dCons_ok (dCB_ok (dCons_ok (dV_ok rfl) dNil_ok) hlen) dNil_ok) (hRange1_nat (by omega))) c1)) dNil_ok) (hAll_true (by intro d hd; obtain ⟨_, _, rfl⟩ := List.mem_map.mp hd; rfl)))
end
end LW

set_option maxHeartbeats 4000000
namespace LW
open PySem PySem.Spec PyProof.Rows L2 DL
def clsBody : Stmt → List Stmt
  | .ClassDef (body := b) .. => b
  | _ => []
abbrev si_BadRun : Stmt := (clsBody (topS 3)).getD 0 (.Pass ⟨0, 0, 0, 0⟩)
theorem sci_BadRun : FnScope ["self", "place"] ["self", "place"] (defScope si_BadRun) := ⟨rfl, rfl, rfl, by decide +kernel, rfl, by decide +kernel, by decide +kernel⟩
abbrev si_BadText : Stmt := (clsBody (topS 4)).getD 0 (.Pass ⟨0, 0, 0, 0⟩)
theorem sci_BadText : FnScope ["self", "piece"] ["self", "piece"] (defScope si_BadText) := ⟨rfl, rfl, rfl, by decide +kernel, rfl, by decide +kernel, by decide +kernel⟩
abbrev si_NoPlace : Stmt := (clsBody (topS 5)).getD 0 (.Pass ⟨0, 0, 0, 0⟩)
theorem sci_NoPlace : FnScope ["self", "number"] ["self", "number"] (defScope si_NoPlace) := ⟨rfl, rfl, rfl, by decide +kernel, rfl, by decide +kernel, by decide +kernel⟩
set_option maxHeartbeats 4000000 in
theorem all_mk {l : PySem.W.OpenLaw} {w : World} {K : PySem.W.Frag} {h : Heap} {mg : Str → Option Value} {fa : Addr} (X : K.In h) (G : h.Ns mainGlobals mg) (hfa : mg "law" = some (.ref fa))
    {f_law_cells : Addr} {od_law_cells an_law_cells : Option Addr} {sl_law_cells : Array (Option Value)} {oc_law_cells kV_law_cells dc_law_cells pm_law_cells cd_law_cells ct_law_cells : Value}
    {f_is_heir : Addr} {od_is_heir an_is_heir : Option Addr} {sl_is_heir : Array (Option Value)} {oc_is_heir kV_is_heir dc_is_heir pm_is_heir cd_is_heir ct_is_heir : Value}
    {f_put_together : Addr} {od_put_together an_put_together : Option Addr} {sl_put_together : Array (Option Value)} {oc_put_together kV_put_together dc_put_together pm_put_together cd_put_together ct_put_together : Value}
    {f_pieces : Addr} {od_pieces an_pieces : Option Addr} {sl_pieces : Array (Option Value)} {oc_pieces kV_pieces dc_pieces pm_pieces cd_pieces ct_pieces : Value}
    {f_is_many : Addr} {od_is_many an_is_many : Option Addr} {sl_is_many : Array (Option Value)} {oc_is_many kV_is_many dc_is_many pm_is_many cd_is_many ct_is_many : Value}
    {f_runs_from : Addr} {od_runs_from an_runs_from : Option Addr} {sl_runs_from : Array (Option Value)} {oc_runs_from kV_runs_from dc_runs_from pm_runs_from cd_runs_from ct_runs_from : Value}
    {f_turns_of : Addr} {od_turns_of an_turns_of : Option Addr} {sl_turns_of : Array (Option Value)} {oc_turns_of kV_turns_of dc_turns_of pm_turns_of cd_turns_of ct_turns_of : Value}
    {f_check_size : Addr} {od_check_size an_check_size : Option Addr} {sl_check_size : Array (Option Value)} {oc_check_size kV_check_size dc_check_size pm_check_size cd_check_size ct_check_size : Value}
    {f_corners : Addr} {od_corners an_corners : Option Addr} {sl_corners : Array (Option Value)} {oc_corners kV_corners dc_corners pm_corners cd_corners ct_corners : Value}
    {f_first_part : Addr} {od_first_part an_first_part : Option Addr} {sl_first_part : Array (Option Value)} {oc_first_part kV_first_part dc_first_part pm_first_part cd_first_part ct_first_part : Value}
    {f_ahead : Addr} {od_ahead an_ahead : Option Addr} {sl_ahead : Array (Option Value)} {oc_ahead kV_ahead dc_ahead pm_ahead cd_ahead ct_ahead : Value}
    {f_against : Addr} {od_against an_against : Option Addr} {sl_against : Array (Option Value)} {oc_against kV_against dc_against pm_against cd_against ct_against : Value}
    {f_never_worse : Addr} {od_never_worse an_never_worse : Option Addr} {sl_never_worse : Array (Option Value)} {oc_never_worse kV_never_worse dc_never_worse pm_never_worse cd_never_worse ct_never_worse : Value}
    {f_is_above : Addr} {od_is_above an_is_above : Option Addr} {sl_is_above : Array (Option Value)} {oc_is_above kV_is_above dc_is_above pm_is_above cd_is_above ct_is_above : Value}
    {f_is_between : Addr} {od_is_between an_is_between : Option Addr} {sl_is_between : Array (Option Value)} {oc_is_between kV_is_between dc_is_between pm_is_between cd_is_between ct_is_between : Value}
    {f_law_asked : Addr} {od_law_asked an_law_asked : Option Addr} {sl_law_asked : Array (Option Value)} {oc_law_asked kV_law_asked dc_law_asked pm_law_asked cd_law_asked ct_law_asked : Value}
    {f_places_sum : Addr} {od_places_sum an_places_sum : Option Addr} {sl_places_sum : Array (Option Value)} {oc_places_sum kV_places_sum dc_places_sum pm_places_sum cd_places_sum ct_places_sum : Value}
    {f_height : Addr} {od_height an_height : Option Addr} {sl_height : Array (Option Value)} {oc_height kV_height dc_height pm_height cd_height ct_height : Value}
    {f_law_same : Addr} {od_law_same an_law_same : Option Addr} {sl_law_same : Array (Option Value)} {oc_law_same kV_law_same dc_law_same pm_law_same cd_law_same ct_law_same : Value}
    {f_law_great_ones_right : Addr} {od_law_great_ones_right an_law_great_ones_right : Option Addr} {sl_law_great_ones_right : Array (Option Value)} {oc_law_great_ones_right kV_law_great_ones_right dc_law_great_ones_right pm_law_great_ones_right cd_law_great_ones_right ct_law_great_ones_right : Value}
    {f_law_by_hand_right : Addr} {od_law_by_hand_right an_law_by_hand_right : Option Addr} {sl_law_by_hand_right : Array (Option Value)} {oc_law_by_hand_right kV_law_by_hand_right dc_law_by_hand_right pm_law_by_hand_right cd_law_by_hand_right ct_law_by_hand_right : Value}
    {f_law_take : Addr} {od_law_take an_law_take : Option Addr} {sl_law_take : Array (Option Value)} {oc_law_take kV_law_take dc_law_take pm_law_take cd_law_take ct_law_take : Value}
    {f_law_of : Addr} {od_law_of an_law_of : Option Addr} {sl_law_of : Array (Option Value)} {oc_law_of kV_law_of dc_law_of pm_law_of cd_law_of ct_law_of : Value}
    {f_law_word : Addr} {od_law_word an_law_word : Option Addr} {sl_law_word : Array (Option Value)} {oc_law_word kV_law_word dc_law_word pm_law_word cd_law_word ct_law_word : Value}
    {f_law_near : Addr} {od_law_near an_law_near : Option Addr} {sl_law_near : Array (Option Value)} {oc_law_near kV_law_near dc_law_near pm_law_near cd_law_near ct_law_near : Value}
    {f_law_sums : Addr} {od_law_sums an_law_sums : Option Addr} {sl_law_sums : Array (Option Value)} {oc_law_sums kV_law_sums dc_law_sums pm_law_sums cd_law_sums ct_law_sums : Value}
    {f_law_over : Addr} {od_law_over an_law_over : Option Addr} {sl_law_over : Array (Option Value)} {oc_law_over kV_law_over dc_law_over pm_law_over cd_law_over ct_law_over : Value}
    {f_law_case_right : Addr} {od_law_case_right an_law_case_right : Option Addr} {sl_law_case_right : Array (Option Value)} {oc_law_case_right kV_law_case_right dc_law_case_right pm_law_case_right cd_law_case_right ct_law_case_right : Value}
    {f_law_much : Addr} {od_law_much an_law_much : Option Addr} {sl_law_much : Array (Option Value)} {oc_law_much kV_law_much dc_law_much pm_law_much cd_law_much ct_law_much : Value}
    {f_law_bits : Addr} {od_law_bits an_law_bits : Option Addr} {sl_law_bits : Array (Option Value)} {oc_law_bits kV_law_bits dc_law_bits pm_law_bits cd_law_bits ct_law_bits : Value}
    {f_law_pick : Addr} {od_law_pick an_law_pick : Option Addr} {sl_law_pick : Array (Option Value)} {oc_law_pick kV_law_pick dc_law_pick pm_law_pick cd_law_pick ct_law_pick : Value}
    {f_law_great_right : Addr} {od_law_great_right an_law_great_right : Option Addr} {sl_law_great_right : Array (Option Value)} {oc_law_great_right kV_law_great_right dc_law_great_right pm_law_great_right cd_law_great_right ct_law_great_right : Value}
    {f_law_right : Addr} {od_law_right an_law_right : Option Addr} {sl_law_right : Array (Option Value)} {oc_law_right kV_law_right dc_law_right pm_law_right cd_law_right ct_law_right : Value}
    {f_law_box : Addr} {od_law_box an_law_box : Option Addr} {sl_law_box : Array (Option Value)} {oc_law_box kV_law_box dc_law_box pm_law_box cd_law_box ct_law_box : Value}
    {f_law : Addr} {od_law an_law : Option Addr} {sl_law : Array (Option Value)} {oc_law kV_law dc_law pm_law cd_law ct_law : Value}
    {A_HeirError : Addr}
    {A_BadRun : Addr}
    {A_BadText : Addr}
    {A_NoPlace : Addr}
    {A_OtherThings : Addr}
    {nm_BadRun q_BadRun : Str} {N_BadRun : Addr} {bs_BadRun sub_BadRun : List Value} {sn_BadRun : List Str} {ab_BadRun : Bool} {col_BadRun : Option Bool} {dd_BadRun : Option Addr} {m0_BadRun m1_BadRun m2_BadRun m3_BadRun m5_BadRun : Option Value} {fi_BadRun : Addr} {odi_BadRun ani_BadRun : Option Addr} {sli_BadRun : Array (Option Value)} {oci_BadRun kVi_BadRun dci_BadRun pmi_BadRun cdi_BadRun cti_BadRun : Value}
    {nm_BadText q_BadText : Str} {N_BadText : Addr} {bs_BadText sub_BadText : List Value} {sn_BadText : List Str} {ab_BadText : Bool} {col_BadText : Option Bool} {dd_BadText : Option Addr} {m0_BadText m1_BadText m2_BadText m3_BadText m5_BadText : Option Value} {fi_BadText : Addr} {odi_BadText ani_BadText : Option Addr} {sli_BadText : Array (Option Value)} {oci_BadText kVi_BadText dci_BadText pmi_BadText cdi_BadText cti_BadText : Value}
    {tk_DIGITS : Tok}
    {tk_NOTHING : Tok}
    {tk_RUN_SIGN : Tok}
    {A_Turns : Addr}
    {fi_O dT_O eT_O : Addr} {odi_O ani_O : Option Addr} {sli_O : Array (Option Value)} {oci_O kVi_O dci_O pmi_O cdi_O cti_O : Value} {ocT_O : Value} {odT_O odE_O : Option Addr} {nT_O nE_O : Nat} {slT_O slE_O : Array (Option Value)}
    {mc_O : Value}
    {f_Turns_ends : Addr} {od_Turns_ends an_Turns_ends : Option Addr} {sl_Turns_ends : Array (Option Value)} {oc_Turns_ends kV_Turns_ends dc_Turns_ends pm_Turns_ends cd_Turns_ends ct_Turns_ends : Value} {pp_Turns_ends : Addr} {rest_Turns_ends : List Value}
    {f_Turns_hers : Addr} {od_Turns_hers an_Turns_hers : Option Addr} {sl_Turns_hers : Array (Option Value)} {oc_Turns_hers kV_Turns_hers dc_Turns_hers pm_Turns_hers cd_Turns_hers ct_Turns_hers : Value} {pp_Turns_hers : Addr} {rest_Turns_hers : List Value}
    {f_Turns_of : Addr} {od_Turns_of an_Turns_of : Option Addr} {sl_Turns_of : Array (Option Value)} {oc_Turns_of kV_Turns_of dc_Turns_of pm_Turns_of cd_Turns_of ct_Turns_of : Value} {pp_Turns_of : Addr} {rest_Turns_of : List Value}
    {f_Turns_runs : Addr} {od_Turns_runs an_Turns_runs : Option Addr} {sl_Turns_runs : Array (Option Value)} {oc_Turns_runs kV_Turns_runs dc_Turns_runs pm_Turns_runs cd_Turns_runs ct_Turns_runs : Value} {pp_Turns_runs : Addr} {rest_Turns_runs : List Value}
    {f_Turns_size : Addr} {od_Turns_size an_Turns_size : Option Addr} {sl_Turns_size : Array (Option Value)} {oc_Turns_size kV_Turns_size dc_Turns_size pm_Turns_size cd_Turns_size ct_Turns_size : Value} {pp_Turns_size : Addr} {rest_Turns_size : List Value}
    (a_law_cells : PySem.W.nsIn K mainGlobals "_law_cells" = some (some (.ref f_law_cells)))
    (l_law_cells : K.lookup f_law_cells = some ⟨oc_law_cells, od_law_cells, .func (PySem.W.fnOf "_law_cells" "_law_cells" (defArgs s_law_cells) (defBody s_law_cells) (defScope s_law_cells) .none kV_law_cells dc_law_cells pm_law_cells an_law_cells cd_law_cells ct_law_cells), sl_law_cells⟩)
    (d_law_cells : PySem.W.codeIn K cd_law_cells "_law_cells" = true)
    (k_law_cells : PySem.W.keepIn K (.ref f_law_cells) = true)
    (a_is_heir : PySem.W.nsIn K mainGlobals "is_heir" = some (some (.ref f_is_heir)))
    (l_is_heir : K.lookup f_is_heir = some ⟨oc_is_heir, od_is_heir, .func (PySem.W.fnOf "is_heir" "is_heir" (defArgs s_is_heir) (defBody s_is_heir) (defScope s_is_heir) .none kV_is_heir dc_is_heir pm_is_heir an_is_heir cd_is_heir ct_is_heir), sl_is_heir⟩)
    (d_is_heir : PySem.W.codeIn K cd_is_heir "is_heir" = true)
    (k_is_heir : PySem.W.keepIn K (.ref f_is_heir) = true)
    (a_put_together : PySem.W.nsIn K mainGlobals "_put_together" = some (some (.ref f_put_together)))
    (l_put_together : K.lookup f_put_together = some ⟨oc_put_together, od_put_together, .func (PySem.W.fnOf "_put_together" "_put_together" (defArgs s_put_together) (defBody s_put_together) (defScope s_put_together) .none kV_put_together dc_put_together pm_put_together an_put_together cd_put_together ct_put_together), sl_put_together⟩)
    (d_put_together : PySem.W.codeIn K cd_put_together "_put_together" = true)
    (k_put_together : PySem.W.keepIn K (.ref f_put_together) = true)
    (a_pieces : PySem.W.nsIn K mainGlobals "_pieces" = some (some (.ref f_pieces)))
    (l_pieces : K.lookup f_pieces = some ⟨oc_pieces, od_pieces, .func (PySem.W.fnOf "_pieces" "_pieces" (defArgs s_pieces) (defBody s_pieces) (defScope s_pieces) .none kV_pieces dc_pieces pm_pieces an_pieces cd_pieces ct_pieces), sl_pieces⟩)
    (d_pieces : PySem.W.codeIn K cd_pieces "_pieces" = true)
    (k_pieces : PySem.W.keepIn K (.ref f_pieces) = true)
    (a_is_many : PySem.W.nsIn K mainGlobals "is_many" = some (some (.ref f_is_many)))
    (l_is_many : K.lookup f_is_many = some ⟨oc_is_many, od_is_many, .func (PySem.W.fnOf "is_many" "is_many" (defArgs s_is_many) (defBody s_is_many) (defScope s_is_many) .none kV_is_many dc_is_many pm_is_many an_is_many cd_is_many ct_is_many), sl_is_many⟩)
    (d_is_many : PySem.W.codeIn K cd_is_many "is_many" = true)
    (k_is_many : PySem.W.keepIn K (.ref f_is_many) = true)
    (a_runs_from : PySem.W.nsIn K mainGlobals "runs_from" = some (some (.ref f_runs_from)))
    (l_runs_from : K.lookup f_runs_from = some ⟨oc_runs_from, od_runs_from, .func (PySem.W.fnOf "runs_from" "runs_from" (defArgs s_runs_from) (defBody s_runs_from) (defScope s_runs_from) .none kV_runs_from dc_runs_from pm_runs_from an_runs_from cd_runs_from ct_runs_from), sl_runs_from⟩)
    (d_runs_from : PySem.W.codeIn K cd_runs_from "runs_from" = true)
    (k_runs_from : PySem.W.keepIn K (.ref f_runs_from) = true)
    (a_turns_of : PySem.W.nsIn K mainGlobals "turns_of" = some (some (.ref f_turns_of)))
    (l_turns_of : K.lookup f_turns_of = some ⟨oc_turns_of, od_turns_of, .func (PySem.W.fnOf "turns_of" "turns_of" (defArgs s_turns_of) (defBody s_turns_of) (defScope s_turns_of) .none kV_turns_of dc_turns_of pm_turns_of an_turns_of cd_turns_of ct_turns_of), sl_turns_of⟩)
    (d_turns_of : PySem.W.codeIn K cd_turns_of "turns_of" = true)
    (k_turns_of : PySem.W.keepIn K (.ref f_turns_of) = true)
    (a_check_size : PySem.W.nsIn K mainGlobals "check_size" = some (some (.ref f_check_size)))
    (l_check_size : K.lookup f_check_size = some ⟨oc_check_size, od_check_size, .func (PySem.W.fnOf "check_size" "check_size" (defArgs s_check_size) (defBody s_check_size) (defScope s_check_size) .none kV_check_size dc_check_size pm_check_size an_check_size cd_check_size ct_check_size), sl_check_size⟩)
    (d_check_size : PySem.W.codeIn K cd_check_size "check_size" = true)
    (k_check_size : PySem.W.keepIn K (.ref f_check_size) = true)
    (a_corners : PySem.W.nsIn K mainGlobals "corners" = some (some (.ref f_corners)))
    (l_corners : K.lookup f_corners = some ⟨oc_corners, od_corners, .func (PySem.W.fnOf "corners" "corners" (defArgs s_corners) (defBody s_corners) (defScope s_corners) .none kV_corners dc_corners pm_corners an_corners cd_corners ct_corners), sl_corners⟩)
    (d_corners : PySem.W.codeIn K cd_corners "corners" = true)
    (k_corners : PySem.W.keepIn K (.ref f_corners) = true)
    (a_first_part : PySem.W.nsIn K mainGlobals "first_part" = some (some (.ref f_first_part)))
    (l_first_part : K.lookup f_first_part = some ⟨oc_first_part, od_first_part, .func (PySem.W.fnOf "first_part" "first_part" (defArgs s_first_part) (defBody s_first_part) (defScope s_first_part) .none kV_first_part dc_first_part pm_first_part an_first_part cd_first_part ct_first_part), sl_first_part⟩)
    (d_first_part : PySem.W.codeIn K cd_first_part "first_part" = true)
    (k_first_part : PySem.W.keepIn K (.ref f_first_part) = true)
    (a_ahead : PySem.W.nsIn K mainGlobals "ahead" = some (some (.ref f_ahead)))
    (l_ahead : K.lookup f_ahead = some ⟨oc_ahead, od_ahead, .func (PySem.W.fnOf "ahead" "ahead" (defArgs s_ahead) (defBody s_ahead) (defScope s_ahead) .none kV_ahead dc_ahead pm_ahead an_ahead cd_ahead ct_ahead), sl_ahead⟩)
    (d_ahead : PySem.W.codeIn K cd_ahead "ahead" = true)
    (k_ahead : PySem.W.keepIn K (.ref f_ahead) = true)
    (a_against : PySem.W.nsIn K mainGlobals "against" = some (some (.ref f_against)))
    (l_against : K.lookup f_against = some ⟨oc_against, od_against, .func (PySem.W.fnOf "against" "against" (defArgs s_against) (defBody s_against) (defScope s_against) .none kV_against dc_against pm_against an_against cd_against ct_against), sl_against⟩)
    (d_against : PySem.W.codeIn K cd_against "against" = true)
    (k_against : PySem.W.keepIn K (.ref f_against) = true)
    (a_never_worse : PySem.W.nsIn K mainGlobals "never_worse" = some (some (.ref f_never_worse)))
    (l_never_worse : K.lookup f_never_worse = some ⟨oc_never_worse, od_never_worse, .func (PySem.W.fnOf "never_worse" "never_worse" (defArgs s_never_worse) (defBody s_never_worse) (defScope s_never_worse) .none kV_never_worse dc_never_worse pm_never_worse an_never_worse cd_never_worse ct_never_worse), sl_never_worse⟩)
    (d_never_worse : PySem.W.codeIn K cd_never_worse "never_worse" = true)
    (k_never_worse : PySem.W.keepIn K (.ref f_never_worse) = true)
    (a_is_above : PySem.W.nsIn K mainGlobals "is_above" = some (some (.ref f_is_above)))
    (l_is_above : K.lookup f_is_above = some ⟨oc_is_above, od_is_above, .func (PySem.W.fnOf "is_above" "is_above" (defArgs s_is_above) (defBody s_is_above) (defScope s_is_above) .none kV_is_above dc_is_above pm_is_above an_is_above cd_is_above ct_is_above), sl_is_above⟩)
    (d_is_above : PySem.W.codeIn K cd_is_above "is_above" = true)
    (k_is_above : PySem.W.keepIn K (.ref f_is_above) = true)
    (a_is_between : PySem.W.nsIn K mainGlobals "is_between" = some (some (.ref f_is_between)))
    (l_is_between : K.lookup f_is_between = some ⟨oc_is_between, od_is_between, .func (PySem.W.fnOf "is_between" "is_between" (defArgs s_is_between) (defBody s_is_between) (defScope s_is_between) .none kV_is_between dc_is_between pm_is_between an_is_between cd_is_between ct_is_between), sl_is_between⟩)
    (d_is_between : PySem.W.codeIn K cd_is_between "is_between" = true)
    (k_is_between : PySem.W.keepIn K (.ref f_is_between) = true)
    (a_law_asked : PySem.W.nsIn K mainGlobals "_law_asked" = some (some (.ref f_law_asked)))
    (l_law_asked : K.lookup f_law_asked = some ⟨oc_law_asked, od_law_asked, .func (PySem.W.fnOf "_law_asked" "_law_asked" (defArgs s_law_asked) (defBody s_law_asked) (defScope s_law_asked) .none kV_law_asked dc_law_asked pm_law_asked an_law_asked cd_law_asked ct_law_asked), sl_law_asked⟩)
    (d_law_asked : PySem.W.codeIn K cd_law_asked "_law_asked" = true)
    (k_law_asked : PySem.W.keepIn K (.ref f_law_asked) = true)
    (a_places_sum : PySem.W.nsIn K mainGlobals "places_sum" = some (some (.ref f_places_sum)))
    (l_places_sum : K.lookup f_places_sum = some ⟨oc_places_sum, od_places_sum, .func (PySem.W.fnOf "places_sum" "places_sum" (defArgs s_places_sum) (defBody s_places_sum) (defScope s_places_sum) .none kV_places_sum dc_places_sum pm_places_sum an_places_sum cd_places_sum ct_places_sum), sl_places_sum⟩)
    (d_places_sum : PySem.W.codeIn K cd_places_sum "places_sum" = true)
    (k_places_sum : PySem.W.keepIn K (.ref f_places_sum) = true)
    (a_height : PySem.W.nsIn K mainGlobals "height" = some (some (.ref f_height)))
    (l_height : K.lookup f_height = some ⟨oc_height, od_height, .func (PySem.W.fnOf "height" "height" (defArgs s_height) (defBody s_height) (defScope s_height) .none kV_height dc_height pm_height an_height cd_height ct_height), sl_height⟩)
    (d_height : PySem.W.codeIn K cd_height "height" = true)
    (k_height : PySem.W.keepIn K (.ref f_height) = true)
    (a_law_same : PySem.W.nsIn K mainGlobals "_law_same" = some (some (.ref f_law_same)))
    (l_law_same : K.lookup f_law_same = some ⟨oc_law_same, od_law_same, .func (PySem.W.fnOf "_law_same" "_law_same" (defArgs s_law_same) (defBody s_law_same) (defScope s_law_same) .none kV_law_same dc_law_same pm_law_same an_law_same cd_law_same ct_law_same), sl_law_same⟩)
    (d_law_same : PySem.W.codeIn K cd_law_same "_law_same" = true)
    (k_law_same : PySem.W.keepIn K (.ref f_law_same) = true)
    (a_law_great_ones_right : PySem.W.nsIn K mainGlobals "_law_great_ones_right" = some (some (.ref f_law_great_ones_right)))
    (l_law_great_ones_right : K.lookup f_law_great_ones_right = some ⟨oc_law_great_ones_right, od_law_great_ones_right, .func (PySem.W.fnOf "_law_great_ones_right" "_law_great_ones_right" (defArgs s_law_great_ones_right) (defBody s_law_great_ones_right) (defScope s_law_great_ones_right) .none kV_law_great_ones_right dc_law_great_ones_right pm_law_great_ones_right an_law_great_ones_right cd_law_great_ones_right ct_law_great_ones_right), sl_law_great_ones_right⟩)
    (d_law_great_ones_right : PySem.W.codeIn K cd_law_great_ones_right "_law_great_ones_right" = true)
    (k_law_great_ones_right : PySem.W.keepIn K (.ref f_law_great_ones_right) = true)
    (a_law_by_hand_right : PySem.W.nsIn K mainGlobals "_law_by_hand_right" = some (some (.ref f_law_by_hand_right)))
    (l_law_by_hand_right : K.lookup f_law_by_hand_right = some ⟨oc_law_by_hand_right, od_law_by_hand_right, .func (PySem.W.fnOf "_law_by_hand_right" "_law_by_hand_right" (defArgs s_law_by_hand_right) (defBody s_law_by_hand_right) (defScope s_law_by_hand_right) .none kV_law_by_hand_right dc_law_by_hand_right pm_law_by_hand_right an_law_by_hand_right cd_law_by_hand_right ct_law_by_hand_right), sl_law_by_hand_right⟩)
    (d_law_by_hand_right : PySem.W.codeIn K cd_law_by_hand_right "_law_by_hand_right" = true)
    (k_law_by_hand_right : PySem.W.keepIn K (.ref f_law_by_hand_right) = true)
    (a_law_take : PySem.W.nsIn K mainGlobals "_law_take" = some (some (.ref f_law_take)))
    (l_law_take : K.lookup f_law_take = some ⟨oc_law_take, od_law_take, .func (PySem.W.fnOf "_law_take" "_law_take" (defArgs s_law_take) (defBody s_law_take) (defScope s_law_take) .none kV_law_take dc_law_take pm_law_take an_law_take cd_law_take ct_law_take), sl_law_take⟩)
    (d_law_take : PySem.W.codeIn K cd_law_take "_law_take" = true)
    (k_law_take : PySem.W.keepIn K (.ref f_law_take) = true)
    (a_law_of : PySem.W.nsIn K mainGlobals "_law_of" = some (some (.ref f_law_of)))
    (l_law_of : K.lookup f_law_of = some ⟨oc_law_of, od_law_of, .func (PySem.W.fnOf "_law_of" "_law_of" (defArgs s_law_of) (defBody s_law_of) (defScope s_law_of) .none kV_law_of dc_law_of pm_law_of an_law_of cd_law_of ct_law_of), sl_law_of⟩)
    (d_law_of : PySem.W.codeIn K cd_law_of "_law_of" = true)
    (k_law_of : PySem.W.keepIn K (.ref f_law_of) = true)
    (a_law_word : PySem.W.nsIn K mainGlobals "_law_word" = some (some (.ref f_law_word)))
    (l_law_word : K.lookup f_law_word = some ⟨oc_law_word, od_law_word, .func (PySem.W.fnOf "_law_word" "_law_word" (defArgs s_law_word) (defBody s_law_word) (defScope s_law_word) .none kV_law_word dc_law_word pm_law_word an_law_word cd_law_word ct_law_word), sl_law_word⟩)
    (d_law_word : PySem.W.codeIn K cd_law_word "_law_word" = true)
    (k_law_word : PySem.W.keepIn K (.ref f_law_word) = true)
    (a_law_near : PySem.W.nsIn K mainGlobals "_law_near" = some (some (.ref f_law_near)))
    (l_law_near : K.lookup f_law_near = some ⟨oc_law_near, od_law_near, .func (PySem.W.fnOf "_law_near" "_law_near" (defArgs s_law_near) (defBody s_law_near) (defScope s_law_near) .none kV_law_near dc_law_near pm_law_near an_law_near cd_law_near ct_law_near), sl_law_near⟩)
    (d_law_near : PySem.W.codeIn K cd_law_near "_law_near" = true)
    (k_law_near : PySem.W.keepIn K (.ref f_law_near) = true)
    (a_law_sums : PySem.W.nsIn K mainGlobals "_law_sums" = some (some (.ref f_law_sums)))
    (l_law_sums : K.lookup f_law_sums = some ⟨oc_law_sums, od_law_sums, .func (PySem.W.fnOf "_law_sums" "_law_sums" (defArgs s_law_sums) (defBody s_law_sums) (defScope s_law_sums) .none kV_law_sums dc_law_sums pm_law_sums an_law_sums cd_law_sums ct_law_sums), sl_law_sums⟩)
    (d_law_sums : PySem.W.codeIn K cd_law_sums "_law_sums" = true)
    (k_law_sums : PySem.W.keepIn K (.ref f_law_sums) = true)
    (a_law_over : PySem.W.nsIn K mainGlobals "_law_over" = some (some (.ref f_law_over)))
    (l_law_over : K.lookup f_law_over = some ⟨oc_law_over, od_law_over, .func (PySem.W.fnOf "_law_over" "_law_over" (defArgs s_law_over) (defBody s_law_over) (defScope s_law_over) .none kV_law_over dc_law_over pm_law_over an_law_over cd_law_over ct_law_over), sl_law_over⟩)
    (d_law_over : PySem.W.codeIn K cd_law_over "_law_over" = true)
    (k_law_over : PySem.W.keepIn K (.ref f_law_over) = true)
    (a_law_case_right : PySem.W.nsIn K mainGlobals "_law_case_right" = some (some (.ref f_law_case_right)))
    (l_law_case_right : K.lookup f_law_case_right = some ⟨oc_law_case_right, od_law_case_right, .func (PySem.W.fnOf "_law_case_right" "_law_case_right" (defArgs s_law_case_right) (defBody s_law_case_right) (defScope s_law_case_right) .none kV_law_case_right dc_law_case_right pm_law_case_right an_law_case_right cd_law_case_right ct_law_case_right), sl_law_case_right⟩)
    (d_law_case_right : PySem.W.codeIn K cd_law_case_right "_law_case_right" = true)
    (k_law_case_right : PySem.W.keepIn K (.ref f_law_case_right) = true)
    (a_law_much : PySem.W.nsIn K mainGlobals "_law_much" = some (some (.ref f_law_much)))
    (l_law_much : K.lookup f_law_much = some ⟨oc_law_much, od_law_much, .func (PySem.W.fnOf "_law_much" "_law_much" (defArgs s_law_much) (defBody s_law_much) (defScope s_law_much) .none kV_law_much dc_law_much pm_law_much an_law_much cd_law_much ct_law_much), sl_law_much⟩)
    (d_law_much : PySem.W.codeIn K cd_law_much "_law_much" = true)
    (k_law_much : PySem.W.keepIn K (.ref f_law_much) = true)
    (a_law_bits : PySem.W.nsIn K mainGlobals "_law_bits" = some (some (.ref f_law_bits)))
    (l_law_bits : K.lookup f_law_bits = some ⟨oc_law_bits, od_law_bits, .func (PySem.W.fnOf "_law_bits" "_law_bits" (defArgs s_law_bits) (defBody s_law_bits) (defScope s_law_bits) .none kV_law_bits dc_law_bits pm_law_bits an_law_bits cd_law_bits ct_law_bits), sl_law_bits⟩)
    (d_law_bits : PySem.W.codeIn K cd_law_bits "_law_bits" = true)
    (k_law_bits : PySem.W.keepIn K (.ref f_law_bits) = true)
    (a_law_pick : PySem.W.nsIn K mainGlobals "_law_pick" = some (some (.ref f_law_pick)))
    (l_law_pick : K.lookup f_law_pick = some ⟨oc_law_pick, od_law_pick, .func (PySem.W.fnOf "_law_pick" "_law_pick" (defArgs s_law_pick) (defBody s_law_pick) (defScope s_law_pick) .none kV_law_pick dc_law_pick pm_law_pick an_law_pick cd_law_pick ct_law_pick), sl_law_pick⟩)
    (d_law_pick : PySem.W.codeIn K cd_law_pick "_law_pick" = true)
    (k_law_pick : PySem.W.keepIn K (.ref f_law_pick) = true)
    (a_law_great_right : PySem.W.nsIn K mainGlobals "_law_great_right" = some (some (.ref f_law_great_right)))
    (l_law_great_right : K.lookup f_law_great_right = some ⟨oc_law_great_right, od_law_great_right, .func (PySem.W.fnOf "_law_great_right" "_law_great_right" (defArgs s_law_great_right) (defBody s_law_great_right) (defScope s_law_great_right) .none kV_law_great_right dc_law_great_right pm_law_great_right an_law_great_right cd_law_great_right ct_law_great_right), sl_law_great_right⟩)
    (d_law_great_right : PySem.W.codeIn K cd_law_great_right "_law_great_right" = true)
    (k_law_great_right : PySem.W.keepIn K (.ref f_law_great_right) = true)
    (a_law_right : PySem.W.nsIn K mainGlobals "_law_right" = some (some (.ref f_law_right)))
    (l_law_right : K.lookup f_law_right = some ⟨oc_law_right, od_law_right, .func (PySem.W.fnOf "_law_right" "_law_right" (defArgs s_law_right) (defBody s_law_right) (defScope s_law_right) .none kV_law_right dc_law_right pm_law_right an_law_right cd_law_right ct_law_right), sl_law_right⟩)
    (d_law_right : PySem.W.codeIn K cd_law_right "_law_right" = true)
    (k_law_right : PySem.W.keepIn K (.ref f_law_right) = true)
    (a_law_box : PySem.W.nsIn K mainGlobals "_law_box" = some (some (.ref f_law_box)))
    (l_law_box : K.lookup f_law_box = some ⟨oc_law_box, od_law_box, .func (PySem.W.fnOf "_law_box" "_law_box" (defArgs s_law_box) (defBody s_law_box) (defScope s_law_box) .none kV_law_box dc_law_box pm_law_box an_law_box cd_law_box ct_law_box), sl_law_box⟩)
    (d_law_box : PySem.W.codeIn K cd_law_box "_law_box" = true)
    (k_law_box : PySem.W.keepIn K (.ref f_law_box) = true)
    (a_law : PySem.W.nsIn K mainGlobals "law" = some (some (.ref f_law)))
    (l_law : K.lookup f_law = some ⟨oc_law, od_law, .func (PySem.W.fnOf "law" "law" (defArgs s_law) (defBody s_law) (defScope s_law) .none kV_law dc_law pm_law an_law cd_law ct_law), sl_law⟩)
    (d_law : PySem.W.codeIn K cd_law "law" = true)
    (k_law : PySem.W.keepIn K (.ref f_law) = true)
    (a_HeirError : PySem.W.nsIn K mainGlobals "HeirError" = some (some (.ref A_HeirError)))
    (a_BadRun : PySem.W.nsIn K mainGlobals "BadRun" = some (some (.ref A_BadRun)))
    (a_BadText : PySem.W.nsIn K mainGlobals "BadText" = some (some (.ref A_BadText)))
    (a_NoPlace : PySem.W.nsIn K mainGlobals "NoPlace" = some (some (.ref A_NoPlace)))
    (a_OtherThings : PySem.W.nsIn K mainGlobals "OtherThings" = some (some (.ref A_OtherThings)))
    (he : allErB K [A_HeirError, A_BadRun, A_BadText, A_NoPlace, A_OtherThings] = true)
    (xl_BadRun : K.lookup A_BadRun = some (excClassObj nm_BadRun q_BadRun A_BadRun N_BadRun bs_BadRun [.ref A_HeirError, .type "ValueError", .type "Exception", .type "BaseException", .type "object"] true sn_BadRun sub_BadRun ab_BadRun col_BadRun dd_BadRun m0_BadRun m1_BadRun m2_BadRun m3_BadRun m5_BadRun "ValueError.__new__"))
    (sa_BadRun : PySem.W.findIn K (.ref A_BadRun) "__setattr__" = some (some (.builtin "object.__setattr__")))
    (no_BadRun : PySem.W.findIn K (.ref A_BadRun) "place" = some none)
    (ii_BadRun : PySem.W.findIn K (.ref A_BadRun) "__init__" = some (some (.ref fi_BadRun)))
    (ti_BadRun : PySem.W.typeIn K (.ref fi_BadRun) = some (.type "function"))
    (li_BadRun : K.lookup fi_BadRun = some ⟨oci_BadRun, odi_BadRun, .func (PySem.W.fnOf "__init__" "BadRun.__init__" (defArgs si_BadRun) (defBody si_BadRun) (defScope si_BadRun) .none kVi_BadRun dci_BadRun pmi_BadRun ani_BadRun cdi_BadRun cti_BadRun), sli_BadRun⟩)
    (di_BadRun : PySem.W.codeIn K cdi_BadRun "BadRun.__init__" = true)
    (ki_BadRun : PySem.W.keepIn K (.ref fi_BadRun) = true)
    (xl_BadText : K.lookup A_BadText = some (excClassObj nm_BadText q_BadText A_BadText N_BadText bs_BadText [.ref A_HeirError, .type "ValueError", .type "Exception", .type "BaseException", .type "object"] true sn_BadText sub_BadText ab_BadText col_BadText dd_BadText m0_BadText m1_BadText m2_BadText m3_BadText m5_BadText "ValueError.__new__"))
    (sa_BadText : PySem.W.findIn K (.ref A_BadText) "__setattr__" = some (some (.builtin "object.__setattr__")))
    (no_BadText : PySem.W.findIn K (.ref A_BadText) "piece" = some none)
    (ii_BadText : PySem.W.findIn K (.ref A_BadText) "__init__" = some (some (.ref fi_BadText)))
    (ti_BadText : PySem.W.typeIn K (.ref fi_BadText) = some (.type "function"))
    (li_BadText : K.lookup fi_BadText = some ⟨oci_BadText, odi_BadText, .func (PySem.W.fnOf "__init__" "BadText.__init__" (defArgs si_BadText) (defBody si_BadText) (defScope si_BadText) .none kVi_BadText dci_BadText pmi_BadText ani_BadText cdi_BadText cti_BadText), sli_BadText⟩)
    (di_BadText : PySem.W.codeIn K cdi_BadText "BadText.__init__" = true)
    (ki_BadText : PySem.W.keepIn K (.ref fi_BadText) = true)
    (q_OtherThings : PySem.W.excIn K A_OtherThings [.type "ValueError", .type "Exception", .type "BaseException", .type "object"] "ValueError.__new__" = true)
    (t_ValueError : isTabB K [A_HeirError, A_BadRun, A_BadText, A_NoPlace, A_OtherThings] (.type "ValueError") tblL_ValueError = true)
    (v_OtherThings : isXB K [A_HeirError, A_BadRun, A_BadText, A_NoPlace, A_OtherThings] (.ref A_OtherThings) tblL_OtherThings = true)
    (gc_DIGITS : PySem.W.nsIn K mainGlobals "DIGITS" = some (some (.str "0123456789" tk_DIGITS)))
    (gc_NOTHING : PySem.W.nsIn K mainGlobals "NOTHING" = some (some (.str "-" tk_NOTHING)))
    (gc_RUN_SIGN : PySem.W.nsIn K mainGlobals "RUN_SIGN" = some (some (.str "; " tk_RUN_SIGN)))
    (a_Turns : PySem.W.nsIn K mainGlobals "Turns" = some (some (.ref A_Turns)))
    (opg : PySem.W.plainGet K A_Turns PySem.Str.empty = true)
    (ohd : PySem.W.hasDictIn K A_Turns = true)
    (opo : PySem.W.plainOver K A_Turns = true)
    (osa : PySem.W.findIn K (.ref A_Turns) "__setattr__" = some (some (.builtin "object.__setattr__")))
    (ona : PySem.W.findIn K (.ref A_Turns) "_runs" = some none)
    (omk : PySem.W.makesIn K A_Turns = true)
    (oin : PySem.W.findIn K (.ref A_Turns) "__init__" = some (some (.ref fi_O)))
    (ofn : PySem.W.isFn K (.ref fi_O) = true)
    (okc : PySem.W.keepIn K (.ref A_Turns) = true)
    (oli : K.lookup fi_O = some ⟨oci_O, odi_O, .func (PySem.W.fnOf "__init__" "Turns.__init__" (defArgs si_Turns) (defBody si_Turns) (defScope si_Turns) (.ref dT_O) kVi_O dci_O pmi_O ani_O cdi_O cti_O), sli_O⟩)
    (odi : PySem.W.codeIn K cdi_O "Turns.__init__" = true)
    (oki : PySem.W.keepIn K (.ref fi_O) = true)
    (oTl : K.lookup dT_O = some ⟨ocT_O, odT_O, .seq #[.ref eT_O] nT_O, slT_O⟩)
    (oEl : K.lookup eT_O = some ⟨.type "tuple", odE_O, .seq #[] nE_O, slE_O⟩)
    (osg : PySem.W.specialIn K (.ref A_Turns) "__getattribute__" = some (some (.builtin "type.__getattribute__")))
    (osy : PySem.W.typeIn K (.ref A_Turns) = some mc_O)
    (osr : PySem.W.readsIn K A_Turns mc_O = true)
    (pf_Turns_ends : PySem.W.findIn K (.ref A_Turns) "ends" = some (some (.ref pp_Turns_ends)))
    (pg_Turns_ends : PySem.W.specialIn K (.ref pp_Turns_ends) "__get__" = some (some (.builtin "property.__get__")))
    (pt_Turns_ends : PySem.W.takesIn K (.ref pp_Turns_ends) = some true)
    (pr_Turns_ends : PySem.W.recIn K pp_Turns_ends "property" = some (.ref f_Turns_ends :: rest_Turns_ends))
    (l_Turns_ends : K.lookup f_Turns_ends = some ⟨oc_Turns_ends, od_Turns_ends, .func (PySem.W.fnOf "ends" "Turns.ends" (defArgs s_Turns_ends) (defBody s_Turns_ends) (defScope s_Turns_ends) .none kV_Turns_ends dc_Turns_ends pm_Turns_ends an_Turns_ends cd_Turns_ends ct_Turns_ends), sl_Turns_ends⟩)
    (d_Turns_ends : PySem.W.codeIn K cd_Turns_ends "Turns.ends" = true)
    (k_Turns_ends : PySem.W.keepIn K (.ref f_Turns_ends) = true)
    (pf_Turns_hers : PySem.W.findIn K (.ref A_Turns) "hers" = some (some (.ref pp_Turns_hers)))
    (pg_Turns_hers : PySem.W.specialIn K (.ref pp_Turns_hers) "__get__" = some (some (.builtin "property.__get__")))
    (pt_Turns_hers : PySem.W.takesIn K (.ref pp_Turns_hers) = some true)
    (pr_Turns_hers : PySem.W.recIn K pp_Turns_hers "property" = some (.ref f_Turns_hers :: rest_Turns_hers))
    (l_Turns_hers : K.lookup f_Turns_hers = some ⟨oc_Turns_hers, od_Turns_hers, .func (PySem.W.fnOf "hers" "Turns.hers" (defArgs s_Turns_hers) (defBody s_Turns_hers) (defScope s_Turns_hers) .none kV_Turns_hers dc_Turns_hers pm_Turns_hers an_Turns_hers cd_Turns_hers ct_Turns_hers), sl_Turns_hers⟩)
    (d_Turns_hers : PySem.W.codeIn K cd_Turns_hers "Turns.hers" = true)
    (k_Turns_hers : PySem.W.keepIn K (.ref f_Turns_hers) = true)
    (sf_Turns_of : PySem.W.findCls K (.ref A_Turns) mc_O "of" = some (.get (.builtin "staticmethod.__get__") (.ref pp_Turns_of) .none (.ref A_Turns)))
    (sc_Turns_of : PySem.W.recIn K pp_Turns_of "staticmethod" = some (.ref f_Turns_of :: rest_Turns_of))
    (sh_Turns_of : PySem.W.handedIn (.ref f_Turns_of) = true)
    (l_Turns_of : K.lookup f_Turns_of = some ⟨oc_Turns_of, od_Turns_of, .func (PySem.W.fnOf "of" "Turns.of" (defArgs s_Turns_of) (defBody s_Turns_of) (defScope s_Turns_of) .none kV_Turns_of dc_Turns_of pm_Turns_of an_Turns_of cd_Turns_of ct_Turns_of), sl_Turns_of⟩)
    (d_Turns_of : PySem.W.codeIn K cd_Turns_of "Turns.of" = true)
    (k_Turns_of : PySem.W.keepIn K (.ref f_Turns_of) = true)
    (pf_Turns_runs : PySem.W.findIn K (.ref A_Turns) "runs" = some (some (.ref pp_Turns_runs)))
    (pg_Turns_runs : PySem.W.specialIn K (.ref pp_Turns_runs) "__get__" = some (some (.builtin "property.__get__")))
    (pt_Turns_runs : PySem.W.takesIn K (.ref pp_Turns_runs) = some true)
    (pr_Turns_runs : PySem.W.recIn K pp_Turns_runs "property" = some (.ref f_Turns_runs :: rest_Turns_runs))
    (l_Turns_runs : K.lookup f_Turns_runs = some ⟨oc_Turns_runs, od_Turns_runs, .func (PySem.W.fnOf "runs" "Turns.runs" (defArgs s_Turns_runs) (defBody s_Turns_runs) (defScope s_Turns_runs) .none kV_Turns_runs dc_Turns_runs pm_Turns_runs an_Turns_runs cd_Turns_runs ct_Turns_runs), sl_Turns_runs⟩)
    (d_Turns_runs : PySem.W.codeIn K cd_Turns_runs "Turns.runs" = true)
    (k_Turns_runs : PySem.W.keepIn K (.ref f_Turns_runs) = true)
    (pf_Turns_size : PySem.W.findIn K (.ref A_Turns) "size" = some (some (.ref pp_Turns_size)))
    (pg_Turns_size : PySem.W.specialIn K (.ref pp_Turns_size) "__get__" = some (some (.builtin "property.__get__")))
    (pt_Turns_size : PySem.W.takesIn K (.ref pp_Turns_size) = some true)
    (pr_Turns_size : PySem.W.recIn K pp_Turns_size "property" = some (.ref f_Turns_size :: rest_Turns_size))
    (l_Turns_size : K.lookup f_Turns_size = some ⟨oc_Turns_size, od_Turns_size, .func (PySem.W.fnOf "size" "Turns.size" (defArgs s_Turns_size) (defBody s_Turns_size) (defScope s_Turns_size) .none kV_Turns_size dc_Turns_size pm_Turns_size an_Turns_size cd_Turns_size ct_Turns_size), sl_Turns_size⟩)
    (d_Turns_size : PySem.W.codeIn K cd_Turns_size "Turns.size" = true)
    (k_Turns_size : PySem.W.keepIn K (.ref f_Turns_size) = true)
    (z_len : PySem.W.nsIn K mainGlobals "len" = some none)
    (z_int : PySem.W.nsIn K mainGlobals "int" = some none)
    (z_abs : PySem.W.nsIn K mainGlobals "abs" = some none)
    (z_list : PySem.W.nsIn K mainGlobals "list" = some none)
    (z_tuple : PySem.W.nsIn K mainGlobals "tuple" = some none)
    (z_range : PySem.W.nsIn K mainGlobals "range" = some none)
    (z_zip : PySem.W.nsIn K mainGlobals "zip" = some none)
    (z_enumerate : PySem.W.nsIn K mainGlobals "enumerate" = some none)
    (z_isinstance : PySem.W.nsIn K mainGlobals "isinstance" = some none)
    (z_str : PySem.W.nsIn K mainGlobals "str" = some none)
    (z_bool : PySem.W.nsIn K mainGlobals "bool" = some none)
    (z_all : PySem.W.nsIn K mainGlobals "all" = some none)
    (z_any : PySem.W.nsIn K mainGlobals "any" = some none)
    (z_sum : PySem.W.nsIn K mainGlobals "sum" = some none)
    (z_min : PySem.W.nsIn K mainGlobals "min" = some none)
    (z_max : PySem.W.nsIn K mainGlobals "max" = some none)
    (z_sorted : PySem.W.nsIn K mainGlobals "sorted" = some none)
    (z_reversed : PySem.W.nsIn K mainGlobals "reversed" = some none)
    (z_ValueError : PySem.W.nsIn K mainGlobals "ValueError" = some none)
    (z_LookupError : PySem.W.nsIn K mainGlobals "LookupError" = some none)
    (z_set : PySem.W.nsIn K mainGlobals "set" = some none)
    : ∃ fd : FuncData, (∀ (s : Shared) (v : Value), BindsTo s fd ⟨[v], []⟩ [("_law_script", v)]) ∧ ∀ base : Heap, K.In base → base.Ns mainGlobals mg → FnOk l.prog w K mg base (L2.CX l.prog w) 15 fa fd ["_law_script"] (spLaw K) := by
  have e := hfa.symm.trans (PySem.W.mg_of X G a_law)
  cases e
  refine ⟨PySem.W.fnOf "law" "law" (defArgs s_law) (defBody s_law) (defScope s_law) .none kV_law dc_law pm_law an_law cd_law ct_law, fun s v => .of_eq rfl, fun base _ _ => ?_⟩
  have Z : Bi mg := ⟨PySem.W.mg_none_of X G z_len, PySem.W.mg_none_of X G z_int, PySem.W.mg_none_of X G z_abs, PySem.W.mg_none_of X G z_list, PySem.W.mg_none_of X G z_tuple, PySem.W.mg_none_of X G z_range, PySem.W.mg_none_of X G z_zip, PySem.W.mg_none_of X G z_enumerate, PySem.W.mg_none_of X G z_isinstance, PySem.W.mg_none_of X G z_str, PySem.W.mg_none_of X G z_bool, PySem.W.mg_none_of X G z_all, PySem.W.mg_none_of X G z_any, PySem.W.mg_none_of X G z_sum, PySem.W.mg_none_of X G z_min, PySem.W.mg_none_of X G z_max, PySem.W.mg_none_of X G z_sorted, PySem.W.mg_none_of X G z_reversed, PySem.W.mg_none_of X G z_ValueError, PySem.W.mg_none_of X G z_LookupError, PySem.W.mg_none_of X G z_set⟩
  have FI_BadRun := fun_mk (st := si_BadRun) li_BadRun di_BadRun ki_BadRun
  have o_BadRun : OexC K A_BadRun := ⟨⟨_, _, _, _, _, _, _, _, _, _, _, _, _, _, _, xl_BadRun, rfl⟩, sa_BadRun, (allErB_ok (fl := [[], ["place"], ["piece"], ["number"], []]) he 1 (Nat.le_of_ble_eq_true rfl)).x.hs, (allErB_ok (fl := [[], ["place"], ["piece"], ["number"], []]) he 1 (Nat.le_of_ble_eq_true rfl)).tyC, (allErB_ok (fl := [[], ["place"], ["piece"], ["number"], []]) he 1 (Nat.le_of_ble_eq_true rfl)).kC⟩
  have I_BadRun : FnOk l.prog w K mg base CX0 1 fi_BadRun (PySem.W.fnOf "__init__" "BadRun.__init__" (defArgs si_BadRun) (defBody si_BadRun) (defScope si_BadRun) .none kVi_BadRun dci_BadRun pmi_BadRun ani_BadRun cdi_BadRun cti_BadRun) ["self", "place"] (spEr A_BadRun "place") := FI_BadRun.ok sci_BadRun er_len fun cdv A outer s H vs Q E hr h => ⟨_, pss_one (ps_ost (pv 0) (pv 1)), er_read o_BadRun no_BadRun h⟩
  have e_BadRun : Er1At l.prog w K mg base (tabOf ([A_HeirError, A_BadRun, A_BadText, A_NoPlace, A_OtherThings] ++ [A_Turns]) (([[], ["place"], ["piece"], ["number"], []] : List (List Str)) ++ ([["_runs"]] : List (List Str)))) "BadRun" "place" 1 := ⟨allErB_ok (fl := [[], ["place"], ["piece"], ["number"], []]) he 1 (Nat.le_of_ble_eq_true rfl), PySem.W.mg_of X G a_BadRun, rfl, o_BadRun, no_BadRun, _, _, ii_BadRun, ti_BadRun, I_BadRun, FI_BadRun.binds (ps := ["self", "place"]) (fun _ _ _ _ _ _ us hl => match us, hl with | [_, _], _ => rfl), fun s u v => .of_eq rfl⟩
  have FI_BadText := fun_mk (st := si_BadText) li_BadText di_BadText ki_BadText
  have o_BadText : OexC K A_BadText := ⟨⟨_, _, _, _, _, _, _, _, _, _, _, _, _, _, _, xl_BadText, rfl⟩, sa_BadText, (allErB_ok (fl := [[], ["place"], ["piece"], ["number"], []]) he 2 (Nat.le_of_ble_eq_true rfl)).x.hs, (allErB_ok (fl := [[], ["place"], ["piece"], ["number"], []]) he 2 (Nat.le_of_ble_eq_true rfl)).tyC, (allErB_ok (fl := [[], ["place"], ["piece"], ["number"], []]) he 2 (Nat.le_of_ble_eq_true rfl)).kC⟩
  have I_BadText : FnOk l.prog w K mg base CX0 1 fi_BadText (PySem.W.fnOf "__init__" "BadText.__init__" (defArgs si_BadText) (defBody si_BadText) (defScope si_BadText) .none kVi_BadText dci_BadText pmi_BadText ani_BadText cdi_BadText cti_BadText) ["self", "piece"] (spEr A_BadText "piece") := FI_BadText.ok sci_BadText er_len fun cdv A outer s H vs Q E hr h => ⟨_, pss_one (ps_ost (pv 0) (pv 1)), er_read o_BadText no_BadText h⟩
  have e_BadText : Er1At l.prog w K mg base (tabOf ([A_HeirError, A_BadRun, A_BadText, A_NoPlace, A_OtherThings] ++ [A_Turns]) (([[], ["place"], ["piece"], ["number"], []] : List (List Str)) ++ ([["_runs"]] : List (List Str)))) "BadText" "piece" 2 := ⟨allErB_ok (fl := [[], ["place"], ["piece"], ["number"], []]) he 2 (Nat.le_of_ble_eq_true rfl), PySem.W.mg_of X G a_BadText, rfl, o_BadText, no_BadText, _, _, ii_BadText, ti_BadText, I_BadText, FI_BadText.binds (ps := ["self", "piece"]) (fun _ _ _ _ _ _ us hl => match us, hl with | [_, _], _ => rfl), fun s u v => .of_eq rfl⟩
  have e_OtherThings : Er0At K mg (tabOf ([A_HeirError, A_BadRun, A_BadText, A_NoPlace, A_OtherThings] ++ [A_Turns]) (([[], ["place"], ["piece"], ["number"], []] : List (List Str)) ++ ([["_runs"]] : List (List Str)))) "OtherThings" 4 := ⟨allErB_ok (fl := [[], ["place"], ["piece"], ["number"], []]) he 4 (Nat.le_of_ble_eq_true rfl), PySem.W.mg_of X G a_OtherThings, rfl, q_OtherThings⟩
  have i_ValueError : IsTab K (tabOf ([A_HeirError, A_BadRun, A_BadText, A_NoPlace, A_OtherThings] ++ [A_Turns]) (([[], ["place"], ["piece"], ["number"], []] : List (List Str)) ++ ([["_runs"]] : List (List Str)))) 5 (.type "ValueError") tbl_ValueError := (isTabB_ok (fl := [[], ["place"], ["piece"], ["number"], []]) he t_ValueError).more
  have x_OtherThings : XAt K mg (tabOf ([A_HeirError, A_BadRun, A_BadText, A_NoPlace, A_OtherThings] ++ [A_Turns]) (([[], ["place"], ["piece"], ["number"], []] : List (List Str)) ++ ([["_runs"]] : List (List Str)))) 5 "OtherThings" tbl_OtherThings := ⟨A_OtherThings, PySem.W.mg_of X G a_OtherThings, (isXB_ok (fl := [[], ["place"], ["piece"], ["number"], []]) v_OtherThings).more⟩
  have g_DIGITS : CAt mg "DIGITS" "0123456789" := ⟨_, PySem.W.mg_of X G gc_DIGITS⟩
  have g_NOTHING : CAt mg "NOTHING" "-" := ⟨_, PySem.W.mg_of X G gc_NOTHING⟩
  have g_RUN_SIGN : CAt mg "RUN_SIGN" "; " := ⟨_, PySem.W.mg_of X G gc_RUN_SIGN⟩
  have cl_O : Cls K A_Turns := ⟨opg, ohd, opo, osa⟩
  have b_Turns : Ob1 K (tabOf ([A_HeirError, A_BadRun, A_BadText, A_NoPlace, A_OtherThings] ++ [A_Turns]) (([[], ["place"], ["piece"], ["number"], []] : List (List Str)) ++ ([["_runs"]] : List (List Str)))) "_runs" 5 := ⟨cl_O, ona, rfl⟩
  have F_law_cells := fun_mk (st := s_law_cells) l_law_cells d_law_cells k_law_cells
  have b_law_cells := F_law_cells.binds (ps := ["_law_script", "_law_top_so"]) fun _ _ _ _ _ _ us hl => match us, hl with | [_, _], _ => rfl
  have c_law_cells : DefAt l.prog w K mg base (tabOf ([A_HeirError, A_BadRun, A_BadText, A_NoPlace, A_OtherThings] ++ [A_Turns]) (([[], ["place"], ["piece"], ["number"], []] : List (List Str)) ++ ([["_runs"]] : List (List Str)))) "_law_cells" ["_law_script", "_law_top_so"] 2 1 LW.F_law_cells := .of (ok_law_cells Z F_law_cells) (PySem.W.mg_of X G a_law_cells) F_law_cells.kp b_law_cells
  have F_is_heir := fun_mk (st := s_is_heir) l_is_heir d_is_heir k_is_heir
  have b_is_heir := F_is_heir.binds (ps := ["thing"]) fun _ _ _ _ _ _ us hl => match us, hl with | [_], _ => rfl
  have c_is_heir : DefAt l.prog w K mg base (tabOf ([A_HeirError, A_BadRun, A_BadText, A_NoPlace, A_OtherThings] ++ [A_Turns]) (([[], ["place"], ["piece"], ["number"], []] : List (List Str)) ++ ([["_runs"]] : List (List Str)))) "is_heir" ["thing"] 1 1 LW.F_is_heir := .of (ok_is_heir Z F_is_heir) (PySem.W.mg_of X G a_is_heir) F_is_heir.kp b_is_heir
  have F_put_together := fun_mk (st := s_put_together) l_put_together d_put_together k_put_together
  have b_put_together := F_put_together.binds (ps := ["runs"]) fun _ _ _ _ _ _ us hl => match us, hl with | [_], _ => rfl
  have c_put_together : DefAt l.prog w K mg base (tabOf ([A_HeirError, A_BadRun, A_BadText, A_NoPlace, A_OtherThings] ++ [A_Turns]) (([[], ["place"], ["piece"], ["number"], []] : List (List Str)) ++ ([["_runs"]] : List (List Str)))) "_put_together" ["runs"] 1 3 LW.F_put_together := .of (ok_put_together Z c_is_heir e_BadRun F_put_together) (PySem.W.mg_of X G a_put_together) F_put_together.kp b_put_together
  have F_pieces := fun_mk (st := s_pieces) l_pieces d_pieces k_pieces
  have b_pieces := F_pieces.binds (ps := ["text", "sign"]) fun _ _ _ _ _ _ us hl => match us, hl with | [_, _], _ => rfl
  have c_pieces : DefAt l.prog w K mg base (tabOf ([A_HeirError, A_BadRun, A_BadText, A_NoPlace, A_OtherThings] ++ [A_Turns]) (([[], ["place"], ["piece"], ["number"], []] : List (List Str)) ++ ([["_runs"]] : List (List Str)))) "_pieces" ["text", "sign"] 2 1 LW.F_pieces := .of (ok_pieces Z g_NOTHING F_pieces) (PySem.W.mg_of X G a_pieces) F_pieces.kp b_pieces
  have F_is_many := fun_mk (st := s_is_many) l_is_many d_is_many k_is_many
  have b_is_many := F_is_many.binds (ps := ["digits"]) fun _ _ _ _ _ _ us hl => match us, hl with | [_], _ => rfl
  have c_is_many : DefAt l.prog w K mg base (tabOf ([A_HeirError, A_BadRun, A_BadText, A_NoPlace, A_OtherThings] ++ [A_Turns]) (([[], ["place"], ["piece"], ["number"], []] : List (List Str)) ++ ([["_runs"]] : List (List Str)))) "is_many" ["digits"] 1 1 LW.F_is_many := .of (ok_is_many Z g_DIGITS F_is_many) (PySem.W.mg_of X G a_is_many) F_is_many.kp b_is_many
  have F_runs_from := fun_mk (st := s_runs_from) l_runs_from d_runs_from k_runs_from
  have b_runs_from := F_runs_from.binds (ps := ["text"]) fun _ _ _ _ _ _ us hl => match us, hl with | [_], _ => rfl
  have c_runs_from : DefAt l.prog w K mg base (tabOf ([A_HeirError, A_BadRun, A_BadText, A_NoPlace, A_OtherThings] ++ [A_Turns]) (([[], ["place"], ["piece"], ["number"], []] : List (List Str)) ++ ([["_runs"]] : List (List Str)))) "runs_from" ["text"] 1 3 LW.F_runs_from := .of (ok_runs_from Z c_pieces c_is_heir c_is_many g_RUN_SIGN e_BadText F_runs_from) (PySem.W.mg_of X G a_runs_from) F_runs_from.kp b_runs_from
  have FD_O : FunD K "__init__" "Turns.__init__" (defArgs si_Turns) (defBody si_Turns) (defScope si_Turns) [V.ref eT_O] [] fi_O (PySem.W.fnOf "__init__" "Turns.__init__" (defArgs si_Turns) (defBody si_Turns) (defScope si_Turns) (.ref dT_O) kVi_O dci_O pmi_O ani_O cdi_O cti_O) := ⟨⟨_, _, _, _, _, _, _, _, _, _, rfl, oli, odi, .inr ⟨by simp, dT_O, _, [.ref eT_O], _, rfl, oTl, rfl, .cons rfl .nil⟩, .inl rfl⟩, oki⟩
  have I_O := ok_Turns_init (T := (tabOf ([A_HeirError, A_BadRun, A_BadText, A_NoPlace, A_OtherThings] ++ [A_Turns]) (([[], ["place"], ["piece"], ["number"], []] : List (List Str)) ++ ([["_runs"]] : List (List Str))))) Z c_put_together cl_O ona FD_O
  have B_O := ob_binds (K := K) (qual := "Turns.__init__") (p := "runs") (params := defArgs si_Turns) (body := defBody si_Turns) (scope := defScope si_Turns) (dT := dT_O) (ud := .ref eT_O) (kV := kVi_O) (doc := dci_O) (pm := pmi_O) (cdv := cdi_O) (ct := cti_O) (an := ani_O) oTl rfl (fun q u => ⟨_, rfl, rfl⟩) (fun q u => ⟨_, rfl, rfl⟩) (fun q => ⟨_, rfl, rfl⟩)
  have o_Turns : ObAt l.prog w K mg base (tabOf ([A_HeirError, A_BadRun, A_BadText, A_NoPlace, A_OtherThings] ++ [A_Turns]) (([[], ["place"], ["piece"], ["number"], []] : List (List Str)) ++ ([["_runs"]] : List (List Str)))) "Turns" "_runs" "runs" 5 4 LW.F_Turns_init (.tu []) := ⟨b_Turns, PySem.W.mg_of X G a_Turns, fi_O, _, V.ref eT_O, .ref eT_O, ⟨omk, oin, ofn, okc⟩, I_O, rfl, rep_nil oEl rfl rfl, B_O.1, B_O.2.1, B_O.2.2⟩
  have F_Turns_of := fun_mk (st := s_Turns_of) l_Turns_of d_Turns_of k_Turns_of
  have b_Turns_of := F_Turns_of.binds (ps := [("text" : Str)]) fun _ _ _ _ _ _ us hl => match us, hl with | [_], _ => rfl
  have t_of : StatAt l.prog w K mg base (tabOf ([A_HeirError, A_BadRun, A_BadText, A_NoPlace, A_OtherThings] ++ [A_Turns]) (([[], ["place"], ["piece"], ["number"], []] : List (List Str)) ++ ([["_runs"]] : List (List Str)))) "Turns" "of" [("text" : Str)] 1 6 LW.F_Turns_of := ⟨A_Turns, pp_Turns_of, f_Turns_of, mc_O, rest_Turns_of, _, PySem.W.mg_of X G a_Turns, osg, osy, osr, sf_Turns_of, sc_Turns_of, sh_Turns_of, (ok_Turns_of Z c_runs_from o_Turns F_Turns_of), k_Turns_of, b_Turns_of⟩
  have F_turns_of := fun_mk (st := s_turns_of) l_turns_of d_turns_of k_turns_of
  have b_turns_of := F_turns_of.binds (ps := ["heirs_told"]) fun _ _ _ _ _ _ us hl => match us, hl with | [_], _ => rfl
  have c_turns_of : DefAt l.prog w K mg base (tabOf ([A_HeirError, A_BadRun, A_BadText, A_NoPlace, A_OtherThings] ++ [A_Turns]) (([[], ["place"], ["piece"], ["number"], []] : List (List Str)) ++ ([["_runs"]] : List (List Str)))) "turns_of" ["heirs_told"] 1 6 LW.F_turns_of := .of (ok_turns_of Z o_Turns F_turns_of) (PySem.W.mg_of X G a_turns_of) F_turns_of.kp b_turns_of
  have F_Turns_size := fun_mk (st := s_Turns_size) l_Turns_size d_Turns_size k_Turns_size
  have b_Turns_size := F_Turns_size.binds (ps := [("self" : Str)]) fun _ _ _ _ _ _ us hl => match us, hl with | [_], _ => rfl
  have p_size : PropAt l.prog w K mg base (tabOf ([A_HeirError, A_BadRun, A_BadText, A_NoPlace, A_OtherThings] ++ [A_Turns]) (([[], ["place"], ["piece"], ["number"], []] : List (List Str)) ++ ([["_runs"]] : List (List Str)))) 5 "size" 1 LW.F_Turns_size := ⟨cl_O, pp_Turns_size, f_Turns_size, _, ⟨pf_Turns_size, pg_Turns_size, pt_Turns_size, _, pr_Turns_size⟩, (ok_Turns_size Z b_Turns F_Turns_size), b_Turns_size⟩
  have F_check_size := fun_mk (st := s_check_size) l_check_size d_check_size k_check_size
  have b_check_size := F_check_size.binds (ps := ["one", "other"]) fun _ _ _ _ _ _ us hl => match us, hl with | [_, _], _ => rfl
  have c_check_size : DefAt l.prog w K mg base (tabOf ([A_HeirError, A_BadRun, A_BadText, A_NoPlace, A_OtherThings] ++ [A_Turns]) (([[], ["place"], ["piece"], ["number"], []] : List (List Str)) ++ ([["_runs"]] : List (List Str)))) "check_size" ["one", "other"] 2 3 LW.F_check_size := .of (ok_check_size Z e_OtherThings p_size F_check_size) (PySem.W.mg_of X G a_check_size) F_check_size.kp b_check_size
  have F_Turns_ends := fun_mk (st := s_Turns_ends) l_Turns_ends d_Turns_ends k_Turns_ends
  have b_Turns_ends := F_Turns_ends.binds (ps := [("self" : Str)]) fun _ _ _ _ _ _ us hl => match us, hl with | [_], _ => rfl
  have p_ends : PropAt l.prog w K mg base (tabOf ([A_HeirError, A_BadRun, A_BadText, A_NoPlace, A_OtherThings] ++ [A_Turns]) (([[], ["place"], ["piece"], ["number"], []] : List (List Str)) ++ ([["_runs"]] : List (List Str)))) 5 "ends" 1 LW.F_Turns_ends := ⟨cl_O, pp_Turns_ends, f_Turns_ends, _, ⟨pf_Turns_ends, pg_Turns_ends, pt_Turns_ends, _, pr_Turns_ends⟩, (ok_Turns_ends Z b_Turns F_Turns_ends), b_Turns_ends⟩
  have F_corners := fun_mk (st := s_corners) l_corners d_corners k_corners
  have b_corners := F_corners.binds (ps := ["one", "other"]) fun _ _ _ _ _ _ us hl => match us, hl with | [_, _], _ => rfl
  have c_corners : DefAt l.prog w K mg base (tabOf ([A_HeirError, A_BadRun, A_BadText, A_NoPlace, A_OtherThings] ++ [A_Turns]) (([[], ["place"], ["piece"], ["number"], []] : List (List Str)) ++ ([["_runs"]] : List (List Str)))) "corners" ["one", "other"] 2 3 LW.F_corners := .of (ok_corners Z p_ends F_corners) (PySem.W.mg_of X G a_corners) F_corners.kp b_corners
  have F_Turns_hers := fun_mk (st := s_Turns_hers) l_Turns_hers d_Turns_hers k_Turns_hers
  have b_Turns_hers := F_Turns_hers.binds (ps := [("self" : Str)]) fun _ _ _ _ _ _ us hl => match us, hl with | [_], _ => rfl
  have p_hers : PropAt l.prog w K mg base (tabOf ([A_HeirError, A_BadRun, A_BadText, A_NoPlace, A_OtherThings] ++ [A_Turns]) (([[], ["place"], ["piece"], ["number"], []] : List (List Str)) ++ ([["_runs"]] : List (List Str)))) 5 "hers" 1 LW.F_Turns_hers := ⟨cl_O, pp_Turns_hers, f_Turns_hers, _, ⟨pf_Turns_hers, pg_Turns_hers, pt_Turns_hers, _, pr_Turns_hers⟩, (ok_Turns_hers Z b_Turns F_Turns_hers), b_Turns_hers⟩
  have F_Turns_runs := fun_mk (st := s_Turns_runs) l_Turns_runs d_Turns_runs k_Turns_runs
  have b_Turns_runs := F_Turns_runs.binds (ps := [("self" : Str)]) fun _ _ _ _ _ _ us hl => match us, hl with | [_], _ => rfl
  have p_runs : PropAt l.prog w K mg base (tabOf ([A_HeirError, A_BadRun, A_BadText, A_NoPlace, A_OtherThings] ++ [A_Turns]) (([[], ["place"], ["piece"], ["number"], []] : List (List Str)) ++ ([["_runs"]] : List (List Str)))) 5 "runs" 1 LW.F_Turns_runs := ⟨cl_O, pp_Turns_runs, f_Turns_runs, _, ⟨pf_Turns_runs, pg_Turns_runs, pt_Turns_runs, _, pr_Turns_runs⟩, (ok_Turns_runs Z b_Turns F_Turns_runs), b_Turns_runs⟩
  have F_first_part := fun_mk (st := s_first_part) l_first_part d_first_part k_first_part
  have b_first_part := F_first_part.binds (ps := ["turns", "number"]) fun _ _ _ _ _ _ us hl => match us, hl with | [_, _], _ => rfl
  have c_first_part : DefAt l.prog w K mg base (tabOf ([A_HeirError, A_BadRun, A_BadText, A_NoPlace, A_OtherThings] ++ [A_Turns]) (([[], ["place"], ["piece"], ["number"], []] : List (List Str)) ++ ([["_runs"]] : List (List Str)))) "first_part" ["turns", "number"] 2 6 LW.F_first_part := .of (ok_first_part Z o_Turns p_runs F_first_part) (PySem.W.mg_of X G a_first_part) F_first_part.kp b_first_part
  have F_ahead := fun_mk (st := s_ahead) l_ahead d_ahead k_ahead
  have b_ahead := F_ahead.binds (ps := ["turns", "number"]) fun _ _ _ _ _ _ us hl => match us, hl with | [_, _], _ => rfl
  have c_ahead : DefAt l.prog w K mg base (tabOf ([A_HeirError, A_BadRun, A_BadText, A_NoPlace, A_OtherThings] ++ [A_Turns]) (([[], ["place"], ["piece"], ["number"], []] : List (List Str)) ++ ([["_runs"]] : List (List Str)))) "ahead" ["turns", "number"] 2 7 LW.F_ahead := .of (ok_ahead Z c_first_part p_hers F_ahead) (PySem.W.mg_of X G a_ahead) F_ahead.kp b_ahead
  have F_against := fun_mk (st := s_against) l_against d_against k_against
  have b_against := F_against.binds (ps := ["one", "other"]) fun _ _ _ _ _ _ us hl => match us, hl with | [_, _], _ => rfl
  have c_against : DefAt l.prog w K mg base (tabOf ([A_HeirError, A_BadRun, A_BadText, A_NoPlace, A_OtherThings] ++ [A_Turns]) (([[], ["place"], ["piece"], ["number"], []] : List (List Str)) ++ ([["_runs"]] : List (List Str)))) "against" ["one", "other"] 2 8 LW.F_against := .of (ok_against Z c_check_size c_corners c_ahead F_against) (PySem.W.mg_of X G a_against) F_against.kp b_against
  have F_never_worse := fun_mk (st := s_never_worse) l_never_worse d_never_worse k_never_worse
  have b_never_worse := F_never_worse.binds (ps := ["one", "other"]) fun _ _ _ _ _ _ us hl => match us, hl with | [_, _], _ => rfl
  have c_never_worse : DefAt l.prog w K mg base (tabOf ([A_HeirError, A_BadRun, A_BadText, A_NoPlace, A_OtherThings] ++ [A_Turns]) (([[], ["place"], ["piece"], ["number"], []] : List (List Str)) ++ ([["_runs"]] : List (List Str)))) "never_worse" ["one", "other"] 2 9 LW.F_never_worse := .of (ok_never_worse Z c_against F_never_worse) (PySem.W.mg_of X G a_never_worse) F_never_worse.kp b_never_worse
  have F_is_above := fun_mk (st := s_is_above) l_is_above d_is_above k_is_above
  have b_is_above := F_is_above.binds (ps := ["one", "other"]) fun _ _ _ _ _ _ us hl => match us, hl with | [_, _], _ => rfl
  have c_is_above : DefAt l.prog w K mg base (tabOf ([A_HeirError, A_BadRun, A_BadText, A_NoPlace, A_OtherThings] ++ [A_Turns]) (([[], ["place"], ["piece"], ["number"], []] : List (List Str)) ++ ([["_runs"]] : List (List Str)))) "is_above" ["one", "other"] 2 10 LW.F_is_above := .of (ok_is_above Z c_never_worse F_is_above) (PySem.W.mg_of X G a_is_above) F_is_above.kp b_is_above
  have ck_is_above_other_one : DefAtK l.prog w K mg base (tabOf ([A_HeirError, A_BadRun, A_BadText, A_NoPlace, A_OtherThings] ++ [A_Turns]) (([[], ["place"], ["piece"], ["number"], []] : List (List Str)) ++ ([["_runs"]] : List (List Str)))) "is_above" ["one", "other"] ["other", "one"] 0 [1, 0] 2 10 LW.F_is_above := .of (ok_is_above Z c_never_worse F_is_above) (PySem.W.mg_of X G a_is_above) F_is_above.kp (fun s us ws hu hw => match us, ws, hu, hw with | [], [z0, z1], _, _ => .of_eq rfl) (by decide)
  have F_is_between := fun_mk (st := s_is_between) l_is_between d_is_between k_is_between
  have b_is_between := F_is_between.binds (ps := ["one", "other", "third"]) fun _ _ _ _ _ _ us hl => match us, hl with | [_, _, _], _ => rfl
  have c_is_between : DefAt l.prog w K mg base (tabOf ([A_HeirError, A_BadRun, A_BadText, A_NoPlace, A_OtherThings] ++ [A_Turns]) (([[], ["place"], ["piece"], ["number"], []] : List (List Str)) ++ ([["_runs"]] : List (List Str)))) "is_between" ["one", "other", "third"] 3 11 LW.F_is_between := .of (ok_is_between Z c_check_size c_is_above F_is_between) (PySem.W.mg_of X G a_is_between) F_is_between.kp b_is_between
  have ck_is_between_third_other_one : DefAtK l.prog w K mg base (tabOf ([A_HeirError, A_BadRun, A_BadText, A_NoPlace, A_OtherThings] ++ [A_Turns]) (([[], ["place"], ["piece"], ["number"], []] : List (List Str)) ++ ([["_runs"]] : List (List Str)))) "is_between" ["one", "other", "third"] ["third", "other", "one"] 0 [2, 1, 0] 3 11 LW.F_is_between := .of (ok_is_between Z c_check_size c_is_above F_is_between) (PySem.W.mg_of X G a_is_between) F_is_between.kp (fun s us ws hu hw => match us, ws, hu, hw with | [], [z0, z1, z2], _, _ => .of_eq rfl) (by decide)
  have F_law_asked := fun_mk (st := s_law_asked) l_law_asked d_law_asked k_law_asked
  have b_law_asked := F_law_asked.binds (ps := ["_law_one_so", "_law_other_so", "_law_third_so"]) fun _ _ _ _ _ _ us hl => match us, hl with | [_, _, _], _ => rfl
  have c_law_asked : DefAt l.prog w K mg base (tabOf ([A_HeirError, A_BadRun, A_BadText, A_NoPlace, A_OtherThings] ++ [A_Turns]) (([[], ["place"], ["piece"], ["number"], []] : List (List Str)) ++ ([["_runs"]] : List (List Str)))) "_law_asked" ["_law_one_so", "_law_other_so", "_law_third_so"] 3 12 LW.F_law_asked := .of (ok_law_asked Z c_is_above c_is_between i_ValueError x_OtherThings F_law_asked) (PySem.W.mg_of X G a_law_asked) F_law_asked.kp b_law_asked
  have F_places_sum := fun_mk (st := s_places_sum) l_places_sum d_places_sum k_places_sum
  have b_places_sum := F_places_sum.binds (ps := ["turns", "who"]) fun _ _ _ _ _ _ us hl => match us, hl with | [_, _], _ => rfl
  have c_places_sum : DefAt l.prog w K mg base (tabOf ([A_HeirError, A_BadRun, A_BadText, A_NoPlace, A_OtherThings] ++ [A_Turns]) (([[], ["place"], ["piece"], ["number"], []] : List (List Str)) ++ ([["_runs"]] : List (List Str)))) "places_sum" ["turns", "who"] 2 3 LW.F_places_sum := .of (ok_places_sum Z p_runs F_places_sum) (PySem.W.mg_of X G a_places_sum) F_places_sum.kp b_places_sum
  have F_height := fun_mk (st := s_height) l_height d_height k_height
  have b_height := F_height.binds (ps := ["turns"]) fun _ _ _ _ _ _ us hl => match us, hl with | [_], _ => rfl
  have c_height : DefAt l.prog w K mg base (tabOf ([A_HeirError, A_BadRun, A_BadText, A_NoPlace, A_OtherThings] ++ [A_Turns]) (([[], ["place"], ["piece"], ["number"], []] : List (List Str)) ++ ([["_runs"]] : List (List Str)))) "height" ["turns"] 1 4 LW.F_height := .of (ok_height Z c_places_sum p_hers p_size F_height) (PySem.W.mg_of X G a_height) F_height.kp b_height
  have ck_height_turns : DefAtK l.prog w K mg base (tabOf ([A_HeirError, A_BadRun, A_BadText, A_NoPlace, A_OtherThings] ++ [A_Turns]) (([[], ["place"], ["piece"], ["number"], []] : List (List Str)) ++ ([["_runs"]] : List (List Str)))) "height" ["turns"] ["turns"] 0 [0] 1 4 LW.F_height := .of (ok_height Z c_places_sum p_hers p_size F_height) (PySem.W.mg_of X G a_height) F_height.kp (fun s us ws hu hw => match us, ws, hu, hw with | [], [z0], _, _ => .of_eq rfl) (by decide)
  have F_law_same := fun_mk (st := s_law_same) l_law_same d_law_same k_law_same
  have b_law_same := F_law_same.binds (ps := ["_law_got", "_law_due"]) fun _ _ _ _ _ _ us hl => match us, hl with | [_, _], _ => rfl
  have c_law_same : DefAt l.prog w K mg base (tabOf ([A_HeirError, A_BadRun, A_BadText, A_NoPlace, A_OtherThings] ++ [A_Turns]) (([[], ["place"], ["piece"], ["number"], []] : List (List Str)) ++ ([["_runs"]] : List (List Str)))) "_law_same" ["_law_got", "_law_due"] 2 9 (LW.F_law_same 8) := .of (ok_law_same Z F_law_same b_law_same (PySem.W.mg_of X G a_law_same) 8) (PySem.W.mg_of X G a_law_same) F_law_same.kp b_law_same
  have F_law_great_ones_right := fun_mk (st := s_law_great_ones_right) l_law_great_ones_right d_law_great_ones_right k_law_great_ones_right
  have b_law_great_ones_right := F_law_great_ones_right.binds (ps := ["_law_one_so"]) fun _ _ _ _ _ _ us hl => match us, hl with | [_], _ => rfl
  have c_law_great_ones_right : DefAt l.prog w K mg base (tabOf ([A_HeirError, A_BadRun, A_BadText, A_NoPlace, A_OtherThings] ++ [A_Turns]) (([[], ["place"], ["piece"], ["number"], []] : List (List Str)) ++ ([["_runs"]] : List (List Str)))) "_law_great_ones_right" ["_law_one_so"] 1 12 LW.F_law_great_ones_right := .of (ok_law_great_ones_right Z c_height c_is_above c_is_between c_law_same ck_height_turns ck_is_above_other_one ck_is_between_third_other_one o_Turns F_law_great_ones_right) (PySem.W.mg_of X G a_law_great_ones_right) F_law_great_ones_right.kp b_law_great_ones_right
  have F_law_by_hand_right := fun_mk (st := s_law_by_hand_right) l_law_by_hand_right d_law_by_hand_right k_law_by_hand_right
  have b_law_by_hand_right := F_law_by_hand_right.binds (ps := []) fun _ _ _ _ _ _ us hl => match us, hl with | [], _ => rfl
  have c_law_by_hand_right : DefAt l.prog w K mg base (tabOf ([A_HeirError, A_BadRun, A_BadText, A_NoPlace, A_OtherThings] ++ [A_Turns]) (([[], ["place"], ["piece"], ["number"], []] : List (List Str)) ++ ([["_runs"]] : List (List Str)))) "_law_by_hand_right" [] 0 13 LW.F_law_by_hand_right := .of (ok_law_by_hand_right Z c_turns_of c_law_asked c_height c_law_same c_law_great_ones_right o_Turns t_of F_law_by_hand_right) (PySem.W.mg_of X G a_law_by_hand_right) F_law_by_hand_right.kp b_law_by_hand_right
  have F_law_take := fun_mk (st := s_law_take) l_law_take d_law_take k_law_take
  have b_law_take := F_law_take.binds (ps := ["_law_box_here", "_law_size_so"]) fun _ _ _ _ _ _ us hl => match us, hl with | [_, _], _ => rfl
  have c_law_take : DefAt l.prog w K mg base (tabOf ([A_HeirError, A_BadRun, A_BadText, A_NoPlace, A_OtherThings] ++ [A_Turns]) (([[], ["place"], ["piece"], ["number"], []] : List (List Str)) ++ ([["_runs"]] : List (List Str)))) "_law_take" ["_law_box_here", "_law_size_so"] 2 1 LW.F_law_take := .of (ok_law_take Z F_law_take) (PySem.W.mg_of X G a_law_take) F_law_take.kp b_law_take
  have F_law_of := fun_mk (st := s_law_of) l_law_of d_law_of k_law_of
  have b_law_of := F_law_of.binds (ps := ["_law_box_here", "_law_goods_so"]) fun _ _ _ _ _ _ us hl => match us, hl with | [_, _], _ => rfl
  have c_law_of : DefAt l.prog w K mg base (tabOf ([A_HeirError, A_BadRun, A_BadText, A_NoPlace, A_OtherThings] ++ [A_Turns]) (([[], ["place"], ["piece"], ["number"], []] : List (List Str)) ++ ([["_runs"]] : List (List Str)))) "_law_of" ["_law_box_here", "_law_goods_so"] 2 2 LW.F_law_of := .of (ok_law_of Z c_law_take F_law_of) (PySem.W.mg_of X G a_law_of) F_law_of.kp b_law_of
  have F_law_word := fun_mk (st := s_law_word) l_law_word d_law_word k_law_word
  have b_law_word := F_law_word.binds (ps := ["_law_box_here", "_law_size_so"]) fun _ _ _ _ _ _ us hl => match us, hl with | [_, _], _ => rfl
  have c_law_word : DefAt l.prog w K mg base (tabOf ([A_HeirError, A_BadRun, A_BadText, A_NoPlace, A_OtherThings] ++ [A_Turns]) (([[], ["place"], ["piece"], ["number"], []] : List (List Str)) ++ ([["_runs"]] : List (List Str)))) "_law_word" ["_law_box_here", "_law_size_so"] 2 3 LW.F_law_word := .of (ok_law_word Z c_law_of F_law_word) (PySem.W.mg_of X G a_law_word) F_law_word.kp b_law_word
  have F_law_near := fun_mk (st := s_law_near) l_law_near d_law_near k_law_near
  have b_law_near := F_law_near.binds (ps := ["_law_box_here", "_law_flat_so"]) fun _ _ _ _ _ _ us hl => match us, hl with | [_, _], _ => rfl
  have c_law_near : DefAt l.prog w K mg base (tabOf ([A_HeirError, A_BadRun, A_BadText, A_NoPlace, A_OtherThings] ++ [A_Turns]) (([[], ["place"], ["piece"], ["number"], []] : List (List Str)) ++ ([["_runs"]] : List (List Str)))) "_law_near" ["_law_box_here", "_law_flat_so"] 2 3 LW.F_law_near := .of (ok_law_near Z c_law_take c_law_of F_law_near) (PySem.W.mg_of X G a_law_near) F_law_near.kp b_law_near
  have F_law_sums := fun_mk (st := s_law_sums) l_law_sums d_law_sums k_law_sums
  have b_law_sums := F_law_sums.binds (ps := ["_law_flat_so"]) fun _ _ _ _ _ _ us hl => match us, hl with | [_], _ => rfl
  have c_law_sums : DefAt l.prog w K mg base (tabOf ([A_HeirError, A_BadRun, A_BadText, A_NoPlace, A_OtherThings] ++ [A_Turns]) (([[], ["place"], ["piece"], ["number"], []] : List (List Str)) ++ ([["_runs"]] : List (List Str)))) "_law_sums" ["_law_flat_so"] 1 1 LW.F_law_sums := .of (ok_law_sums Z F_law_sums) (PySem.W.mg_of X G a_law_sums) F_law_sums.kp b_law_sums
  have F_law_over := fun_mk (st := s_law_over) l_law_over d_law_over k_law_over
  have b_law_over := F_law_over.binds (ps := ["_law_mine_so", "_law_its_so"]) fun _ _ _ _ _ _ us hl => match us, hl with | [_, _], _ => rfl
  have c_law_over : DefAt l.prog w K mg base (tabOf ([A_HeirError, A_BadRun, A_BadText, A_NoPlace, A_OtherThings] ++ [A_Turns]) (([[], ["place"], ["piece"], ["number"], []] : List (List Str)) ++ ([["_runs"]] : List (List Str)))) "_law_over" ["_law_mine_so", "_law_its_so"] 2 2 LW.F_law_over := .of (ok_law_over Z c_law_sums F_law_over) (PySem.W.mg_of X G a_law_over) F_law_over.kp b_law_over
  have F_law_case_right := fun_mk (st := s_law_case_right) l_law_case_right d_law_case_right k_law_case_right
  have b_law_case_right := F_law_case_right.binds (ps := ["_law_box_here", "_law_flat_so", "_law_its_so", "_law_far_so"]) fun _ _ _ _ _ _ us hl => match us, hl with | [_, _, _, _], _ => rfl
  have c_law_case_right : DefAt l.prog w K mg base (tabOf ([A_HeirError, A_BadRun, A_BadText, A_NoPlace, A_OtherThings] ++ [A_Turns]) (([[], ["place"], ["piece"], ["number"], []] : List (List Str)) ++ ([["_runs"]] : List (List Str)))) "_law_case_right" ["_law_box_here", "_law_flat_so", "_law_its_so", "_law_far_so"] 4 13 LW.F_law_case_right := .of (ok_law_case_right Z c_turns_of c_is_between c_is_above c_height c_law_over c_law_sums c_law_same c_law_asked F_law_case_right) (PySem.W.mg_of X G a_law_case_right) F_law_case_right.kp b_law_case_right
  have F_law_much := fun_mk (st := s_law_much) l_law_much d_law_much k_law_much
  have b_law_much := F_law_much.binds (ps := ["_law_box_here", "_law_high_so"]) fun _ _ _ _ _ _ us hl => match us, hl with | [_, _], _ => rfl
  have c_law_much : DefAt l.prog w K mg base (tabOf ([A_HeirError, A_BadRun, A_BadText, A_NoPlace, A_OtherThings] ++ [A_Turns]) (([[], ["place"], ["piece"], ["number"], []] : List (List Str)) ++ ([["_runs"]] : List (List Str)))) "_law_much" ["_law_box_here", "_law_high_so"] 2 2 LW.F_law_much := .of (ok_law_much Z c_law_take F_law_much) (PySem.W.mg_of X G a_law_much) F_law_much.kp b_law_much
  have F_law_bits := fun_mk (st := s_law_bits) l_law_bits d_law_bits k_law_bits
  have b_law_bits := F_law_bits.binds (ps := ["_law_box_here", "_law_most_so", "_law_high_so"]) fun _ _ _ _ _ _ us hl => match us, hl with | [_, _, _], _ => rfl
  have c_law_bits : DefAt l.prog w K mg base (tabOf ([A_HeirError, A_BadRun, A_BadText, A_NoPlace, A_OtherThings] ++ [A_Turns]) (([[], ["place"], ["piece"], ["number"], []] : List (List Str)) ++ ([["_runs"]] : List (List Str)))) "_law_bits" ["_law_box_here", "_law_most_so", "_law_high_so"] 3 3 LW.F_law_bits := .of (ok_law_bits Z c_law_take c_law_much c_law_of F_law_bits) (PySem.W.mg_of X G a_law_bits) F_law_bits.kp b_law_bits
  have F_law_pick := fun_mk (st := s_law_pick) l_law_pick d_law_pick k_law_pick
  have b_law_pick := F_law_pick.binds (ps := ["_law_box_here", "_law_goods_so", "_law_count_so"]) fun _ _ _ _ _ _ us hl => match us, hl with | [_, _, _], _ => rfl
  have c_law_pick : DefAt l.prog w K mg base (tabOf ([A_HeirError, A_BadRun, A_BadText, A_NoPlace, A_OtherThings] ++ [A_Turns]) (([[], ["place"], ["piece"], ["number"], []] : List (List Str)) ++ ([["_runs"]] : List (List Str)))) "_law_pick" ["_law_box_here", "_law_goods_so", "_law_count_so"] 3 2 LW.F_law_pick := .of (ok_law_pick Z c_law_take F_law_pick) (PySem.W.mg_of X G a_law_pick) F_law_pick.kp b_law_pick
  have F_law_great_right := fun_mk (st := s_law_great_right) l_law_great_right d_law_great_right k_law_great_right
  have b_law_great_right := F_law_great_right.binds (ps := ["_law_box_here"]) fun _ _ _ _ _ _ us hl => match us, hl with | [_], _ => rfl
  have c_law_great_right : DefAt l.prog w K mg base (tabOf ([A_HeirError, A_BadRun, A_BadText, A_NoPlace, A_OtherThings] ++ [A_Turns]) (([[], ["place"], ["piece"], ["number"], []] : List (List Str)) ++ ([["_runs"]] : List (List Str)))) "_law_great_right" ["_law_box_here"] 1 11 LW.F_law_great_right := .of (ok_law_great_right Z c_law_bits c_law_pick c_ahead c_is_above c_height c_law_same o_Turns p_ends F_law_great_right) (PySem.W.mg_of X G a_law_great_right) F_law_great_right.kp b_law_great_right
  have F_law_right := fun_mk (st := s_law_right) l_law_right d_law_right k_law_right
  have b_law_right := F_law_right.binds (ps := ["_law_box_here"]) fun _ _ _ _ _ _ us hl => match us, hl with | [_], _ => rfl
  have c_law_right : DefAt l.prog w K mg base (tabOf ([A_HeirError, A_BadRun, A_BadText, A_NoPlace, A_OtherThings] ++ [A_Turns]) (([[], ["place"], ["piece"], ["number"], []] : List (List Str)) ++ ([["_runs"]] : List (List Str)))) "_law_right" ["_law_box_here"] 1 14 LW.F_law_right := .of (ok_law_right Z c_law_take c_law_word c_law_near c_law_case_right c_law_great_right F_law_right) (PySem.W.mg_of X G a_law_right) F_law_right.kp b_law_right
  have F_law_box := fun_mk (st := s_law_box) l_law_box d_law_box k_law_box
  have b_law_box := F_law_box.binds (ps := ["_law_script", "_law_k"]) fun _ _ _ _ _ _ us hl => match us, hl with | [_, _], _ => rfl
  have c_law_box : DefAt l.prog w K mg base (tabOf ([A_HeirError, A_BadRun, A_BadText, A_NoPlace, A_OtherThings] ++ [A_Turns]) (([[], ["place"], ["piece"], ["number"], []] : List (List Str)) ++ ([["_runs"]] : List (List Str)))) "_law_box" ["_law_script", "_law_k"] 2 1 LW.F_law_box := .of (ok_law_box Z F_law_box) (PySem.W.mg_of X G a_law_box) F_law_box.kp b_law_box
  have F_law := fun_mk (st := s_law) l_law d_law k_law
  exact law_ok (ok_law (T := (tabOf ([A_HeirError, A_BadRun, A_BadText, A_NoPlace, A_OtherThings] ++ [A_Turns]) (([[], ["place"], ["piece"], ["number"], []] : List (List Str)) ++ ([["_runs"]] : List (List Str))))) Z c_law_cells c_law_by_hand_right c_law_right c_law_box F_law) fun ns _ => LW.law_true ns
end LW

set_option maxHeartbeats 4000000
open PySem PySem.W PyProof.Rows
set_option maxHeartbeats 0 in
theorem PySem.Challenge.cw_heirturns_k12_which_turns_stand_above_wh_holds : PySem.Challenge.rw_heirturns_k12_which_turns_stand_above_wh.Holds := by
  w_on; o_law; k_head; (case hw => w_witness2)
  k_fill
  refine L2.walk_of (l := PySem.Challenge.rw_heirturns_k12_which_turns_stand_above_wh) (n := 63) (k := 15) (x := "_law_script") (CX := fun w => L2.CX PySem.Challenge.rw_heirturns_k12_which_turns_stand_above_wh.prog w) (sp := fun w => DL.spLaw _) rfl (by decide) rfl ⟨rfl, by decide, by decide⟩ (fun w h Y => PySem.W.kIn_of Y) ?F (fun _ _ a ns hl _ hS => ⟨a, ns, rfl, hS, hl, fun _ => rfl⟩) (fun (_ : World) (_ : L2.Hp) (_ : Shared) (_ : Value) (_ : Shared) h => by obtain ⟨_, _, _, _, _, _, _, _, _, _, _, _, h⟩ := h; exact h)
  case F =>
    intro w mg fa h KX G hmg
    refine' LW.all_mk KX G hmg ?a_law_cells ?l_law_cells ?d_law_cells ?k_law_cells ?a_is_heir ?l_is_heir ?d_is_heir ?k_is_heir ?a_put_together ?l_put_together ?d_put_together ?k_put_together ?a_pieces ?l_pieces ?d_pieces ?k_pieces ?a_is_many ?l_is_many ?d_is_many ?k_is_many ?a_runs_from ?l_runs_from ?d_runs_from ?k_runs_from ?a_turns_of ?l_turns_of ?d_turns_of ?k_turns_of ?a_check_size ?l_check_size ?d_check_size ?k_check_size ?a_corners ?l_corners ?d_corners ?k_corners ?a_first_part ?l_first_part ?d_first_part ?k_first_part ?a_ahead ?l_ahead ?d_ahead ?k_ahead ?a_against ?l_against ?d_against ?k_against ?a_never_worse ?l_never_worse ?d_never_worse ?k_never_worse ?a_is_above ?l_is_above ?d_is_above ?k_is_above ?a_is_between ?l_is_between ?d_is_between ?k_is_between ?a_law_asked ?l_law_asked ?d_law_asked ?k_law_asked ?a_places_sum ?l_places_sum ?d_places_sum ?k_places_sum ?a_height ?l_height ?d_height ?k_height ?a_law_same ?l_law_same ?d_law_same ?k_law_same ?a_law_great_ones_right ?l_law_great_ones_right ?d_law_great_ones_right ?k_law_great_ones_right ?a_law_by_hand_right ?l_law_by_hand_right ?d_law_by_hand_right ?k_law_by_hand_right ?a_law_take ?l_law_take ?d_law_take ?k_law_take ?a_law_of ?l_law_of ?d_law_of ?k_law_of ?a_law_word ?l_law_word ?d_law_word ?k_law_word ?a_law_near ?l_law_near ?d_law_near ?k_law_near ?a_law_sums ?l_law_sums ?d_law_sums ?k_law_sums ?a_law_over ?l_law_over ?d_law_over ?k_law_over ?a_law_case_right ?l_law_case_right ?d_law_case_right ?k_law_case_right ?a_law_much ?l_law_much ?d_law_much ?k_law_much ?a_law_bits ?l_law_bits ?d_law_bits ?k_law_bits ?a_law_pick ?l_law_pick ?d_law_pick ?k_law_pick ?a_law_great_right ?l_law_great_right ?d_law_great_right ?k_law_great_right ?a_law_right ?l_law_right ?d_law_right ?k_law_right ?a_law_box ?l_law_box ?d_law_box ?k_law_box ?a_law ?l_law ?d_law ?k_law ?a_HeirError ?a_BadRun ?a_BadText ?a_NoPlace ?a_OtherThings ?he ?xl_BadRun ?sa_BadRun ?no_BadRun ?ii_BadRun ?ti_BadRun ?li_BadRun ?di_BadRun ?ki_BadRun ?xl_BadText ?sa_BadText ?no_BadText ?ii_BadText ?ti_BadText ?li_BadText ?di_BadText ?ki_BadText ?q_OtherThings ?t_ValueError ?v_OtherThings ?gc_DIGITS ?gc_NOTHING ?gc_RUN_SIGN ?a_Turns ?opg ?ohd ?opo ?osa ?ona ?omk ?oin ?ofn ?okc ?oli ?odi ?oki ?oTl ?oEl ?osg ?osy ?osr ?pf_Turns_ends ?pg_Turns_ends ?pt_Turns_ends ?pr_Turns_ends ?l_Turns_ends ?d_Turns_ends ?k_Turns_ends ?pf_Turns_hers ?pg_Turns_hers ?pt_Turns_hers ?pr_Turns_hers ?l_Turns_hers ?d_Turns_hers ?k_Turns_hers ?sf_Turns_of ?sc_Turns_of ?sh_Turns_of ?l_Turns_of ?d_Turns_of ?k_Turns_of ?pf_Turns_runs ?pg_Turns_runs ?pt_Turns_runs ?pr_Turns_runs ?l_Turns_runs ?d_Turns_runs ?k_Turns_runs ?pf_Turns_size ?pg_Turns_size ?pt_Turns_size ?pr_Turns_size ?l_Turns_size ?d_Turns_size ?k_Turns_size ?z_len ?z_int ?z_abs ?z_list ?z_tuple ?z_range ?z_zip ?z_enumerate ?z_isinstance ?z_str ?z_bool ?z_all ?z_any ?z_sum ?z_min ?z_max ?z_sorted ?z_reversed ?z_ValueError ?z_LookupError ?z_set
    (case a_law_cells => k_is)
    (case l_law_cells => k_is)
    (case d_law_cells => k_is)
    (case k_law_cells => k_is)
    (case a_is_heir => k_is)
    (case l_is_heir => k_is)
    (case d_is_heir => k_is)
    (case k_is_heir => k_is)
    (case a_put_together => k_is)
    (case l_put_together => k_is)
    (case d_put_together => k_is)
    (case k_put_together => k_is)
    (case a_pieces => k_is)
    (case l_pieces => k_is)
    (case d_pieces => k_is)
    (case k_pieces => k_is)
    (case a_is_many => k_is)
    (case l_is_many => k_is)
    (case d_is_many => k_is)
    (case k_is_many => k_is)
    (case a_runs_from => k_is)
    (case l_runs_from => k_is)
    (case d_runs_from => k_is)
    (case k_runs_from => k_is)
    (case a_turns_of => k_is)
    (case l_turns_of => k_is)
    (case d_turns_of => k_is)
    (case k_turns_of => k_is)
    (case a_check_size => k_is)
    (case l_check_size => k_is)
    (case d_check_size => k_is)
    (case k_check_size => k_is)
    (case a_corners => k_is)
    (case l_corners => k_is)
    (case d_corners => k_is)
    (case k_corners => k_is)
    (case a_first_part => k_is)
    (case l_first_part => k_is)
    (case d_first_part => k_is)
    (case k_first_part => k_is)
    (case a_ahead => k_is)
    (case l_ahead => k_is)
    (case d_ahead => k_is)
    (case k_ahead => k_is)
    (case a_against => k_is)
    (case l_against => k_is)
    (case d_against => k_is)
    (case k_against => k_is)
    (case a_never_worse => k_is)
    (case l_never_worse => k_is)
    (case d_never_worse => k_is)
    (case k_never_worse => k_is)
    (case a_is_above => k_is)
    (case l_is_above => k_is)
    (case d_is_above => k_is)
    (case k_is_above => k_is)
    (case a_is_between => k_is)
    (case l_is_between => k_is)
    (case d_is_between => k_is)
    (case k_is_between => k_is)
    (case a_law_asked => k_is)
    (case l_law_asked => k_is)
    (case d_law_asked => k_is)
    (case k_law_asked => k_is)
    (case a_places_sum => k_is)
    (case l_places_sum => k_is)
    (case d_places_sum => k_is)
    (case k_places_sum => k_is)
    (case a_height => k_is)
    (case l_height => k_is)
    (case d_height => k_is)
    (case k_height => k_is)
    (case a_law_same => k_is)
    (case l_law_same => k_is)
    (case d_law_same => k_is)
    (case k_law_same => k_is)
    (case a_law_great_ones_right => k_is)
    (case l_law_great_ones_right => k_is)
    (case d_law_great_ones_right => k_is)
    (case k_law_great_ones_right => k_is)
    (case a_law_by_hand_right => k_is)
    (case l_law_by_hand_right => k_is)
    (case d_law_by_hand_right => k_is)
    (case k_law_by_hand_right => k_is)
    (case a_law_take => k_is)
    (case l_law_take => k_is)
    (case d_law_take => k_is)
    (case k_law_take => k_is)
    (case a_law_of => k_is)
    (case l_law_of => k_is)
    (case d_law_of => k_is)
    (case k_law_of => k_is)
    (case a_law_word => k_is)
    (case l_law_word => k_is)
    (case d_law_word => k_is)
    (case k_law_word => k_is)
    (case a_law_near => k_is)
    (case l_law_near => k_is)
    (case d_law_near => k_is)
    (case k_law_near => k_is)
    (case a_law_sums => k_is)
    (case l_law_sums => k_is)
    (case d_law_sums => k_is)
    (case k_law_sums => k_is)
    (case a_law_over => k_is)
    (case l_law_over => k_is)
    (case d_law_over => k_is)
    (case k_law_over => k_is)
    (case a_law_case_right => k_is)
    (case l_law_case_right => k_is)
    (case d_law_case_right => k_is)
    (case k_law_case_right => k_is)
    (case a_law_much => k_is)
    (case l_law_much => k_is)
    (case d_law_much => k_is)
    (case k_law_much => k_is)
    (case a_law_bits => k_is)
    (case l_law_bits => k_is)
    (case d_law_bits => k_is)
    (case k_law_bits => k_is)
    (case a_law_pick => k_is)
    (case l_law_pick => k_is)
    (case d_law_pick => k_is)
    (case k_law_pick => k_is)
    (case a_law_great_right => k_is)
    (case l_law_great_right => k_is)
    (case d_law_great_right => k_is)
    (case k_law_great_right => k_is)
    (case a_law_right => k_is)
    (case l_law_right => k_is)
    (case d_law_right => k_is)
    (case k_law_right => k_is)
    (case a_law_box => k_is)
    (case l_law_box => k_is)
    (case d_law_box => k_is)
    (case k_law_box => k_is)
    (case a_law => k_is)
    (case l_law => k_is)
    (case d_law => k_is)
    (case k_law => k_is)
    (case a_HeirError => k_is)
    (case a_BadRun => k_is)
    (case a_BadText => k_is)
    (case a_NoPlace => k_is)
    (case a_OtherThings => k_is)
    (case he => kernel_rfl)
    (case xl_BadRun => k_is)
    (case sa_BadRun => k_is)
    (case no_BadRun => k_is)
    (case ii_BadRun => k_is)
    (case ti_BadRun => k_is)
    (case li_BadRun => k_is)
    (case di_BadRun => k_is)
    (case ki_BadRun => k_is)
    (case xl_BadText => k_is)
    (case sa_BadText => k_is)
    (case no_BadText => k_is)
    (case ii_BadText => k_is)
    (case ti_BadText => k_is)
    (case li_BadText => k_is)
    (case di_BadText => k_is)
    (case ki_BadText => k_is)
    (case q_OtherThings => kernel_rfl)
    (case t_ValueError => kernel_rfl)
    (case v_OtherThings => kernel_rfl)
    (case gc_DIGITS => k_is)
    (case gc_NOTHING => k_is)
    (case gc_RUN_SIGN => k_is)
    (case a_Turns => k_is)
    (case opg => kernel_rfl)
    (case ohd => kernel_rfl)
    (case opo => kernel_rfl)
    (case osa => k_is)
    (case ona => k_is)
    (case omk => kernel_rfl)
    (case oin => k_is)
    (case ofn => k_is)
    (case okc => k_is)
    (case oli => k_is)
    (case odi => k_is)
    (case oki => k_is)
    (case oTl => k_is)
    (case oEl => k_is)
    (case osg => k_is)
    (case osy => k_is)
    (case osr => kernel_rfl)
    (case pf_Turns_ends => k_is)
    (case pg_Turns_ends => k_is)
    (case pt_Turns_ends => k_is)
    (case pr_Turns_ends => k_is)
    (case l_Turns_ends => k_is)
    (case d_Turns_ends => k_is)
    (case k_Turns_ends => k_is)
    (case pf_Turns_hers => k_is)
    (case pg_Turns_hers => k_is)
    (case pt_Turns_hers => k_is)
    (case pr_Turns_hers => k_is)
    (case l_Turns_hers => k_is)
    (case d_Turns_hers => k_is)
    (case k_Turns_hers => k_is)
    (case sf_Turns_of => k_is)
    (case sc_Turns_of => k_is)
    (case sh_Turns_of => kernel_rfl)
    (case l_Turns_of => k_is)
    (case d_Turns_of => k_is)
    (case k_Turns_of => k_is)
    (case pf_Turns_runs => k_is)
    (case pg_Turns_runs => k_is)
    (case pt_Turns_runs => k_is)
    (case pr_Turns_runs => k_is)
    (case l_Turns_runs => k_is)
    (case d_Turns_runs => k_is)
    (case k_Turns_runs => k_is)
    (case pf_Turns_size => k_is)
    (case pg_Turns_size => k_is)
    (case pt_Turns_size => k_is)
    (case pr_Turns_size => k_is)
    (case l_Turns_size => k_is)
    (case d_Turns_size => k_is)
    (case k_Turns_size => k_is)
    (case z_len => k_is)
    (case z_int => k_is)
    (case z_abs => k_is)
    (case z_list => k_is)
    (case z_tuple => k_is)
    (case z_range => k_is)
    (case z_zip => k_is)
    (case z_enumerate => k_is)
    (case z_isinstance => k_is)
    (case z_str => k_is)
    (case z_bool => k_is)
    (case z_all => k_is)
    (case z_any => k_is)
    (case z_sum => k_is)
    (case z_min => k_is)
    (case z_max => k_is)
    (case z_sorted => k_is)
    (case z_reversed => k_is)
    (case z_ValueError => k_is)
    (case z_LookupError => k_is)
    (case z_set => k_is)

