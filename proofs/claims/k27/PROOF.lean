import PyProof.Rows.All
import Wide.All
import OpenK.AllK
import Wide.FinOn
import HandS.ForMost
import HandS.ForExc
import HandS.IsInst
import HandS.TupAny
import HandS.Conv
import HandS.Evl
import HandS.ExcIs
import PyProof.ReprLen
import KE.DataEq
import HandS.Property
import HandS.MakeKwOnly
import HandS.Flow
import HandS.ExcInit
import HandS.ExcField
import HandS.DictComp
import HandS.SetFor
import HandS.Strs
import HandS.Small
import HandS.Iter
import HandS.SortInts
import KE.DataMinMax
import ObjForm.LawKit
import PySem.Challenge.RW_loneseats_k27_whole_rules_side_by_side
set_option Elab.async false
set_option linter.all false
set_option maxRecDepth 100000
set_option maxHeartbeats 4000000
namespace Vi
open PySem PySem.Spec PyProof.Rows L2

/-! data: values as trees -/
inductive D where
  | non
  | bl (c : Bool)
  | int (i : Int)
  | str (s : Str)
  | lst (ds : List D)
  | tup (ds : List D)
  | dct (kvs : List (Key × D))
  | obj (c : Str) (fs : List (Str × D))

/-- what stays fixed in a def: the written part, the bag's address, the script's copy -/
structure Gd where
  K : PySem.W.Frag
  cl : Str → Option Addr
  b : Addr
  l : Addr
abbrev NoH : Hp := fun _ => none
theorem sqL_no {K : PySem.W.Frag} {H : Hp} {a : Addr} {vs : List V} (h : SqL K NoH a vs) : SqL K H a vs := by
  rcases h with (h | ⟨o, h⟩) | h
  · cases h
  · cases h
  · exact Or.inr h
theorem sqT_no {K : PySem.W.Frag} {H : Hp} {a : Addr} {vs : List V} (h : SqT K NoH a vs) : SqT K H a vs := by
  rcases h with (h | ⟨o, h⟩) | h
  · cases h
  · cases h
  · exact Or.inr h

mutual
inductive Dat (G : Gd) (Bad : Addr → Prop) (H : Hp) : V → D → Prop
  | non : Dat G Bad H .non .non
  | bl (c : Bool) : Dat G Bad H (.bl c) (.bl c)
  | int (i : Int) : Dat G Bad H (.int i) (.int i)
  | str (s : Str) : Dat G Bad H (.str s) (.str s)
  | lstH {a : Addr} {vs : List V} {ds : List D} : ¬ Bad a → H a = some (.lst vs) → DatL G Bad H vs ds → Dat G Bad H (.ref a) (.lst ds)
  | tupH {a : Addr} {vs : List V} {ds : List D} : ¬ Bad a → H a = some (.tup vs) → DatL G Bad H vs ds → Dat G Bad H (.ref a) (.tup ds)
  | tupK {a : Addr} {vs : List V} {ds : List D} : SqT G.K NoH a vs → DatL G Bad H vs ds → Dat G Bad H (.ref a) (.tup ds)
  | dct {a : Addr} {kvs : List (Key × V)} {ds : List (Key × D)} : ¬ Bad a → Rd H a (.dK kvs) → DatK G Bad H kvs ds → Dat G Bad H (.ref a) (.dct ds)
  | obj {a C dx : Addr} {c : Str} {fs : List (Str × V)} {ds : List (Str × D)} : ¬ Bad a → H a = some (.ins C dx fs) → G.cl c = some C → DatF G Bad H fs ds → Dat G Bad H (.ref a) (.obj c ds)
inductive DatL (G : Gd) (Bad : Addr → Prop) (H : Hp) : List V → List D → Prop
  | nil : DatL G Bad H [] []
  | cons {v : V} {vs : List V} {d : D} {ds : List D} : Dat G Bad H v d → DatL G Bad H vs ds → DatL G Bad H (v :: vs) (d :: ds)
inductive DatK (G : Gd) (Bad : Addr → Prop) (H : Hp) : List (Key × V) → List (Key × D) → Prop
  | nil : DatK G Bad H [] []
  | cons {k : Key} {v : V} {vs : List (Key × V)} {d : D} {ds : List (Key × D)} : Dat G Bad H v d → DatK G Bad H vs ds → DatK G Bad H ((k, v) :: vs) ((k, d) :: ds)
inductive DatF (G : Gd) (Bad : Addr → Prop) (H : Hp) : List (Str × V) → List (Str × D) → Prop
  | nil : DatF G Bad H [] []
  | cons {k : Str} {v : V} {vs : List (Str × V)} {d : D} {ds : List (Str × D)} : Dat G Bad H v d → DatF G Bad H vs ds → DatF G Bad H ((k, v) :: vs) ((k, d) :: ds)
end

/-- what is kept, and stays apart from what may change -/
def Goes (Bad Bad' : Addr → Prop) (H H' : Hp) : Prop := ∀ a o, ¬ Bad a → H a = some o → H' a = some o ∧ ¬ Bad' a
theorem Goes.rd {Bad Bad' : Addr → Prop} {H H' : Hp} (g : Goes Bad Bad' H H') {a : Addr} {u : HO} (n : ¬ Bad a) (h : Rd H a u) : Rd H' a u ∧ ¬ Bad' a := by
  rcases h with h | ⟨o, h⟩
  · exact ⟨Or.inl (g a _ n h).1, (g a _ n h).2⟩
  · exact ⟨Or.inr ⟨o, (g a _ n h).1⟩, (g a _ n h).2⟩
mutual
theorem Dat.goes {G : Gd} {Bad Bad' : Addr → Prop} {H H' : Hp} (g : Goes Bad Bad' H H') : ∀ {v : V} {d : D}, Dat G Bad H v d → Dat G Bad' H' v d
  | _, _, .non => .non
  | _, _, .bl c => .bl c
  | _, _, .int i => .int i
  | _, _, .str s => .str s
  | _, _, .lstH n h r => .lstH (g _ _ n h).2 (g _ _ n h).1 (DatL.goes g r)
  | _, _, .tupH n h r => .tupH (g _ _ n h).2 (g _ _ n h).1 (DatL.goes g r)
  | _, _, .tupK h r => .tupK h (DatL.goes g r)
  | _, _, .dct n h r => .dct (g.rd n h).2 (g.rd n h).1 (DatK.goes g r)
  | _, _, .obj n h c r => .obj (g _ _ n h).2 (g _ _ n h).1 c (DatF.goes g r)
theorem DatL.goes {G : Gd} {Bad Bad' : Addr → Prop} {H H' : Hp} (g : Goes Bad Bad' H H') : ∀ {v : List V} {d : List D}, DatL G Bad H v d → DatL G Bad' H' v d
  | _, _, .nil => .nil
  | _, _, .cons a r => .cons (Dat.goes g a) (DatL.goes g r)
theorem DatK.goes {G : Gd} {Bad Bad' : Addr → Prop} {H H' : Hp} (g : Goes Bad Bad' H H') : ∀ {v : List (Key × V)} {d : List (Key × D)}, DatK G Bad H v d → DatK G Bad' H' v d
  | _, _, .nil => .nil
  | _, _, .cons a r => .cons (Dat.goes g a) (DatK.goes g r)
theorem DatF.goes {G : Gd} {Bad Bad' : Addr → Prop} {H H' : Hp} (g : Goes Bad Bad' H H') : ∀ {v : List (Str × V)} {d : List (Str × D)}, DatF G Bad H v d → DatF G Bad' H' v d
  | _, _, .nil => .nil
  | _, _, .cons a r => .cons (Dat.goes g a) (DatF.goes g r)
end
/-- an object that is changed in place, its parts kept -/
inductive OwnD (G : Gd) (Bad : Addr → Prop) (H : Hp) : HO → D → Prop
  | lst {vs : List V} {ds : List D} : DatL G Bad H vs ds → OwnD G Bad H (.lst vs) (.lst ds)
  | dct {kvs : List (Key × V)} {ds : List (Key × D)} : DatK G Bad H kvs ds → OwnD G Bad H (.dK kvs) (.dct ds)
theorem OwnD.goes {G : Gd} {Bad Bad' : Addr → Prop} {H H' : Hp} (g : Goes Bad Bad' H H') {o : HO} {d : D} (h : OwnD G Bad H o d) : OwnD G Bad' H' o d := by
  cases h with
  | lst h => exact .lst (DatL.goes g h)
  | dct h => exact .dct (DatK.goes g h)
theorem OwnD.dat {G : Gd} {Bad : Addr → Prop} {H : Hp} {o : HO} {d : D} {a : Addr} (n : ¬ Bad a) (e : H a = some o) (h : OwnD G Bad H o d) : Dat G Bad H (.ref a) d := by
  cases h with
  | lst h => exact .lstH n e h
  | dct h => exact .dct n (Or.inl e) h
theorem OwnD.fst {G : Gd} {Bad : Addr → Prop} {H : Hp} {o : HO} {ds : List D} (h : OwnD G Bad H o (.lst ds)) : ∃ vs, o = .lst vs ∧ DatL G Bad H vs ds := by
  cases h with
  | lst h => exact ⟨_, rfl, h⟩
theorem OwnD.fdc {G : Gd} {Bad : Addr → Prop} {H : Hp} {o : HO} {ds : List (Key × D)} (h : OwnD G Bad H o (.dct ds)) : ∃ vs, o = .dK vs ∧ DatK G Bad H vs ds := by
  cases h with
  | dct h => exact ⟨_, rfl, h⟩
theorem DatL.len {G : Gd} {Bad : Addr → Prop} {H : Hp} : ∀ {vs : List V} {ds : List D}, DatL G Bad H vs ds → vs.length = ds.length
  | _, _, .nil => rfl
  | _, _, .cons _ r => congrArg Nat.succ r.len
theorem DatL.at {G : Gd} {Bad : Addr → Prop} {H : Hp} : ∀ {vs : List V} {ds : List D} {i : Nat} {d : D}, DatL G Bad H vs ds → ds[i]? = some d → ∃ v, vs[i]? = some v ∧ Dat G Bad H v d
  | _, _, i, d, .nil, h => by simp at h
  | _, _, 0, d, .cons a r, h => by
    simp at h
    subst h
    exact ⟨_, rfl, a⟩
  | _, _, i + 1, d, .cons a r, h => by
    obtain ⟨v, h1, h2⟩ := DatL.at (i := i) (d := d) r (by simpa using h)
    exact ⟨v, by simpa using h1, h2⟩
theorem DatL.append {G : Gd} {Bad : Addr → Prop} {H : Hp} : ∀ {vs ws : List V} {ds es : List D}, DatL G Bad H vs ds → DatL G Bad H ws es → DatL G Bad H (vs ++ ws) (ds ++ es)
  | _, _, _, _, .nil, q => q
  | _, _, _, _, .cons a r, q => .cons a (DatL.append r q)

/-! the bag -/
structure Bag where
  x0 : Int
  x1 : Int
  x2 : Int
  ns : List Int
def BagAt (G : Gd) (H : Hp) (g : Bag) : Prop := H G.b = some (.lst [.int g.x0, .int g.x1, .int g.x2, .ref G.l])

/-- exceptions: the class's name, its fields -/
structure Xn where
  c : Str
  fs : List (Str × D)
inductive Rs (α : Type) where
  | ok (a : α)
  | er (x : Xn)
abbrev M (α : Type) := Bag → Option (Rs α × Bag)
def mret {α : Type} (a : α) : M α := fun g => some (.ok a, g)
def merr {α : Type} (x : Xn) : M α := fun g => some (.er x, g)
def mno {α : Type} : M α := fun _ => none
def mbind {α β : Type} (m : M α) (f : α → M β) : M β := fun g => match m g with
  | none => none
  | some (.er x, g') => some (.er x, g')
  | some (.ok a, g') => f a g'
def mof {α : Type} (o : Option α) : M α := fun g => match o with
  | none => none
  | some a => some (.ok a, g)
/-- what an expression gives; what stands in a slot -/
inductive EV where
  | val (d : D)
  | nw (d : D)
  | bw (d : D)
  | bag
  | exc (x : Addr)
inductive SV where
  | val (d : D)
  | own (d : D)
  | bag
  | exc (x : Addr)
def SV.ev : SV → EV
  | .val d => .val d
  | .own ds => .bw ds
  | .bag => .bag
  | .exc x => .exc x
/-- as a thing that may be kept -/
def EV.keep : EV → Option D
  | .val d => some d
  | .nw d => some d
  | _ => none
/-- as a thing that is looked at -/
def EV.look : EV → Option D
  | .val d => some d
  | .nw d => some d
  | .bw d => some d
  | _ => none
abbrev DS := List (Option SV)
abbrev DE := DS → M EV
abbrev DB := DS → M Bool
abbrev DA := DS → M (List EV)

def ExAt (G : Gd) (Bad : Addr → Prop) (H : Hp) (cls : Value) (dx : Option Addr) (x : Xn) : Prop :=
  ∃ C, G.cl x.c = some C ∧ cls = .ref C ∧ (match dx with
    | none => x.fs = []
    | some a => x.fs ≠ [] ∧ ∃ fs, H a = some (.xd fs) ∧ ¬ Bad a ∧ DatF G Bad H fs x.fs)

def With (Bad : Addr → Prop) (p : Addr) : Addr → Prop := fun a => Bad a ∨ a = p
def EVok (G : Gd) (Bad : Addr → Prop) (H H' : Hp) (v : V) : EV → Prop
  | .val d => Dat G Bad H' v d
  | .nw d => ∃ p o, v = .ref p ∧ H p = none ∧ H' p = some o ∧ OwnD G (With Bad p) H' o d
  | .bw d => ∃ p o, v = .ref p ∧ Bad p ∧ p ≠ G.b ∧ H' p = some o ∧ OwnD G Bad H' o d
  | .bag => v = .ref G.b
  | .exc a => v = .ref a
inductive EVs (G : Gd) (Bad : Addr → Prop) (H H' : Hp) : List V → List EV → Prop
  | nil : EVs G Bad H H' [] []
  | cons {v : V} {vs : List V} {e : EV} {es : List EV} : EVok G Bad H H' v e → EVs G Bad H H' vs es → EVs G Bad H H' (v :: vs) (e :: es)

/-- all but the bag stays -/
def Kp (G : Gd) (H H' : Hp) : Prop := ∀ a o, a ≠ G.b → H a = some o → H' a = some o
theorem Kp.refl {G : Gd} {H : Hp} : Kp G H H := fun _ _ _ h => h
theorem Kp.trans {G : Gd} {H H1 H2 : Hp} (x : Kp G H H1) (y : Kp G H1 H2) : Kp G H H2 := fun a o n h => y a o n (x a o n h)
theorem Kp.new {G : Gd} {H : Hp} {p : Addr} {o : HO} (h : H p = none) : Kp G H (upd H p o) := fun a u _ e => by
  rw [upd_ne (ne_of_none e h)]
  exact e
theorem Kp.goes {G : Gd} {Bad : Addr → Prop} {H H' : Hp} (k : Kp G H H') (hb : Bad G.b) : Goes Bad Bad H H' := fun a o n h => ⟨k a o (fun e => n (e ▸ hb)) h, n⟩
theorem goes_less {Bad Bad' : Addr → Prop} {H : Hp} (h : ∀ a, Bad' a → Bad a) : Goes Bad Bad' H H := fun a o n e => ⟨e, fun z => n (h a z)⟩

theorem evok_kp {G : Gd} {Bad : Addr → Prop} {H H1 H2 : Hp} {v : V} {e : EV} (hb : Bad G.b) (bg : (H G.b).isSome = true) (k : Kp G H1 H2) (h : EVok G Bad H H1 v e) : EVok G Bad H H2 v e := by
  cases e with
  | val d => exact Dat.goes (k.goes hb) h
  | nw ds =>
    obtain ⟨p, vs, rfl, h1, h2, h3⟩ := h
    have pb : p ≠ G.b := fun z => by subst z; rw [h1] at bg; cases bg
    exact ⟨p, vs, rfl, h1, k p _ pb h2, OwnD.goes (k.goes (Or.inl hb)) h3⟩
  | bw ds =>
    obtain ⟨p, vs, rfl, h1, h2, h3, h4⟩ := h
    exact ⟨p, vs, rfl, h1, h2, k p _ h2 h3, OwnD.goes (k.goes hb) h4⟩
  | bag => exact h
  | exc x => exact h
theorem fresh_kp {G : Gd} {H H1 : Hp} {p : Addr} (bg1 : (H1 G.b).isSome = true) (k : Kp G H H1) (h : H1 p = none) : H p = none := by
  cases e : H p with
  | none => rfl
  | some o =>
    have pb : p ≠ G.b := fun z => by subst z; rw [h] at bg1; cases bg1
    rw [k p o pb e] at h
    cases h
/-- begun earlier -/
theorem evok_from {G : Gd} {Bad : Addr → Prop} {H H1 H2 : Hp} {v : V} {e : EV} (bg1 : (H1 G.b).isSome = true) (k : Kp G H H1) (h : EVok G Bad H1 H2 v e) : EVok G Bad H H2 v e := by
  cases e with
  | val d => exact h
  | nw ds =>
    obtain ⟨p, vs, rfl, h1, h2, h3⟩ := h
    exact ⟨p, vs, rfl, fresh_kp bg1 k h1, h2, h3⟩
  | bw ds => exact h
  | bag => exact h
  | exc x => exact h
theorem evs_kp {G : Gd} {Bad : Addr → Prop} {H H1 H2 : Hp} {v : List V} {e : List EV} (hb : Bad G.b) (bg : (H G.b).isSome = true) (k : Kp G H1 H2) (h : EVs G Bad H H1 v e) : EVs G Bad H H2 v e := by
  induction h with
  | nil => exact .nil
  | cons a _ ih => exact .cons (evok_kp hb bg k a) ih
theorem evs_from {G : Gd} {Bad : Addr → Prop} {H H1 H2 : Hp} {v : List V} {e : List EV} (bg1 : (H1 G.b).isSome = true) (k : Kp G H H1) (h : EVs G Bad H1 H2 v e) : EVs G Bad H H2 v e := by
  induction h with
  | nil => exact .nil
  | cons a _ ih => exact .cons (evok_from bg1 k a) ih

/-- kept: a datum apart from what may change -/
theorem evok_keep {G : Gd} {Bad : Addr → Prop} {H H' : Hp} {v : V} {e : EV} {d : D} (hB : ∀ a, Bad a → (H a).isSome = true) (h : EVok G Bad H H' v e) (k : e.keep = some d) : Dat G Bad H' v d := by
  cases e with
  | val d' =>
    cases k
    exact h
  | nw ds =>
    cases k
    obtain ⟨p, vs, rfl, h1, h2, h3⟩ := h
    exact OwnD.dat (fun z => by have := hB _ z; rw [h1] at this; cases this) h2 (OwnD.goes (goes_less fun a z => Or.inl z) h3)
  | bw ds => cases k
  | bag => cases k
  | exc x => cases k
def Nob : Addr → Prop := fun _ => False
theorem evok_look {G : Gd} {Bad : Addr → Prop} {H H' : Hp} {v : V} {e : EV} {d : D} (h : EVok G Bad H H' v e) (k : e.look = some d) : Dat G Nob H' v d := by
  cases e with
  | val d' =>
    cases k
    exact Dat.goes (goes_less fun a z => z.elim) h
  | nw ds =>
    cases k
    obtain ⟨p, vs, rfl, h1, h2, h3⟩ := h
    exact OwnD.dat (fun z => z) h2 (OwnD.goes (goes_less fun a z => z.elim) h3)
  | bw ds =>
    cases k
    obtain ⟨p, vs, rfl, h1, h2, h3, h4⟩ := h
    exact OwnD.dat (fun z => z) h3 (OwnD.goes (goes_less fun a z => z.elim) h4)
  | bag => cases k
  | exc x => cases k
/-- the items of a list or tuple, apart from what may change -/
theorem evok_items {G : Gd} {Bad : Addr → Prop} {H H' : Hp} {v : V} {e : EV} {ds : List D} (h : EVok G Bad H H' v e) : (e.look = some (.lst ds) → ∃ a vs, v = .ref a ∧ H' a = some (.lst vs) ∧ DatL G Bad H' vs ds) ∧ (e.look = some (.tup ds) → ∃ a vs, v = .ref a ∧ SqT G.K H' a vs ∧ DatL G Bad H' vs ds) := by
  cases e with
  | val d' =>
    refine ⟨fun k => ?_, fun k => ?_⟩
    · cases k
      have h' : Dat G Bad H' v (.lst ds) := h
      cases h' with
      | lstH n r q => exact ⟨_, _, rfl, r, q⟩
    · cases k
      have h' : Dat G Bad H' v (.tup ds) := h
      cases h' with
      | tupH n r q => exact ⟨_, _, rfl, Or.inl (Or.inl r), q⟩
      | tupK r q => exact ⟨_, _, rfl, sqT_no r, q⟩
  | nw es =>
    obtain ⟨p, vs, rfl, h1, h2, h3⟩ := h
    refine ⟨fun k => ?_, fun k => by cases k; cases h3⟩
    cases k
    obtain ⟨ws, rfl, h3'⟩ := h3.fst
    exact ⟨p, ws, rfl, h2, DatL.goes (goes_less fun a z => Or.inl z) h3'⟩
  | bw es =>
    obtain ⟨p, vs, rfl, h1, h2, h3, h4⟩ := h
    refine ⟨fun k => ?_, fun k => by cases k; cases h4⟩
    cases k
    obtain ⟨ws, rfl, h4'⟩ := h4.fst
    exact ⟨p, ws, rfl, h3, h4'⟩
  | bag => exact ⟨fun k => (by cases k), fun k => (by cases k)⟩
  | exc x => exact ⟨fun k => (by cases k), fun k => (by cases k)⟩

/-! the state of a def -/
def Bd (B0 : Addr → Prop) (δ : DS) (σ : L2.St) : Addr → Prop := fun a => B0 a ∨ ∃ (i : Nat) (ds : D), δ[i]? = some (some (SV.own ds)) ∧ σ[i]? = some (some (V.ref a))
structure Sto (G : Gd) (B0 : Addr → Prop) (H0 : Hp) (δ : DS) (g : Bag) (σ : L2.St) (H : Hp) : Prop where
  len : σ.length = δ.length
  ent : Kp G H0 H
  bg : BagAt G H g
  lb : G.l ≠ G.b
  scr : H0 G.l = some (.lst (g.ns.map V.int))
  b0 : B0 G.b
  hb : (H0 G.b).isSome = true
  al : ∀ a, B0 a → (H a).isSome = true
  val : ∀ (i : Nat) (d : D), δ[i]? = some (some (SV.val d)) → ∃ v, σ[i]? = some (some v) ∧ Dat G (Bd B0 δ σ) H v d
  own : ∀ (i : Nat) (ds : D), δ[i]? = some (some (SV.own ds)) → ∃ p o, σ[i]? = some (some (V.ref p)) ∧ H0 p = none ∧ H p = some o ∧ OwnD G (Bd B0 δ σ) H o ds
  inj : ∀ (i j : Nat) (ds es : D) (p : Addr), δ[i]? = some (some (SV.own ds)) → δ[j]? = some (some (SV.own es)) → σ[i]? = some (some (V.ref p)) → σ[j]? = some (some (V.ref p)) → i = j
  bag : ∀ (i : Nat), δ[i]? = some (some SV.bag) → σ[i]? = some (some (V.ref G.b))
  exc : ∀ (i : Nat) (x : Addr), δ[i]? = some (some (SV.exc x)) → σ[i]? = some (some (V.ref x))
  nb : ∀ (i : Nat) (d : D) (p : Addr), δ[i]? = some (some (SV.own d)) → σ[i]? = some (some (V.ref p)) → ¬ B0 p
section
variable {G : Gd} {B0 : Addr → Prop} {H0 H H' : Hp} {δ : DS} {g g' : Bag} {σ : L2.St}
theorem Sto.bd (S : Sto G B0 H0 δ g σ H) : Bd B0 δ σ G.b := Or.inl S.b0
theorem Sto.h0b (S : Sto G B0 H0 δ g σ H) : (H0 G.b).isSome = true := S.hb
theorem BagAt.some {G : Gd} {H : Hp} {g : Bag} (h : BagAt G H g) : (H G.b).isSome = true := by
  have h' : H G.b = _ := h
  rw [h']
  rfl
/-- an owned object stands, and is not the bag -/
theorem Sto.ownb (S : Sto G B0 H0 δ g σ H) {p : Addr} (h : H0 p = none) : p ≠ G.b := fun z => by
  subst z
  have := S.h0b
  rw [h] at this
  cases this
theorem Sto.alB (S : Sto G B0 H0 δ g σ H) : ∀ a, Bd B0 δ σ a → (H a).isSome = true := fun a h => by
  rcases h with h | ⟨i, ds, h1, h2⟩
  · exact S.al a h
  · obtain ⟨p, vs, e1, e2, e3, _⟩ := S.own i ds h1
    rw [h2] at e1
    cases e1
    rw [e3]
    rfl
theorem Sto.kp (S : Sto G B0 H0 δ g σ H) (k : Kp G H H') (b : BagAt G H' g') (hn : g'.ns = g.ns) : Sto G B0 H0 δ g' σ H' where
  len := S.len
  ent := S.ent.trans k
  bg := b
  lb := S.lb
  scr := by rw [hn]; exact S.scr
  b0 := S.b0
  hb := S.hb
  al := fun a h => by
    by_cases e : a = G.b
    · subst e
      exact b.some
    · have := S.al a h
      cases q : H a with
      | none => rw [q] at this; cases this
      | some o => rw [k a o e q]; rfl
  val := fun i d h => by
    obtain ⟨v, h1, h2⟩ := S.val i d h
    exact ⟨v, h1, Dat.goes (k.goes S.bd) h2⟩
  own := fun i ds h => by
    obtain ⟨p, vs, h1, h2, h3, h4⟩ := S.own i ds h
    exact ⟨p, vs, h1, h2, k p _ (S.ownb h2) h3, OwnD.goes (k.goes S.bd) h4⟩
  inj := S.inj
  bag := S.bag
  exc := S.exc
  nb := S.nb
end

/-! adequacy of a reading -/
def Post (G : Gd) (Bad : Addr → Prop) (W : WX) (σ : L2.St) (H : Hp) (g g' : Bag) (Q : VK) : Rs EV → Prop
  | .ok e => ∀ v H', Kp G H H' → BagAt G H' g' → g'.ns = g.ns → EVok G Bad H H' v e → Q v H'
  | .er x => ∀ cls dx H', Kp G H H' → BagAt G H' g' → g'.ns = g.ns → ExAt G Bad H' cls dx x → W cls dx σ H'
def PostB (G : Gd) (Bad : Addr → Prop) (W : WX) (σ : L2.St) (H : Hp) (g g' : Bag) (Q : Bool → Hp → Prop) : Rs Bool → Prop
  | .ok c => ∀ H', Kp G H H' → BagAt G H' g' → g'.ns = g.ns → Q c H'
  | .er x => ∀ cls dx H', Kp G H H' → BagAt G H' g' → g'.ns = g.ns → ExAt G Bad H' cls dx x → W cls dx σ H'
def PostA (G : Gd) (Bad : Addr → Prop) (W : WX) (σ : L2.St) (H : Hp) (g g' : Bag) (Q : List V → Hp → Prop) : Rs (List EV) → Prop
  | .ok es => ∀ vs H', Kp G H H' → BagAt G H' g' → g'.ns = g.ns → EVs G Bad H H' vs es → Q vs H'
  | .er x => ∀ cls dx H', Kp G H H' → BagAt G H' g' → g'.ns = g.ns → ExAt G Bad H' cls dx x → W cls dx σ H'
/-- te gives what m tells -/
def AE (K : PySem.W.Frag) (cl : Str → Option Addr) (W : WX) (te : TE) (m : DE) : Prop := ∀ (b l : Addr) B0 H0 δ g σ H r g', Sto ⟨K, cl, b, l⟩ B0 H0 δ g σ H → m δ g = some (r, g') → ∀ Q, Post ⟨K, cl, b, l⟩ (Bd B0 δ σ) W σ H g g' Q r → te σ H Q
def AB (K : PySem.W.Frag) (cl : Str → Option Addr) (W : WX) (tt : TT) (m : DB) : Prop := ∀ (b l : Addr) B0 H0 δ g σ H r g', Sto ⟨K, cl, b, l⟩ B0 H0 δ g σ H → m δ g = some (r, g') → ∀ Q, PostB ⟨K, cl, b, l⟩ (Bd B0 δ σ) W σ H g g' Q r → tt σ H Q
def AA (K : PySem.W.Frag) (cl : Str → Option Addr) (W : WX) (ta : TA) (m : DA) : Prop := ∀ (b l : Addr) B0 H0 δ g σ H r g', Sto ⟨K, cl, b, l⟩ B0 H0 δ g σ H → m δ g = some (r, g') → ∀ Q, PostA ⟨K, cl, b, l⟩ (Bd B0 δ σ) W σ H g g' Q r → ta σ H Q


/-! expressions -/
def eVar (i : Nat) : DE := fun δ => match δ[i]? with
  | some (some sv) => mret sv.ev
  | _ => mno
def eC (d : D) : DE := fun _ => mret (.val d)
def e2 (f : EV → EV → M EV) (a b : DE) : DE := fun δ => mbind (a δ) fun x => mbind (b δ) fun y => f x y
def e1 (f : EV → M EV) (a : DE) : DE := fun δ => mbind (a δ) f
def aNil : DA := fun _ => mret []
def aCons (a : DE) (r : DA) : DA := fun δ => mbind (a δ) fun x => mbind (r δ) fun xs => mret (x :: xs)

section
variable {K : PySem.W.Frag} {cl : Str → Option Addr} {W : WX} {ta tb te : TE} {ma mb : DE}
theorem ae_var {i : Nat} : AE K cl W (tVar i) (eVar i) := by
  intro b l B0 H0 δ g σ H r g' S h Q q
  unfold eVar at h
  cases e : δ[i]? with
  | none => rw [e] at h; cases h
  | some o =>
    cases o with
    | none => rw [e] at h; cases h
    | some sv =>
      rw [e] at h
      cases h
      cases sv with
      | val d =>
        obtain ⟨v, h1, h2⟩ := S.val i d e
        exact ⟨v, h1, q v H .refl S.bg rfl h2⟩
      | own ds =>
        obtain ⟨p, vs, h1, h2, h3, h4⟩ := S.own i ds e
        exact ⟨.ref p, h1, q _ H .refl S.bg rfl ⟨p, vs, rfl, Or.inr ⟨i, ds, e, h1⟩, S.ownb h2, h3, h4⟩⟩
      | bag => exact ⟨_, S.bag i e, q _ H .refl S.bg rfl rfl⟩
      | exc x => exact ⟨_, S.exc i x e, q _ H .refl S.bg rfl rfl⟩
theorem ae_c {v : V} {d : D} (h : ∀ G Bad H, Dat G Bad H v d) : AE K cl W (tC v) (eC d) := by
  intro b l B0 H0 δ g σ H r g' S h' Q q
  cases h'
  exact q v H .refl S.bg rfl (h _ _ _)
/-- what follows a first part -/
theorem post_then {G : Gd} {Bad : Addr → Prop} {σ : L2.St} {H : Hp} {g g1 g' : Bag} {Q : VK} {r : Rs EV} {H1 : Hp} (k1 : Kp G H H1) (b1 : BagAt G H1 g1) (n1 : g1.ns = g.ns) (q : Post G Bad W σ H g g' Q r) : Post G Bad W σ H1 g1 g' Q r := by
  cases r with
  | ok e => exact fun v H' k b n h => q v H' (k1.trans k) b (n.trans n1) (evok_from b1.some k1 h)
  | er x => exact fun c d H' k b n h => q c d H' (k1.trans k) b (n.trans n1) h
theorem ae_bind {f : EV → M EV} {tf : V → Hp → VK → Prop} (ha : AE K cl W ta ma)
    (hf : ∀ (b l : Addr) (B0 : Addr → Prop) (H0 : Hp) (δ : DS) (g : Bag) (σ : L2.St) (H H1 : Hp) (x : EV) (v : V) (r : Rs EV) (g' : Bag), Sto ⟨K, cl, b, l⟩ B0 H0 δ g σ H1 → (∀ a, Bd B0 δ σ a → (H a).isSome = true) → EVok ⟨K, cl, b, l⟩ (Bd B0 δ σ) H H1 v x → f x g = some (r, g') → ∀ Q, Post ⟨K, cl, b, l⟩ (Bd B0 δ σ) W σ H1 g g' Q r → tf v H1 Q) :
    AE K cl W (fun σ H Q => ta σ H fun v H1 => tf v H1 Q) (e1 f ma) := by
  intro b l B0 H0 δ g σ H r g' S h Q q
  unfold e1 mbind at h
  cases e : ma δ g with
  | none => rw [e] at h; cases h
  | some p =>
    obtain ⟨r1, g1⟩ := p
    rw [e] at h
    cases r1 with
    | er x =>
      cases h
      exact ha b l B0 H0 δ g σ H _ _ S e _ q
    | ok x =>
      refine ha b l B0 H0 δ g σ H _ _ S e _ fun v H1 k1 b1 n1 h1 => ?_
      exact hf b l B0 H0 δ g1 σ H H1 x v r g' (S.kp k1 b1 n1) S.alB h1 h Q (post_then k1 b1 n1 q)
/-- a rule for two values -/
def R2ok (K : PySem.W.Frag) (cl : Str → Option Addr) (W : WX) (rr : R2) (f : EV → EV → M EV) : Prop :=
  ∀ (b l : Addr) (B0 : Addr → Prop) (H0 : Hp) (δ : DS) (g : Bag) (σ : L2.St) (H H1 : Hp) (x y : EV) (v w : V) (r : Rs EV) (g' : Bag), Sto ⟨K, cl, b, l⟩ B0 H0 δ g σ H1 → (∀ a, Bd B0 δ σ a → (H a).isSome = true) → Kp ⟨K, cl, b, l⟩ H H1 → EVok ⟨K, cl, b, l⟩ (Bd B0 δ σ) H H1 v x → EVok ⟨K, cl, b, l⟩ (Bd B0 δ σ) H H1 w y →
    f x y g = some (r, g') → ∀ Q, Post ⟨K, cl, b, l⟩ (Bd B0 δ σ) W σ H1 g g' Q r → rr v w H1 Q
theorem ae_2 {rr : R2} {f : EV → EV → M EV} (ha : AE K cl W ta ma) (hb : AE K cl W tb mb) (hr : R2ok K cl W rr f) : AE K cl W (tOp rr ta tb) (e2 f ma mb) := by
  intro b l B0 H0 δ g σ H r g' S h Q q
  unfold e2 mbind at h
  cases e : ma δ g with
  | none => rw [e] at h; cases h
  | some p =>
    obtain ⟨r1, g1⟩ := p
    rw [e] at h
    cases r1 with
    | er x =>
      cases h
      exact ha b l B0 H0 δ g σ H _ _ S e _ q
    | ok x =>
      refine ha b l B0 H0 δ g σ H _ _ S e _ fun v H1 k1 b1 n1 h1 => ?_
      dsimp only at h
      have S1 := S.kp k1 b1 n1
      cases e' : mb δ g1 with
      | none => rw [e'] at h; cases h
      | some p =>
        obtain ⟨r2, g2⟩ := p
        rw [e'] at h
        cases r2 with
        | er x =>
          cases h
          exact hb b l B0 H0 δ g1 σ H1 _ _ S1 e' _ (post_then k1 b1 n1 q)
        | ok y =>
          refine hb b l B0 H0 δ g1 σ H1 _ _ S1 e' _ fun w H2 k2 b2 n2 h2 => ?_
          exact hr b l B0 H0 δ g2 σ H H2 x y v w r g' (S1.kp k2 b2 n2) S.alB (k1.trans k2) (evok_kp S.bd S.bg.some k2 h1) (evok_from b1.some k1 h2) h Q (post_then (k1.trans k2) b2 (n2.trans n1) q)
theorem aa_nil : AA K cl W tNil aNil := by
  intro b l B0 H0 δ g σ H r g' S h Q q
  cases h
  exact q [] H .refl S.bg rfl .nil
theorem aa_cons {tr : TA} {mr : DA} (ha : AE K cl W ta ma) (hr : AA K cl W tr mr) : AA K cl W (tCons ta tr) (aCons ma mr) := by
  intro b l B0 H0 δ g σ H r g' S h Q q
  unfold aCons mbind at h
  cases e : ma δ g with
  | none => rw [e] at h; cases h
  | some p =>
    obtain ⟨r1, g1⟩ := p
    rw [e] at h
    cases r1 with
    | er x =>
      cases h
      exact ha b l B0 H0 δ g σ H _ _ S e _ q
    | ok x =>
      refine ha b l B0 H0 δ g σ H _ _ S e _ fun v H1 k1 b1 n1 h1 => ?_
      dsimp only at h
      have S1 := S.kp k1 b1 n1
      cases e' : mr δ g1 with
      | none => rw [e'] at h; cases h
      | some p =>
        obtain ⟨r2, g2⟩ := p
        rw [e'] at h
        cases r2 with
        | er x =>
          cases h
          exact hr b l B0 H0 δ g1 σ H1 _ _ S1 e' _ fun c d H' k b n h => q c d H' (k1.trans k) b (n.trans n1) h
        | ok ys =>
          cases h
          refine hr b l B0 H0 δ g1 σ H1 _ _ S1 e' _ fun ws H2 k2 b2 n2 h2 => ?_
          exact q (v :: ws) H2 (k1.trans k2) b2 (n2.trans n1) (.cons (evok_kp S.bd S.bg.some k2 h1) (evs_from b1.some k1 h2))
end
end Vi

set_option Elab.async false
set_option linter.all false
set_option maxRecDepth 100000
set_option maxHeartbeats 4000000
namespace Vi
open PySem PySem.Spec PyProof.Rows L2

/-! statements -/
inductive Ot where
  | nx (δ : DS)
  | rt (e : EV)
  | bk (δ : DS)
  | ct (δ : DS)
  | er (δ : DS) (x : Xn)
abbrev DT := DS → Bag → Option (Ot × Bag)
def PostS (G : Gd) (B0 : Addr → Prop) (H0 : Hp) (W : WX) (Dn : Ends) (g' : Bag) : Ot → Prop
  | .nx δ' => ∀ σ' H', Sto G B0 H0 δ' g' σ' H' → Dn.nx σ' H'
  | .bk δ' => ∀ σ' H', Sto G B0 H0 δ' g' σ' H' → Dn.bk σ' H'
  | .ct δ' => ∀ σ' H', Sto G B0 H0 δ' g' σ' H' → Dn.ct σ' H'
  | .rt e => ∀ v H', Kp G H0 H' → BagAt G H' g' → H0 G.l = some (.lst (g'.ns.map V.int)) → EVok G B0 H0 H' v e → Dn.rt v H'
  | .er δ' x => ∀ cls dx σ' H', Sto G B0 H0 δ' g' σ' H' → ExAt G (Bd B0 δ' σ') H' cls dx x → W cls dx σ' H'
def AS (K : PySem.W.Frag) (cl : Str → Option Addr) (W : WX) (ts : TS) (m : DT) : Prop := ∀ (b l : Addr) B0 H0 δ g σ H o g', Sto ⟨K, cl, b, l⟩ B0 H0 δ g σ H → m δ g = some (o, g') → ∀ Dn, PostS ⟨K, cl, b, l⟩ B0 H0 W Dn g' o → ts Dn σ H

section
variable {G : Gd} {B0 : Addr → Prop} {H0 H H' : Hp} {δ : DS} {g g' : Bag} {σ : L2.St}
theorem bd_set_sub {i : Nat} {x : Option SV} {v : V} (hx : ∀ ds, x ≠ some (.own ds)) {a : Addr} (h : Bd B0 (δ.set i x) (σ.set i (some v)) a) : Bd B0 δ σ a := by
  rcases h with h | ⟨j, ds, h1, h2⟩
  · exact Or.inl h
  · by_cases e : i = j
    · subst e
      by_cases hi : i < δ.length
      · rw [List.getElem?_set_self hi] at h1
        exact (hx ds (Option.some.inj h1)).elim
      · rw [List.getElem?_eq_none (by simpa using hi)] at h1
        cases h1
    · rw [List.getElem?_set_ne e] at h1 h2
      exact Or.inr ⟨j, ds, h1, h2⟩
/-- a slot gets a thing that is kept -/
theorem Sto.set (S : Sto G B0 H0 δ g σ H) {i : Nat} {v : V} {d : D} (h : Dat G (Bd B0 δ σ) H v d) : Sto G B0 H0 (δ.set i (some (.val d))) g (σ.set i (some v)) H := by
  have sub : ∀ a, Bd B0 (δ.set i (some (.val d))) (σ.set i (some v)) a → Bd B0 δ σ a := fun a => bd_set_sub (fun ds z => by cases z)
  refine ⟨by simp [S.len], S.ent, S.bg, S.lb, S.scr, S.b0, S.hb, S.al, fun j d' hj => ?_, fun j ds hj => ?_, fun j k ds es p hj hk h1 h2 => ?_, fun j hj => ?_, fun j x hj => ?_, fun j ds p hj hp => ?_⟩
  · by_cases e : i = j
    · subst e
      by_cases hi : i < δ.length
      · rw [List.getElem?_set_self hi] at hj
        cases hj
        exact ⟨v, List.getElem?_set_self (by rw [S.len]; exact hi), Dat.goes (goes_less sub) h⟩
      · rw [List.getElem?_eq_none (by simpa using hi)] at hj
        cases hj
    · rw [List.getElem?_set_ne e] at hj
      obtain ⟨u, h1, h2⟩ := S.val j d' hj
      exact ⟨u, by rw [List.getElem?_set_ne e]; exact h1, Dat.goes (goes_less sub) h2⟩
  · by_cases e : i = j
    · subst e
      by_cases hi : i < δ.length
      · rw [List.getElem?_set_self hi] at hj
        cases hj
      · rw [List.getElem?_eq_none (by simpa using hi)] at hj
        cases hj
    · rw [List.getElem?_set_ne e] at hj
      obtain ⟨p, vs, h1, h2, h3, h4⟩ := S.own j ds hj
      exact ⟨p, vs, by rw [List.getElem?_set_ne e]; exact h1, h2, h3, OwnD.goes (goes_less sub) h4⟩
  · have ne : ∀ {j : Nat} {ds : D}, (δ.set i (some (.val d)))[j]? = some (some (.own ds)) → i ≠ j := fun {j ds} hj z => by
      subst z
      by_cases hi : i < δ.length
      · rw [List.getElem?_set_self hi] at hj
        cases hj
      · rw [List.getElem?_eq_none (by simpa using hi)] at hj
        cases hj
    have e1 := ne hj
    have e2 := ne hk
    rw [List.getElem?_set_ne e1] at hj h1
    rw [List.getElem?_set_ne e2] at hk h2
    exact S.inj j k ds es p hj hk h1 h2
  · by_cases e : i = j
    · subst e
      by_cases hi : i < δ.length
      · rw [List.getElem?_set_self hi] at hj
        cases hj
      · rw [List.getElem?_eq_none (by simpa using hi)] at hj
        cases hj
    · rw [List.getElem?_set_ne e] at hj ⊢
      exact S.bag j hj
  · by_cases e : i = j
    · subst e
      by_cases hi : i < δ.length
      · rw [List.getElem?_set_self hi] at hj
        cases hj
      · rw [List.getElem?_eq_none (by simpa using hi)] at hj
        cases hj
    · rw [List.getElem?_set_ne e] at hj ⊢
      exact S.exc j x hj
  · by_cases e : i = j
    · subst e
      by_cases hi : i < δ.length
      · rw [List.getElem?_set_self hi] at hj
        cases hj
      · rw [List.getElem?_eq_none (by simpa using hi)] at hj
        cases hj
    · rw [List.getElem?_set_ne e] at hj hp
      exact S.nb j ds p hj hp
/-- a slot gets a new list of its own; S is the state ahead of its making -/
theorem Sto.setOwn (S : Sto G B0 H0 δ g σ H) (k : Kp G H H') (bg' : BagAt G H' g') (hn : g'.ns = g.ns) {i : Nat} {v : V} {ds : D} (h : EVok G (Bd B0 δ σ) H H' v (.nw ds)) : Sto G B0 H0 (δ.set i (some (.own ds))) g' (σ.set i (some v)) H' := by
  obtain ⟨p, vs, rfl, hp, h1, h2⟩ := h
  have sub : ∀ a, Bd B0 (δ.set i (some (.own ds))) (σ.set i (some (.ref p))) a → Bd B0 δ σ a ∨ a = p := fun a ha => by
    rcases ha with ha | ⟨j, es, a1, a2⟩
    · exact Or.inl (Or.inl ha)
    · by_cases e : i = j
      · subst e
        by_cases hi : i < δ.length
        · rw [List.getElem?_set_self (by rw [S.len]; exact hi)] at a2
          cases a2
          exact Or.inr rfl
        · rw [List.getElem?_eq_none (by simpa using hi)] at a1
          cases a1
      · rw [List.getElem?_set_ne e] at a1 a2
        exact Or.inl (Or.inr ⟨j, es, a1, a2⟩)
  have go : Goes (Bd B0 δ σ) (Bd B0 (δ.set i (some (.own ds))) (σ.set i (some (.ref p)))) H H' := fun a o n e => ⟨k a o (fun z => n (z ▸ S.bd)) e, fun z => by
    rcases sub a z with z | z
    · exact n z
    · subst z
      rw [hp] at e
      cases e⟩
  have S' := S.kp k bg' hn
  have pb : p ≠ G.b := fun z => by
    subst z
    have := S.bg.some
    rw [hp] at this
    cases this
  refine ⟨by simp [S.len], S'.ent, bg', S.lb, S'.scr, S.b0, S.hb, S'.al, fun j d' hj => ?_, fun j es hj => ?_, fun j k ds1 es q hj hk q1 q2 => ?_, fun j hj => ?_, fun j x hj => ?_, fun j es q hj hq => ?_⟩
  · by_cases e : i = j
    · subst e
      by_cases hi : i < δ.length
      · rw [List.getElem?_set_self hi] at hj
        cases hj
      · rw [List.getElem?_eq_none (by simpa using hi)] at hj
        cases hj
    · rw [List.getElem?_set_ne e] at hj
      obtain ⟨u, a1, a2⟩ := S.val j d' hj
      exact ⟨u, by rw [List.getElem?_set_ne e]; exact a1, Dat.goes go a2⟩
  · by_cases e : i = j
    · subst e
      by_cases hi : i < δ.length
      · rw [List.getElem?_set_self hi] at hj
        cases hj
        exact ⟨p, vs, List.getElem?_set_self (by rw [S.len]; exact hi), fresh_kp S.bg.some S.ent hp, h1, OwnD.goes (goes_less sub) h2⟩
      · rw [List.getElem?_eq_none (by simpa using hi)] at hj
        cases hj
    · rw [List.getElem?_set_ne e] at hj
      obtain ⟨q, ws, a1, a2, a3, a4⟩ := S.own j es hj
      exact ⟨q, ws, by rw [List.getElem?_set_ne e]; exact a1, a2, k q _ (S.ownb a2) a3, OwnD.goes go a4⟩
  · have oth : ∀ {j : Nat} {es : D}, i ≠ j → δ[j]? = some (some (.own es)) → σ[j]? = some (some (V.ref p)) → False := fun {j es} _ hj q => by
      obtain ⟨r, ws, a1, a2, a3, _⟩ := S.own j es hj
      rw [q] at a1
      cases a1
      rw [hp] at a3
      cases a3
    have at_i : ∀ {q : Addr}, (σ.set i (some (V.ref p)))[i]? = some (some (V.ref q)) → q = p := fun {q} h => by
      by_cases hi : i < σ.length
      · rw [List.getElem?_set_self hi] at h
        cases h
        rfl
      · rw [List.getElem?_eq_none (by simpa using hi)] at h
        cases h
    by_cases e1 : i = j
    · by_cases e2 : i = k
      · exact e1.symm.trans e2
      · subst e1
        have := at_i q1
        subst this
        rw [List.getElem?_set_ne e2] at hk q2
        exact (oth e2 hk q2).elim
    · by_cases e2 : i = k
      · subst e2
        have := at_i q2
        subst this
        rw [List.getElem?_set_ne e1] at hj q1
        exact (oth e1 hj q1).elim
      · rw [List.getElem?_set_ne e1] at hj q1
        rw [List.getElem?_set_ne e2] at hk q2
        exact S.inj j k ds1 es q hj hk q1 q2
  · by_cases e : i = j
    · subst e
      by_cases hi : i < δ.length
      · rw [List.getElem?_set_self hi] at hj
        cases hj
      · rw [List.getElem?_eq_none (by simpa using hi)] at hj
        cases hj
    · rw [List.getElem?_set_ne e] at hj ⊢
      exact S.bag j hj
  · by_cases e : i = j
    · subst e
      by_cases hi : i < δ.length
      · rw [List.getElem?_set_self hi] at hj
        cases hj
      · rw [List.getElem?_eq_none (by simpa using hi)] at hj
        cases hj
    · rw [List.getElem?_set_ne e] at hj ⊢
      exact S.exc j x hj
  · by_cases e : i = j
    · subst e
      by_cases hi : i < σ.length
      · rw [List.getElem?_set_self hi] at hq
        cases hq
        intro z
        have := S.al p z
        rw [hp] at this
        cases this
      · rw [List.getElem?_eq_none (by simpa using hi)] at hq
        cases hq
    · rw [List.getElem?_set_ne e] at hj hq
      exact S.nb j es q hj hq
/-- an owned list changes: its items become es -/
theorem Sto.wr (S : Sto G B0 H0 δ g σ H) {i : Nat} {ds es : D} {p : Addr} {ws : HO} (hi : δ[i]? = some (some (.own ds))) (hp : σ[i]? = some (some (.ref p))) (h : OwnD G (Bd B0 δ σ) H ws es) : Sto G B0 H0 (δ.set i (some (.own es))) g σ (upd H p ws) := by
  obtain ⟨p', vs, a1, a2, a3, a4⟩ := S.own i ds hi
  rw [hp] at a1
  cases a1
  have il : i < δ.length := (List.getElem?_eq_some_iff.mp hi).1
  have bde : ∀ a, Bd B0 (δ.set i (some (.own es))) σ a ↔ Bd B0 δ σ a := fun a => by
    constructor
    · rintro (h | ⟨j, e2, h1, h2⟩)
      · exact Or.inl h
      · by_cases e : i = j
        · subst e
          exact Or.inr ⟨i, ds, hi, h2⟩
        · rw [List.getElem?_set_ne e] at h1
          exact Or.inr ⟨j, e2, h1, h2⟩
    · rintro (h | ⟨j, e2, h1, h2⟩)
      · exact Or.inl h
      · by_cases e : i = j
        · subst e
          exact Or.inr ⟨i, es, List.getElem?_set_self il, h2⟩
        · exact Or.inr ⟨j, e2, by rw [List.getElem?_set_ne e]; exact h1, h2⟩
  have bp : Bd B0 δ σ p := Or.inr ⟨i, ds, hi, hp⟩
  have go : Goes (Bd B0 δ σ) (Bd B0 (δ.set i (some (.own es))) σ) H (upd H p ws) := fun a o n e => ⟨by rw [upd_ne (fun z => n (by rw [z]; exact bp))]; exact e, fun z => n ((bde a).mp z)⟩
  have pb := S.ownb a2
  refine ⟨by simp [S.len], fun a o n e => ?_, ?_, S.lb, S.scr, S.b0, S.hb, fun a ha => (by unfold upd; split <;> first | rfl | exact S.al a ha), fun j d' hj => ?_, fun j e2 hj => ?_, fun j k d1 d2 q hj hk q1 q2 => ?_, fun j hj => ?_, fun j x hj => ?_, fun j e2 q hj hq => ?_⟩
  · rw [upd_ne (ne_of_none e a2)]
    exact S.ent a o n e
  · show upd H p ws G.b = _
    rw [upd_ne (fun z => pb z.symm)]
    exact S.bg
  · by_cases e : i = j
    · subst e
      rw [List.getElem?_set_self il] at hj
      cases hj
    · rw [List.getElem?_set_ne e] at hj
      obtain ⟨u, b1, b2⟩ := S.val j d' hj
      exact ⟨u, b1, Dat.goes go b2⟩
  · by_cases e : i = j
    · subst e
      rw [List.getElem?_set_self il] at hj
      cases hj
      exact ⟨p, ws, hp, a2, upd_same, OwnD.goes go h⟩
    · rw [List.getElem?_set_ne e] at hj
      obtain ⟨q, us, b1, b2, b3, b4⟩ := S.own j e2 hj
      have qp : q ≠ p := fun z => by
        subst z
        exact e (S.inj i j ds e2 q hi hj hp b1)
      exact ⟨q, us, b1, b2, by rw [upd_ne qp]; exact b3, OwnD.goes go b4⟩
  · have back : ∀ {j : Nat} {e1 : D}, (δ.set i (some (.own es)))[j]? = some (some (.own e1)) → ∃ e0, δ[j]? = some (some (.own e0)) := fun {j e1} h => by
      by_cases e : i = j
      · subst e
        exact ⟨ds, hi⟩
      · rw [List.getElem?_set_ne e] at h
        exact ⟨_, h⟩
    obtain ⟨c1, f1⟩ := back hj
    obtain ⟨c2, f2⟩ := back hk
    exact S.inj j k c1 c2 q f1 f2 q1 q2
  · by_cases e : i = j
    · subst e
      rw [List.getElem?_set_self il] at hj
      cases hj
    · rw [List.getElem?_set_ne e] at hj
      exact S.bag j hj
  · by_cases e : i = j
    · subst e
      rw [List.getElem?_set_self il] at hj
      cases hj
    · rw [List.getElem?_set_ne e] at hj
      exact S.exc j x hj
  · by_cases e : i = j
    · subst e
      exact S.nb i ds q hi hq
    · rw [List.getElem?_set_ne e] at hj
      exact S.nb j e2 q hj hq

/-- an own object is given up: from now on it is kept -/
theorem Sto.rel (S : Sto G B0 H0 δ g σ H) {i : Nat} {d : D} (hi : δ[i]? = some (some (.own d))) : Sto G B0 H0 (δ.set i (some (.val d))) g σ H := by
  obtain ⟨p, o, a1, a2, a3, a4⟩ := S.own i d hi
  have il : i < δ.length := (List.getElem?_eq_some_iff.mp hi).1
  have ne : ∀ {j : Nat} {ds : D}, (δ.set i (some (.val d)))[j]? = some (some (.own ds)) → i ≠ j ∧ δ[j]? = some (some (.own ds)) := fun {j ds} hj => by
    by_cases e : i = j
    · subst e
      rw [List.getElem?_set_self il] at hj
      cases hj
    · rw [List.getElem?_set_ne e] at hj
      exact ⟨e, hj⟩
  have sub : ∀ a, Bd B0 (δ.set i (some (.val d))) σ a → Bd B0 δ σ a := fun a z => by
    rcases z with z | ⟨j, ds, h1, h2⟩
    · exact Or.inl z
    · exact Or.inr ⟨j, ds, (ne h1).2, h2⟩
  have np : ¬ Bd B0 (δ.set i (some (.val d))) σ p := fun z => by
    rcases z with z | ⟨j, ds, h1, h2⟩
    · exact S.nb i d p hi a1 z
    · exact (ne h1).1 (S.inj i j d ds p hi (ne h1).2 a1 h2)
  refine ⟨by simp [S.len], S.ent, S.bg, S.lb, S.scr, S.b0, S.hb, S.al, fun j d' hj => ?_, fun j ds hj => ?_, fun j k ds es q hj hk h1 h2 => S.inj j k ds es q (ne hj).2 (ne hk).2 h1 h2, fun j hj => ?_, fun j x hj => ?_, fun j ds q hj => S.nb j ds q (ne hj).2⟩
  · by_cases e : i = j
    · subst e
      rw [List.getElem?_set_self il] at hj
      cases hj
      exact ⟨_, a1, OwnD.dat np a3 (OwnD.goes (goes_less sub) a4)⟩
    · rw [List.getElem?_set_ne e] at hj
      obtain ⟨v, h1, h2⟩ := S.val j d' hj
      exact ⟨v, h1, Dat.goes (goes_less sub) h2⟩
  · obtain ⟨q, u, h1, h2, h3, h4⟩ := S.own j ds (ne hj).2
    exact ⟨q, u, h1, h2, h3, OwnD.goes (goes_less sub) h4⟩
  · by_cases e : i = j
    · subst e
      rw [List.getElem?_set_self il] at hj
      cases hj
    · rw [List.getElem?_set_ne e] at hj
      exact S.bag j hj
  · by_cases e : i = j
    · subst e
      rw [List.getElem?_set_self il] at hj
      cases hj
    · rw [List.getElem?_set_ne e] at hj
      exact S.exc j x hj

/-! all that stands but what is owned -/
open Classical in
noncomputable def ground (δ : DS) (σ : L2.St) (H : Hp) : Hp := fun a => if ∃ (i : Nat) (ds : D), δ[i]? = some (some (.own ds)) ∧ σ[i]? = some (some (V.ref a)) then none else H a
theorem ground_sub {a : Addr} {o : HO} (h : ground δ σ H a = some o) : H a = some o := by
  unfold ground at h
  split at h
  · cases h
  · exact h
theorem ground_of {a : Addr} {o : HO} (h : H a = some o) (n : ¬ Bd B0 δ σ a) : ground δ σ H a = some o := by
  unfold ground
  rw [if_neg (fun ⟨i, ds, z⟩ => n (Or.inr ⟨i, ds, z⟩))]
  exact h
theorem Sto.h0g (S : Sto G B0 H0 δ g σ H) {a : Addr} {o : HO} (hb : a ≠ G.b) (h : H0 a = some o) : ground δ σ H a = some o := by
  unfold ground
  rw [if_neg]
  · exact S.ent a o hb h
  · rintro ⟨i, ds, h1, h2⟩
    obtain ⟨p, vs, a1, a2, _, _⟩ := S.own i ds h1
    rw [h2] at a1
    cases a1
    rw [a2] at h
    cases h
theorem Sto.gb (S : Sto G B0 H0 δ g σ H) : ground δ σ H G.b = H G.b := by
  unfold ground
  rw [if_neg]
  rintro ⟨i, ds, h1, h2⟩
  obtain ⟨p, vs, a1, a2, _, _⟩ := S.own i ds h1
  rw [h2] at a1
  cases a1
  exact S.ownb a2 rfl
theorem Sto.rebase (S : Sto G B0 H0 δ g σ H) : Sto G B0 (ground δ σ H) δ g σ H := by
  refine ⟨S.len, fun a o _ e => ground_sub e, S.bg, S.lb, S.h0g S.lb S.scr, S.b0, ?_, S.al, S.val, fun i ds h => ?_, S.inj, S.bag, S.exc, S.nb⟩
  · rw [S.gb]
    exact S.bg.some
  · obtain ⟨p, vs, a1, a2, a3, a4⟩ := S.own i ds h
    refine ⟨p, vs, a1, ?_, a3, a4⟩
    unfold ground
    rw [if_pos ⟨i, ds, h, a1⟩]
theorem ground_none {H1 : Hp} (S : Sto G B0 H0 δ g σ H) {p : Addr} (h : ground δ σ H p = none) (pb : p ≠ G.b) : H0 p = none := by
  cases e : H0 p with
  | none => rfl
  | some o =>
    rw [S.h0g pb e] at h
    cases h
theorem Sto.unbase (S : Sto G B0 H0 δ g σ H) {δ' : DS} {σ' : L2.St} (S' : Sto G B0 (ground δ σ H) δ' g' σ' H') : Sto G B0 H0 δ' g' σ' H' := by
  refine ⟨S'.len, fun a o n e => S'.ent a o n (S.h0g n e), S'.bg, S.lb, ?_, S.b0, S.hb, S'.al, S'.val, fun i ds h => ?_, S'.inj, S'.bag, S'.exc, S'.nb⟩
  · have e1 := S'.scr
    rw [S.h0g S.lb S.scr] at e1
    rw [S.scr]
    exact e1
  · obtain ⟨p, vs, a1, a2, a3, a4⟩ := S'.own i ds h
    exact ⟨p, vs, a1, ground_none (H1 := H) S a2 (S'.ownb a2), a3, a4⟩
/-- what was apart from the owned ones stays so -/
theorem Sto.keepD (S : Sto G B0 H0 δ g σ H) {δ' : DS} {σ' : L2.St} (S' : Sto G B0 (ground δ σ H) δ' g' σ' H') {v : V} {d : D} (h : Dat G (Bd B0 δ σ) H v d) : Dat G (Bd B0 δ' σ') H' v d := by
  refine Dat.goes (fun a o n e => ?_) h
  have e0 := ground_of e n
  refine ⟨S'.ent a o (fun z => n (z ▸ S.bd)) e0, fun z => ?_⟩
  rcases z with z | ⟨i, ds, h1, h2⟩
  · exact n (Or.inl z)
  · obtain ⟨p, vs, a1, a2, _, _⟩ := S'.own i ds h1
    rw [h2] at a1
    cases a1
    rw [a2] at e0
    cases e0
theorem Sto.keepE (S : Sto G B0 H0 δ g σ H) {v : V} {e : EV} (h : EVok G B0 (ground δ σ H) H' v e) : EVok G B0 H0 H' v e := by
  cases e with
  | val d => exact h
  | nw ds =>
    obtain ⟨p, vs, rfl, h1, h2, h3⟩ := h
    refine ⟨p, vs, rfl, ground_none (H1 := H) S h1 (fun z => ?_), h2, h3⟩
    subst z
    rw [S.gb] at h1
    have := S.bg.some
    rw [h1] at this
    cases this
  | bw ds => exact h
  | bag => exact h
  | exc x => exact h
theorem Sto.postS (S : Sto G B0 H0 δ g σ H) {W : WX} {Dn : Ends} {o : Ot} (q : PostS G B0 H0 W Dn g' o) : PostS G B0 (ground δ σ H) W Dn g' o := by
  cases o with
  | nx δ' => exact fun σ' H' s => q σ' H' (S.unbase s)
  | bk δ' => exact fun σ' H' s => q σ' H' (S.unbase s)
  | ct δ' => exact fun σ' H' s => q σ' H' (S.unbase s)
  | rt e =>
    refine fun v H' k b sc h => q v H' (fun a o n e => k a o n (S.h0g n e)) b ?_ (S.keepE h)
    rw [S.h0g S.lb S.scr] at sc
    rw [S.scr]
    exact sc
  | er δ' x => exact fun c d σ' H' s h => q c d σ' H' (S.unbase s) h
end

/-! the statements' meanings -/
def sNext : DT := fun δ g => some (.nx δ, g)
def sSeq (a b : DT) : DT := fun δ g => match a δ g with
  | some (.nx δ', g') => b δ' g'
  | r => r
/-- an expression ahead of a statement -/
def sOn (m : DE) (f : EV → DT) : DT := fun δ g => match m δ g with
  | none => none
  | some (.er x, g') => some (.er δ x, g')
  | some (.ok e, g') => f e δ g'
def sOnB (m : DB) (f : Bool → DT) : DT := fun δ g => match m δ g with
  | none => none
  | some (.er x, g') => some (.er δ x, g')
  | some (.ok c, g') => f c δ g'
def retEv : EV → Option EV
  | .val d => some (.val d)
  | .nw ds => some (.nw ds)
  | _ => none
/-- return of a name whose list the def has changed -/
def sRetO (i : Nat) : DT := fun δ g => match δ[i]? with
  | some (some (.own ds)) => some (.rt (.nw ds), g)
  | some (some (.val d)) => some (.rt (.val d), g)
  | _ => none
def sRet (m : DE) : DT := sOn m fun e _ g => (retEv e).map fun r => (Ot.rt r, g)
def sRetN : DT := fun _ g => some (.rt (.val .non), g)
def sDrop (m : DE) : DT := sOn m fun _ δ g => some (.nx δ, g)
def sIf (c : DB) (a b : DT) : DT := sOnB c fun t => if t = true then a else b
/-- a name that is never changed behind -/
def sSet (i : Nat) (m : DE) : DT := sOn m fun e δ g => e.keep.map fun d => (Ot.nx (δ.set i (some (.val d))), g)
/-- a name whose list the def changes -/
def sSetO (i : Nat) (m : DE) : DT := sOn m fun e δ g => match e with
  | .nw ds => some (.nx (δ.set i (some (.own ds))), g)
  | .val d => some (.nx (δ.set i (some (.val d))), g)
  | _ => none
section
variable {K : PySem.W.Frag} {cl : Str → Option Addr} {W : WX} {te : TE} {tt : TT} {m : DE} {mc : DB} {t u : TS} {ma mb : DT}
theorem as_next : AS K cl W tNext sNext := by
  intro b l B0 H0 δ g σ H o g' S h Dn q
  cases h
  exact q σ H S
theorem as_seq (h1 : AS K cl W t ma) (h2 : AS K cl W u mb) : AS K cl W (tSeq t u) (sSeq ma mb) := by
  intro b l B0 H0 δ g σ H o g' S h Dn q
  unfold sSeq at h
  cases e : ma δ g with
  | none => rw [e] at h; cases h
  | some p =>
    obtain ⟨o1, g1⟩ := p
    rw [e] at h
    cases o1 with
    | nx δ1 => exact h1 b l B0 H0 δ g σ H _ _ S e _ fun σ' H' S' => h2 b l B0 H0 δ1 g1 σ' H' _ _ S' h Dn q
    | rt v => cases h; exact h1 b l B0 H0 δ g σ H _ _ S e _ q
    | bk δ1 => cases h; exact h1 b l B0 H0 δ g σ H _ _ S e _ q
    | ct δ1 => cases h; exact h1 b l B0 H0 δ g σ H _ _ S e _ q
    | er δ1 x => cases h; exact h1 b l B0 H0 δ g σ H _ _ S e _ q
/-- the general step: an expression, then what is done with its value -/
theorem as_on {f : EV → DT} {tf : V → TS} (hm : AE K cl W te m)
    (hf : ∀ (b l : Addr) (B0 : Addr → Prop) (H0 : Hp) (δ : DS) (g g1 : Bag) (σ : L2.St) (H H1 : Hp) (e : EV) (v : V) (o : Ot) (g' : Bag), Sto ⟨K, cl, b, l⟩ B0 H0 δ g σ H → Kp ⟨K, cl, b, l⟩ H H1 → BagAt ⟨K, cl, b, l⟩ H1 g1 → g1.ns = g.ns → EVok ⟨K, cl, b, l⟩ (Bd B0 δ σ) H H1 v e → f e δ g1 = some (o, g') →
      ∀ Dn, PostS ⟨K, cl, b, l⟩ B0 H0 W Dn g' o → tf v Dn σ H1) : AS K cl W (fun Dn σ H => te σ H fun v H1 => tf v Dn σ H1) (sOn m f) := by
  intro b l B0 H0 δ g σ H o g' S h Dn q
  unfold sOn at h
  cases e : m δ g with
  | none => rw [e] at h; cases h
  | some p =>
    obtain ⟨r, g1⟩ := p
    rw [e] at h
    cases r with
    | er x =>
      cases h
      exact hm b l B0 H0 δ g σ H _ _ S e _ fun c d H' k bg n hx => q c d σ H' (S.kp k bg n) hx
    | ok ev => exact hm b l B0 H0 δ g σ H _ _ S e _ fun v H1 k bg n hv => hf b l B0 H0 δ g g1 σ H H1 ev v o g' S k bg n hv h Dn q
theorem as_onB {f : Bool → DT} {tf : Bool → TS} (hm : AB K cl W tt mc)
    (hf : ∀ c, AS K cl W (tf c) (f c)) : AS K cl W (fun Dn σ H => tt σ H fun c H1 => tf c Dn σ H1) (sOnB mc f) := by
  intro b l B0 H0 δ g σ H o g' S h Dn q
  unfold sOnB at h
  cases e : mc δ g with
  | none => rw [e] at h; cases h
  | some p =>
    obtain ⟨r, g1⟩ := p
    rw [e] at h
    cases r with
    | er x =>
      cases h
      exact hm b l B0 H0 δ g σ H _ _ S e _ fun c d H' k bg n hx => q c d σ H' (S.kp k bg n) hx
    | ok c => exact hm b l B0 H0 δ g σ H _ _ S e _ fun H1 k bg n => hf c b l B0 H0 δ g1 σ H1 o g' (S.kp k bg n) h Dn q
theorem as_if (hc : AB K cl W tt mc) (ha : AS K cl W t ma) (hb : AS K cl W u mb) : AS K cl W (tIfS tt t u) (sIf mc ma mb) :=
  as_onB (tf := fun c Dn σ H1 => if c = true then t Dn σ H1 else u Dn σ H1) hc fun c => by
    cases c with
    | true => exact ha
    | false => exact hb
theorem as_ret (h : AE K cl W te m) : AS K cl W (tRet te) (sRet m) := by
  refine as_on (tf := fun v Dn _ H1 => Dn.rt v H1) h fun b l B0 H0 δ g g1 σ H H1 e v o g' S k bg n hv h Dn q => ?_
  have S' := S.kp k bg n
  have hb : ∀ a, B0 a → Bd B0 δ σ a := fun a z => Or.inl z
  cases e with
  | val d =>
    cases h
    exact q v H1 S'.ent bg S'.scr (Dat.goes (goes_less hb) hv)
  | nw ds =>
    cases h
    obtain ⟨p, vs, rfl, h1, h2, h3⟩ := hv
    exact q _ H1 S'.ent bg S'.scr ⟨p, vs, rfl, fresh_kp S.bg.some S.ent h1, h2, OwnD.goes (goes_less fun a z => z.elim (fun z => Or.inl (hb a z)) Or.inr) h3⟩
  | bw ds => cases h
  | bag => cases h
  | exc x => cases h
theorem as_retO {i : Nat} : AS K cl W (tRet (tVar i)) (sRetO i) := by
  intro b l B0 H0 δ g σ H o g' S h Dn q
  unfold sRetO at h
  have hb : ∀ a, B0 a → Bd B0 δ σ a := fun a z => Or.inl z
  split at h
  · rename_i ds e
    cases h
    obtain ⟨p, vs, h1, h2, h3, h4⟩ := S.own i ds e
    exact ⟨_, h1, q _ H S.ent S.bg S.scr ⟨p, vs, rfl, h2, h3, OwnD.goes (goes_less fun a z => z.elim (hb a) fun z => by rw [z]; exact Or.inr ⟨i, ds, e, h1⟩) h4⟩⟩
  · rename_i d e
    cases h
    obtain ⟨v, h1, h2⟩ := S.val i d e
    exact ⟨_, h1, q _ H S.ent S.bg S.scr (Dat.goes (goes_less hb) h2)⟩
  · cases h
theorem as_retN : AS K cl W tRetN sRetN := by
  intro b l B0 H0 δ g σ H o g' S h Dn q
  cases h
  exact q _ H S.ent S.bg S.scr (.non)
theorem as_drop (h : AE K cl W te m) : AS K cl W (tDrop te) (sDrop m) :=
  as_on (tf := fun _ Dn σ H1 => Dn.nx σ H1) h fun b l B0 H0 δ g g1 σ H H1 e v o g' S k bg n hv h Dn q => by
    cases h
    exact q σ H1 (S.kp k bg n)
theorem as_set {i : Nat} (h : AE K cl W te m) : AS K cl W (tAsg te (gName i)) (sSet i m) :=
  as_on (tf := fun v Dn σ H1 => Dn.nx (σ.set i (some v)) H1) h fun b l B0 H0 δ g g1 σ H H1 e v o g' S k bg n hv h Dn q => by
    cases hk : e.keep with
    | none => rw [hk] at h; cases h
    | some d =>
      rw [hk] at h
      cases h
      exact q _ H1 ((S.kp k bg n).set (evok_keep S.alB hv hk))
theorem as_setO {i : Nat} (h : AE K cl W te m) : AS K cl W (tAsg te (gName i)) (sSetO i m) :=
  as_on (tf := fun v Dn σ H1 => Dn.nx (σ.set i (some v)) H1) h fun b l B0 H0 δ g g1 σ H H1 e v o g' S k bg n hv h Dn q => by
    cases e with
    | val d =>
      cases h
      exact q _ H1 ((S.kp k bg n).set hv)
    | nw ds =>
      cases h
      exact q _ H1 (S.setOwn k bg n hv)
    | bw ds => cases h
    | bag => cases h
    | exc x => cases h
end
end Vi

set_option Elab.async false
set_option linter.all false
set_option maxRecDepth 100000
set_option maxHeartbeats 4000000
namespace Vi
open PySem PySem.Spec PyProof.Rows L2

/-! values, as data -/
mutual
def toPy : D → Option PyData
  | .non => some .none
  | .bl c => some (.bool c)
  | .int i => some (.int i)
  | .str s => some (.str s)
  | .lst ds => (toPyL ds).map .list
  | .tup ds => (toPyL ds).map .tuple
  | .dct _ => none
  | .obj _ _ => none
def toPyL : List D → Option (List PyData)
  | [] => some []
  | d :: ds => match toPy d, toPyL ds with
    | some p, some ps => some (p :: ps)
    | _, _ => none
end
mutual
theorem dp_of {G : Gd} {Bad : Addr → Prop} {H : Hp} : ∀ {v : V} {d : D} {p : PyData}, Dat G Bad H v d → toPy d = some p → Dp G.K H v p
  | _, _, _, .non, h => by cases h; exact .non
  | _, _, _, .bl c, h => by cases h; exact .bl c
  | _, _, _, .int i, h => by cases h; exact .int i
  | _, _, _, .str s, h => by cases h; exact .str s
  | _, _, _, .lstH n e r, h => by
    unfold toPy at h
    obtain ⟨ps, h1, h2⟩ := Option.map_eq_some_iff.mp h
    subst h2
    exact .lst (Or.inl (Or.inl e)) (dpl_of r h1)
  | _, _, _, .tupH n e r, h => by
    unfold toPy at h
    obtain ⟨ps, h1, h2⟩ := Option.map_eq_some_iff.mp h
    subst h2
    exact .tup (Or.inl (Or.inl e)) (dpl_of r h1)
  | _, _, _, .tupK e r, h => by
    unfold toPy at h
    obtain ⟨ps, h1, h2⟩ := Option.map_eq_some_iff.mp h
    subst h2
    exact .tup (sqT_no e) (dpl_of r h1)
  | _, _, _, .dct _ _ _, h => by unfold toPy at h; cases h
  | _, _, _, .obj _ _ _ _, h => by unfold toPy at h; cases h
theorem dpl_of {G : Gd} {Bad : Addr → Prop} {H : Hp} : ∀ {v : List V} {d : List D} {p : List PyData}, DatL G Bad H v d → toPyL d = some p → DpAll G.K H v p
  | _, _, _, .nil, h => by unfold toPyL at h; cases h; exact .nil
  | _, _, _, .cons a r, h => by
    unfold toPyL at h
    split at h
    · rename_i p ps h1 h2
      cases h
      exact .cons (dp_of a h1) (dpl_of r h2)
    · cases h
end

section
variable {K : PySem.W.Frag} {cl : Str → Option Addr} {W : WX} {ta tb te : TE} {tt tu : TT} {ma mb : DE} {mt mu : DB}

/-! truths -/
def bOf (m : DE) : DB := fun δ => mbind (m δ) fun e => match e with
  | .val (.bl c) => mret c
  | _ => mno
def bAnd (a b : DB) : DB := fun δ => mbind (a δ) fun c => if c = true then b δ else mret false
def bOr (a b : DB) : DB := fun δ => mbind (a δ) fun c => if c = true then mret true else b δ
def bNot (a : DB) : DB := fun δ => mbind (a δ) fun c => mret (!c)
def bYes : DB := fun _ => mret true
def eAnd (a b : DE) : DE := fun δ => mbind (a δ) fun e => match e with
  | .val (.bl c) => if c = true then b δ else mret (.val (.bl false))
  | _ => mno
def eOr (a b : DE) : DE := fun δ => mbind (a δ) fun e => match e with
  | .val (.bl c) => if c = true then mret (.val (.bl true)) else b δ
  | _ => mno
def eNot (a : DE) : DE := e1 (fun e => match e with
  | .val (.bl c) => mret (.val (.bl (!c)))
  | _ => mno) a
def eIf (c : DB) (a b : DE) : DE := fun δ => mbind (c δ) fun t => if t = true then a δ else b δ
theorem datbl {G : Gd} {Bad : Addr → Prop} {H : Hp} {v : V} {c : Bool} (h : Dat G Bad H v (.bl c)) : v = .bl c := by cases h; rfl
theorem datint {G : Gd} {Bad : Addr → Prop} {H : Hp} {v : V} {c : Int} (h : Dat G Bad H v (.int c)) : v = .int c := by cases h; rfl
theorem datstr {G : Gd} {Bad : Addr → Prop} {H : Hp} {v : V} {c : Str} (h : Dat G Bad H v (.str c)) : v = .str c := by cases h; rfl

/-- the two readings of a first part -/
theorem mb_cases {α β : Type} {m : M α} {f : α → M β} {g : Bag} {r : Rs β} {g' : Bag} (h : mbind m f g = some (r, g')) :
    (∃ x, m g = some (.er x, g') ∧ r = .er x) ∨ ∃ a g1, m g = some (.ok a, g1) ∧ f a g1 = some (r, g') := by
  unfold mbind at h
  split at h
  · cases h
  · rename_i x g1 e
    cases h
    exact Or.inl ⟨x, e, rfl⟩
  · rename_i a g1 e
    exact Or.inr ⟨a, g1, e, h⟩
theorem postb_then {G : Gd} {Bad : Addr → Prop} {σ : L2.St} {H : Hp} {g g1 g' : Bag} {Q : Bool → Hp → Prop} {r : Rs Bool} {H1 : Hp} (k1 : Kp G H H1) (n1 : g1.ns = g.ns) (q : PostB G Bad W σ H g g' Q r) : PostB G Bad W σ H1 g1 g' Q r := by
  cases r with
  | ok e => exact fun H' k b n => q H' (k1.trans k) b (n.trans n1)
  | er x => exact fun c d H' k b n h => q c d H' (k1.trans k) b (n.trans n1) h
theorem ab_of (h : AE K cl W te ma) : AB K cl W (tTest te) (bOf ma) := by
  intro b l B0 H0 δ g σ H r g' S hm Q q
  rcases mb_cases hm with ⟨x, e, rfl⟩ | ⟨a, g1, e, hm⟩
  · exact h b l B0 H0 δ g σ H _ _ S e _ q
  · refine h b l B0 H0 δ g σ H _ _ S e _ fun v H1 k1 b1 n1 hv => ?_
    split at hm
    · rename_i c
      cases hm
      exact ⟨c, datbl hv, q H1 k1 b1 n1⟩
    · cases hm
theorem ab_ofB (h : AE K cl W te ma) : AB K cl W (tB te) (bOf ma) := ab_of h
theorem ab_and (h1 : AB K cl W tt mt) (h2 : AB K cl W tu mu) : AB K cl W (tAnd tt tu) (bAnd mt mu) := by
  intro b l B0 H0 δ g σ H r g' S hm Q q
  rcases mb_cases hm with ⟨x, e, rfl⟩ | ⟨a, g1, e, hm⟩
  · exact h1 b l B0 H0 δ g σ H _ _ S e _ q
  · refine h1 b l B0 H0 δ g σ H _ _ S e _ fun H1 k1 b1 n1 => ?_
    cases a with
    | true => exact h2 b l B0 H0 δ g1 σ H1 _ _ (S.kp k1 b1 n1) hm Q (postb_then k1 n1 q)
    | false => cases hm; exact q H1 k1 b1 n1
theorem ab_or (h1 : AB K cl W tt mt) (h2 : AB K cl W tu mu) : AB K cl W (tOr tt tu) (bOr mt mu) := by
  intro b l B0 H0 δ g σ H r g' S hm Q q
  rcases mb_cases hm with ⟨x, e, rfl⟩ | ⟨a, g1, e, hm⟩
  · exact h1 b l B0 H0 δ g σ H _ _ S e _ q
  · refine h1 b l B0 H0 δ g σ H _ _ S e _ fun H1 k1 b1 n1 => ?_
    cases a with
    | false => exact h2 b l B0 H0 δ g1 σ H1 _ _ (S.kp k1 b1 n1) hm Q (postb_then k1 n1 q)
    | true => cases hm; exact q H1 k1 b1 n1
theorem ab_not (h1 : AB K cl W tt mt) : AB K cl W (tNot tt) (bNot mt) := by
  intro b l B0 H0 δ g σ H r g' S hm Q q
  rcases mb_cases hm with ⟨x, e, rfl⟩ | ⟨a, g1, e, hm⟩
  · exact h1 b l B0 H0 δ g σ H _ _ S e _ q
  · cases hm
    exact h1 b l B0 H0 δ g σ H _ _ S e _ fun H1 k1 b1 n1 => q H1 k1 b1 n1
theorem ab_yes : AB K cl W tYes bYes := by
  intro b l B0 H0 δ g σ H r g' S hm Q q
  cases hm
  exact q H .refl S.bg rfl
theorem ae_and (h1 : AE K cl W ta ma) (h2 : AE K cl W tb mb) : AE K cl W (tAndV ta tb) (eAnd ma mb) := by
  intro b l B0 H0 δ g σ H r g' S hm Q q
  rcases mb_cases hm with ⟨x, e, rfl⟩ | ⟨a, g1, e, hm⟩
  · exact h1 b l B0 H0 δ g σ H _ _ S e _ q
  · refine h1 b l B0 H0 δ g σ H _ _ S e _ fun v H1 k1 b1 n1 hv => ?_
    split at hm
    · rename_i c
      refine ⟨c, datbl hv, ?_⟩
      cases c with
      | true => exact h2 b l B0 H0 δ g1 σ H1 _ _ (S.kp k1 b1 n1) hm Q (post_then k1 b1 n1 q)
      | false => cases hm; exact q _ H1 k1 b1 n1 (.bl false)
    · cases hm
theorem ae_or (h1 : AE K cl W ta ma) (h2 : AE K cl W tb mb) : AE K cl W (tOrV ta tb) (eOr ma mb) := by
  intro b l B0 H0 δ g σ H r g' S hm Q q
  rcases mb_cases hm with ⟨x, e, rfl⟩ | ⟨a, g1, e, hm⟩
  · exact h1 b l B0 H0 δ g σ H _ _ S e _ q
  · refine h1 b l B0 H0 δ g σ H _ _ S e _ fun v H1 k1 b1 n1 hv => ?_
    split at hm
    · rename_i c
      refine ⟨c, datbl hv, ?_⟩
      cases c with
      | false => exact h2 b l B0 H0 δ g1 σ H1 _ _ (S.kp k1 b1 n1) hm Q (post_then k1 b1 n1 q)
      | true => cases hm; exact q _ H1 k1 b1 n1 (.bl true)
    · cases hm
theorem ae_not (h1 : AE K cl W ta ma) : AE K cl W (tNotV ta) (eNot ma) := by
  intro b l B0 H0 δ g σ H r g' S hm Q q
  rcases mb_cases hm with ⟨x, e, rfl⟩ | ⟨a, g1, e, hm⟩
  · exact h1 b l B0 H0 δ g σ H _ _ S e _ q
  · refine h1 b l B0 H0 δ g σ H _ _ S e _ fun v H1 k1 b1 n1 hv => ?_
    split at hm
    · rename_i c
      cases hm
      exact ⟨c, datbl hv, q _ H1 k1 b1 n1 (.bl _)⟩
    · cases hm
theorem ae_if (h0 : AB K cl W tt mt) (h1 : AE K cl W ta ma) (h2 : AE K cl W tb mb) : AE K cl W (tIf tt ta tb) (eIf mt ma mb) := by
  intro b l B0 H0 δ g σ H r g' S hm Q q
  rcases mb_cases hm with ⟨x, e, rfl⟩ | ⟨a, g1, e, hm⟩
  · exact h0 b l B0 H0 δ g σ H _ _ S e _ q
  · refine h0 b l B0 H0 δ g σ H _ _ S e _ fun H1 k1 b1 n1 => ?_
    cases a with
    | true => exact h1 b l B0 H0 δ g1 σ H1 _ _ (S.kp k1 b1 n1) hm Q (post_then k1 b1 n1 q)
    | false => exact h2 b l B0 H0 δ g1 σ H1 _ _ (S.kp k1 b1 n1) hm Q (post_then k1 b1 n1 q)

/-! two ints -/
def mI (F : Int → Int → D) : EV → EV → M EV := fun x y => match x, y with
  | .val (.int i), .val (.int j) => mret (.val (F i j))
  | _, _ => mno
def mIc (C : Int → Int → Bool) (F : Int → Int → D) : EV → EV → M EV := fun x y => match x, y with
  | .val (.int i), .val (.int j) => if C i j = true then mret (.val (F i j)) else mno
  | _, _ => mno
theorem r2_I0 {f : Int → Int → V} {F : Int → Int → D} (hF : ∀ G Bad H i j, Dat G Bad H (f i j) (F i j)) : R2ok K cl W (rI0 f) (mI F) := by
  intro b l B0 H0 δ g σ H H1 x y v w r g' S al k hv hw hm Q q
  unfold mI at hm
  split at hm
  · rename_i i j
    cases hm
    exact ⟨i, j, datint hv, datint hw, q _ H1 .refl S.bg rfl (hF _ _ _ i j)⟩
  · cases hm
theorem r2_I {f : Int → Int → V} {F : Int → Int → D} {C : Int → Int → Prop} {Cb : Int → Int → Bool} (hF : ∀ G Bad H i j, Dat G Bad H (f i j) (F i j)) (hC : ∀ i j, Cb i j = true → C i j) : R2ok K cl W (rI C f) (mIc Cb F) := by
  intro b l B0 H0 δ g σ H H1 x y v w r g' S al k hv hw hm Q q
  unfold mIc at hm
  split at hm
  · rename_i i j
    split at hm
    · rename_i hc
      cases hm
      exact ⟨i, j, datint hv, datint hw, hC i j hc, q _ H1 .refl S.bg rfl (hF _ _ _ i j)⟩
    · cases hm
  · cases hm
def mSub := mI fun i j => .int (i - j)
def mLt := mI fun i j => .bl (decide (i < j))
def mLe := mI fun i j => .bl (decide (i ≤ j))
def mGt := mI fun i j => .bl (decide (j < i))
def mGe := mI fun i j => .bl (decide (j ≤ i))
theorem r2_sub : R2ok K cl W (rI0 fun i j => .int (i - j)) mSub := r2_I0 fun _ _ _ _ _ => .int _
theorem r2_lt : R2ok K cl W (rI0 fun i j => .bl (decide (i < j))) mLt := r2_I0 fun _ _ _ _ _ => .bl _
theorem r2_le : R2ok K cl W (rI0 fun i j => .bl (decide (i ≤ j))) mLe := r2_I0 fun _ _ _ _ _ => .bl _
theorem r2_gt : R2ok K cl W (rI0 fun i j => .bl (decide (j < i))) mGt := r2_I0 fun _ _ _ _ _ => .bl _
theorem r2_ge : R2ok K cl W (rI0 fun i j => .bl (decide (j ≤ i))) mGe := r2_I0 fun _ _ _ _ _ => .bl _
def mPow := mIc (fun i j => decide (i = 10) && decide (0 ≤ j) && decide (j ≤ 100)) fun i j => .int (i ^ j.toNat)

/-! a new object -/
theorem bag_upd {G : Gd} {H : Hp} {g : Bag} {p : Addr} {o : HO} (b : BagAt G H g) (h : H p = none) : BagAt G (upd H p o) g := by
  show upd H p o G.b = _
  rw [upd_ne (ne_of_none b h)]
  exact b
theorem goes_new {Bad : Addr → Prop} {H : Hp} {p : Addr} {o : HO} (h : H p = none) : Goes Bad (With Bad p) H (upd H p o) := fun a u n e => ⟨by rw [upd_ne (ne_of_none e h)]; exact e, fun z => by
  rcases z with z | z
  · exact n z
  · subst z
    rw [h] at e
    cases e⟩
theorem goes_new' {Bad : Addr → Prop} {H : Hp} {p : Addr} {o : HO} (h : H p = none) : Goes Bad Bad H (upd H p o) := fun a u n e => ⟨by rw [upd_ne (ne_of_none e h)]; exact e, n⟩
def lineOk (n : Nat) : Bool := decide (n ≤ 100000)
theorem line_of {n : Nat} (h : lineOk n = true) : n ≤ sizeLine := Nat.le_trans (of_decide_eq_true h) (by decide)

/-! + -/
def rAddU (K : PySem.W.Frag) : R2 := fun x y H Q => rI0 (fun i j => .int (i + j)) x y H Q ∨ rCat x y H Q ∨ (∃ i j, x = .str i ∧ y = .str j ∧ i.length + j.length ≤ sizeLine ∧ Q (.str (i ++ j)) H)
/-- by what two values look like -/
def mL2 (f : D → D → Option EV) : EV → EV → M EV := fun x y => match x.look with
  | none => mno
  | some a => match y.look with
    | none => mno
    | some c => mof (f a c)
theorem mL2_cases {f : D → D → Option EV} {x y : EV} {g g' : Bag} {r : Rs EV} (h : mL2 f x y g = some (r, g')) : ∃ a c e, x.look = some a ∧ y.look = some c ∧ f a c = some e ∧ r = .ok e ∧ g' = g := by
  unfold mL2 at h
  cases hx : x.look with
  | none => rw [hx] at h; cases h
  | some a =>
    rw [hx] at h
    cases hy : y.look with
    | none => rw [hy] at h; cases h
    | some c =>
      rw [hy] at h
      dsimp only [mof] at h
      cases hf : f a c with
      | none => rw [hf] at h; cases h
      | some e =>
        rw [hf] at h
        cases h
        exact ⟨a, c, e, rfl, rfl, hf, rfl, rfl⟩
def addD : D → D → Option EV
  | .int i, .int j => some (.val (.int (i + j)))
  | .lst as, .lst bs => if lineOk (as.length + bs.length) = true then some (.nw (.lst (as ++ bs))) else none
  | .str a, .str c => if lineOk (a.length + c.length) = true then some (.val (.str (a ++ c))) else none
  | _, _ => none
def mAdd := mL2 addD
theorem look_int {G : Gd} {Bad : Addr → Prop} {H H' : Hp} {v : V} {e : EV} {i : Int} (h : EVok G Bad H H' v e) (k : e.look = some (.int i)) : v = .int i := datint (evok_look h k)
theorem look_str {G : Gd} {Bad : Addr → Prop} {H H' : Hp} {v : V} {e : EV} {i : Str} (h : EVok G Bad H H' v e) (k : e.look = some (.str i)) : v = .str i := datstr (evok_look h k)
theorem r2_add : R2ok K cl W (rAddU K) mAdd := by
  intro b l B0 H0 δ g σ H H1 x y v w r g' S al k hv hw hm Q q
  obtain ⟨dx, dy, e, ex, ey, hf, rfl, rfl⟩ := mL2_cases hm
  unfold addD at hf
  split at hf
  · rename_i i j
    cases hf
    exact Or.inl ⟨i, j, look_int hv ex, look_int hw ey, q _ H1 .refl S.bg rfl (.int _)⟩
  · rename_i as bs
    split at hf
    · rename_i hl
      cases hf
      obtain ⟨a, vs, rfl, h1, r1⟩ := (evok_items hv).1 ex
      obtain ⟨c, ws, rfl, h2, r2⟩ := (evok_items hw).1 ey
      refine Or.inr (Or.inl ⟨a, c, vs, ws, rfl, rfl, h1, h2, ?_, fun p hp => ?_⟩)
      · rw [r1.len, r2.len]
        exact line_of hl
      · exact q _ _ (Kp.new hp) (bag_upd S.bg hp) rfl ⟨p, _, rfl, hp, upd_same, .lst (DatL.goes (goes_new hp) (r1.append r2))⟩
    · cases hf
  · rename_i a c
    split at hf
    · rename_i hl
      cases hf
      exact Or.inr (Or.inr ⟨a, c, look_str hv ex, look_str hw ey, line_of hl, q _ H1 .refl S.bg rfl (.str _)⟩)
    · cases hf
  · cases hf
theorem opr_or {X : Cx} {f : Value → Value → Sem Value} {r r' : R2} (h : OpR X f r) (h' : OpR X f r') : OpR X f (fun x y H Q => r x y H Q ∨ r' x y H Q) := by
  intro pins s σ H x y v u Q I rx ry hq
  rcases hq with hq | hq
  · exact h pins s σ H x y v u Q I rx ry hq
  · exact h' pins s σ H x y v u Q I rx ry hq

/-! == of data -/
def eqD (a c : D) : Option Bool := match toPy a with
  | none => none
  | some p => match toPy c with
    | none => none
    | some q => if (SeqAt.shaped p && SeqAt.shaped q) = true then some (PyData.eqv p q) else none
theorem eqD_cases {a c : D} {t : Bool} (h : eqD a c = some t) : ∃ p q, toPy a = some p ∧ toPy c = some q ∧ SeqAt.shaped p = true ∧ SeqAt.shaped q = true ∧ PyData.eqv p q = t := by
  unfold eqD at h
  cases ha : toPy a with
  | none => rw [ha] at h; cases h
  | some p =>
    rw [ha] at h
    cases hc : toPy c with
    | none => rw [hc] at h; cases h
    | some q =>
      rw [hc] at h
      dsimp only at h
      split at h
      · rename_i hs
        rw [Bool.and_eq_true] at hs
        cases h
        exact ⟨p, q, rfl, rfl, hs.1, hs.2, rfl⟩
      · cases h
/-- of two strings all, else of what has a shape -/
def eqU (a c : D) : Option Bool := match a, c with
  | .str x, .str y => some (decide (x = y))
  | a, c => eqD a c
theorem eqU_cases {a c : D} {t : Bool} (h : eqU a c = some t) : (∃ x y, a = .str x ∧ c = .str y ∧ t = decide (x = y)) ∨ eqD a c = some t := by
  unfold eqU at h
  split at h
  · cases h
    exact Or.inl ⟨_, _, rfl, rfl, rfl⟩
  · exact Or.inr h
def rEqU (K : PySem.W.Frag) : R2 := fun x y H Q => rEq x y H Q ∨ rEqD K x y H Q
def rNeU (K : PySem.W.Frag) : R2 := fun x y H Q => rNe x y H Q ∨ rNeD K x y H Q
theorem op_eqU {X : Cx} (hu : X.A.units + 64 < cLine) : OpR X (compareOp .Eq) (rEqU X.K) := opr_or op_eq (op_eqD hu)
theorem op_neU {X : Cx} (hu : X.A.units + 64 < cLine) : OpR X (compareOp .NotEq) (rNeU X.K) := opr_or op_ne (op_neD hu)
theorem dec_str {x y : Str} : decide (V.str x = V.str y) = decide (x = y) := by
  rw [Bool.eq_iff_iff]
  simp
def mEq := mL2 fun a c => (eqU a c).map fun t => .val (.bl t)
def mNe := mL2 fun a c => (eqU a c).map fun t => .val (.bl (!t))
theorem r2_eq : R2ok K cl W (rEqU K) mEq := by
  intro b l B0 H0 δ g σ H H1 x y v w r g' S al k hv hw hm Q q
  obtain ⟨dx, dy, e, ex, ey, hf, rfl, rfl⟩ := mL2_cases hm
  obtain ⟨t, h1, h2⟩ := Option.map_eq_some_iff.mp hf
  subst h2
  rcases eqU_cases h1 with ⟨s, s', rfl, rfl, rfl⟩ | h1
  · obtain rfl := look_str hv ex
    obtain rfl := look_str hw ey
    refine Or.inl ⟨rfl, ?_⟩
    rw [dec_str]
    exact q _ H1 .refl S.bg rfl (.bl _)
  obtain ⟨p, p', hp, hp', s1, s2, rfl⟩ := eqD_cases h1
  exact Or.inr ⟨p, p', dp_of (evok_look hv ex) hp, dp_of (evok_look hw ey) hp', s1, s2, q _ H1 .refl S.bg rfl (.bl _)⟩
theorem r2_ne : R2ok K cl W (rNeU K) mNe := by
  intro b l B0 H0 δ g σ H H1 x y v w r g' S al k hv hw hm Q q
  obtain ⟨dx, dy, e, ex, ey, hf, rfl, rfl⟩ := mL2_cases hm
  obtain ⟨t, h1, h2⟩ := Option.map_eq_some_iff.mp hf
  subst h2
  rcases eqU_cases h1 with ⟨s, s', rfl, rfl, rfl⟩ | h1
  · obtain rfl := look_str hv ex
    obtain rfl := look_str hw ey
    refine Or.inl ⟨rfl, ?_⟩
    rw [dec_str]
    exact q _ H1 .refl S.bg rfl (.bl _)
  obtain ⟨p, p', hp, hp', s1, s2, rfl⟩ := eqD_cases h1
  exact Or.inr ⟨p, p', dp_of (evok_look hv ex) hp, dp_of (evok_look hw ey) hp', s1, s2, q _ H1 .refl S.bg rfl (.bl _)⟩

/-! a < b <= c -/
def eChain (f f' : EV → EV → M EV) (a c d : DE) : DE := fun δ => mbind (a δ) fun x => mbind (c δ) fun y => mbind (f x y) fun z => match z with
  | .val (.bl t) => if t = true then mbind (d δ) fun u => f' y u else mret (.val (.bl false))
  | _ => mno
theorem ae_chain {tc : TE} {mc : DE} {r r' : R2} {f f' : EV → EV → M EV} (ha : AE K cl W ta ma) (hb : AE K cl W tb mb) (hc : AE K cl W tc mc) (hr : R2ok K cl W r f) (hr' : R2ok K cl W r' f') : AE K cl W (tChain r r' ta tb tc) (eChain f f' ma mb mc) := by
  intro b l B0 H0 δ g σ H rr g' S hm Q q
  rcases mb_cases hm with ⟨x, e, rfl⟩ | ⟨x, g1, e, hm⟩
  · exact ha b l B0 H0 δ g σ H _ _ S e _ q
  refine ha b l B0 H0 δ g σ H _ _ S e _ fun v H1 k1 b1 n1 h1 => ?_
  have S1 := S.kp k1 b1 n1
  have q1 := post_then k1 b1 n1 q
  rcases mb_cases hm with ⟨xx, e', rfl⟩ | ⟨y, g2, e', hm⟩
  · exact hb b l B0 H0 δ g1 σ H1 _ _ S1 e' _ q1
  refine hb b l B0 H0 δ g1 σ H1 _ _ S1 e' _ fun w H2 k2 b2 n2 h2 => ?_
  have S2 := S1.kp k2 b2 n2
  have q2 := post_then k2 b2 n2 q1
  have e1 := evok_kp S.bd S.bg.some k2 h1
  have e2 := evok_from b1.some k1 h2
  rcases mb_cases hm with ⟨xx, e'', rfl⟩ | ⟨z, g3, e'', hm⟩
  · exact hr b l B0 H0 δ g2 σ H H2 x y v w _ _ S2 S.alB (k1.trans k2) e1 e2 e'' _ q2
  refine hr b l B0 H0 δ g2 σ H H2 x y v w _ _ S2 S.alB (k1.trans k2) e1 e2 e'' _ fun u H3 k3 b3 n3 h3 => ?_
  split at hm
  · rename_i t
    refine ⟨t, datbl h3, ?_⟩
    have S3 := S2.kp k3 b3 n3
    have q3 := post_then k3 b3 n3 q2
    cases t with
    | false =>
      cases hm
      exact q3 _ H3 .refl b3 rfl (.bl false)
    | true =>
      show tc σ H3 fun w' H4 => r' w w' H4 Q
      rcases mb_cases hm with ⟨xx, e3, rfl⟩ | ⟨u', g4, e3, hm⟩
      · exact hc b l B0 H0 δ g3 σ H3 _ _ S3 e3 _ q3
      refine hc b l B0 H0 δ g3 σ H3 _ _ S3 e3 _ fun w' H4 k4 b4 n4 h4 => ?_
      have k24 := k3.trans k4
      have k14 := (k1.trans k2).trans k24
      exact hr' b l B0 H0 δ g4 σ H H4 y u' w w' _ _ (S3.kp k4 b4 n4) S.alB k14 (evok_kp S.bd S.bg.some k24 e2) (evok_from b3.some ((k1.trans k2).trans k3) h4) hm Q (post_then k4 b4 n4 q3)
  · cases hm
end
end Vi

set_option Elab.async false
set_option linter.all false
set_option maxRecDepth 100000
set_option maxHeartbeats 4000000
namespace Vi
open PySem PySem.Spec PyProof.Rows L2

/-! what is walked -/
def ItW (J : It) (vs : List V) (st : Hp → Prop) : Prop :=
  (∀ i H, st H → i < vs.length → J.go i H ∧ ∀ x H', J.yld i H x H' → H' = H ∧ vs[i]? = some x) ∧ ∀ H, st H → J.stop vs.length H
theorem itw_list {K : PySem.W.Frag} {a : Addr} {vs : List V} : ItW (Itl K a) vs (fun H => SqL K H a vs) := by
  refine ⟨fun i H s h => ⟨⟨vs, vs[i], s, by simp [h]⟩, fun x H' y => ?_⟩, fun H s => ⟨vs, s, Nat.le_refl _⟩⟩
  obtain ⟨e, y⟩ := y
  exact ⟨e, y vs s⟩
theorem itw_tup {K : PySem.W.Frag} {a : Addr} {vs : List V} : ItW (Itt K a) vs (fun H => SqT K H a vs) := by
  refine ⟨fun i H s h => ⟨⟨vs, vs[i], s, by simp [h]⟩, fun x H' y => ?_⟩, fun H s => ⟨vs, s, Nat.le_refl _⟩⟩
  obtain ⟨e, y⟩ := y
  exact ⟨e, y vs s⟩
def rngV (lo : Int) (n : Nat) : List V := (List.range n).map fun i : Nat => V.int (lo + (i : Int))
def rngD (lo : Int) (n : Nat) : List D := (List.range n).map fun i : Nat => D.int (lo + (i : Int))
theorem rng_dat {G : Gd} {Bad : Addr → Prop} {H : Hp} {lo : Int} : ∀ ns : List Nat, DatL G Bad H (ns.map fun i : Nat => V.int (lo + (i : Int))) (ns.map fun i : Nat => D.int (lo + (i : Int)))
  | [] => .nil
  | _ :: r => .cons (.int _) (rng_dat r)
theorem itw_range {lo : Int} {n : Nat} : ItW (Itr lo n) (rngV lo n) (fun _ => True) := by
  have hl : (rngV lo n).length = n := by simp [rngV]
  refine ⟨fun i H _ h => ⟨by rw [hl] at h; exact h, fun x H' y => ?_⟩, fun H _ => by rw [hl]; exact Nat.le_refl n⟩
  obtain ⟨e, y⟩ := y
  subst y
  rw [hl] at h
  exact ⟨e, by simp [rngV, h]⟩
/-- nothing is new, or one thing -/
def Grow (H H' : Hp) : Prop := H' = H ∨ ∃ T o, H T = none ∧ H' = upd H T o
theorem Grow.sto {G : Gd} {B0 : Addr → Prop} {H0 H H' : Hp} {δ : DS} {g : Bag} {σ : L2.St} (w : Grow H H') (S : Sto G B0 H0 δ g σ H) : Sto G B0 H0 δ g σ H' ∧ Kp G H H' := by
  rcases w with rfl | ⟨T, o, h, rfl⟩
  · exact ⟨S, .refl⟩
  · exact ⟨S.kp (Kp.new h) (bag_upd S.bg h) rfl, Kp.new h⟩
/-- what a walk gives: at each later state -/
def ItOk (G : Gd) (Bad : Addr → Prop) (H : Hp) (J : It) (ds : List D) : Prop :=
  ∀ (Bad' : Addr → Prop) (H' : Hp), Goes Bad Bad' H H' → (∀ a, Bad' a → (H' a).isSome = true) → (∀ i d, ds[i]? = some d → J.go i H' ∧ ∀ x H'', J.yld i H' x H'' → Grow H' H'' ∧ Dat G Bad' H'' x d) ∧ J.stop ds.length H'
theorem Goes.trans {B B1 B2 : Addr → Prop} {H H1 H2 : Hp} (g : Goes B B1 H H1) (h : Goes B1 B2 H1 H2) : Goes B B2 H H2 := fun a o n e => h a o (g a o n e).2 (g a o n e).1
theorem ItOk.goes {G : Gd} {Bad Bad2 : Addr → Prop} {H H2 : Hp} {J : It} {ds : List D} (g : Goes Bad Bad2 H H2) (h : ItOk G Bad H J ds) : ItOk G Bad2 H2 J ds := fun B H' g' al => h B H' (g.trans g') al
theorem itok_W {G : Gd} {Bad : Addr → Prop} {H : Hp} {J : It} {ds : List D} {vs : List V} {st : Hp → Prop} (hW : ItW J vs st) (hD : DatL G Bad H vs ds) (hst : ∀ H' : Hp, (∀ a o, ¬ Bad a → H a = some o → H' a = some o) → st H') : ItOk G Bad H J ds := by
  intro Bad' H' gg al
  have s := hst H' fun a o n e => (gg a o n e).1
  refine ⟨fun i d hd => ?_, by rw [← hD.len]; exact hW.2 H' s⟩
  have hlt : i < vs.length := by rw [hD.len]; exact (List.getElem?_eq_some_iff.mp hd).1
  obtain ⟨hg, hy⟩ := hW.1 i H' s hlt
  refine ⟨hg, fun x H'' y => ?_⟩
  obtain ⟨rfl, hx⟩ := hy x H'' y
  obtain ⟨v, h1, h2⟩ := hD.at hd
  rw [hx] at h1
  cases h1
  exact ⟨Or.inl rfl, Dat.goes gg h2⟩
theorem drop_get {α : Type} {ds : List α} {i : Nat} (h : i < ds.length) : ∃ d, ds[i]? = some d ∧ ds.drop i = d :: ds.drop (i + 1) := ⟨ds[i], List.getElem?_eq_getElem h, List.drop_eq_getElem_cons h⟩
theorem Sto.goesG {G : Gd} {B0 : Addr → Prop} {H0 H H' : Hp} {δ : DS} {g g' : Bag} {σ : L2.St} (S : Sto G B0 H0 δ g σ H) {δ' : DS} {σ' : L2.St} (S' : Sto G B0 (ground δ σ H) δ' g' σ' H') : Goes (Bd B0 δ σ) (Bd B0 δ' σ') H H' := by
  intro a o n e
  have e0 := ground_of e n
  refine ⟨S'.ent a o (fun z => n (z ▸ S.bd)) e0, fun z => ?_⟩
  rcases z with z | ⟨i, ds, h1, h2⟩
  · exact n (Or.inl z)
  · obtain ⟨p, vs, a1, a2, _, _⟩ := S'.own i ds h1
    rw [h2] at a1
    cases a1
    rw [a2] at e0
    cases e0
abbrev DI := DS → M (List D)
def PostI (G : Gd) (B0 : Addr → Prop) (δ : DS) (W : WX) (σ : L2.St) (H : Hp) (g g' : Bag) (R : It → Hp → Prop) : Rs (List D) → Prop
  | .ok ds => ∀ J H', Kp G H H' → BagAt G H' g' → g'.ns = g.ns → ItOk G (Bd B0 δ σ) H' J ds → R J H'
  | .er x => ∀ cls dx H', Kp G H H' → BagAt G H' g' → g'.ns = g.ns → ExAt G (Bd B0 δ σ) H' cls dx x → W cls dx σ H'
def AI (K : PySem.W.Frag) (cl : Str → Option Addr) (W : WX) (wi : TI) (mi : DI) : Prop := ∀ (b l : Addr) B0 H0 δ g σ H r g', Sto ⟨K, cl, b, l⟩ B0 H0 δ g σ H → mi δ g = some (r, g') → ∀ R, PostI ⟨K, cl, b, l⟩ B0 δ W σ H g g' R r → wi σ H R

section
variable {K : PySem.W.Frag} {cl : Str → Option Addr} {W : WX} {te ta tb : TE} {tt : TT} {me ma mb : DE} {mt : DB}

/-- a list or a tuple that is kept -/
def iSeq (m : DE) : DI := fun δ => mbind (m δ) fun e => match e.keep with
  | some (.lst ds) => mret ds
  | some (.tup ds) => mret ds
  | _ => mno
def wSeq (K : PySem.W.Frag) (tl : TE) : TI := fun σ H R => tl σ H fun x H1 => (∃ a, x = .ref a ∧ (∃ xs, SqL K H1 a xs) ∧ R (Itl K a) H1) ∨ (∃ a, x = .ref a ∧ (∃ xs, SqT K H1 a xs) ∧ R (Itt K a) H1)
theorem pi_seq {X : Cx} {tg l : Expr} {tl : TE} (hl : PE X l tl) : PI X tg l (wSeq X.K tl) := by
  refine ⟨fun pins s σ H R I h => ?_⟩
  refine thn (hl.run pins s σ H _ I h) fun v s1 hv => ?_
  obtain ⟨x, H1, I1, r1, q1⟩ := hv
  have lift : ∀ {wi : TI}, (PE X l (fun _ _ Q => Q x H1) → PI X tg l wi) → True := fun _ => trivial
  rcases q1 with ⟨a, e, ⟨xs, hq⟩, q⟩ | ⟨a, e, ⟨xs, hq⟩, q⟩
  · subst e
    cases r1
    obtain ⟨its, rv, p, hz⟩ := I1.list hq
    refine wpAny_pyIter_list p.isList ?_
    refine ⟨s1.heap.objs.size, [s1.heap.objs.size], _, _, H1, rfl, I1.kept (t' := s1.toks) fun b o e => Heap.get?_push_of_some _ e,
      turn_list a _, ⟨_, Heap.get?_push_size _ rfl, rfl, rfl⟩, fun b hb => ?_, q⟩
    obtain rfl : b = s1.heap.objs.size := by simpa using hb
    exact I1.fpOk (Nat.le_refl _) (I1.hok.fresh (Nat.le_refl _))
  · subst e
    cases r1
    obtain ⟨its, rv, p, hz⟩ := I1.tuple hq
    refine wpAny_pyIter_tuple (show s1.heap.IsTuple a its.toArray from p) ?_
    refine ⟨s1.heap.objs.size, [s1.heap.objs.size], _, _, H1, rfl, I1.kept (t' := s1.toks) fun b o e => Heap.get?_push_of_some _ e,
      turn_tuple a _, ⟨_, Heap.get?_push_size _ rfl, rfl, rfl⟩, fun b hb => ?_, q⟩
    obtain rfl : b = s1.heap.objs.size := by simpa using hb
    exact I1.fpOk (Nat.le_refl _) (I1.hok.fresh (Nat.le_refl _))
theorem ai_seq (h : AE K cl W te me) : AI K cl W (wSeq K te) (iSeq me) := by
  intro b l B0 H0 δ g σ H r g' S hm R q
  rcases mb_cases hm with ⟨x, e, rfl⟩ | ⟨a, g1, e, hm⟩
  · exact h b l B0 H0 δ g σ H _ _ S e _ q
  · refine h b l B0 H0 δ g σ H _ _ S e _ fun v H1 k1 b1 n1 hv => ?_
    cases hk : a.keep with
    | none => rw [hk] at hm; cases hm
    | some d =>
      rw [hk] at hm
      have hd := evok_keep S.alB hv hk
      cases d with
      | lst ds =>
        cases hm
        cases hd with
        | lstH n e1 rr => exact Or.inl ⟨_, rfl, ⟨_, Or.inl (Or.inl e1)⟩, q _ H1 k1 b1 n1 (itok_W itw_list rr fun H' k => Or.inl (Or.inl (k _ _ n e1)))⟩
      | tup ds =>
        cases hm
        cases hd with
        | tupH n e1 rr => exact Or.inr ⟨_, rfl, ⟨_, Or.inl (Or.inl e1)⟩, q _ H1 k1 b1 n1 (itok_W itw_tup rr fun H' k => Or.inl (Or.inl (k _ _ n e1)))⟩
        | tupK e1 rr => exact Or.inr ⟨_, rfl, ⟨_, sqT_no e1⟩, q _ H1 k1 b1 n1 (itok_W itw_tup rr fun H' k => sqT_no e1)⟩
      | non => cases hm
      | bl c => cases hm
      | int i => cases hm
      | str s => cases hm
      | dct k => cases hm
      | obj c f => cases hm
def smallI (i : Int) : Bool := decide (-100000 ≤ i) && decide (i ≤ 100000)
def iRange1 (m : DE) : DI := fun δ => mbind (m δ) fun e => match e with
  | .val (.int j) => if smallI j = true then mret (rngD 0 j.toNat) else mno
  | _ => mno
theorem ai_range1 (h : AE K cl W te me) : AI K cl W (iRng1 (tCons te tNil)) (iRange1 me) := by
  intro b l B0 H0 δ g σ H r g' S hm R q
  rcases mb_cases hm with ⟨x, e, rfl⟩ | ⟨a, g1, e, hm⟩
  · exact h b l B0 H0 δ g σ H _ _ S e _ q
  · refine h b l B0 H0 δ g σ H _ _ S e _ fun v H1 k1 b1 n1 hv => ?_
    split at hm
    · rename_i j
      split at hm
      · rename_i hj
        cases hm
        have hj' : -100000 ≤ j ∧ j ≤ 100000 := by simpa [smallI] using hj
        rw [datint hv]
        exact ⟨j, rfl, by omega, by omega, q _ H1 k1 b1 n1 (itok_W itw_range (rng_dat _) fun _ _ => trivial)⟩
      · cases hm
    · cases hm
def rng2 : EV → EV → Option (List D)
  | .val (.int i), .val (.int j) => if (smallI i && smallI j) = true then some (rngD i (j - i).toNat) else none
  | _, _ => none
def iRange2 (m m' : DE) : DI := fun δ => mbind (m δ) fun e => mbind (m' δ) fun e' => mof (rng2 e e')
theorem rng2_cases {e e' : EV} {ds : List D} (h : rng2 e e' = some ds) : ∃ i j, e = .val (.int i) ∧ e' = .val (.int j) ∧ (-100000 ≤ i ∧ i ≤ 100000) ∧ (-100000 ≤ j ∧ j ≤ 100000) ∧ ds = rngD i (j - i).toNat := by
  unfold rng2 at h
  split at h
  · split at h
    · rename_i hj
      cases h
      have hj' := hj
      simp only [smallI, Bool.and_eq_true, decide_eq_true_eq] at hj'
      exact ⟨_, _, rfl, rfl, hj'.1, hj'.2, rfl⟩
    · cases h
  · cases h
theorem mof_cases {α : Type} {o : Option α} {g g' : Bag} {r : Rs α} (h : mof o g = some (r, g')) : ∃ a, o = some a ∧ r = .ok a ∧ g' = g := by
  cases o with
  | none => cases h
  | some a => cases h; exact ⟨a, rfl, rfl, rfl⟩
theorem ai_range2 (h : AE K cl W ta ma) (h2 : AE K cl W tb mb) : AI K cl W (iRng2 (tCons ta (tCons tb tNil))) (iRange2 ma mb) := by
  intro b l B0 H0 δ g σ H r g' S hm R q
  rcases mb_cases hm with ⟨x, e, rfl⟩ | ⟨a, g1, e, hm⟩
  · exact h b l B0 H0 δ g σ H _ _ S e _ q
  · refine h b l B0 H0 δ g σ H _ _ S e _ fun v H1 k1 b1 n1 hv => ?_
    have S1 := S.kp k1 b1 n1
    rcases mb_cases hm with ⟨x, e', rfl⟩ | ⟨a', g2, e', hm⟩
    · exact h2 b l B0 H0 δ g1 σ H1 _ _ S1 e' _ fun c d H' k bb n hx => q c d H' (k1.trans k) bb (n.trans n1) hx
    · refine h2 b l B0 H0 δ g1 σ H1 _ _ S1 e' _ fun v' H2 k2 b2 n2 hv' => ?_
      obtain ⟨ds, hf, rfl, rfl⟩ := mof_cases hm
      obtain ⟨i, j, rfl, rfl, hi, hj, rfl⟩ := rng2_cases hf
      rw [datint hv, datint hv']
      exact ⟨i, j, rfl, ⟨by omega, by omega, by omega, by omega⟩, q _ H2 (k1.trans k2) b2 (n2.trans n1) (itok_W itw_range (rng_dat _) fun _ _ => trivial)⟩

/-! targets -/
abbrev DG := D → DS → Option DS
def AG (K : PySem.W.Frag) (cl : Str → Option Addr) (js : List Nat) (tg : TG) (mg : DG) : Prop := ∀ (b l : Addr) B0 H0 δ g σ H v d δ', Sto ⟨K, cl, b, l⟩ B0 H0 δ g σ H → Dat ⟨K, cl, b, l⟩ (Bd B0 δ σ) H v d → mg d δ = some δ' →
  ∀ Q : L2.St → Hp → Prop, (∀ σ', Sto ⟨K, cl, b, l⟩ B0 H0 δ' g σ' H → (∀ a, Bd B0 δ' σ' a → Bd B0 δ σ a) → (σ'.length = σ.length ∧ ∀ k, k ∉ js → σ'[k]? = σ[k]? ∧ δ'[k]? = δ[k]?) → (∀ (k : Nat) (es : D), δ'[k]? = some (some (.own es)) → δ[k]? = some (some (.own es)) ∧ σ'[k]? = σ[k]?) → Q σ' H) → tg v σ H Q
abbrev DGs := List D → DS → Option DS
def AGs (K : PySem.W.Frag) (cl : Str → Option Addr) (js : List Nat) (tg : TGs) (mg : DGs) : Prop := ∀ (b l : Addr) B0 H0 δ g σ H vs ds δ', Sto ⟨K, cl, b, l⟩ B0 H0 δ g σ H → DatL ⟨K, cl, b, l⟩ (Bd B0 δ σ) H vs ds → mg ds δ = some δ' →
  ∀ Q : L2.St → Hp → Prop, (∀ σ', Sto ⟨K, cl, b, l⟩ B0 H0 δ' g σ' H → (∀ a, Bd B0 δ' σ' a → Bd B0 δ σ a) → (σ'.length = σ.length ∧ ∀ k, k ∉ js → σ'[k]? = σ[k]? ∧ δ'[k]? = δ[k]?) → (∀ (k : Nat) (es : D), δ'[k]? = some (some (.own es)) → δ[k]? = some (some (.own es)) ∧ σ'[k]? = σ[k]?) → Q σ' H) → tg vs σ H Q
def dName (i : Nat) : DG := fun d δ => some (δ.set i (some (.val d)))
def dNil : DGs := fun ds δ => match ds with
  | [] => some δ
  | _ => none
def dCons (a : DG) (r : DGs) : DGs := fun ds δ => match ds with
  | [] => none
  | d :: ds => (a d δ).bind fun δ' => r ds δ'
def dTup (n : Nat) (r : DGs) : DG := fun d δ => match d with
  | .tup ds => if ds.length = n then r ds δ else none
  | _ => none
theorem ag_name {i : Nat} : AG K cl [i] (gName i) (dName i) := by
  intro b l B0 H0 δ g σ H v d δ' S h hm Q q
  cases hm
  refine q _ (S.set h) (fun a => bd_set_sub (fun ds z => by cases z)) ⟨by simp, fun k hk => ?_⟩ fun k es hk => ?_
  · have nk : ¬ i = k := fun z => hk (by rw [z]; exact List.mem_singleton.mpr rfl)
    rw [List.getElem?_set_ne nk, List.getElem?_set_ne nk]
    exact ⟨rfl, rfl⟩
  · by_cases nk : i = k
    · subst nk
      by_cases hi : i < δ.length
      · rw [List.getElem?_set_self hi] at hk
        cases hk
      · rw [List.getElem?_eq_none (by simpa using hi)] at hk
        cases hk
    · rw [List.getElem?_set_ne nk] at hk ⊢
      exact ⟨hk, rfl⟩
theorem ags_nil : AGs K cl [] gNil dNil := by
  intro b l B0 H0 δ g σ H vs ds δ' S h hm Q q
  cases h with
  | nil =>
    cases hm
    exact ⟨rfl, q σ S (fun _ z => z) ⟨rfl, fun _ _ => ⟨rfl, rfl⟩⟩ fun _ _ z => ⟨z, rfl⟩⟩
  | cons _ _ => cases hm
theorem ags_cons {js js' : List Nat} {t : TG} {u : TGs} {m : DG} {r : DGs} (h1 : AG K cl js t m) (h2 : AGs K cl js' u r) : AGs K cl (js ++ js') (gCons t u) (dCons m r) := by
  intro b l B0 H0 δ g σ H vs ds δ' S h hm Q q
  cases h with
  | nil => cases hm
  | cons a rr =>
    obtain ⟨δ1, e1, e2⟩ := Option.bind_eq_some_iff.mp hm
    refine ⟨_, _, rfl, h1 b l B0 H0 δ g σ H _ _ δ1 S a e1 _ fun σ1 S1 sub1 ag1 ow1 => ?_⟩
    refine h2 b l B0 H0 δ1 g σ1 H _ _ δ' S1 (DatL.goes (goes_less sub1) rr) e2 _ fun σ2 S2 sub2 ag2 ow2 => ?_
    refine q σ2 S2 (fun a z => sub1 a (sub2 a z)) ⟨ag2.1.trans ag1.1, fun k hk => ?_⟩ fun k es hk => (by obtain ⟨x1, x2⟩ := ow2 k es hk; obtain ⟨y1, y2⟩ := ow1 k es x1; exact ⟨y1, x2.trans y2⟩)
    have a2 := ag2.2 k (fun z => hk (List.mem_append_right _ z))
    have a1 := ag1.2 k (fun z => hk (List.mem_append_left _ z))
    exact ⟨a2.1.trans a1.1, a2.2.trans a1.2⟩
theorem ag_tup {js : List Nat} {n : Nat} {u : TGs} {r : DGs} (h : AGs K cl js u r) : AG K cl js (gTup K n u) (dTup n r) := by
  intro b l B0 H0 δ g σ H v d δ' S hd hm Q q
  unfold dTup at hm
  split at hm
  · rename_i ds
    split at hm
    · rename_i hl
      cases hd with
      | tupH nb e rr => exact ⟨_, _, rfl, Or.inl (Or.inl e), rr.len.trans hl, h b l B0 H0 δ g σ H _ _ δ' S rr hm Q q⟩
      | tupK e rr => exact ⟨_, _, rfl, sqT_no e, rr.len.trans hl, h b l B0 H0 δ g σ H _ _ δ' S rr hm Q q⟩
    · cases hm
  · cases hm
/-- x = .. by a target -/
def sAsg (m : DE) (t : DG) : DT := sOn m fun e δ g => match e.keep with
  | none => none
  | some d => (t d δ).map fun δ' => (Ot.nx δ', g)
theorem as_asg {js : List Nat} {tg : TG} {mg : DG} (h : AE K cl W te me) (hg : AG K cl js tg mg) : AS K cl W (tAsg te tg) (sAsg me mg) :=
  as_on (tf := fun v Dn σ H1 => tg v σ H1 Dn.nx) h fun b l B0 H0 δ g g1 σ H H1 e v o g' S k bg n hv h Dn q => by
    cases hk : e.keep with
    | none => rw [hk] at h; cases h
    | some d =>
      rw [hk] at h
      obtain ⟨δ', e1, e2⟩ := Option.map_eq_some_iff.mp h
      cases e2
      exact hg b l B0 H0 δ g1 σ H1 v d δ' (S.kp k bg n) (evok_keep S.alB hv hk) e1 _ fun σ' S' _ _ _ => q σ' H1 S'

/-! for -/
def sLoop (mg : DG) (body : DT) : List D → DT
  | [] => fun δ g => some (.nx δ, g)
  | d :: ds => fun δ g => match mg d δ with
    | none => none
    | some δ1 => match body δ1 g with
      | some (.nx δ2, g2) => sLoop mg body ds δ2 g2
      | some (.ct δ2, g2) => sLoop mg body ds δ2 g2
      | some (.bk δ2, g2) => some (.nx δ2, g2)
      | r => r
def sFor (mi : DI) (mg : DG) (body : DT) : DT := fun δ g => match mi δ g with
  | none => none
  | some (.er x, g') => some (.er δ x, g')
  | some (.ok ds, g') => sLoop mg body ds δ g'
theorem datl_drop {G : Gd} {Bad : Addr → Prop} {H : Hp} : ∀ (i : Nat) {vs : List V} {ds : List D} {v : V}, DatL G Bad H vs ds → vs[i]? = some v → ∃ d, ds[i]? = some d ∧ ds.drop i = d :: ds.drop (i + 1) ∧ Dat G Bad H v d
  | _, _, _, _, .nil, h => by simp at h
  | 0, _, _, _, .cons a r, h => by
    simp at h
    subst h
    exact ⟨_, rfl, rfl, a⟩
  | i + 1, _, _, _, .cons a r, h => by
    obtain ⟨d, h1, h2, h3⟩ := datl_drop i r (by simpa using h)
    exact ⟨d, by simpa using h1, by simpa using h2, h3⟩
/-- the walk at one state -/
def AIat (G : Gd) (B0 : Addr → Prop) (W : WX) (δ : DS) (g : Bag) (σ : L2.St) (H : Hp) (wi : TI) (mi : DI) : Prop := ∀ r g', mi δ g = some (r, g') → ∀ R, PostI G B0 δ W σ H g g' R r → wi σ H R
theorem as_for_at {b l : Addr} {B0 : Addr → Prop} {H0 : Hp} {δ : DS} {g : Bag} {σ : L2.St} {H : Hp} {wi : TI} {mi : DI} {js : List Nat} {tg : TG} {mg : DG} {ts : TS} {mb : DT} (S : Sto ⟨K, cl, b, l⟩ B0 H0 δ g σ H) (hi : AIat ⟨K, cl, b, l⟩ B0 W δ g σ H wi mi) (hg : AG K cl js tg mg) (hb : AS K cl W ts mb)
    {o : Ot} {g' : Bag} (hm : sFor mi mg mb δ g = some (o, g')) (Dn : Ends) (q : PostS ⟨K, cl, b, l⟩ B0 H0 W Dn g' o) : tFor wi tg ts Dn σ H := by
  unfold sFor at hm
  cases e : mi δ g with
  | none => rw [e] at hm; cases hm
  | some p =>
    obtain ⟨r, g1⟩ := p
    rw [e] at hm
    cases r with
    | er x =>
      cases hm
      exact hi _ _ e _ fun c d H' k bg n hx => q c d σ H' (S.kp k bg n) hx
    | ok ds =>
      refine hi _ _ e _ fun J H1 k1 b1 n1 hJ => ?_
      have S1 := S.kp k1 b1 n1
      dsimp only at hm
      refine ⟨fun i m σ' H' => m = ds.length - i ∧ i ≤ ds.length ∧ ∃ δ' g2, Sto ⟨K, cl, b, l⟩ B0 (ground δ σ H1) δ' g2 σ' H' ∧ sLoop mg mb (ds.drop i) δ' g2 = some (o, g'), ⟨ds.length, rfl, Nat.zero_le _, δ, g1, S1.rebase, hm⟩, ?_⟩
      rintro i m σ' H' ⟨rfl, hle, δ', g2, S2, hl⟩
      obtain ⟨hgo', hstop⟩ := hJ _ H' (S1.goesG S2) S2.alB
      by_cases hlt : i < ds.length
      · obtain ⟨d, hd1, hd2⟩ := drop_get hlt
        obtain ⟨hgo, hy⟩ := hgo' i d hd1
        refine Or.inr ⟨hgo, fun σ3 H3 => ∃ δ3 g3, Sto ⟨K, cl, b, l⟩ B0 (ground δ σ H1) δ3 g3 σ3 H3 ∧ sLoop mg mb (ds.drop (i + 1)) δ3 g3 = some (o, g'), fun σ3 H3 ⟨δ3, g3, S3, h3⟩ => ⟨ds.length - (i + 1), by omega, rfl, hlt, δ3, g3, S3, h3⟩, fun x H3 y => ?_⟩
        obtain ⟨w, hd3⟩ := hy x H3 y
        have S3 := (w.sto S2).1
        rw [hd2] at hl
        unfold sLoop at hl
        cases em : mg d δ' with
        | none => rw [em] at hl; cases hl
        | some δ1 =>
          rw [em] at hl
          dsimp only at hl
          refine hg b l B0 (ground δ σ H1) δ' g2 σ' H3 x d δ1 S3 hd3 em _ fun σ4 S4 _ _ _ => ?_
          cases eb : mb δ1 g2 with
          | none => rw [eb] at hl; cases hl
          | some pr =>
            obtain ⟨o1, g3⟩ := pr
            rw [eb] at hl
            refine hb b l B0 (ground δ σ H1) δ1 g2 σ4 H3 o1 g3 S4 eb _ ?_
            cases o1 with
            | nx δ2 => exact fun σ5 H5 S5 => ⟨δ2, g3, S5, hl⟩
            | ct δ2 => exact fun σ5 H5 S5 => ⟨δ2, g3, S5, hl⟩
            | bk δ2 => cases hl; exact fun σ5 H5 S5 => q σ5 H5 (S1.unbase S5)
            | rt v => cases hl; exact S1.postS q
            | er δ2 x => cases hl; exact S1.postS q
      · have ei : i = ds.length := by omega
        subst ei
        refine Or.inl ⟨hstop, ?_⟩
        rw [List.drop_length] at hl
        cases hl
        exact q σ' H' (S1.unbase S2)
theorem as_for {wi : TI} {mi : DI} {js : List Nat} {tg : TG} {mg : DG} {ts : TS} {mb : DT} (hi : AI K cl W wi mi) (hg : AG K cl js tg mg) (hb : AS K cl W ts mb) : AS K cl W (tFor wi tg ts) (sFor mi mg mb) := by
  intro b l B0 H0 δ g σ H o g' S hm Dn q
  exact as_for_at S (fun r g' e R p => hi b l B0 H0 δ g σ H r g' S e R p) hg hb hm Dn q

/-! own lists changed -/
def sOwn (i : Nat) (f : List D → EV → Option (List D)) (m : DE) : DT := fun δ g => match δ[i]? with
  | some (some (.own (.lst ds))) => sOn m (fun e δ g => (f ds e).map fun es => (Ot.nx (δ.set i (some (.own (.lst es)))), g)) δ g
  | _ => none
/-- the step: an owned list, an argument, a change -/
theorem as_own {i : Nat} {r : V → List V → Hp → VK → Prop} {f : List D → EV → Option (List D)} (h : AE K cl W te me)
    (hr : ∀ (b l : Addr) (B0 : Addr → Prop) (H0 : Hp) (δ : DS) (g : Bag) (σ : L2.St) (H H1 : Hp) (e : EV) (v : V) (p : Addr) (vs : List V) (ds es : List D), Sto ⟨K, cl, b, l⟩ B0 H0 δ g σ H1 → (∀ a, Bd B0 δ σ a → (H a).isSome = true) → EVok ⟨K, cl, b, l⟩ (Bd B0 δ σ) H H1 v e →
      H1 p = some (.lst vs) → DatL ⟨K, cl, b, l⟩ (Bd B0 δ σ) H1 vs ds → f ds e = some es → ∀ Q : VK, (∀ ws w, DatL ⟨K, cl, b, l⟩ (Bd B0 δ σ) H1 ws es → Q w (upd H1 p (.lst ws))) → r (.ref p) [v] H1 Q) :
    AS K cl W (tDrop (tBM K "list" r (tVar i) (tCons te tNil))) (sOwn i f me) := by
  intro b l B0 H0 δ g σ H o g' S hm Dn q
  unfold sOwn at hm
  split at hm
  · rename_i ds hd
    obtain ⟨p, vs, a1, a2, a3, a4⟩ := S.own i _ hd
    obtain ⟨vs, rfl, _⟩ := a4.fst
    refine ⟨.ref p, a1, Or.inl ⟨rfl, vs, Or.inl (Or.inl a3)⟩, ?_⟩
    show te σ H fun v H1 => r (.ref p) [v] H1 fun _ H2 => Dn.nx σ H2
    unfold sOn at hm
    cases e : me δ g with
    | none => rw [e] at hm; cases hm
    | some pr =>
      obtain ⟨rs, g1⟩ := pr
      rw [e] at hm
      cases rs with
      | er x =>
        cases hm
        exact h b l B0 H0 δ g σ H _ _ S e _ fun c d H' k bg n hx => q c d σ H' (S.kp k bg n) hx
      | ok ev =>
        obtain ⟨es, h1, h2⟩ := Option.map_eq_some_iff.mp hm
        cases h2
        refine h b l B0 H0 δ g σ H _ _ S e _ fun v H1 k1 b1 n1 hv => ?_
        have S1 := S.kp k1 b1 n1
        obtain ⟨p', vs', c1, c2, c3, c4⟩ := S1.own i _ hd
        rw [a1] at c1
        cases c1
        obtain ⟨vs', rfl, c4'⟩ := c4.fst
        exact hr b l B0 H0 δ g' σ H H1 ev v p vs' ds es S1 S.alB hv c3 c4' h1 _ fun ws w hws => q σ _ (S1.wr hd a1 (.lst hws))
  · cases hm
def fApp : List D → EV → Option (List D) := fun ds e => if lineOk (ds.length + 1) = true then e.keep.map fun d => ds ++ [d] else none
def sApp (i : Nat) (m : DE) : DT := sOwn i fApp m
theorem as_app {i : Nat} (h : AE K cl W te me) : AS K cl W (tDrop (tBM K "list" rAppend (tVar i) (tCons te tNil))) (sApp i me) := by
  refine as_own h fun b l B0 H0 δ g σ H H1 e v p vs ds es S al hv hp hd hf Q q => ?_
  unfold fApp at hf
  split at hf
  · rename_i hl
    obtain ⟨d, h1, h2⟩ := Option.map_eq_some_iff.mp hf
    subst h2
    have hk := evok_keep al hv h1
    refine ⟨p, vs, v, rfl, rfl, hp, ?_, q _ _ (hd.append (.cons hk .nil))⟩
    have := line_of hl
    have := hd.len
    omega
  · cases hf
def fExt : List D → EV → Option (List D) := fun ds e => match e.look with
  | some (.lst es) => if lineOk (ds.length + es.length) = true then some (ds ++ es) else none
  | _ => none
def sExt (i : Nat) (m : DE) : DT := sOwn i fExt m
theorem as_ext {i : Nat} (h : AE K cl W te me) : AS K cl W (tDrop (tBM K "list" rExtend (tVar i) (tCons te tNil))) (sExt i me) := by
  refine as_own h fun b l B0 H0 δ g σ H H1 e v p vs ds es S al hv hp hd hf Q q => ?_
  unfold fExt at hf
  cases hk : e.look with
  | none => rw [hk] at hf; cases hf
  | some d =>
    rw [hk] at hf
    cases d with
    | lst fs =>
      dsimp only at hf
      split at hf
      · rename_i hl
        cases hf
        obtain ⟨a, ws, rfl, h1, r1⟩ := (evok_items hv).1 hk
        refine ⟨p, a, vs, ws, rfl, rfl, hp, h1, ?_, q _ _ (hd.append r1)⟩
        rw [hd.len, r1.len]
        exact line_of hl
      · cases hf
    | non => cases hf
    | bl c => cases hf
    | int i => cases hf
    | str s => cases hf
    | tup ds => cases hf
    | dct k => cases hf
    | obj c f => cases hf

/-! displays, subscripts, built-ins -/
theorem evs_keep {G : Gd} {Bad : Addr → Prop} {H H' : Hp} (hB : ∀ a, Bad a → (H a).isSome = true) : ∀ {vs : List V} {es : List EV} {ds : List D}, EVs G Bad H H' vs es → es.mapM EV.keep = some ds → DatL G Bad H' vs ds
  | _, _, _, .nil, h => by
    simp at h
    subst h
    exact .nil
  | _, _, _, .cons a r, h => by
    rw [List.mapM_cons] at h
    obtain ⟨d, h1, h2⟩ := Option.bind_eq_some_iff.mp h
    obtain ⟨ds, h3, h4⟩ := Option.bind_eq_some_iff.mp h2
    cases h4
    exact .cons (evok_keep hB a h1) (evs_keep hB r h3)
def keepL : List EV → Option (List D)
  | [] => some []
  | e :: es => match e.keep with
    | none => none
    | some d => match keepL es with
      | none => none
      | some ds => some (d :: ds)
theorem evs_keepL {G : Gd} {Bad : Addr → Prop} {H H' : Hp} (hB : ∀ a, Bad a → (H a).isSome = true) : ∀ {vs : List V} {es : List EV} {ds : List D}, EVs G Bad H H' vs es → keepL es = some ds → DatL G Bad H' vs ds
  | _, _, _, .nil, h => by
    cases h
    exact .nil
  | _, _, _, .cons (e := e) (es := es) a r, h => by
    unfold keepL at h
    cases hk : e.keep with
    | none => rw [hk] at h; cases h
    | some d =>
      rw [hk] at h
      cases hl : keepL es with
      | none => rw [hl] at h; cases h
      | some ds =>
        rw [hl] at h
        cases h
        exact .cons (evok_keep hB a hk) (evs_keepL hB r hl)
def eTup (m : DA) : DE := fun δ => mbind (m δ) fun es => match keepL es with
  | some ds => if lineOk ds.length = true then mret (.val (.tup ds)) else mno
  | none => mno
def eLst (m : DA) : DE := fun δ => mbind (m δ) fun es => match keepL es with
  | some ds => if lineOk ds.length = true then mret (.nw (.lst ds)) else mno
  | none => mno
theorem ae_tup {ta : TA} {ma : DA} (h : AA K cl W ta ma) : AE K cl W (tTup ta) (eTup ma) := by
  intro b l B0 H0 δ g σ H r g' S hm Q q
  rcases mb_cases hm with ⟨x, e, rfl⟩ | ⟨es, g1, e, hm⟩
  · exact h b l B0 H0 δ g σ H _ _ S e _ q
  · refine h b l B0 H0 δ g σ H _ _ S e _ fun vs H1 k1 b1 n1 hv => ?_
    cases hk : keepL es with
    | none => rw [hk] at hm; cases hm
    | some ds =>
      rw [hk] at hm
      dsimp only at hm
      split at hm
      · rename_i hl
        cases hm
        have hd := evs_keepL S.alB hv hk
        refine ⟨by rw [hd.len]; exact line_of hl, fun p hp => q _ _ (k1.trans (Kp.new hp)) (bag_upd b1 hp) n1 ?_⟩
        exact .tupH (fun z => by have := S.alB p z; rw [fresh_kp b1.some k1 hp] at this; cases this) upd_same (DatL.goes (goes_new' hp) hd)
      · cases hm
theorem ae_lst {ta : TA} {ma : DA} (h : AA K cl W ta ma) : AE K cl W (tLst ta) (eLst ma) := by
  intro b l B0 H0 δ g σ H r g' S hm Q q
  rcases mb_cases hm with ⟨x, e, rfl⟩ | ⟨es, g1, e, hm⟩
  · exact h b l B0 H0 δ g σ H _ _ S e _ q
  · refine h b l B0 H0 δ g σ H _ _ S e _ fun vs H1 k1 b1 n1 hv => ?_
    cases hk : keepL es with
    | none => rw [hk] at hm; cases hm
    | some ds =>
      rw [hk] at hm
      dsimp only at hm
      split at hm
      · rename_i hl
        cases hm
        have hd := evs_keepL S.alB hv hk
        refine ⟨by rw [hd.len]; exact line_of hl, fun p hp => q _ _ (k1.trans (Kp.new hp)) (bag_upd b1 hp) n1 ?_⟩
        exact ⟨p, _, rfl, fresh_kp b1.some k1 hp, upd_same, .lst (DatL.goes (goes_new hp) hd)⟩
      · cases hm
theorem datl_ixN {G : Gd} {Bad : Addr → Prop} {H : Hp} {vs : List V} {ds : List D} {i : Int} {d : D} (h : DatL G Bad H vs ds) (k : atI ds i = some d) : ∃ v, atI vs i = some v ∧ Dat G Bad H v d := by
  unfold atI at k ⊢
  rw [h.len]
  obtain ⟨j, h1, h2⟩ := Option.bind_eq_some_iff.mp k
  obtain ⟨v, h3, h4⟩ := h.at h2
  exact ⟨v, by rw [h1]; exact h3, h4⟩
def ixD : D → D → Option EV
  | .lst ds, .int i => (atI ds i).map .val
  | .tup ds, .int i => (atI ds i).map .val
  | _, _ => none
def mIx := mL2 ixD
theorem r2_ix : R2ok K cl W (rIx K) mIx := by
  intro b l B0 H0 δ g σ H H1 x y v w r g' S al k hv hw hm Q q
  obtain ⟨dx, dy, e, ex, ey, hf, rfl, rfl⟩ := mL2_cases hm
  unfold ixD at hf
  split at hf
  · rename_i ds i
    obtain ⟨d, h1, h2⟩ := Option.map_eq_some_iff.mp hf
    subst h2
    obtain ⟨a, vs, rfl, e1, r1⟩ := (evok_items hv).1 ex
    obtain ⟨u, h3, h4⟩ := datl_ixN r1 h1
    exact Or.inl ⟨a, vs, i, u, rfl, look_int hw ey, Or.inl (Or.inl e1), h3, q u H1 .refl S.bg rfl h4⟩
  · rename_i ds i
    obtain ⟨d, h1, h2⟩ := Option.map_eq_some_iff.mp hf
    subst h2
    obtain ⟨a, vs, rfl, e1, r1⟩ := (evok_items hv).2 ex
    obtain ⟨u, h3, h4⟩ := datl_ixN r1 h1
    exact Or.inr (Or.inl ⟨a, vs, i, u, rfl, look_int hw ey, e1, h3, q u H1 .refl S.bg rfl h4⟩)
  · cases hf
/-- a built-in of one argument -/
def R1ok (K : PySem.W.Frag) (cl : Str → Option Addr) (W : WX) (rr : List V → Hp → VK → Prop) (f : EV → Option EV) : Prop :=
  ∀ (b l : Addr) (B0 : Addr → Prop) (H0 : Hp) (δ : DS) (g : Bag) (σ : L2.St) (H H1 : Hp) (x e : EV) (v : V), Sto ⟨K, cl, b, l⟩ B0 H0 δ g σ H1 → (∀ a, Bd B0 δ σ a → (H a).isSome = true) → Kp ⟨K, cl, b, l⟩ H H1 → EVok ⟨K, cl, b, l⟩ (Bd B0 δ σ) H H1 v x → f x = some e →
    ∀ Q, (∀ w H', Kp ⟨K, cl, b, l⟩ H1 H' → BagAt ⟨K, cl, b, l⟩ H' g → EVok ⟨K, cl, b, l⟩ (Bd B0 δ σ) H1 H' w e → Q w H') → rr [v] H1 Q
def eB1 (f : EV → Option EV) (m : DE) : DE := fun δ => mbind (m δ) fun x => mof (f x)
theorem ae_B1 {rr : List V → Hp → VK → Prop} {f : EV → Option EV} (h : AE K cl W te me) (hr : R1ok K cl W rr f) : AE K cl W (tCB rr (tCons te tNil)) (eB1 f me) := by
  intro b l B0 H0 δ g σ H r g' S hm Q q
  rcases mb_cases hm with ⟨x, e, rfl⟩ | ⟨x, g1, e, hm⟩
  · exact h b l B0 H0 δ g σ H _ _ S e _ q
  · refine h b l B0 H0 δ g σ H _ _ S e _ fun v H1 k1 b1 n1 hv => ?_
    obtain ⟨a, ha, rfl, rfl⟩ := mof_cases hm
    exact hr b l B0 H0 δ g' σ H H1 x a v (S.kp k1 b1 n1) S.alB k1 hv ha _ fun w H2 k2 b2 hw => q w H2 (k1.trans k2) b2 n1 (evok_from b1.some k1 hw)
def rLenU (K : PySem.W.Frag) : List V → Hp → VK → Prop := fun xs H Q => (∃ p ys, xs = [.ref p] ∧ (SqL K H p ys ∨ SqT K H p ys) ∧ Q (.int ys.length) H) ∨ (∃ z, xs = [.str z] ∧ z.length ≤ sizeLine ∧ Q (.int z.length) H)
def lenE (e : EV) : Option EV := match e.look with
  | some (.lst ds) => some (.val (.int ds.length))
  | some (.tup ds) => some (.val (.int ds.length))
  | some (.str s) => if lineOk s.length = true then some (.val (.int s.length)) else none
  | _ => none
theorem r1_len : R1ok K cl W (rLenU K) lenE := by
  intro b l B0 H0 δ g σ H H1 x e v S al k hv hf Q q
  unfold lenE at hf
  cases hk : x.look with
  | none => rw [hk] at hf; cases hf
  | some d =>
    rw [hk] at hf
    cases d with
    | lst ds =>
      cases hf
      obtain ⟨a, vs, rfl, e1, r1⟩ := (evok_items hv).1 hk
      exact Or.inl ⟨a, vs, rfl, Or.inl (Or.inl (Or.inl e1)), q _ H1 .refl S.bg (by rw [r1.len]; exact Dat.int _)⟩
    | tup ds =>
      cases hf
      obtain ⟨a, vs, rfl, e1, r1⟩ := (evok_items hv).2 hk
      exact Or.inl ⟨a, vs, rfl, Or.inr e1, q _ H1 .refl S.bg (by rw [r1.len]; exact Dat.int _)⟩
    | str s =>
      dsimp only at hf
      split at hf
      · rename_i hl
        cases hf
        rw [look_str hv hk]
        exact Or.inr ⟨s, rfl, line_of hl, q _ H1 .refl S.bg (.int _)⟩
      · cases hf
    | non => cases hf
    | bl c => cases hf
    | int i => cases hf
    | dct k => cases hf
    | obj c f => cases hf
end
end Vi

set_option Elab.async false
set_option linter.all false
set_option maxRecDepth 100000
set_option maxHeartbeats 4000000
namespace Vi
open PySem PySem.Spec PyProof.Rows L2

/-! comprehensions -/
def wipeD (δ : DS) : List Nat → DS
  | [] => δ
  | v :: vs => (wipeD δ vs).set v none
def noOwn (vs : List Nat) (δ : DS) : Bool := vs.all fun k => match δ[k]? with
  | some (some (.own _)) => false
  | _ => true
theorem wipeD_at {δ : DS} {k : Nat} {x : SV} : ∀ {vs : List Nat}, (wipeD δ vs)[k]? = some (some x) → k ∉ vs ∧ δ[k]? = some (some x)
  | [], h => ⟨by simp, h⟩
  | v :: vs, h => by
    unfold wipeD at h
    by_cases e : v = k
    · subst e
      by_cases hl : v < (wipeD δ vs).length
      · rw [List.getElem?_set_self hl] at h
        cases h
      · rw [List.getElem?_eq_none (by simpa using hl)] at h
        cases h
    · rw [List.getElem?_set_ne e] at h
      obtain ⟨h1, h2⟩ := wipeD_at (vs := vs) h
      exact ⟨fun z => by rcases List.mem_cons.mp z with z | z; exact e z.symm; exact h1 z, h2⟩
theorem wipeD_ne {δ : DS} {k : Nat} : ∀ {vs : List Nat}, k ∉ vs → (wipeD δ vs)[k]? = δ[k]?
  | [], _ => rfl
  | v :: vs, h => by
    unfold wipeD
    rw [List.getElem?_set_ne (fun z => h (by rw [z]; exact List.mem_cons_self)), wipeD_ne fun z => h (List.mem_cons_of_mem _ z)]
section
variable {G : Gd} {B0 : Addr → Prop} {H0 H H' : Hp} {δ : DS} {g g' : Bag} {σ : L2.St}
/-- a slot is forgotten -/
theorem Sto.clear (S : Sto G B0 H0 δ g σ H) {k : Nat} (hk : ∀ ds, δ[k]? ≠ some (some (.own ds))) : Sto G B0 H0 (δ.set k none) g (σ.set k none) H ∧ ∀ a, Bd B0 (δ.set k none) (σ.set k none) a ↔ Bd B0 δ σ a := by
  have ne : ∀ {j : Nat} {x : SV}, (δ.set k none)[j]? = some (some x) → k ≠ j ∧ δ[j]? = some (some x) := fun {j x} h => by
    by_cases e : k = j
    · subst e
      by_cases hl : k < δ.length
      · rw [List.getElem?_set_self hl] at h
        cases h
      · rw [List.getElem?_eq_none (by simpa using hl)] at h
        cases h
    · rw [List.getElem?_set_ne e] at h
      exact ⟨e, h⟩
  have bde : ∀ a, Bd B0 (δ.set k none) (σ.set k none) a ↔ Bd B0 δ σ a := fun a => by
    constructor
    · rintro (h | ⟨j, ds, h1, h2⟩)
      · exact Or.inl h
      · obtain ⟨e, h1⟩ := ne h1
        rw [List.getElem?_set_ne e] at h2
        exact Or.inr ⟨j, ds, h1, h2⟩
    · rintro (h | ⟨j, ds, h1, h2⟩)
      · exact Or.inl h
      · have e : k ≠ j := fun z => by
          subst z
          exact hk ds h1
        exact Or.inr ⟨j, ds, by rw [List.getElem?_set_ne e]; exact h1, by rw [List.getElem?_set_ne e]; exact h2⟩
  refine ⟨⟨by simp [S.len], S.ent, S.bg, S.lb, S.scr, S.b0, S.hb, S.al, fun j d hj => ?_, fun j ds hj => ?_, fun i j ds es p hi hj h1 h2 => ?_, fun j hj => ?_, fun j x hj => ?_, fun j ds p hj hp => ?_⟩, bde⟩
  · obtain ⟨e, hj⟩ := ne hj
    obtain ⟨v, h1, h2⟩ := S.val j d hj
    exact ⟨v, by rw [List.getElem?_set_ne e]; exact h1, Dat.goes (goes_less fun a z => (bde a).mp z) h2⟩
  · obtain ⟨e, hj⟩ := ne hj
    obtain ⟨p, vs, h1, h2, h3, h4⟩ := S.own j ds hj
    exact ⟨p, vs, by rw [List.getElem?_set_ne e]; exact h1, h2, h3, OwnD.goes (goes_less fun a z => (bde a).mp z) h4⟩
  · obtain ⟨e, hi⟩ := ne hi
    obtain ⟨e', hj⟩ := ne hj
    rw [List.getElem?_set_ne e] at h1
    rw [List.getElem?_set_ne e'] at h2
    exact S.inj i j ds es p hi hj h1 h2
  · obtain ⟨e, hj⟩ := ne hj
    rw [List.getElem?_set_ne e]
    exact S.bag j hj
  · obtain ⟨e, hj⟩ := ne hj
    rw [List.getElem?_set_ne e]
    exact S.exc j x hj
  · obtain ⟨e, hj⟩ := ne hj
    rw [List.getElem?_set_ne e] at hp
    exact S.nb j ds p hj hp
theorem Sto.wipe (S : Sto G B0 H0 δ g σ H) : ∀ {vs : List Nat}, noOwn vs δ = true → Sto G B0 H0 (wipeD δ vs) g (L2.wipe σ vs) H ∧ ∀ a, Bd B0 (wipeD δ vs) (L2.wipe σ vs) a ↔ Bd B0 δ σ a
  | [], _ => ⟨S, fun _ => Iff.rfl⟩
  | v :: vs, h => by
    have h' : noOwn vs δ = true := by
      unfold noOwn at h ⊢
      rw [List.all_cons, Bool.and_eq_true] at h
      exact h.2
    have hv : ∀ ds, δ[v]? ≠ some (some (.own ds)) := fun ds z => by
      unfold noOwn at h
      rw [List.all_cons, Bool.and_eq_true] at h
      have := h.1
      rw [z] at this
      cases this
    obtain ⟨S1, b1⟩ := Sto.wipe S h'
    obtain ⟨S2, b2⟩ := S1.clear (k := v) fun ds z => hv ds (wipeD_at z).2
    exact ⟨S2, fun a => (b2 a).trans (b1 a)⟩
/-- a new object, that is not to be seen -/
theorem Sto.box (S : Sto G B0 H0 δ g σ H) {p : Addr} {o : HO} (hp : H p = none) : Sto G (With B0 p) (ground δ σ H) δ g σ (upd H p o) := by
  have R := S.rebase
  have go : Goes (Bd B0 δ σ) (Bd (With B0 p) δ σ) H (upd H p o) := fun a u n e => ⟨by rw [upd_ne (ne_of_none e hp)]; exact e, fun z => by
    rcases z with (z | z) | z
    · exact n (Or.inl z)
    · subst z
      rw [hp] at e
      cases e
    · exact n (Or.inr z)⟩
  refine ⟨S.len, fun a u n e => ?_, bag_upd S.bg hp, S.lb, R.scr, Or.inl S.b0, R.hb, fun a h => ?_, fun i d h => ?_, fun i ds h => ?_, S.inj, S.bag, S.exc, fun i ds q h1 h2 z => z.elim (S.nb i ds q h1 h2) fun z => ?_⟩
  · have e' := ground_sub e
    rw [upd_ne (ne_of_none e' hp)]
    exact e'
  · unfold upd
    split
    · rfl
    · rcases h with h | h
      · exact S.al a h
      · contradiction
  · obtain ⟨v, h1, h2⟩ := S.val i d h
    exact ⟨v, h1, Dat.goes go h2⟩
  · obtain ⟨q, vs, h1, h2, h3, h4⟩ := R.own i ds h
    exact ⟨q, vs, h1, h2, by rw [upd_ne (ne_of_none h3 hp)]; exact h3, OwnD.goes go h4⟩
  · subst z
    obtain ⟨q', vs, c1, c2, c3, c4⟩ := S.own i ds h1
    rw [h2] at c1
    cases c1
    rw [hp] at c3
    cases c3
/-- what is not to be seen may change -/
theorem Sto.poke (S : Sto G B0 H0 δ g σ H) {p : Addr} {o : HO} (hp : B0 p) (pb : p ≠ G.b) (h0 : H0 p = none) (ho : ∀ (i : Nat) (ds : D), δ[i]? = some (some (.own ds)) → σ[i]? ≠ some (some (V.ref p))) : Sto G B0 H0 δ g σ (upd H p o) := by
  have go : Goes (Bd B0 δ σ) (Bd B0 δ σ) H (upd H p o) := fun a u n e => ⟨by rw [upd_ne (fun z => n (by rw [z]; exact Or.inl hp))]; exact e, n⟩
  refine ⟨S.len, fun a u n e => ?_, ?_, S.lb, S.scr, S.b0, S.hb, fun a h => ?_, fun i d h => ?_, fun i ds h => ?_, S.inj, S.bag, S.exc, S.nb⟩
  · rw [upd_ne (ne_of_none e h0)]
    exact S.ent a u n e
  · show upd H p o G.b = _
    rw [upd_ne (fun z => pb z.symm)]
    exact S.bg
  · unfold upd
    split
    · rfl
    · exact S.al a h
  · obtain ⟨v, h1, h2⟩ := S.val i d h
    exact ⟨v, h1, Dat.goes go h2⟩
  · obtain ⟨q, vs, h1, h2, h3, h4⟩ := S.own i ds h
    exact ⟨q, vs, h1, h2, by rw [upd_ne (fun z => ho i ds h (by rw [← z]; exact h1))]; exact h3, OwnD.goes go h4⟩
end
theorem wipe_len (σ : L2.St) (vs : List Nat) : (L2.wipe σ vs).length = σ.length := L2.wipe_length σ vs
theorem wipe_at (σ : L2.St) : ∀ (vs : List Nat) (k : Nat), (L2.wipe σ vs)[k]? = if k ∈ vs then (if k < σ.length then some none else none) else σ[k]?
  | [], k => by simp [L2.wipe]
  | v :: vs, k => by
    unfold L2.wipe
    by_cases e : v = k
    · subst e
      rw [if_pos List.mem_cons_self]
      by_cases hl : v < σ.length
      · rw [if_pos hl, List.getElem?_set_self (by rw [wipe_len]; exact hl)]
      · rw [if_neg hl, List.getElem?_eq_none (by rw [List.length_set, wipe_len]; omega)]
    · rw [List.getElem?_set_ne e, wipe_at σ vs k]
      by_cases hm : k ∈ vs
      · rw [if_pos hm, if_pos (List.mem_cons_of_mem _ hm)]
      · rw [if_neg hm, if_neg (fun z => by rcases List.mem_cons.mp z with z | z; exact e z.symm; exact hm z)]
theorem wipe_back {σ σ2 : L2.St} {vs js : List Nat} (hl : σ2.length = σ.length) (hj : ∀ k, k ∉ js → σ2[k]? = (L2.wipe σ vs)[k]?) (hs : ∀ k ∈ js, k ∈ vs) : L2.wipe σ2 vs = L2.wipe σ vs := by
  apply List.ext_getElem?
  intro k
  rw [wipe_at σ2]
  by_cases hm : k ∈ vs
  · rw [if_pos hm, wipe_at, if_pos hm, hl]
  · rw [if_neg hm, hj k (fun z => hm (hs k z))]

def WF : WX := fun _ _ _ _ => False
/-- the items of a comprehension -/
def lcGo (mg : DG) (mt : DB) (me : DE) (δ : DS) : List D → List D → Bag → Option (List D × Bag)
  | [], acc, g => some (acc, g)
  | d :: ds, acc, g => match mg d δ with
    | none => none
    | some δ2 => match mt δ2 g with
      | some (.ok true, g1) => match me δ2 g1 with
        | some (.ok e, g2) => match e.keep with
          | some x => if lineOk (acc.length + 1) = true then lcGo mg mt me δ ds (acc ++ [x]) g2 else none
          | none => none
        | _ => none
      | some (.ok false, g1) => lcGo mg mt me δ ds acc g1
      | _ => none
section
variable {K : PySem.W.Frag} {cl : Str → Option Addr} {W : WX} {te ta tb : TE} {tt : TT} {me ma mb : DE} {mt : DB}
theorem Sto.goes0 {G : Gd} {B0 : Addr → Prop} {H0 H : Hp} {δ : DS} {g : Bag} {σ : L2.St} (S : Sto G B0 H0 δ g σ H) : Goes B0 (Bd B0 δ σ) H0 H := fun a o n e => ⟨S.ent a o (fun z => n (by rw [z]; exact S.b0)) e, fun z => by
  rcases z with z | ⟨j, es, a1, a2⟩
  · exact n z
  · obtain ⟨q, ws, c1, c2, _, _⟩ := S.own j es a1
    rw [a2] at c1
    cases c1
    rw [c2] at e
    cases e⟩
theorem lc_walk {b l : Addr} {B0 : Addr → Prop} {H0 Hs : Hp} {δp : DS} {σ : L2.St} {vs js : List Nat} {tg : TG} {mg : DG} {J : It} {ds : List D} {p : Addr} {Nx : Hp → Prop}
    (hg : AG K cl js tg mg) (ht : AB K cl WF tt mt) (he : AE K cl WF te me) (hjs : ∀ k ∈ js, k ∈ vs) (hJ : ItOk ⟨K, cl, b, l⟩ B0 H0 J ds) (hp : B0 p) (pb : p ≠ b) (h0 : H0 p = none) (ho : ∀ (i : Nat) (es : D), (wipeD δp vs)[i]? = some (some (.own es)) → (L2.wipe σ vs)[i]? ≠ some (some (V.ref p))) (hsp : Hs p = none)
    {g0 gF : Bag} {acc0 accF : List D} {v0 : List V} {H : Hp} (S : Sto ⟨K, cl, b, l⟩ B0 H0 (wipeD δp vs) g0 (L2.wipe σ vs) H) (kp : Kp ⟨K, cl, b, l⟩ Hs H) (hv : H p = some (.lst v0)) (dv : DatL ⟨K, cl, b, l⟩ (Bd B0 (wipeD δp vs) (L2.wipe σ vs)) H v0 acc0)
    (hr : lcGo mg mt me (wipeD δp vs) ds acc0 g0 = some (accF, gF))
    (hN : ∀ H' vF, Sto ⟨K, cl, b, l⟩ B0 H0 (wipeD δp vs) gF (L2.wipe σ vs) H' → Kp ⟨K, cl, b, l⟩ Hs H' → H' p = some (.lst vF) → DatL ⟨K, cl, b, l⟩ (Bd B0 (wipeD δp vs) (L2.wipe σ vs)) H' vF accF → gF.ns = g0.ns → Nx H') :
    ∃ WW : Nat → Nat → Hp → Prop, (∃ m, WW 0 m H) ∧ ∀ i m H, WW i m H →
      (J.stop i H ∧ Nx H) ∨ (J.go i H ∧ ∃ Ny : Hp → Prop, (∀ H', Ny H' → ∃ m', m' < m ∧ WW (i + 1) m' H') ∧ ∀ x H', J.yld i H x H' → tg x (L2.wipe σ vs) H' fun σ2 H2 => L2.wipe σ2 vs = L2.wipe σ vs ∧ tt σ2 H2 fun c H3 =>
        if c = true then te σ2 H3 fun y H4 => ∃ acc, H4 p = some (.lst acc) ∧ acc.length < sizeLine ∧ Ny (upd H4 p (.lst (acc ++ [y]))) else Ny H3) := by
  refine ⟨fun i m H' => m = ds.length - i ∧ i ≤ ds.length ∧ ∃ g2 acc v2, Sto ⟨K, cl, b, l⟩ B0 H0 (wipeD δp vs) g2 (L2.wipe σ vs) H' ∧ Kp ⟨K, cl, b, l⟩ Hs H' ∧ H' p = some (.lst v2) ∧ DatL ⟨K, cl, b, l⟩ (Bd B0 (wipeD δp vs) (L2.wipe σ vs)) H' v2 acc ∧ lcGo mg mt me (wipeD δp vs) (ds.drop i) acc g2 = some (accF, gF) ∧ g2.ns = g0.ns,
    ⟨ds.length, rfl, Nat.zero_le _, g0, acc0, v0, S, kp, hv, dv, hr, rfl⟩, ?_⟩
  rintro i m H1 ⟨rfl, hle, g1, acc, v1, S1, k1, hv1, d1, h1, n1⟩
  obtain ⟨hgo', hstop⟩ := hJ _ H1 S1.goes0 S1.alB
  by_cases hlt : i < ds.length
  · obtain ⟨d, e1, e2⟩ := drop_get hlt
    obtain ⟨hgo, hy⟩ := hgo' i d e1
    refine Or.inr ⟨hgo, fun H' => ∃ g2 acc v2, Sto ⟨K, cl, b, l⟩ B0 H0 (wipeD δp vs) g2 (L2.wipe σ vs) H' ∧ Kp ⟨K, cl, b, l⟩ Hs H' ∧ H' p = some (.lst v2) ∧ DatL ⟨K, cl, b, l⟩ (Bd B0 (wipeD δp vs) (L2.wipe σ vs)) H' v2 acc ∧ lcGo mg mt me (wipeD δp vs) (ds.drop (i + 1)) acc g2 = some (accF, gF) ∧ g2.ns = g0.ns,
      fun H' ⟨g2, acc2, v2, z⟩ => ⟨ds.length - (i + 1), by omega, rfl, hlt, g2, acc2, v2, z⟩, fun x H2 y => ?_⟩
    obtain ⟨ww, dx⟩ := hy x H2 y
    obtain ⟨S1', kw⟩ := ww.sto S1
    replace hv1 := kw p _ pb hv1
    replace d1 := DatL.goes (kw.goes S1.bd) d1
    replace k1 := k1.trans kw
    replace S1 := S1'
    rw [e2] at h1
    unfold lcGo at h1
    cases em : mg d (wipeD δp vs) with
    | none => rw [em] at h1; cases h1
    | some δ2 =>
      rw [em] at h1
      dsimp only at h1
      refine hg b l B0 H0 _ g1 _ H2 x d δ2 S1 dx em _ fun σ2 S2 sub ag ow => ?_
      have back : L2.wipe σ2 vs = L2.wipe σ vs := wipe_back (ag.1.trans (wipe_len σ vs)) (fun k hk => (ag.2 k hk).1) hjs
      have bd2 : ∀ a, Bd B0 (wipeD δp vs) (L2.wipe σ vs) a → Bd B0 δ2 σ2 a := fun a z => by
        rcases z with z | ⟨j, es, a1, a2⟩
        · exact Or.inl z
        · have nj : j ∉ js := fun z => (wipeD_at a1).1 (hjs j z)
          exact Or.inr ⟨j, es, by rw [(ag.2 j nj).2]; exact a1, by rw [(ag.2 j nj).1]; exact a2⟩
      refine ⟨back, ?_⟩
      cases et : mt δ2 g1 with
      | none => rw [et] at h1; cases h1
      | some pr =>
        obtain ⟨r, g2⟩ := pr
        rw [et] at h1
        cases r with
        | er z => cases h1
        | ok c =>
          refine ht b l B0 H0 δ2 g1 σ2 H2 _ g2 S2 et _ fun H3 k3 b3 n3 => ?_
          cases c with
          | false =>
            show ∃ g2 acc v2, _
            exact ⟨g2, acc, v1, S1.kp k3 b3 n3, k1.trans k3, k3 p _ pb hv1, DatL.goes (k3.goes S1.bd) d1, h1, n3.trans n1⟩
          | true =>
            dsimp only at h1
            have S3 := S2.kp k3 b3 n3
            cases ee : me δ2 g2 with
            | none => rw [ee] at h1; cases h1
            | some pr =>
              obtain ⟨r, g3⟩ := pr
              rw [ee] at h1
              cases r with
              | er z => cases h1
              | ok ev =>
                dsimp only at h1
                cases hk : ev.keep with
                | none => rw [hk] at h1; cases h1
                | some w =>
                  rw [hk] at h1
                  dsimp only at h1
                  split at h1
                  · rename_i hl
                    show te σ2 H3 fun y H4 => ∃ acc, H4 p = some (.lst acc) ∧ acc.length < sizeLine ∧ _
                    refine he b l B0 H0 δ2 g2 σ2 H3 _ g3 S3 ee _ fun y H4 k4 b4 n4 hy4 => ?_
                    have k24 := k3.trans k4
                    have dy : Dat ⟨K, cl, b, l⟩ (Bd B0 (wipeD δp vs) (L2.wipe σ vs)) H4 y w := Dat.goes (goes_less bd2) (evok_keep S3.alB hy4 hk)
                    have d4 : DatL ⟨K, cl, b, l⟩ (Bd B0 (wipeD δp vs) (L2.wipe σ vs)) H4 v1 acc := DatL.goes (k24.goes S1.bd) d1
                    have hl' := line_of hl
                    have := d1.len
                    refine ⟨v1, k24 p _ pb hv1, by omega, g3, acc ++ [w], v1 ++ [y], (S1.kp k24 b4 (n4.trans n3)).poke hp pb h0 ho, ?_, upd_same, ?_, h1, (n4.trans n3).trans n1⟩
                    · intro a u n e
                      rw [upd_ne (ne_of_none e hsp)]
                      exact (k1.trans k24) a u n e
                    · exact DatL.goes (fun a u n e => ⟨by rw [upd_ne (fun z => n (by rw [z]; exact Or.inl hp))]; exact e, n⟩) (d4.append (.cons dy .nil))
                  · cases h1
  · have ei : i = ds.length := by omega
    subst ei
    rw [List.drop_length] at h1
    cases h1
    exact Or.inl ⟨hstop, hN H1 v1 S1 k1 hv1 d1 n1⟩

/-- fewer slots -/
theorem Sto.less {G : Gd} {B0 : Addr → Prop} {H0 H : Hp} {δ δ' : DS} {g : Bag} {σ σ' : L2.St} (S : Sto G B0 H0 δ' g σ' H) (hl : σ.length = δ.length) (h1 : ∀ (k : Nat) (x : SV), δ[k]? = some (some x) → δ'[k]? = some (some x) ∧ σ'[k]? = σ[k]?)
    (h2 : ∀ (k : Nat) (ds : D), δ'[k]? = some (some (.own ds)) → δ[k]? = some (some (.own ds))) : Sto G B0 H0 δ g σ H ∧ ∀ a, Bd B0 δ σ a ↔ Bd B0 δ' σ' a := by
  have bde : ∀ a, Bd B0 δ σ a ↔ Bd B0 δ' σ' a := fun a => by
    constructor
    · rintro (h | ⟨j, ds, a1, a2⟩)
      · exact Or.inl h
      · obtain ⟨b1, b2⟩ := h1 j _ a1
        exact Or.inr ⟨j, ds, b1, b2.trans a2⟩
    · rintro (h | ⟨j, ds, a1, a2⟩)
      · exact Or.inl h
      · have b1 := h2 j ds a1
        exact Or.inr ⟨j, ds, b1, by rw [← (h1 j _ b1).2]; exact a2⟩
  refine ⟨⟨hl, S.ent, S.bg, S.lb, S.scr, S.b0, S.hb, S.al, fun i d h => ?_, fun i ds h => ?_, fun i j ds es p hi hj a1 a2 => ?_, fun i h => ?_, fun i x h => ?_, fun i ds p hi hp => ?_⟩, bde⟩
  · obtain ⟨b1, b2⟩ := h1 i _ h
    obtain ⟨v, c1, c2⟩ := S.val i d b1
    exact ⟨v, b2 ▸ c1, Dat.goes (goes_less fun a z => (bde a).mp z) c2⟩
  · obtain ⟨b1, b2⟩ := h1 i _ h
    obtain ⟨p, vs, c1, c2, c3, c4⟩ := S.own i ds b1
    exact ⟨p, vs, b2 ▸ c1, c2, c3, OwnD.goes (goes_less fun a z => (bde a).mp z) c4⟩
  · obtain ⟨b1, b2⟩ := h1 i _ hi
    obtain ⟨c1, c2⟩ := h1 j _ hj
    exact S.inj i j ds es p b1 c1 (b2.trans a1) (c2.trans a2)
  · obtain ⟨b1, b2⟩ := h1 i _ h
    rw [← b2]
    exact S.bag i b1
  · obtain ⟨b1, b2⟩ := h1 i _ h
    rw [← b2]
    exact S.exc i x b1
  · obtain ⟨b1, b2⟩ := h1 i _ hi
    exact S.nb i ds p b1 (b2.trans hp)
/-- less is known of the entry -/
theorem Sto.weak0 {G : Gd} {B0 : Addr → Prop} {H0 Hx H : Hp} {δ : DS} {g : Bag} {σ : L2.St} (S : Sto G B0 Hx δ g σ H) (sub : ∀ a o, a ≠ G.b → H0 a = some o → Hx a = some o) (hb : (H0 G.b).isSome = true) (hl : (H0 G.l).isSome = true) : Sto G B0 H0 δ g σ H := by
  refine ⟨S.len, fun a o n e => S.ent a o n (sub a o n e), S.bg, S.lb, ?_, S.b0, hb, S.al, S.val, fun i ds h => ?_, S.inj, S.bag, S.exc, S.nb⟩
  · cases e : H0 G.l with
    | none => rw [e] at hl; cases hl
    | some o => rw [← sub _ o S.lb e]; exact S.scr
  · obtain ⟨p, vs, a1, a2, a3, a4⟩ := S.own i ds h
    refine ⟨p, vs, a1, ?_, a3, a4⟩
    cases e : H0 p with
    | none => rfl
    | some o => rw [sub p o (S.ownb a2) e] at a2; cases a2
open Classical in
noncomputable def without (H : Hp) (p : Addr) : Hp := fun a => if a = p then none else H a
theorem without_some {H : Hp} {p a : Addr} {o : HO} (h : without H p a = some o) : H a = some o := by
  unfold without at h
  split at h
  · cases h
  · exact h
theorem without_of {H : Hp} {p a : Addr} {o : HO} (h : H a = some o) (n : a ≠ p) : without H p a = some o := by
  unfold without
  rw [if_neg n]
  exact h

def eLc (vs : List Nat) (mi : DI) (mg : DG) (mt : DB) (me : DE) : DE := fun δ => mbind (mi δ) fun ds g => if noOwn vs δ = true then (match lcGo mg mt me (wipeD δ vs) ds [] g with
  | some (es, g') => some (.ok (.nw (.lst es)), g')
  | none => none) else none
theorem ae_lc_at {b l : Addr} {B0 : Addr → Prop} {H0 : Hp} {δ : DS} {g : Bag} {σ : L2.St} {H : Hp} {vs js : List Nat} {wi : TI} {mi : DI} {tg : TG} {mg : DG} (S : Sto ⟨K, cl, b, l⟩ B0 H0 δ g σ H) (hi : AIat ⟨K, cl, b, l⟩ B0 W δ g σ H wi mi) (hg : AG K cl js tg mg) (ht : AB K cl WF tt mt) (he : AE K cl WF te me) (hjs : ∀ k ∈ js, k ∈ vs)
    {r : Rs EV} {g' : Bag} (hm : eLc vs mi mg mt me δ g = some (r, g')) (Q : VK) (q : Post ⟨K, cl, b, l⟩ (Bd B0 δ σ) W σ H g g' Q r) : tLc wi tg tt te vs σ H Q := by
  rcases mb_cases hm with ⟨x, e, rfl⟩ | ⟨ds, g1, e, hm⟩
  · exact hi _ _ e _ q
  · refine hi _ _ e _ fun J H1 k1 b1 n1 hJ => ?_
    have S1 := S.kp k1 b1 n1
    split at hm
    · rename_i hno
      cases hr : lcGo mg mt me (wipeD δ vs) ds [] g1 with
      | none => rw [hr] at hm; cases hm
      | some pr =>
        obtain ⟨es, g2⟩ := pr
        rw [hr] at hm
        cases hm
        intro p hp
        obtain ⟨Sw, bw⟩ := S1.wipe hno
        have Sb := Sw.box (o := .lst []) hp
        have pb : p ≠ b := fun z => by
          subst z
          have := S1.bg.some
          rw [hp] at this
          cases this
        have hp0 : H p = none := fresh_kp b1.some k1 hp
        have gp : ground (wipeD δ vs) (L2.wipe σ vs) H1 p = none := by
          cases z : ground (wipeD δ vs) (L2.wipe σ vs) H1 p with
          | none => rfl
          | some o => rw [ground_sub z] at hp; cases hp
        have up : ∀ a, With (Bd B0 δ σ) p a → Bd (With B0 p) (wipeD δ vs) (L2.wipe σ vs) a := fun a z => by
          rcases z with z | z
          · rcases (bw a).mpr z with z | z
            · exact Or.inl (Or.inl z)
            · exact Or.inr z
          · exact Or.inl (Or.inr z)
        refine lc_walk (K := K) (cl := cl) (b := b) (l := l) (B0 := With B0 p) (H0 := ground (wipeD δ vs) (L2.wipe σ vs) H1) (Hs := H) hg ht he hjs (hJ.goes fun a o n e => ⟨ground_of (B0 := B0) e fun z => n ((bw a).mp z), fun z => ?_⟩) (Or.inr rfl) pb gp (fun i es h z => ?_) hp0 Sb (k1.trans (Kp.new hp)) upd_same .nil hr fun H' vF S' k' hv dv nn => ?_
        · rcases z with z | z
          · exact n (Or.inl z)
          · subst z
            rw [hp] at e
            cases e
        · obtain ⟨q', ws, c1, c2, c3, _⟩ := Sw.own i es h
          rw [z] at c1
          cases c1
          rw [hp] at c3
          cases c3
        · exact q _ H' k' S'.bg (nn.trans n1) ⟨p, _, rfl, hp0, hv, .lst (DatL.goes (goes_less up) dv)⟩
    · cases hm

theorem ae_lc {vs js : List Nat} {wi : TI} {mi : DI} {tg : TG} {mg : DG} (hi : AI K cl W wi mi) (hg : AG K cl js tg mg) (ht : AB K cl WF tt mt) (he : AE K cl WF te me) (hjs : ∀ k ∈ js, k ∈ vs) : AE K cl W (tLc wi tg tt te vs) (eLc vs mi mg mt me) := by
  intro b l B0 H0 δ g σ H r g' S hm Q q
  exact ae_lc_at S (fun r g' e R p => hi b l B0 H0 δ g σ H r g' S e R p) hg ht he hjs hm Q q
def lc2Go (mg : DG) (mt : DB) (mi1 : DI) (vs1 : List Nat) (mg1 : DG) (mt1 : DB) (me : DE) (δ : DS) : List D → List D → Bag → Option (List D × Bag)
  | [], acc, g => some (acc, g)
  | d :: ds, acc, g => match mg d δ with
    | none => none
    | some δ2 => match mt δ2 g with
      | some (.ok true, g1) => match mi1 δ2 g1 with
        | some (.ok ds1, g2) => if noOwn vs1 δ2 = true then (match lcGo mg1 mt1 me (wipeD δ2 vs1) ds1 acc g2 with
          | some (acc', g3) => lc2Go mg mt mi1 vs1 mg1 mt1 me δ ds acc' g3
          | none => none) else none
        | _ => none
      | some (.ok false, g1) => lc2Go mg mt mi1 vs1 mg1 mt1 me δ ds acc g1
      | _ => none
def eLc2 (vs vs1 : List Nat) (mi : DI) (mg : DG) (mt : DB) (mi1 : DI) (mg1 : DG) (mt1 : DB) (me : DE) : DE := fun δ => mbind (mi δ) fun ds g => if noOwn vs δ = true then (match lc2Go mg mt mi1 vs1 mg1 mt1 me (wipeD δ vs) ds [] g with
  | some (es, g') => some (.ok (.nw (.lst es)), g')
  | none => none) else none
theorem ae_lc2_at {b l : Addr} {B0 : Addr → Prop} {H0 : Hp} {δ : DS} {g : Bag} {σ : L2.St} {H : Hp} {vs vs1 js js1 : List Nat} {wi wi1 : TI} {mi mi1 : DI} {tg tg1 : TG} {mg mg1 : DG} {tt1 : TT} {mt1 : DB} (S : Sto ⟨K, cl, b, l⟩ B0 H0 δ g σ H) (hi : AIat ⟨K, cl, b, l⟩ B0 W δ g σ H wi mi) (hg : AG K cl js tg mg) (ht : AB K cl WF tt mt) (hi1 : AI K cl WF wi1 mi1) (hg1 : AG K cl js1 tg1 mg1) (ht1 : AB K cl WF tt1 mt1) (he : AE K cl WF te me)
    (hjs : ∀ k ∈ js, k ∈ vs) (hjs1 : ∀ k ∈ js1, k ∈ vs1) (hv1 : ∀ k ∈ vs1, k ∈ vs)
    {r : Rs EV} {g' : Bag} (hm : eLc2 vs vs1 mi mg mt mi1 mg1 mt1 me δ g = some (r, g')) (Q : VK) (q : Post ⟨K, cl, b, l⟩ (Bd B0 δ σ) W σ H g g' Q r) : tLc2 wi tg tt wi1 tg1 tt1 te vs vs1 σ H Q := by
  rcases mb_cases hm with ⟨x, e, rfl⟩ | ⟨ds, g1, e, hm⟩
  · exact hi _ _ e _ q
  refine hi _ _ e _ fun J H1 k1 b1 n1 hJ => ?_
  have S1 := S.kp k1 b1 n1
  split at hm
  case isFalse => cases hm
  rename_i hno
  cases hr : lc2Go mg mt mi1 vs1 mg1 mt1 me (wipeD δ vs) ds [] g1 with
  | none => rw [hr] at hm; cases hm
  | some pr =>
  obtain ⟨es, g2⟩ := pr
  rw [hr] at hm
  cases hm
  intro p hp
  obtain ⟨Sw, bw⟩ := S1.wipe hno
  have Sb := Sw.box (o := .lst []) hp
  have pb : p ≠ b := fun z => by
    subst z
    have := S1.bg.some
    rw [hp] at this
    cases this
  have hp0 : H p = none := fresh_kp b1.some k1 hp
  have pl : p ≠ l := fun z => by
    subst z
    have := S1.ent p _ S1.lb S1.scr
    rw [hp] at this
    cases this
  have gp : ground (wipeD δ vs) (L2.wipe σ vs) H1 p = none := by
    cases z : ground (wipeD δ vs) (L2.wipe σ vs) H1 p with
    | none => rfl
    | some o => rw [ground_sub z] at hp; cases hp
  have up : ∀ a, With (Bd B0 δ σ) p a → Bd (With B0 p) (wipeD δ vs) (L2.wipe σ vs) a := fun a z => by
    rcases z with z | z
    · rcases (bw a).mpr z with z | z
      · exact Or.inl (Or.inl z)
      · exact Or.inr z
    · exact Or.inl (Or.inr z)
  have ho : ∀ (i : Nat) (es : D), (wipeD δ vs)[i]? = some (some (.own es)) → (L2.wipe σ vs)[i]? ≠ some (some (V.ref p)) := fun i es h z => by
    obtain ⟨q', ws, c1, c2, c3, _⟩ := Sw.own i es h
    rw [z] at c1
    cases c1
    rw [hp] at c3
    cases c3
  have hJ0 : ItOk ⟨K, cl, b, l⟩ (With B0 p) (ground (wipeD δ vs) (L2.wipe σ vs) H1) J ds := hJ.goes fun a o n e => ⟨ground_of (B0 := B0) e fun z => n ((bw a).mp z), fun z => by
    rcases z with z | z
    · exact n (Or.inl z)
    · subst z
      rw [hp] at e
      cases e⟩
  -- the outer walk
  generalize hH0 : ground (wipeD δ vs) (L2.wipe σ vs) H1 = Hb at Sb gp hJ0
  refine ⟨fun i m H' => m = ds.length - i ∧ i ≤ ds.length ∧ ∃ g2' acc v2, Sto ⟨K, cl, b, l⟩ (With B0 p) Hb (wipeD δ vs) g2' (L2.wipe σ vs) H' ∧ Kp ⟨K, cl, b, l⟩ H H' ∧ H' p = some (.lst v2) ∧ DatL ⟨K, cl, b, l⟩ (Bd (With B0 p) (wipeD δ vs) (L2.wipe σ vs)) H' v2 acc ∧ lc2Go mg mt mi1 vs1 mg1 mt1 me (wipeD δ vs) (ds.drop i) acc g2' = some (es, g') ∧ g2'.ns = g1.ns,
    ⟨ds.length, rfl, Nat.zero_le _, g1, [], [], Sb, k1.trans (Kp.new hp), upd_same, .nil, hr, rfl⟩, ?_⟩
  rintro i m H2 ⟨rfl, hle, g3, acc, v2, S2, k2, hv2, d2, h2, n2⟩
  obtain ⟨hgo', hstop⟩ := hJ0 _ H2 S2.goes0 S2.alB
  by_cases hlt : i < ds.length
  case neg =>
    have ei : i = ds.length := by omega
    subst ei
    rw [List.drop_length] at h2
    cases h2
    exact Or.inl ⟨hstop, q _ H2 k2 S2.bg (n2.trans n1) ⟨p, _, rfl, hp0, hv2, .lst (DatL.goes (goes_less up) d2)⟩⟩
  obtain ⟨d, e1, e2⟩ := drop_get hlt
  obtain ⟨hgo, hy⟩ := hgo' i d e1
  refine Or.inr ⟨hgo, fun H' => ∃ g2' acc v2, Sto ⟨K, cl, b, l⟩ (With B0 p) Hb (wipeD δ vs) g2' (L2.wipe σ vs) H' ∧ Kp ⟨K, cl, b, l⟩ H H' ∧ H' p = some (.lst v2) ∧ DatL ⟨K, cl, b, l⟩ (Bd (With B0 p) (wipeD δ vs) (L2.wipe σ vs)) H' v2 acc ∧ lc2Go mg mt mi1 vs1 mg1 mt1 me (wipeD δ vs) (ds.drop (i + 1)) acc g2' = some (es, g') ∧ g2'.ns = g1.ns,
    fun H' ⟨g4, acc4, v4, z⟩ => ⟨ds.length - (i + 1), by omega, rfl, hlt, g4, acc4, v4, z⟩, fun x H3 y => ?_⟩
  obtain ⟨ww, dx⟩ := hy x H3 y
  obtain ⟨S2', kw⟩ := ww.sto S2
  replace hv2 := kw p _ pb hv2
  replace d2 := DatL.goes (kw.goes S2.bd) d2
  replace k2 := k2.trans kw
  replace S2 := S2'
  rw [e2] at h2
  unfold lc2Go at h2
  cases em : mg d (wipeD δ vs) with
  | none => rw [em] at h2; cases h2
  | some δ2 =>
  rw [em] at h2
  dsimp only at h2
  refine hg b l _ Hb _ g3 _ H3 x d δ2 S2 dx em _ fun σ2 S3 sub ag ow => ?_
  have back : L2.wipe σ2 vs = L2.wipe σ vs := wipe_back (ag.1.trans (wipe_len σ vs)) (fun k hk => (ag.2 k hk).1) hjs
  have bd2 : ∀ a, Bd (With B0 p) (wipeD δ vs) (L2.wipe σ vs) a → Bd (With B0 p) δ2 σ2 a := fun a z => by
    rcases z with z | ⟨j, es, a1, a2⟩
    · exact Or.inl z
    · have nj : j ∉ js := fun z => (wipeD_at a1).1 (hjs j z)
      exact Or.inr ⟨j, es, by rw [(ag.2 j nj).2]; exact a1, by rw [(ag.2 j nj).1]; exact a2⟩
  refine ⟨back, ?_⟩
  cases et : mt δ2 g3 with
  | none => rw [et] at h2; cases h2
  | some pr =>
  obtain ⟨rr, g4⟩ := pr
  rw [et] at h2
  cases rr with
  | er z => cases h2
  | ok c =>
  refine ht b l _ Hb δ2 g3 σ2 H3 _ g4 S3 et _ fun H4 k4 b4 n4 => ?_
  cases c with
  | false => exact ⟨g4, acc, v2, S2.kp k4 b4 n4, k2.trans k4, k4 p _ pb hv2, DatL.goes (k4.goes S2.bd) d2, h2, n4.trans n2⟩
  | true =>
  dsimp only at h2
  have S4 := S3.kp k4 b4 n4
  show wi1 σ2 H4 _
  cases ei1 : mi1 δ2 g4 with
  | none => rw [ei1] at h2; cases h2
  | some pr =>
  obtain ⟨rr, g5⟩ := pr
  rw [ei1] at h2
  cases rr with
  | er z => cases h2
  | ok ds1 =>
  dsimp only at h2
  refine hi1 b l _ Hb δ2 g4 σ2 H4 _ g5 S4 ei1 _ fun J1 H5 k5 b5 n5 hJ1 => ?_
  have S5 := S4.kp k5 b5 n5
  have S5w := (S2.kp k4 b4 n4).kp k5 b5 n5
  split at h2
  case isFalse => cases h2
  rename_i hno1
  cases hr1 : lcGo mg1 mt1 me (wipeD δ2 vs1) ds1 acc g5 with
  | none => rw [hr1] at h2; cases h2
  | some pr =>
  obtain ⟨acc', g6⟩ := pr
  rw [hr1] at h2
  dsimp only at h2
  obtain ⟨Sx, bx⟩ := S5.wipe hno1
  have k45 := k4.trans k5
  -- what the inner walk keeps
  have sub0 : ∀ a o, a ≠ b → Hb a = some o → without (ground δ2 σ2 H5) p a = some o := fun a o n e => without_of (S5.h0g n e) fun z => by
    subst z
    rw [gp] at e
    cases e
  have Hin : Sto ⟨K, cl, b, l⟩ (With B0 p) (without (ground δ2 σ2 H5) p) (wipeD δ2 vs1) g5 (L2.wipe σ2 vs1) H5 := by
    have R := S5.rebase
    have R' : Sto ⟨K, cl, b, l⟩ (With B0 p) (ground δ2 σ2 H5) (wipeD δ2 vs1) g5 (L2.wipe σ2 vs1) H5 := (R.wipe hno1).1
    refine R'.weak0 (fun a o n e => without_some e) ?_ ?_
    · have := R.hb
      cases z : ground δ2 σ2 H5 b with
      | none => rw [z] at this; cases this
      | some o => rw [without_of z (fun z => pb z.symm)]; rfl
    · rw [without_of R.scr (fun z => pl z.symm)]
      rfl
  refine lc_walk (K := K) (cl := cl) (b := b) (l := l) (B0 := With B0 p) (H0 := without (ground δ2 σ2 H5) p) (Hs := H) hg1 ht1 he hjs1 (hJ1.goes fun a o n e => ⟨without_of (ground_of (B0 := With B0 p) e n) fun z => n (by rw [z]; exact Or.inl (Or.inr rfl)), fun z => n (Or.inl z)⟩) (Or.inr rfl) pb (by unfold without; rw [if_pos rfl]) (fun i es h z => ?_) hp0 Hin (k2.trans k45) (k45 p _ pb hv2) ?_ hr1 fun H' vF S' k' hv dv nn => ?_
  · obtain ⟨n1', n2'⟩ := wipeD_at h
    rw [wipe_at, if_neg n1'] at z
    obtain ⟨y1, y2⟩ := ow i es n2'
    exact ho i es y1 (y2 ▸ z)
  · exact DatL.goes (goes_less fun a z => sub a ((bx a).mp z)) (DatL.goes (k45.goes S2.bd) d2)
  · have Sy : Sto ⟨K, cl, b, l⟩ (With B0 p) Hb (wipeD δ2 vs1) g6 (L2.wipe σ2 vs1) H' := S'.weak0 sub0 S2.hb (by rw [S2.scr]; rfl)
    obtain ⟨Sz, bz⟩ := Sy.less (δ := wipeD δ vs) (σ := L2.wipe σ vs) S2.len (fun k y hk => by
      obtain ⟨nv, _⟩ := wipeD_at hk
      have nj : k ∉ js := fun z => nv (hjs k z)
      have n1' : k ∉ vs1 := fun z => nv (hv1 k z)
      rw [wipeD_ne n1', wipe_at, if_neg n1', (ag.2 k nj).1, (ag.2 k nj).2]
      exact ⟨hk, rfl⟩) (fun k es hk => (ow k es (wipeD_at hk).2).1)
    exact ⟨g6, acc', vF, Sz, k', hv, DatL.goes (goes_less fun a z => (bz a).mp z) dv, h2, nn.trans (n5.trans (n4.trans n2))⟩
theorem ae_lc2 {vs vs1 js js1 : List Nat} {wi wi1 : TI} {mi mi1 : DI} {tg tg1 : TG} {mg mg1 : DG} {tt1 : TT} {mt1 : DB} (hi : AI K cl W wi mi) (hg : AG K cl js tg mg) (ht : AB K cl WF tt mt) (hi1 : AI K cl WF wi1 mi1) (hg1 : AG K cl js1 tg1 mg1) (ht1 : AB K cl WF tt1 mt1) (he : AE K cl WF te me)
    (hjs : ∀ k ∈ js, k ∈ vs) (hjs1 : ∀ k ∈ js1, k ∈ vs1) (hv1 : ∀ k ∈ vs1, k ∈ vs) : AE K cl W (tLc2 wi tg tt wi1 tg1 tt1 te vs vs1) (eLc2 vs vs1 mi mg mt mi1 mg1 mt1 me) := by
  intro b l B0 H0 δ g σ H r g' S hm Q q
  exact ae_lc2_at S (fun r g' e R p => hi b l B0 H0 δ g σ H r g' S e R p) hg ht hi1 hg1 ht1 he hjs hjs1 hv1 hm Q q
end
end Vi

set_option Elab.async false
set_option linter.all false
set_option maxRecDepth 100000
set_option maxHeartbeats 4000000
namespace Vi
open PySem PySem.Spec PyProof.Rows L2

/-! defs: as the layer's promises, with what repr wants of the stack -/
structure GRoom (k : Nat) (A : Around) : Prop where
  r : Room k A
  gd : A.guards = some []
theorem GRoom.mono {j k : Nat} {A : Around} (r : GRoom k A) (h : j ≤ k) : GRoom j A := ⟨r.r.mono h, r.gd⟩
theorem GRoom.deeper {k : Nat} {A : Around} (r : GRoom (k + 1) A) (env : Env) : GRoom k (A.deeper env) := ⟨r.r.deeper env, r.gd⟩
structure FnG (P : Program) (w : World) (K : PySem.W.Frag) (mg : Str → Option Value) (base : Heap) (k : Nat) (f : Addr) (fd : FuncData) (ps : List Str) (sp : Sp) : Prop where
  len : ∀ vs H Q E, sp vs H Q E → vs.length = ps.length
  run : ∀ (A : Around) (outer : List Env) (s : Shared) (H : Hp) (args : Args) (us : List Value) (vs : List V) (Q : VK) (E : XK), GRoom k A → Env0 P w K mg base A outer s H → BindsTo s fd args (ps.zip us) →
    Vals vs us → sp vs H Q E → codeAny (model P w) A (.call (.ref f) args) (CR (L2.CX P w) outer P w H s Q E) s
section
variable {P : Program} {w : World} {K : PySem.W.Frag} {mg : Str → Option Value} {base : Heap}
theorem FnG.mono {j k : Nat} {f : Addr} {fd : FuncData} {ps : List Str} {sp : Sp} (F : FnG P w K mg base j f fd ps sp) (h : j ≤ k) : FnG P w K mg base k f fd ps sp :=
  ⟨F.len, fun A outer s H args us vs Q E hr => F.run A outer s H args us vs Q E (hr.mono h)⟩
theorem fnG_of {x qual : Str} {st : Stmt} {f : Addr} {fd : FuncData} {N ps : List Str} {k : Nat} {sp : Sp} (F : Fun K x qual st f fd) (S : FnScope N ps (defScope st)) (len : ∀ vs H Q E, sp vs H Q E → vs.length = ps.length)
    (hbody : ∀ (cdv : Value) (A : Around) (outer : List Env) (s : Shared) (H : Hp) (vs : List V) (Q : VK) (E : XK), GRoom k (A.deeper (envOfC qual (defScope st) s.heap.objs.size f cdv)) → sp vs H Q E →
      ∃ t, PSs (cxOf (L2.CX P w) P w K mg base N qual (defScope st) f cdv A outer s H E) (defBody st) t ∧ t { nx := fun _ H' => Q .non H', rt := Q } (L2.start N vs) H) : FnG P w K mg base (k + 1) f fd ps sp := by
  obtain ⟨oc, od, kV, doc, pm, an, cdv, ct, osl, rfl, lk, hcd⟩ := F.ex
  refine ⟨len, fun A outer s H args us vs Q E hr e0 hb r hsp => ?_⟩
  have hl := len _ _ _ _ hsp
  have kin : K.In s.heap := e0.mod.kin.keeps fun b o e => (e0.bs b o e).1
  have lim : s.heap.NoLimit := e0.mod.nolimit.keeps fun b o e => (e0.bs b o e).1
  have kinds : ∀ y ∈ ps.zip us, (defScope st).names.lookup y.1 = some .local ∨ ((defScope st).names.lookup y.1 = some .cell ∧ ((cellsFrom (s.heap.objs.size + 1) (defScope st).names []).lookup y.1).isSome = true) := by
    rintro ⟨n, v⟩ hy
    rcases S.par n (List.of_mem_zip hy).1 with q | q
    · exact Or.inl q
    · exact Or.inr ⟨q, PySem.W.cellsFrom_some _ _ _ (Or.inl q)⟩
  refine codeAny_call_function hr.r.depth (kin _ _ lk) rfl S.co S.gen rfl (PySem.W.codeRec_of kin hcd) (hb _ _ _ _ ?_)
  refine wpAny_newFunctionEnv_cells S.kind kinds fun env he s1 xc => ?_
  subst he
  refine ⟨lim.keeps xc.toInCall.keep, codeAny_func ?_⟩
  obtain ⟨t, ht, hq⟩ := hbody cdv A outer s H vs Q E (hr.deeper _) hsp
  have I := inv_start (CX := L2.CX P w) (N := N) (qual := qual) (f := f) (cd := cdv) (E := E) S hr.r.hd e0 hl r xc
  refine wpAny_mono (ht.run [] s1 (L2.start N vs) H _ I hq) (fun fl s' hs => ?_) fun e s' hs => hs
  cases fl with
  | ret u =>
    obtain ⟨v, σ', H', J, rv, q⟩ := hs
    exact ⟨v, H', J.os, J.bare, J.base, J.hok, rv, q⟩
  | next =>
    obtain ⟨σ', H', J, q⟩ := hs
    exact ⟨.non, H', J.os, J.bare, J.base, J.hok, rfl, q⟩
  | brk =>
    obtain ⟨_, _, _, q⟩ := hs
    exact q.elim
  | cont =>
    obtain ⟨_, _, _, q⟩ := hs
    exact q.elim
end
section
variable {X : Cx} {k : Nat} {f : Addr} {fd : FuncData} {ps : List Str} {sp : Sp} {x : Str} {p pos : Pos} {e : Expr} {es : List Expr} {t : TA} {W : WX}
def tCallG (sp : Sp) (W : WX) (t : TA) : TE := fun σ H Q => t σ H fun vs H1 => sp vs H1 Q (fun cls d H' => W cls d σ H')
theorem run_G {pins : List (Addr × Obj)} {σ : L2.St} {H : Hp} {s : Shared} {Q : VK} {us : List Value} {vs : List V} (F : FnG X.prog X.w X.K X.mg X.base k f fd ps sp) (hr : GRoom k X.A) (hb : Binds X.K fd ps []) (tk : Takes X W)
    (I : Inv X pins σ H s) (r : Vals vs us) (h : sp vs H Q (fun cls d H' => W cls d σ H')) : wpAny (model X.prog X.w) X.A (call (.ref f) us) (EP X pins σ Q) X.xe s := by
  have hl : us.length = ps.length := by rw [← r.length]; exact F.len _ _ _ _ h
  have bb := hb s us I.kIn (by rw [List.append_nil]; exact hl)
  rw [List.append_nil] at bb
  refine wpAny_call (codeAny_mono (F.run X.A X.stack s H ⟨us, []⟩ us vs Q _ hr I.env0 bb r h) fun r s' hq => ?_)
  cases r with
  | error e => exact passAt tk σ pins H s e s' I hq
  | ok fl =>
    cases fl with
    | ret u => exact I.after hq
    | next => exact hq.elim
    | brk => exact hq.elim
    | cont => exact hq.elim
theorem pe_callG (F : FnG X.prog X.w X.K X.mg X.base k f fd ps sp) (hr : GRoom k X.A) (hg : Gl X x) (hm : X.mg x = some (.ref f)) (hk : PySem.W.keepIn X.K (.ref f) = true) (hb : Binds X.K fd ps []) (tk : Takes X W)
    (ha : PA X (e :: es) t) (hdb : (x == ("__debug__" : Str)) = false := by decide) (he : starEach (e :: es) X.env = (false, eval e X.env) :: starEach es X.env := by rfl) (hpl : (backTo pos (starEach es X.env)).any (·.1) = false := by rfl) :
    PE X (.Call (.Name x p) (e :: es) [] pos) (tCallG sp W t) :=
  ⟨fun pins s σ H Q I h => wpAny_Call_Name_kw (ld_glob I hg hm (PySem.W.callWith_K (h₀ := X.base) I.ok.mod.kin hk (thn (ha.run pos pins s σ H _ I h) fun us s1 ⟨vs, H1, I1, r, q⟩ => ⟨I1.kIn, run_G F hr hb tk I1 r q⟩) he hpl) hdb)⟩
theorem pe_callG0 (F : FnG X.prog X.w X.K X.mg X.base k f fd ps sp) (hr : GRoom k X.A) (hg : Gl X x) (hm : X.mg x = some (.ref f)) (hk : PySem.W.keepIn X.K (.ref f) = true) (hb : Binds X.K fd ps []) (tk : Takes X W)
    (hdb : (x == ("__debug__" : Str)) = false := by decide) : PE X (.Call (.Name x p) [] [] pos) (tCallG sp W tNil) :=
  ⟨fun pins s σ H Q I h => wpAny_Call_Name_kw (ld_glob I hg hm (PySem.W.callWith_K0 I.kIn hk (run_G (us := []) F hr hb tk I .nil h)) hdb)⟩
/-- raise C() of an own class without __init__ -/
theorem pmk_0 {C : Addr} {bmB : List Value} {B newId initId : String} (F : ExcBaseFacts B newId initId bmB) (q : PySem.W.excIn X.K C bmB newId = true) (gC : X.mg x = some (.ref C)) (kC : PySem.W.keepIn X.K (.ref C) = true) (r : Raises X (.ref C)) (hg : Gl X x)
    (hdb : (x == ("__debug__" : Str)) = false := by decide) : PMk X (.Call (.Name x p) [] [] pos) (fun _ H Q => Q (.ref C) none H) := by
  intro pins s σ H Q I h
  refine wpAny_Call_Name_kw (ld_glob I hg gC ?_ hdb)
  refine PySem.W.callWith_K0 I.kIn kC ?_
  show wpAny _ _ (call (.ref C) []) _ _ _
  obtain ⟨bm, N, nm, qn, bs, hdct, sn, sub, ab, col, dd, k0, k1, k2, k3, k5, mN, hC, hN, hni, T⟩ := exc_obj I.kIn q
  refine wpAny_call_exc_subT F T hC hN hni (fun h' e hm => ?_) (by show 0 ≤ sizeLine; exact Nat.zero_le _)
  exact mk_of I hm r h (I.hok.gone hm.new)
end

/-! repr of data -/
section
variable {X : Cx} {pins : List (Addr × Obj)} {σ : L2.St} {H : Hp} {s : Shared}
def reprOk (p : PyData) : Bool := p.showable && !p.hasDict && decide (p.depth ≤ 60) && lineOk p.shown.length
def rRepr (K : PySem.W.Frag) : List V → Hp → VK → Prop := fun xs H Q => ∃ x d, xs = [x] ∧ Dp K H x d ∧ reprOk d = true ∧ Q (.str d.shown) H
theorem call_reprD (hg : X.A.guards = some []) (hu : X.A.units + 64 < cLine) : CallR X (.builtin "repr") (rRepr X.K) := by
  intro pins s σ H xs us Q I r h
  obtain ⟨x, d, rfl, hd, hok, q⟩ := h
  obtain ⟨u, rfl, rx⟩ := vals1 r
  obtain ⟨as, rd⟩ := Dp.reads I d x u hd rx
  simp only [reprOk, Bool.and_eq_true, Bool.not_eq_true', decide_eq_true_eq] at hok
  obtain ⟨⟨⟨h1, h2⟩, h3⟩, h4⟩ := hok
  have hz := line_of h4
  have fin : ∀ (h' : Heap) (tk : Nat) (t : Tok), (∀ b o, s.heap.get? b = some o → h'.get? b = some o) → EP X pins σ Q (.str d.shown t) { s with heap := h', toks := tk } := fun h' tk t k =>
    ⟨.str d.shown, H, I.kept k, ⟨t, rfl⟩, q⟩
  have road : ∀ a, u = .ref a → wpAny (model X.prog X.w) X.A (call (.builtin "repr") [u]) (EP X pins σ Q) X.xe s := fun a e => by
    subst e
    exact repr_of_reads' (h₀ := s.heap) rd h1 (PyData.noDict_hsm h2) hg (by omega) (fun _ _ e => e) (fun h' t tk k => fin h' tk t k) hz
  cases rd with
  | list _ _ _ _ => exact road _ rfl
  | tuple _ _ _ _ => exact road _ rfl
  | dict _ _ _ _ _ => exact road _ rfl
  | none => exact P.repr_of_none (fin s.heap _ _ fun _ _ e => e)
  | bool c => exact P.repr_of_bool (fin s.heap _ _ fun _ _ e => e)
  | int i t => exact P.repr_of_int (by simpa [PyData.showable] using h1) (fin s.heap _ _ fun _ _ e => e)
  | str z t => exact P.repr_of_str (fin s.heap _ _ fun _ _ e => e) hz
end
def reprE (e : EV) : Option EV := match e.look with
  | none => none
  | some d => match toPy d with
    | none => none
    | some p => if reprOk p = true then some (.val (.str p.shown)) else none
theorem r1_repr {K : PySem.W.Frag} {cl : Str → Option Addr} {W : WX} : R1ok K cl W (rRepr K) reprE := by
  intro b l B0 H0 δ g σ H H1 x e v S al k hv hf Q q
  unfold reprE at hf
  cases hk : x.look with
  | none => rw [hk] at hf; cases hf
  | some d =>
    rw [hk] at hf
    dsimp only at hf
    cases hp : toPy d with
    | none => rw [hp] at hf; cases hf
    | some p =>
      rw [hp] at hf
      dsimp only at hf
      split at hf
      · rename_i hok
        cases hf
        exact ⟨v, p, rfl, dp_of (evok_look hv hk) hp, hok, q _ H1 .refl S.bg (.str _)⟩
      · cases hf

/-! what a def gives -/
inductive AV where
  | val (d : D)
  | bag
  | slf (a : Addr)
def AV.sv : AV → SV
  | .val d => .val d
  | .bag => .bag
  | .slf a => .exc a
def AVok (G : Gd) (Bad : Addr → Prop) (H : Hp) (v : V) : AV → Prop
  | .val d => Dat G Bad H v d
  | .bag => v = .ref G.b
  | .slf a => v = .ref a
inductive AVs (G : Gd) (Bad : Addr → Prop) (H : Hp) : List V → List AV → Prop
  | nil : AVs G Bad H [] []
  | cons {v : V} {vs : List V} {a : AV} {as : List AV} : AVok G Bad H v a → AVs G Bad H vs as → AVs G Bad H (v :: vs) (a :: as)
theorem AVs.len {G : Gd} {Bad : Addr → Prop} {H : Hp} {vs : List V} {as : List AV} (h : AVs G Bad H vs as) : vs.length = as.length := by
  induction h with
  | nil => rfl
  | cons _ _ ih => exact congrArg Nat.succ ih
abbrev MF := List AV → M EV
/-- a def's promise: what its meaning says -/
def spM (K : PySem.W.Frag) (cl : Str → Option Addr) (n : Nat) (m : MF) : Sp := fun vs H Q E =>
  ∃ (b l : Addr) (B0 : Addr → Prop) (g g' : Bag) (as : List AV) (r : Rs EV), as.length = n ∧ AVs ⟨K, cl, b, l⟩ B0 H vs as ∧ B0 b ∧ (∀ a, B0 a → (H a).isSome = true) ∧ BagAt ⟨K, cl, b, l⟩ H g ∧ l ≠ b ∧ H l = some (.lst (g.ns.map V.int)) ∧
    m as g = some (r, g') ∧ (match r with
      | .ok e => ∀ v H', Kp ⟨K, cl, b, l⟩ H H' → BagAt ⟨K, cl, b, l⟩ H' g' → g'.ns = g.ns → EVok ⟨K, cl, b, l⟩ B0 H H' v e → Q v H'
      | .er x => ∀ c d H', Kp ⟨K, cl, b, l⟩ H H' → BagAt ⟨K, cl, b, l⟩ H' g' → g'.ns = g.ns → ExAt ⟨K, cl, b, l⟩ B0 H' c d x → E c d H')
theorem spM_len {K : PySem.W.Frag} {cl : Str → Option Addr} {n : Nat} {m : MF} : ∀ vs H Q E, spM K cl n m vs H Q E → vs.length = n := fun vs H Q E h => by
  obtain ⟨b, l, B0, g, g', as, r, h1, h2, _⟩ := h
  rw [h2.len, h1]
/-- the meaning of a body, from the arguments -/
def startD (n : Nat) (as : List AV) : DS := as.map (fun a => some a.sv) ++ List.replicate (n - as.length) none
def mBody (n : Nat) (m : DT) : MF := fun as g => match m (startD n as) g with
  | some (.rt e, g') => some (.ok e, g')
  | some (.nx _, g') => some (.ok (.val .non), g')
  | some (.er _ x, g') => some (.er x, g')
  | _ => none
theorem av_sto {G : Gd} {B0 : Addr → Prop} {H : Hp} {g : Bag} {vs : List V} {as : List AV} {n : Nat} (h : AVs G B0 H vs as) (hb : B0 G.b) (al : ∀ a, B0 a → (H a).isSome = true) (bg : BagAt G H g) (lb : G.l ≠ G.b) (sc : H G.l = some (.lst (g.ns.map V.int))) :
    Sto G B0 H (as.map (fun a => some a.sv) ++ List.replicate n none) g (vs.map some ++ List.replicate n none) H := by
  have noown : ∀ (i : Nat) (ds : D), (as.map (fun a => some a.sv) ++ List.replicate n none)[i]? ≠ some (some (SV.own ds)) := fun i ds z => by
    by_cases hi : i < as.length
    · rw [List.getElem?_append_left (by simpa using hi), List.getElem?_map] at z
      cases e : as[i]? with
      | none => rw [e] at z; cases z
      | some a =>
        rw [e] at z
        cases a <;> cases z
    · rw [List.getElem?_append_right (by simpa using hi), List.getElem?_replicate] at z
      split at z <;> cases z
  have bde : ∀ a, Bd B0 (as.map (fun a => some a.sv) ++ List.replicate n none) (vs.map some ++ List.replicate n none) a → B0 a := fun a z => by
    rcases z with z | ⟨i, ds, z, _⟩
    · exact z
    · exact (noown i ds z).elim
  have at_i : ∀ (i : Nat) (sv : SV), (as.map (fun a => some a.sv) ++ List.replicate n none)[i]? = some (some sv) → ∃ a v, sv = a.sv ∧ (vs.map some ++ List.replicate n none)[i]? = some (some v) ∧ AVok G B0 H v a := fun i sv z => by
    by_cases hi : i < as.length
    · rw [List.getElem?_append_left (by simpa using hi), List.getElem?_map] at z
      cases e : as[i]? with
      | none => rw [e] at z; cases z
      | some a =>
        rw [e] at z
        cases z
        have : ∀ {vs : List V} {as : List AV} (i : Nat), AVs G B0 H vs as → as[i]? = some a → ∃ v, vs[i]? = some v ∧ AVok G B0 H v a := by
          intro vs as i h
          induction h generalizing i with
          | nil => intro e; simp at e
          | cons x _ ih =>
            intro e
            cases i with
            | zero =>
              simp at e
              subst e
              exact ⟨_, rfl, x⟩
            | succ i => exact ih i (by simpa using e)
        obtain ⟨v, h1, h2⟩ := this i h e
        refine ⟨a, v, rfl, ?_, h2⟩
        rw [List.getElem?_append_left (by rw [List.length_map, h.len]; exact hi), List.getElem?_map, h1]
        rfl
    · rw [List.getElem?_append_right (by simpa using hi), List.getElem?_replicate] at z
      split at z <;> cases z
  refine ⟨by simp [h.len], .refl, bg, lb, sc, hb, al _ hb, al, fun i d z => ?_, fun i ds z => (noown i ds z).elim, fun i j ds es p z _ _ _ => (noown i ds z).elim, fun i z => ?_, fun i x z => ?_, fun i ds p z => (noown i ds z).elim⟩
  · obtain ⟨a, v, e, h1, h2⟩ := at_i i _ z
    cases a with
    | val d' =>
      cases e
      exact ⟨v, h1, Dat.goes (goes_less bde) h2⟩
    | bag => cases e
    | slf x => cases e
  · obtain ⟨a, v, e, h1, h2⟩ := at_i i _ z
    cases a with
    | val d' => cases e
    | bag =>
      have h2' : v = V.ref G.b := h2
      rw [h1, h2']
    | slf x => cases e
  · obtain ⟨a, v, e, h1, h2⟩ := at_i i _ z
    cases a with
    | val d' => cases e
    | bag => cases e
    | slf y =>
      cases e
      have h2' : v = V.ref x := h2
      rw [h1, h2']
section
variable {P : Program} {w : World} {K : PySem.W.Frag} {cl : Str → Option Addr} {mg : Str → Option Value} {base : Heap}
/-- THE RULE for a def: its body's meaning is what it promises -/
theorem fnM {x qual : Str} {st : Stmt} {f : Addr} {fd : FuncData} {N ps : List Str} {k n : Nat} {m : DT} (F : Fun K x qual st f fd) (S : FnScope N ps (defScope st)) (hn : ps.length = n)
    (hbody : ∀ (cdv : Value) (A : Around) (outer : List Env) (s : Shared) (H : Hp) (E : XK), GRoom k (A.deeper (envOfC qual (defScope st) s.heap.objs.size f cdv)) →
      ∃ t, PSs (cxOf (L2.CX P w) P w K mg base N qual (defScope st) f cdv A outer s H E) (defBody st) t ∧ AS K cl (fun c d _ H' => E c d H') t m) : FnG P w K mg base (k + 1) f fd ps (spM K cl n (mBody N.length m)) := by
  refine fnG_of F S (fun vs H Q E h => by rw [spM_len vs H Q E h, hn]) fun cdv A outer s H vs Q E hr h => ?_
  obtain ⟨b, l, B0, g, g', as, r, h1, h2, h3, h4, h5, h6, h7, h8, h9⟩ := h
  obtain ⟨t, ht, ha⟩ := hbody cdv A outer s H E hr
  refine ⟨t, ht, ?_⟩
  have S0 : Sto ⟨K, cl, b, l⟩ B0 H (startD N.length as) g (L2.start N vs) H := by
    have := av_sto (n := N.length - as.length) h2 h3 h4 h5 h6 h7
    unfold startD L2.start
    rw [h2.len]
    exact this
  have nsq : ∀ {g2 : Bag}, H l = some (.lst (g2.ns.map V.int)) → g2.ns = g.ns := fun {g2} e => by
    rw [h7] at e
    have e' := HO.lst.inj (Option.some.inj e)
    have inj : ∀ (xs ys : List Int), xs.map V.int = ys.map V.int → xs = ys := by
      intro xs
      induction xs with
      | nil =>
        intro ys h
        cases ys with
        | nil => rfl
        | cons y ys => cases h
      | cons x xs ih =>
        intro ys h
        cases ys with
        | nil => cases h
        | cons y ys =>
          rw [List.map_cons, List.map_cons] at h
          injection h with h1 h2
          injection h1 with h1
          rw [h1, ih ys h2]
    exact inj _ _ e'.symm
  unfold mBody at h8
  have noown : ∀ {a : Addr}, Bd B0 (startD N.length as) (L2.start N vs) a → (H a).isSome = true := S0.alB _
  cases e : m (startD N.length as) g with
  | none => rw [e] at h8; cases h8
  | some pr =>
    obtain ⟨o, g1⟩ := pr
    rw [e] at h8
    refine ha b l B0 H _ g (L2.start N vs) H o g1 S0 e _ ?_
    cases o with
    | rt ev =>
      cases h8
      exact fun v H' k bg sc hv => h9 v H' k bg (nsq sc) hv
    | nx δ' =>
      cases h8
      exact fun σ' H' S' => h9 .non H' S'.ent S'.bg (nsq S'.scr) .non
    | bk δ' => cases h8
    | ct δ' => cases h8
    | er δ' x =>
      cases h8
      intro c d σ' H' S' hx
      refine h9 c d H' S'.ent S'.bg (nsq S'.scr) ?_
      obtain ⟨C, c1, c2, c3⟩ := hx
      refine ⟨C, c1, c2, ?_⟩
      cases d with
      | none => exact c3
      | some a =>
        obtain ⟨ne, fs, d1, d2, d3⟩ := c3
        exact ⟨ne, fs, d1, fun z => d2 (Or.inl z), DatF.goes (goes_less fun a z => Or.inl z) d3⟩
end

/-! calls -/
def argOf : EV → Option AV
  | .val d => some (.val d)
  | .nw d => some (.val d)
  | .bag => some .bag
  | _ => none
def argsOf : List EV → Option (List AV)
  | [] => some []
  | e :: es => match argOf e with
    | none => none
    | some a => match argsOf es with
      | none => none
      | some as => some (a :: as)
def eCall (n : Nat) (f : MF) (m : DA) : DE := fun δ => mbind (m δ) fun es => match argsOf es with
  | some as => if as.length = n then f as else mno
  | none => mno
theorem args_ok {G : Gd} {Bad : Addr → Prop} {H H' : Hp} (hB : ∀ a, Bad a → (H a).isSome = true) : ∀ {vs : List V} {es : List EV} {as : List AV}, EVs G Bad H H' vs es → argsOf es = some as → AVs G Bad H' vs as
  | _, _, _, .nil, h => by
    cases h
    exact .nil
  | _, _, _, .cons (e := e) (es := es) a r, h => by
    unfold argsOf at h
    cases he : argOf e with
    | none => rw [he] at h; cases h
    | some x =>
      rw [he] at h
      cases hs : argsOf es with
      | none => rw [hs] at h; cases h
      | some as =>
        rw [hs] at h
        cases h
        refine .cons ?_ (args_ok hB r hs)
        cases e with
        | val d => cases he; exact a
        | nw ds => cases he; exact evok_keep hB a rfl
        | bw ds => cases he
        | bag => cases he; exact a
        | exc y => cases he
theorem ae_call {K : PySem.W.Frag} {cl : Str → Option Addr} {W : WX} {ta : TA} {ma : DA} {n : Nat} {f : MF} (h : AA K cl W ta ma) : AE K cl W (tCallG (spM K cl n f) W ta) (eCall n f ma) := by
  intro b l B0 H0 δ g σ H r g' S hm Q q
  rcases mb_cases hm with ⟨x, e, rfl⟩ | ⟨es, g1, e, hm⟩
  · exact h b l B0 H0 δ g σ H _ _ S e _ q
  · refine h b l B0 H0 δ g σ H _ _ S e _ fun vs H1 k1 b1 n1 hv => ?_
    have S1 := S.kp k1 b1 n1
    cases ha : argsOf es with
    | none => rw [ha] at hm; cases hm
    | some as =>
      rw [ha] at hm
      dsimp only at hm
      split at hm
      · rename_i hn
        have hl : H1 l = some (.lst (g1.ns.map V.int)) := S1.ent l _ S1.lb S1.scr
        refine ⟨b, l, Bd B0 δ σ, g1, g', as, r, hn, args_ok S.alB hv ha, S1.bd, S1.alB, b1, S1.lb, hl, hm, ?_⟩
        cases r with
        | ok ev => exact fun v H2 k2 b2 n2 h2 => q v H2 (k1.trans k2) b2 (n2.trans n1) (evok_from b1.some k1 h2)
        | er x => exact fun c d H2 k2 b2 n2 h2 => q c d H2 (k1.trans k2) b2 (n2.trans n1) h2
      · cases hm
/-- a call that only looks at lists of the def's own, and gives a plain value -/
def lookOf : EV → Option AV
  | .val d => some (.val d)
  | .nw d => some (.val d)
  | .bw d => some (.val d)
  | .bag => some .bag
  | .exc _ => none
def looksOf : List EV → Option (List AV)
  | [] => some []
  | e :: es => match lookOf e with
    | none => none
    | some a => match looksOf es with
      | none => none
      | some as => some (a :: as)
def plainE : EV → Bool
  | .val .non => true
  | .val (.bl _) => true
  | .val (.int _) => true
  | .val (.str _) => true
  | _ => false
def mPlain (m : M EV) : M EV := fun g => match m g with
  | some (.ok e, g') => if plainE e = true then some (.ok e, g') else none
  | _ => none
def eCallB (n : Nat) (f : MF) (m : DA) : DE := fun δ => mbind (m δ) fun es => match looksOf es with
  | some as => if as.length = n then mPlain (f as) else mno
  | none => mno
theorem looks_ok {G : Gd} {Bad : Addr → Prop} {H H' : Hp} (hb : Bad G.b) (bg : (H G.b).isSome = true) : ∀ {vs : List V} {es : List EV} {as : List AV}, EVs G Bad H H' vs es → looksOf es = some as → AVs G (fun a => a = G.b) H' vs as
  | _, _, _, .nil, h => by
    cases h
    exact .nil
  | _, _, _, .cons (e := e) (es := es) a r, h => by
    unfold looksOf at h
    cases he : lookOf e with
    | none => rw [he] at h; cases h
    | some x =>
      rw [he] at h
      cases hs : looksOf es with
      | none => rw [hs] at h; cases h
      | some as =>
        rw [hs] at h
        cases h
        refine .cons ?_ (looks_ok hb bg r hs)
        have less : ∀ a, a = G.b → Bad a := fun a z => by rw [z]; exact hb
        cases e with
        | val d => cases he; exact Dat.goes (goes_less less) a
        | nw ds =>
          cases he
          obtain ⟨p, vs, rfl, h1, h2, h3⟩ := a
          exact OwnD.dat (fun z => by rw [z] at h1; rw [h1] at bg; cases bg) h2 (OwnD.goes (goes_less fun a z => Or.inl (less a z)) h3)
        | bw ds =>
          cases he
          obtain ⟨p, vs, rfl, h1, h2, h3, h4⟩ := a
          exact OwnD.dat h2 h3 (OwnD.goes (goes_less less) h4)
        | bag => cases he; exact a
        | exc y => cases he
theorem plain_any {G : Gd} {Bad Bad' : Addr → Prop} {H H' H2 H3 : Hp} {v : V} {e : EV} (h : EVok G Bad H H' v e) (p : plainE e = true) : EVok G Bad' H2 H3 v e := by
  cases e with
  | val d =>
    have h' : Dat G Bad H' v d := h
    cases h' with
    | non => exact Dat.non
    | bl c => exact Dat.bl c
    | int i => exact Dat.int i
    | str s => exact Dat.str s
    | lstH _ _ _ => cases p
    | tupH _ _ _ => cases p
    | tupK _ _ => cases p
    | dct _ _ _ => cases p
    | obj _ _ _ _ => cases p
  | nw ds => cases p
  | bw ds => cases p
  | bag => cases p
  | exc x => cases p
theorem ae_callB {K : PySem.W.Frag} {cl : Str → Option Addr} {W : WX} {ta : TA} {ma : DA} {n : Nat} {f : MF} (h : AA K cl W ta ma) : AE K cl W (tCallG (spM K cl n f) W ta) (eCallB n f ma) := by
  intro b l B0 H0 δ g σ H r g' S hm Q q
  rcases mb_cases hm with ⟨x, e, rfl⟩ | ⟨es, g1, e, hm⟩
  · exact h b l B0 H0 δ g σ H _ _ S e _ q
  · refine h b l B0 H0 δ g σ H _ _ S e _ fun vs H1 k1 b1 n1 hv => ?_
    have S1 := S.kp k1 b1 n1
    cases ha : looksOf es with
    | none => rw [ha] at hm; cases hm
    | some as =>
      rw [ha] at hm
      dsimp only at hm
      split at hm
      · rename_i hn
        have hl : H1 l = some (.lst (g1.ns.map V.int)) := S1.ent l _ S1.lb S1.scr
        unfold mPlain at hm
        cases ef : f as g1 with
        | none => rw [ef] at hm; cases hm
        | some pr =>
          obtain ⟨r1, g2⟩ := pr
          rw [ef] at hm
          cases r1 with
          | er x => cases hm
          | ok ev =>
            dsimp only at hm
            split at hm
            · rename_i hp
              cases hm
              refine ⟨b, l, fun a => a = b, g1, g', as, .ok ev, hn, looks_ok S.bd S.bg.some hv ha, rfl, fun a z => by subst z; exact b1.some, b1, S1.lb, hl, ef, ?_⟩
              exact fun v H2 k2 b2 n2 h2 => q v H2 (k1.trans k2) b2 (n2.trans n1) (plain_any h2 hp)
            · cases hm
      · cases hm
end Vi

set_option Elab.async false
set_option linter.all false
set_option maxRecDepth 100000
set_option maxHeartbeats 4000000
namespace Vi
open PySem PySem.Spec PyProof.Rows L2
section
variable {K : PySem.W.Frag} {cl : Str → Option Addr} {W : WX} {te ta tb : TE} {tt tu : TT} {me ma mb : DE}
def negE : EV → Option EV
  | .val (.int i) => some (.val (.int (-i)))
  | _ => none
theorem ae_neg (h : AE K cl W te me) : AE K cl W (tUn (rU fun i => .int (-i)) te) (eB1 negE me) := by
  intro b l B0 H0 δ g σ H r g' S hm Q q
  rcases mb_cases hm with ⟨x, e, rfl⟩ | ⟨x, g1, e, hm⟩
  · exact h b l B0 H0 δ g σ H _ _ S e _ q
  · refine h b l B0 H0 δ g σ H _ _ S e _ fun v H1 k1 b1 n1 hv => ?_
    obtain ⟨a, ha, rfl, rfl⟩ := mof_cases hm
    unfold negE at ha
    split at ha
    · rename_i i
      cases ha
      exact ⟨i, datint hv, q _ H1 k1 b1 n1 (.int _)⟩
    · cases ha
/-! * of ints, of a list -/
def rMulU : R2 := fun x y H Q => rI CMul (fun i j => .int (i * j)) x y H Q ∨ rRep x y H Q
def repD (n : Nat) (ds : List D) : List D := (List.replicate n ds).flatten
def mulD : D → D → Option EV
  | .int i, .int j => if (decide (-(2 ^ 63) < i) && decide (i < 2 ^ 63)) = true then some (.val (.int (i * j))) else none
  | .lst ds, .int k => if (smallI k && lineOk (ds.length * k.toNat)) = true then some (.nw (.lst (repD k.toNat ds))) else none
  | _, _ => none
def mMul := mL2 mulD
theorem rep_dat {G : Gd} {Bad : Addr → Prop} {H : Hp} {vs : List V} {ds : List D} (h : DatL G Bad H vs ds) : ∀ n, DatL G Bad H (List.replicate n vs).flatten (repD n ds)
  | 0 => .nil
  | n + 1 => by
    unfold repD
    rw [List.replicate_succ, List.replicate_succ, List.flatten_cons, List.flatten_cons]
    exact h.append (rep_dat h n)
theorem mulD_int {i j : Int} {e : EV} (h : mulD (.int i) (.int j) = some e) : (-(2 ^ 63) < i ∧ i < 2 ^ 63) ∧ e = .val (.int (i * j)) := by
  have h' : (if (decide (-(2 ^ 63) < i) && decide (i < 2 ^ 63)) = true then some (EV.val (D.int (i * j))) else none) = some e := h
  split at h'
  · rename_i hc
    cases h'
    exact ⟨by simpa using hc, rfl⟩
  · cases h'
theorem mulD_rep {ds : List D} {k : Int} {e : EV} (h : mulD (.lst ds) (.int k) = some e) : (-100000 ≤ k ∧ k ≤ 100000) ∧ ds.length * k.toNat ≤ sizeLine ∧ e = .nw (.lst (repD k.toNat ds)) := by
  have h' : (if (smallI k && lineOk (ds.length * k.toNat)) = true then some (EV.nw (.lst (repD k.toNat ds))) else none) = some e := h
  split at h'
  · rename_i hc
    cases h'
    rw [Bool.and_eq_true] at hc
    exact ⟨by simpa [smallI] using hc.1, line_of hc.2, rfl⟩
  · cases h'
theorem r2_mul : R2ok K cl W rMulU mMul := by
  intro b l B0 H0 δ g σ H H1 x y v w r g' S al k hv hw hm Q q
  obtain ⟨dx, dy, e, ex, ey, hf, rfl, rfl⟩ := mL2_cases hm
  cases dx with
  | int i =>
    cases dy with
    | int j =>
      obtain ⟨hc, rfl⟩ := mulD_int hf
      exact Or.inl ⟨i, j, look_int hv ex, look_int hw ey, Or.inl ⟨by omega, by omega⟩, q _ H1 .refl S.bg rfl (.int _)⟩
    | non => cases hf
    | bl c => cases hf
    | str s => cases hf
    | lst ds => cases hf
    | tup ds => cases hf
    | dct k => cases hf
    | obj c f => cases hf
  | lst ds =>
    cases dy with
    | int j =>
      obtain ⟨hc, hl, rfl⟩ := mulD_rep hf
      obtain ⟨a, vs, rfl, e1, r1⟩ := (evok_items hv).1 ex
      refine Or.inr ⟨a, j, vs, rfl, look_int hw ey, e1, by omega, by omega, by rw [r1.len]; exact hl, fun p hp => ?_⟩
      exact q _ _ (Kp.new hp) (bag_upd S.bg hp) rfl ⟨p, _, rfl, hp, upd_same, .lst (DatL.goes (goes_new hp) (rep_dat r1 _))⟩
    | non => cases hf
    | bl c => cases hf
    | str s => cases hf
    | lst ds => cases hf
    | tup ds => cases hf
    | dct k => cases hf
    | obj c f => cases hf
  | non => cases hf
  | bl c => cases hf
  | str s => cases hf
  | tup ds => cases hf
  | dct k => cases hf
  | obj c f => cases hf
/-! 10 ** n -/
theorem r2_pow {C : Int → Int → Prop} (hC : ∀ j, 0 ≤ j → j ≤ 100 → C 10 j) : R2ok K cl W (rI C fun i j => .int (i ^ j.toNat)) mPow :=
  r2_I (fun _ _ _ _ _ => .int _) fun i j h => by
    simp only [Bool.and_eq_true, decide_eq_true_eq] at h
    obtain ⟨⟨rfl, h1⟩, h2⟩ := h
    exact hC j h1 h2
/-! a tuple from behind -/
def tRevT (K : PySem.W.Frag) (te : TE) : TE := fun σ H Q => te σ H fun x H1 => ∃ a xs, x = .ref a ∧ SqT K H1 a xs ∧ 2 ≤ xs.length ∧ ∀ p, H1 p = none → Q (.ref p) (upd H1 p (.tup xs.reverse))
def revE (e : EV) : Option EV := match e.look with
  | some (.tup ds) => if 2 ≤ ds.length then some (.val (.tup ds.reverse)) else none
  | _ => none
theorem datl_rev {G : Gd} {Bad : Addr → Prop} {H : Hp} : ∀ {vs : List V} {ds : List D}, DatL G Bad H vs ds → DatL G Bad H vs.reverse ds.reverse
  | _, _, .nil => .nil
  | _, _, .cons a r => by
    rw [List.reverse_cons, List.reverse_cons]
    exact (datl_rev r).append (.cons a .nil)
theorem ae_revT (h : AE K cl W te me) : AE K cl W (tRevT K te) (eB1 revE me) := by
  intro b l B0 H0 δ g σ H r g' S hm Q q
  rcases mb_cases hm with ⟨x, e, rfl⟩ | ⟨x, g1, e, hm⟩
  · exact h b l B0 H0 δ g σ H _ _ S e _ q
  · refine h b l B0 H0 δ g σ H _ _ S e _ fun v H1 k1 b1 n1 hv => ?_
    obtain ⟨a, ha, rfl, rfl⟩ := mof_cases hm
    unfold revE at ha
    cases hk : x.look with
    | none => rw [hk] at ha; cases ha
    | some d =>
      rw [hk] at ha
      cases d with
      | tup ds =>
        dsimp only at ha
        split at ha
        · rename_i hl
          cases ha
          obtain ⟨c, vs, rfl, e1, r1⟩ := (evok_items hv).2 hk
          refine ⟨c, vs, rfl, e1, by rw [r1.len]; exact hl, fun p hp => q _ _ (k1.trans (Kp.new hp)) (bag_upd b1 hp) n1 ?_⟩
          exact .tupH (fun z => by have := S.alB p z; rw [fresh_kp b1.some k1 hp] at this; cases this) upd_same (DatL.goes (goes_new' hp) (datl_rev r1))
        · cases ha
      | non => cases ha
      | bl c => cases ha
      | int i => cases ha
      | str s => cases ha
      | lst ds => cases ha
      | dct k => cases ha
      | obj c f => cases ha
/-! dicts -/
def eD0 : DE := fun _ => mret (.nw (.dct []))
theorem ae_d0 : AE K cl W tDNewK eD0 := by
  intro b l B0 H0 δ g σ H r g' S hm Q q
  cases hm
  intro p hp
  exact q _ _ (Kp.new hp) (bag_upd S.bg hp) rfl ⟨p, _, rfl, hp, upd_same, .dct .nil⟩
def keyE : EV → Option Key
  | .val (.int i) => some (.inl i)
  | .val (.str s) => some (.inr s)
  | _ => none
/-- {k: v} -/
def eD1 (mk mv : DE) : DE := fun δ => mbind (mk δ) fun k => mbind (mv δ) fun v => match keyE k, v.keep with
  | some k, some d => mret (.nw (.dct [(k, d)]))
  | _, _ => mno
theorem eD1_end {k v : EV} {g g' : Bag} {r : Rs EV} (h : (match keyE k, v.keep with
  | some k, some d => mret (EV.nw (.dct [(k, d)]))
  | _, _ => mno : M EV) g = some (r, g')) : ∃ k' d, keyE k = some k' ∧ v.keep = some d ∧ r = .ok (.nw (.dct [(k', d)])) ∧ g' = g := by
  cases hk : keyE k with
  | none => rw [hk] at h; cases h
  | some k' =>
    rw [hk] at h
    cases hv : v.keep with
    | none => rw [hv] at h; cases h
    | some d =>
      rw [hv] at h
      cases h
      exact ⟨k', d, rfl, rfl, rfl, rfl⟩
theorem keyE_v {G : Gd} {Bad : Addr → Prop} {H H' : Hp} {v : V} {e : EV} {k : Key} (h : EVok G Bad H H' v e) (hk : keyE e = some k) : v = kV k := by
  unfold keyE at hk
  split at hk
  · cases hk
    exact datint h
  · cases hk
    exact datstr h
  · cases hk
theorem ex_less {G : Gd} {Bad Bad' : Addr → Prop} {H : Hp} {c : Value} {d : Option Addr} {x : Xn} (h : ExAt G Bad H c d x) (s : ∀ a, Bad' a → Bad a) : ExAt G Bad' H c d x := by
  obtain ⟨C, c1, c2, c3⟩ := h
  refine ⟨C, c1, c2, ?_⟩
  cases d with
  | none => exact c3
  | some a =>
    obtain ⟨ne, fs, d1, d2, d3⟩ := c3
    exact ⟨ne, fs, d1, fun z => d2 (s a z), DatF.goes (goes_less s) d3⟩
theorem ae_d1 (h1 : AE K cl W ta ma) (h2 : AE K cl W tb mb) : AE K cl W (tDisp [(ta, tb)]) (eD1 ma mb) := by
  intro b l B0 H0 δ g σ H r g' S hm Q q p hp
  have S0 := S.box (o := .dK []) hp
  have k0 : Kp ⟨K, cl, b, l⟩ H (upd H p (.dK [])) := Kp.new hp
  have pb : p ≠ b := fun z => by
    subst z
    have := S.bg.some
    rw [hp] at this
    cases this
  have less : ∀ a, Bd B0 δ σ a → Bd (With B0 p) δ σ a := fun a z => z.elim (fun z => Or.inl (Or.inl z)) Or.inr
  rcases mb_cases hm with ⟨x, e, rfl⟩ | ⟨kx, g1, e, hm⟩
  · exact h1 b l _ _ δ g σ _ _ _ S0 e _ fun c d H' k bb n hx => q c d H' (k0.trans k) bb n (ex_less hx less)
  refine h1 b l _ _ δ g σ _ _ _ S0 e _ fun kv H1 k1 b1 n1 hk => ?_
  have S1 := S0.kp k1 b1 n1
  rcases mb_cases hm with ⟨x, e', rfl⟩ | ⟨vx, g2, e', hm⟩
  · exact h2 b l _ _ δ g1 σ H1 _ _ S1 e' _ fun c d H' k bb n hx => q c d H' (k0.trans (k1.trans k)) bb (n.trans n1) (ex_less hx less)
  refine h2 b l _ _ δ g1 σ H1 _ _ S1 e' _ fun vv H2 k2 b2 n2 hv => ?_
  obtain ⟨k', d, hk', hd, rfl, rfl⟩ := eD1_end hm
  have hp2 : H2 p = some (.dK []) := k2 p _ pb (k1 p _ pb upd_same)
  have hkv := keyE_v hk hk'
  subst hkv
  refine ⟨hp2, [(k', vv)], rfl, by show 1 ≤ 15; decide, ?_⟩
  have hdd := evok_keep S1.alB hv hd
  have npB : ¬ Bd B0 δ σ p := fun z => by have := S.alB p z; rw [hp] at this; cases this
  refine q _ _ (fun a o n e => ?_) ?_ (n2.trans n1) ?_
  · rw [upd_ne (ne_of_none e hp)]
    exact k2 a o n (k1 a o n (k0 a o n e))
  · show upd H2 p _ b = _
    rw [upd_ne (fun z => pb z.symm)]
    exact b2
  · have hdd' : Dat ⟨K, cl, b, l⟩ (With (Bd B0 δ σ) p) (upd H2 p (.dK (mergeK [] [(k', vv)]))) vv d := Dat.goes (fun a o n e => ⟨by rw [upd_ne (fun z => n (by rw [z]; exact Or.inl (Or.inr rfl)))]; exact e, fun z => n (z.elim (less a) fun z => Or.inl (Or.inr z))⟩) hdd
    exact ⟨p, _, rfl, hp, upd_same, .dct (.cons hdd' .nil)⟩
/-! isinstance -/
def tyName : D → Option String
  | .non => some "NoneType"
  | .bl _ => some "bool"
  | .int _ => some "int"
  | .str _ => some "str"
  | .lst _ => some "list"
  | .tup _ => some "tuple"
  | .dct _ => some "dict"
  | .obj _ _ => none
theorem tyx_of {G : Gd} {Bad : Addr → Prop} {H : Hp} {v : V} {d : D} {n : String} (h : Dat G Bad H v d) (k : tyName d = some n) : TyX G.K H v (.type n) := by
  cases h with
  | non => cases k; exact .base .non
  | bl c => cases k; exact .base (.bl c)
  | int i => cases k; exact .base (.int i)
  | str s => cases k; exact .base (.str s)
  | lstH _ e _ => cases k; exact .base (.lst e)
  | tupH _ e _ => cases k; exact .base (.tup e)
  | tupK e _ =>
    cases k
    rcases e with (e | ⟨o, e⟩) | ⟨o, its, n, e1, e2, _⟩
    · cases e
    · cases e
    · exact .kTuple e1 e2
  | dct _ e _ =>
    cases k
    rcases e with e | ⟨o, e⟩
    · exact .base (.dK e)
    · exact .fDict e
  | obj _ _ _ _ => cases k
def isiD (T : String) (d : D) : Option Bool := (tyName d).bind fun n => kitB n T
def isiE (T : String) (e : EV) : Option EV := match e.look with
  | none => none
  | some d => (isiD T d).map fun c => .val (.bl c)
theorem ae_isi {T : String} (h : AE K cl W te me) : AE K cl W (tCB (rIsi K) (tCons te (tCons (tC (.ty T)) tNil))) (eB1 (isiE T) me) := by
  intro b l B0 H0 δ g σ H r g' S hm Q q
  rcases mb_cases hm with ⟨x, e, rfl⟩ | ⟨x, g1, e, hm⟩
  · exact h b l B0 H0 δ g σ H _ _ S e _ q
  · refine h b l B0 H0 δ g σ H _ _ S e _ fun v H1 k1 b1 n1 hv => ?_
    obtain ⟨a, ha, rfl, rfl⟩ := mof_cases hm
    unfold isiE at ha
    cases hk : x.look with
    | none => rw [hk] at ha; cases ha
    | some d =>
      rw [hk] at ha
      obtain ⟨c, h1, h2⟩ := Option.map_eq_some_iff.mp ha
      subst h2
      obtain ⟨n, h3, h4⟩ := Option.bind_eq_some_iff.mp h1
      exact ⟨v, .ty T, .type n, .type T, c, rfl, .ty T, tyx_of (evok_look hv hk) h3, kit_ty h4, q _ H1 k1 b1 n1 (.bl _)⟩
def isi2E (T T' : String) (e : EV) : Option EV := match e.look with
  | none => none
  | some d => match isiD T d with
    | none => none
    | some c => match isiD T' d with
      | none => none
      | some c' => some (.val (.bl (c || c')))
theorem ae_isi2 {T T' : String} (h : AE K cl W te me) : AE K cl W (tCB (rIsiT K) (tCons te (tCons (tTup (tCons (tC (.ty T)) (tCons (tC (.ty T')) tNil))) tNil))) (eB1 (isi2E T T') me) := by
  intro b l B0 H0 δ g σ H r g' S hm Q q
  rcases mb_cases hm with ⟨x, e, rfl⟩ | ⟨x, g1, e, hm⟩
  · exact h b l B0 H0 δ g σ H _ _ S e _ q
  · refine h b l B0 H0 δ g σ H _ _ S e _ fun v H1 k1 b1 n1 hv => ?_
    obtain ⟨a, ha, rfl, rfl⟩ := mof_cases hm
    unfold isi2E at ha
    cases hk : x.look with
    | none => rw [hk] at ha; cases ha
    | some d =>
      rw [hk] at ha
      dsimp only at ha
      cases h1 : isiD T d with
      | none => rw [h1] at ha; cases ha
      | some c =>
        rw [h1] at ha
        dsimp only at ha
        cases h2 : isiD T' d with
        | none => rw [h2] at ha; cases ha
        | some c' =>
          rw [h2] at ha
          cases ha
          obtain ⟨n, h3, h4⟩ := Option.bind_eq_some_iff.mp h1
          obtain ⟨n', h3', h4'⟩ := Option.bind_eq_some_iff.mp h2
          rw [h3] at h3'
          cases h3'
          refine ⟨by show 2 ≤ sizeLine; decide, fun p hp => ?_⟩
          have up := Kp.new (G := ⟨K, cl, b, l⟩) (o := .tup [.ty T, .ty T']) hp
          have ty := tyx_of (Dat.goes (goes_new' (o := .tup [.ty T, .ty T']) hp) (evok_look hv hk)) h3
          refine ⟨v, p, [.ty T, .ty T'], .type n, [.type T, .type T'], c || c', rfl, upd_same, .cons (.ty T) (.cons (.ty T') .nil), ty, ?_, q _ _ (k1.trans up) (bag_upd b1 hp) n1 (.bl _)⟩
          refine kitAny_cons (kit_ty h4) (fun z => ?_) (fun z => by rw [z]; rfl)
          subst z
          refine kitAny_cons (kit_ty h4') (fun z => by subst z; rfl) (fun z => by rw [z]; rfl)
/-! raise C(), try .. except -/
def tRaise0 (C : Addr) (W : WX) : TS := fun _ σ H => (fun (_ : L2.St) (H : Hp) (Q : XK) => Q (.ref C) none H) σ H fun cls d H' => W cls d σ H'
def sRaise0 (c : Str) : DT := fun δ g => some (.er δ ⟨c, []⟩, g)
theorem as_raise0 {C : Addr} {c : Str} (hc : cl c = some C) : AS K cl W (tRaise0 C W) (sRaise0 c) := by
  intro b l B0 H0 δ g σ H o g' S h Dn q
  cases h
  exact q (.ref C) none σ H S ⟨C, hc, rfl, rfl⟩
abbrev DX := Xn → DT
def AX (K : PySem.W.Frag) (cl : Str → Option Addr) (i : Nat) (ts : Addr → Value → Option Addr → TS) (mx : DX) : Prop := ∀ (b l : Addr) B0 H0 δ g σ H x cls dx a o g', Sto ⟨K, cl, b, l⟩ B0 H0 δ g σ H → ExAt ⟨K, cl, b, l⟩ (Bd B0 δ σ) H cls dx x → H a = none →
  mx x δ g = some (o, g') → ∀ Dn, PostS ⟨K, cl, b, l⟩ B0 H0 WF Dn g' o → ts a cls dx { nx := fun σ' H' => Dn.nx (σ'.set i none) H', rt := Dn.rt, bk := fun σ' H' => Dn.bk (σ'.set i none) H', ct := fun σ' H' => Dn.ct (σ'.set i none) H' } (σ.set i (some (.ref a))) H
def sTry (mb : DT) (hand : Str → Option Bool) (mx : DX) : DT := fun δ g => match mb δ g with
  | some (.er δ' x, g') => match hand x.c with
    | some true => mx x δ' g'
    | some false => some (.er δ' x, g')
    | none => none
  | r => r
theorem as_try {c : Value} {i : Nat} {tb : WX → TS} {ts : Addr → Value → Option Addr → TS} {mb : DT} {hand : Str → Option Bool} {mx : DX} (hb : ∀ W, AS K cl W (tb W) mb) (hx : AX K cl i ts mx) (hh : ∀ n C t, cl n = some C → hand n = some t → PySem.W.exmOne K (.ref C) c = some t)
    (hno : ∀ x δ g o g', mx x δ g = some (o, g') → match o with
      | .er _ _ => False
      | _ => True) : AS K cl W (fun D σ H => tb (wAs K c i ts W D) D σ H) (sTry mb hand mx) := by
  intro b l B0 H0 δ g σ H o g' S hm Dn q
  unfold sTry at hm
  cases e : mb δ g with
  | none => rw [e] at hm; cases hm
  | some pr =>
    obtain ⟨o1, g1⟩ := pr
    rw [e] at hm
    refine hb _ b l B0 H0 δ g σ H o1 g1 S e Dn ?_
    cases o1 with
    | nx δ' => cases hm; exact q
    | rt v => cases hm; exact q
    | bk δ' => cases hm; exact q
    | ct δ' => cases hm; exact q
    | er δ' x =>
      intro cls dx σ' H' S' hx'
      dsimp only at hm
      obtain ⟨C, c1, c2, c3⟩ := id hx'
      cases hd : hand x.c with
      | none => rw [hd] at hm; cases hm
      | some t =>
        rw [hd] at hm
        have h1 := hh x.c C t c1 hd
        subst c2
        refine ⟨t, h1, fun ht a ha => ?_, fun ht => ?_⟩
        · subst ht
          refine hx b l B0 H0 δ' g1 σ' H' x _ dx a o g' S' hx' ha hm Dn ?_
          cases o with
          | nx δ2 => exact q
          | rt v => exact q
          | bk δ2 => exact q
          | ct δ2 => exact q
          | er δ2 y => exact (hno _ _ _ _ _ hm).elim
        · subst ht
          cases hm
          exact q _ dx σ' H' S' hx'
end
end Vi

set_option Elab.async false
set_option linter.all false
set_option maxRecDepth 100000
set_option maxHeartbeats 4000000
namespace Vi
open PySem PySem.Spec PyProof.Rows L2

/-! the law's own end -/
theorem law_G {P : Program} {w : World} {K : PySem.W.Frag} {mg mb : Str → Option Value} {k : Nat} {fa a : Addr} {fd : FuncData} {x : Str} {sp : Sp} {s₁ : Shared} {vs : List Value} {ns : List Int}
    (kx : K.In s₁.heap) (hns : s₁.heap.Ns mainGlobals mg) (hbn : s₁.heap.Ns builtinsNs mb) (hbb : ∀ x : Str, x ≠ "__name__" → mb x = bootBuiltins x) (hlim : s₁.heap.NoLimit) (hgn : s₁.gens = #[])
    (ha : s₁.heap.get? a = some { cls := .type "list", data := .seq vs.toArray }) (hi : IntsAre vs ns) (hl : ns.length ≤ sizeLine) (hr : GRoom k callerA)
    (F : ∀ base : Heap, K.In base → base.Ns mainGlobals mg → FnG P w K mg base k fa fd [x] sp) (hbind : ∀ (s : Shared) (u : Value), BindsTo s fd ⟨[u], []⟩ [(x, u)])
    (hsp : ∀ H : Hp, Only H → SqL K H a (ns.map V.int) → sp [.ref a] H (fun v _ => v = .bl true) fun _ _ _ => False) :
    codeAny (model P w) callerA (.call (.ref fa) ⟨[.ref a], []⟩) (fun r s' => r = .ok (.ret (.bool true)) ∧ OldK s₁.heap s'.heap ∧ s'.os = s₁.os ∧ AllBare s'.gens) s₁ := by
  have rv := vals_ints hi
  have lenV := hi.length
  have main : ∀ H : Hp, Only H → SqL K H a (ns.map V.int) → HOk P w H s₁.heap → (∀ b, H b ≠ none → b = a) → (H a ≠ none → K.lookup a = none) →
      codeAny (model P w) callerA (.call (.ref fa) ⟨[.ref a], []⟩) (fun r s' => r = .ok (.ret (.bool true)) ∧ OldK s₁.heap s'.heap ∧ s'.os = s₁.os ∧ AllBare s'.gens) s₁ := by
    intro H hO hS hok hA hK
    have dictless : ∀ {b : Addr} {o : Obj} {es : Array DictEntry} {ep : Nat}, s₁.heap.get? b = some o → o.data = .dict es ep → H b = none := by
      intro b o es ep e d
      cases q : H b with
      | none => rfl
      | some u =>
        obtain rfl : b = a := hA b (by rw [q]; simp)
        rw [ha] at e
        cases e
        have d' : Data.seq vs.toArray _ = Data.dict es ep := d
        cases d'
    have nsB : ∀ {b : Addr} {m : Str → Option Value}, s₁.heap.Ns b m → (hidT s₁.heap H).Ns b m := by
      rintro b m ⟨o, es, ep, e, d, r⟩
      exact ⟨o, es, ep, hidT_get e (dictless e d), d, r⟩
    have kb : K.In (hidT s₁.heap H) := by
      intro b o e
      refine hidT_get (kx b o e) ?_
      cases q : H b with
      | none => rfl
      | some u =>
        obtain rfl : b = a := hA b (by rw [q]; simp)
        rw [hK (by rw [q]; simp)] at e
        cases e
    have hM : Mod K mg (hidT s₁.heap H) := by
      obtain ⟨mc, l1, l2⟩ := hlim
      exact ⟨kb, nsB hns, ⟨mb, nsB hbn, hbb⟩, ⟨mc, nsB l1, l2⟩⟩
    have e0 : Env0 P w K mg (hidT s₁.heap H) callerA [] s₁ H :=
      ⟨rfl, hM, fun b o e => of_hidT e, Nat.le_of_eq (hidT_size _ _), trivial, fun b hb => absurd (show b ∈ ([] : List Addr) from hb) (by simp), hok, .of_eq hgn⟩
    refine codeAny_mono ((F _ kb (nsB hns)).run callerA [] s₁ H ⟨[.ref a], []⟩ [.ref a] [.ref a] _ _ hr e0 (hbind s₁ (.ref a)) (.cons rfl .nil) (hsp H hO hS)) fun r s' h => ?_
    cases r with
    | error e =>
      obtain ⟨_, _, _, _, _, _, _, _, _, _, _, _, z⟩ := h
      exact z.elim
    | ok fl =>
      cases fl with
      | next => exact h.elim
      | brk => exact h.elim
      | cont => exact h.elim
      | ret u =>
        obtain ⟨v, H', os, bare, un, hok', r', q⟩ := h
        obtain rfl : v = .bl true := q
        obtain rfl : u = Value.bool true := r'
        refine ⟨rfl, OldK.of_keep fun b o e => ?_, os, bare⟩
        cases q : H b with
        | none => exact un.keep b o e q (by intro z; exact absurd (show b ∈ ([] : List Addr) from z) (by simp)) (by simp)
        | some u =>
          rcases hO b with z | ⟨ob, xs, z⟩
          · rw [q] at z
            cases z
          · obtain ⟨e1, _⟩ := hok b _ z
            obtain ⟨e2, _⟩ := hok' b _ (un.frzs b ob _ z)
            rw [e] at e1
            cases e1
            exact e2
  cases hk : K.lookup a with
  | some o =>
    have e := kx a o hk
    rw [ha] at e
    cases e
    exact main (fun _ => none) (fun _ => .inl rfl) (.inr ⟨_, vs.toArray, _, hk, rfl, rfl, rfl, by rw [List.size_toArray, lenV]; exact hl, by simpa using rv⟩) (fun b u z => by cases z) (fun b z => absurd rfl z) fun z => absurd rfl z
  | none =>
    refine main (fun b => if b = a then some (.frz { cls := .type "list", data := .seq vs.toArray } (.lst (ns.map V.int))) else none) (fun b => ?_) (.inl (.inr ⟨{ cls := .type "list", data := .seq vs.toArray }, if_pos rfl⟩)) (fun b u z => ?_) (fun b z => ?_) fun _ => hk
    · by_cases hb : b = a
      · exact .inr ⟨_, _, if_pos hb⟩
      · exact .inl (if_neg hb)
    · by_cases hb : b = a
      · have z' := (if_pos hb).symm.trans z
        cases z'
        subst hb
        exact ⟨ha, by rw [List.length_map]; exact hl, vs, _, rv, ha⟩
      · have z' := (if_neg hb).symm.trans z
        cases z'
    · by_cases hb : b = a
      · exact hb
      · exact absurd (if_neg hb) z
/-- a script handed in, True comes out -/
def spLaw (K : PySem.W.Frag) : Sp := fun vs H Q _ => ∃ (a : Addr) (ns : List Int), vs = [.ref a] ∧ SqL K H a (ns.map V.int) ∧ ns.length ≤ 63 ∧ ∀ H', Q (.bl true) H'
theorem walk_G {l : PySem.W.OpenLaw} {k : Nat} {q : Program} {loose : List Str} {XP : (Str → Option Value) → Heap → Prop} {YP : World → Heap → Prop} {d : DefRec} {K : Params → PySem.W.Frag} {x : Str}
    (hn : l.most = some 63) (hdf : d.params.defaults = []) (hr : GRoom k callerA) (hY : ∀ (w : World) (h : Heap), YP w h → (K w.params).In h)
    (F : ∀ (w : World) (mg : Str → Option Value) (fa : Addr) (h : Heap), (K w.params).In h → h.Ns mainGlobals mg → mg d.name = some (.ref fa) →
      ∃ fd : FuncData, (∀ (s : Shared) (u : Value), BindsTo s fd ⟨[u], []⟩ [(x, u)]) ∧ ∀ base : Heap, (K w.params).In base → base.Ns mainGlobals mg → FnG l.prog w (K w.params) mg base k fa fd [x] (spLaw (K w.params))) :
    PySem.W.WalkO q loose XP YP l.row.toRowW d [] (fun f vs => PySem.call f vs) := by
  refine Att.attach_call hn hdf fun w s₀ s₁ mg mb fa o pm cd doc a vs ns G Y ho hd hcd hmg hobj hints hlen hg => ?_
  have kx := hY w _ Y
  obtain ⟨fd, hb, hF⟩ := F w mg fa _ kx G.T.g hmg
  exact law_G kx G.T.g G.T.b G.T.builtins G.T.nolimit hg hobj hints (Nat.le_trans hlen (by decide)) hr hF hb fun H hO hS => ⟨a, ns, rfl, hS, hlen, fun _ => rfl⟩

/-! a tuple from behind -/
section
variable {prog : Program} {w : World} {A : Around} {E : Value → Shared → Prop} {s : Shared}
theorem applied_rev {sl : Addr} {vl vu vs : Value} {n : Nat} {Q : Int × Int × Nat → Shared → Prop} (hs : s.heap.IsSliceOf sl vl vu vs) (pl : IsPart vl none) (pu : IsPart vu none) (ps : IsPart vs (some (-1))) (h2 : 2 ≤ n)
    (h : Q ((n : Int) - 1, -1, n) s) : wpAny (model prog w) A (Builtin.Slice.sliceApplied (.ref sl) (pure (n : Int))) Q E s := by
  obtain ⟨os, hos, hcs, hds⟩ := id hs
  unfold Builtin.Slice.sliceApplied Builtin.Slice.sliceFields
  refine wpAny_bind (wpAny_bind (wpAny_field hos hds (x := vl) rfl (wpAny_bind (wpAny_field hos hds (x := vu) rfl (wpAny_bind (wpAny_field hos hds (x := vs) rfl (wpAny_pure ?_)))))))
  refine wpAny_bind (HT.slicePart_ ps ?_)
  show wpAny _ _ (if ((-1 : Int) == 0) = true then _ else _) _ _ s
  rw [if_neg (by decide)]
  refine wpAny_bind (HT.slicePart_ pl (wpAny_bind (HT.slicePart_ pu (wpAny_bind (wpAny_pure ?_)))))
  show wpAny _ _ (pure ((n : Int) - 1, (-1 : Int), Builtin.Slice.slicePlaces ((n : Int) - 1) (-1) (-1))) _ _ s
  have e : Builtin.Slice.slicePlaces ((n : Int) - 1) (-1) (-1) = n := by
    unfold Builtin.Slice.slicePlaces
    rw [if_neg (by decide), if_pos (by omega)]
    have : ((n : Int) - 1 - -1 - 1) / (- -1) + 1 = (n : Int) := by
      rw [show (- -1 : Int) = 1 by decide, Int.ediv_one]
      omega
    rw [this]
    omega
  rw [e]
  exact wpAny_pure h
theorem pick_rev (xs : Array Value) : ((List.range xs.size).filterMap fun (m : Nat) => xs[((xs.size : Int) - 1 + (m : Int) * (-1)).toNat]?).toArray = xs.toList.reverse.toArray := by
  have e := PySem.W.krv_pick xs
  unfold slicePick at e
  rw [PySem.W.krv_bounds] at e
  rw [← e]
  show _ = ((sliceRange ((xs.size : Int) - 1) (-1) (-1)).filterMap (xs[·]?)).toArray
  rw [PySem.W.krv_sliceRange, List.filterMap_map]
  congr 1
  have go : ∀ ms : List Nat, (∀ m ∈ ms, m < xs.size) → ms.filterMap (fun (m : Nat) => xs[((xs.size : Int) - 1 + (m : Int) * (-1)).toNat]?) = ms.filterMap ((fun (i : Nat) => xs[i]?) ∘ fun k => xs.size - 1 - k) := by
    intro ms
    induction ms with
    | nil => intro _; rfl
    | cons m ms ih =>
      intro hm
      have e1 : ((xs.size : Int) - 1 + (m : Int) * (-1)).toNat = xs.size - 1 - m := by
        have := hm m List.mem_cons_self
        omega
      rw [List.filterMap_cons, List.filterMap_cons, ih fun k hk => hm k (List.mem_cons_of_mem _ hk), e1]
      rfl
  exact go _ fun m hm => List.mem_range.mp hm
theorem getItem_rev {t sl : Addr} {items : Array Value} {vl vu vs : Value} {Q : Value → Shared → Prop} (ht : IsTup s.heap t items) (hs : s.heap.IsSliceOf sl vl vu vs) (pl : IsPart vl none) (pu : IsPart vu none) (ps : IsPart vs (some (-1))) (h2 : 2 ≤ items.size)
    (h : Q (.ref s.heap.objs.size) { s with heap := s.heap.push { cls := .type "tuple", data := .seq items.toList.reverse.toArray } }) (hsz : items.size ≤ sizeLine) : wpAny (model prog w) A (getItem (.ref t) (.ref sl)) Q E s := by
  have hok : sizeOk (.seq items.toList.reverse.toArray) := by
    show items.toList.reverse.toArray.size ≤ sizeLine
    rw [List.size_toArray, List.length_reverse, Array.length_toList]
    exact hsz
  obtain ⟨os, hos, hcs, hds⟩ := id hs
  have hTs : s.TypeIs (.ref sl) "slice" := ⟨os, hos, hcs⟩
  unfold getItem
  try with_reducible refine wpAny_holding ?_
  first | refine wpAny_bind (wpAny_pure ?_) | skip
  refine wpAny_bind (wpAny_sequenceKey ht.typeIs (by decide) ?_)
  refine wpAny_bind (wpAny_callSpecial?_slot (name := Str.ofString "__getitem__") ht.typeIs PyProof.Rows.slot_tuple_getitem (wpAny_call_entry PyProof.Rows.slot_tuple_getitem ht.typeIs entry_tuple_getitem ?_ (args_tuple_getitem _ _)))
  show wpAny _ _ (Builtin.Tuple.tupleItemsOf (.ref t) >>= _) _ _ s
  refine wpAny_bind (PyProof.Rows.tupleItemsOf_ ht ?_)
  refine wpAny_bind (wpAny_typeOf hTs ?_)
  rw [if_pos (by decide)]
  refine wpAny_bind (applied_rev hs pl pu ps h2 ?_)
  have hno : ¬ (((items.size : Int) - 1 == 0 && (-1 : Int) == 1 && items.size == items.size) = true) := by
    intro q
    rw [Bool.and_eq_true, Bool.and_eq_true] at q
    exact absurd q.1.2 (by decide)
  show wpAny _ _ (if ((items.size : Int) - 1 == 0 && (-1 : Int) == 1 && items.size == items.size) = true then _ else _) _ _ s
  rw [if_neg hno, pick_rev]
  first
    | exact wpAny_bind (m := Builtin.Tuple.tupleExact _) (wpAny_newObj_type (wpAny_pure ⟨_, rfl, wpAny_pure h⟩) hok)
    | exact wpAny_bind (m := Builtin.Tuple.tupleExact _) (wpAny_newObj_type (wpAny_bind (wpAny_pure (wpAny_pure ⟨_, rfl, wpAny_pure h⟩))) hok)
    | exact wpAny_bind (wpAny_bind (m := Builtin.Tuple.tupleExact _) (wpAny_newObj_type (wpAny_pure (wpAny_pure ⟨_, rfl, wpAny_pure h⟩)) hok))
    | exact wpAny_bind (wpAny_bind (m := Builtin.Tuple.tupleExact _) (wpAny_newObj_type (wpAny_pure ⟨_, rfl, wpAny_pure h⟩) hok))
end
theorem pe_revT {X : Cx} {e : Expr} {te : TE} {k : Nat} {p1 p2 p3 pos : Pos} (he : PE X e te) : PE X (.Subscript e (.Slice none none (some (.UnaryOp .USub (.Constant (.int 1) k p1) p2)) p3) pos) (tRevT X.K te) := by
  refine ⟨fun pins s σ H Q I h => Subscript_ (thn (he.run pins s σ H _ I h) fun v s1 hv => ?_)⟩
  obtain ⟨x, H1, I1, r1, a, xs, rfl, hx, h2, q⟩ := hv
  cases r1
  have hst : PO X (some (.UnaryOp .USub (.Constant (.int 1) k p1) p2)) (tPart (tUn (rU fun i => .int (-i)) (tC (.int 1)))) := po_some (pe_un un_neg pe_int)
  refine wpAny_Slice (thn (po_none.run pins s1 σ H1 (fun o H2 => o = none ∧ H2 = H1) I1 ⟨rfl, rfl⟩) fun vl s2 hl => ?_)
  obtain ⟨l, H2, I2, pl, rfl, rfl⟩ := hl
  refine thn (po_none.run pins s2 σ H2 (fun o H3 => o = none ∧ H3 = H2) I2 ⟨rfl, rfl⟩) fun vu s3 hu => ?_
  obtain ⟨u, H3, I3, pu, rfl, rfl⟩ := hu
  refine thn (hst.run pins s3 σ H3 (fun o H4 => o = some (-1) ∧ H4 = H3) I3 ⟨1, rfl, -1, rfl, rfl, rfl⟩) fun vs s4 hs => ?_
  obtain ⟨o, H4, I4, ps, rfl, rfl⟩ := hs
  have I5 : Inv X pins σ H4 { s4 with heap := s4.heap.push { cls := .type "slice", data := .fields #[vl, vu, vs] } } := I4.kept (t' := s4.toks) fun b ob q => Heap.get?_push_of_some _ q
  obtain ⟨its, r, ht, hz⟩ := I5.tuple hx
  have hlen := r.length
  show wpAny (model X.prog X.w) X.A (subscriptTail e (.Slice none none (some (.UnaryOp .USub (.Constant (.int 1) k p1) p2)) p3) (.ref a) (.ref s4.heap.objs.size)) (EP X pins σ Q) X.xe { s4 with heap := s4.heap.push { cls := .type "slice", data := .fields #[vl, vu, vs] } }
  refine tail_any (ops := [.ref a, .ref s4.heap.objs.size]) ht.typeIs (PyProof.Rows.slot_tuple_getitem.lookup) ?_ (by with_unfolding_all rfl)
  refine getItem_rev ht (Heap.IsSliceOf.new _ vl vu vs) pl pu ps (by rw [List.size_toArray]; omega) ?_ (by rw [List.size_toArray]; omega)
  refine ⟨.ref _, _, I5.laid (t' := s4.toks) (o := .tup xs.reverse) (fun b ob q => Heap.get?_push_of_some _ q) (Nat.le_refl _) ?_, rfl, q _ (I5.hok.fresh (Nat.le_refl _))⟩
  exact ⟨by rw [List.length_reverse]; exact hz, _, r.reverse, IsTup.new _ _⟩
end Vi

set_option Elab.async false
set_option linter.all false
set_option maxRecDepth 100000
set_option maxHeartbeats 4000000
namespace Vi
open PySem PySem.Spec PyProof.Rows L2
section
variable {X : Cx}
theorem pe_gC {x : Str} {v : V} {pos : Pos} (hg : Gl X x) (h : ∃ u, X.mg x = some u ∧ RelV v u) (hd : (x == ("__debug__" : Str)) = false := by decide) : PE X (.Name x pos) (tC v) := by
  obtain ⟨u, h1, h2⟩ := h
  exact pe_glob hg h1 h2 hd
theorem pi_seqK {tg l : Expr} {tl : TE} {K : PySem.W.Frag} (hl : PE X l tl) (hK : X.K = K := by rfl) : PI X tg l (wSeq K tl) := by
  subst hK
  exact pi_seq hl
theorem pe_revTK {e : Expr} {te : TE} {k : Nat} {p1 p2 p3 pos : Pos} {K : PySem.W.Frag} (he : PE X e te) (hK : X.K = K := by rfl) : PE X (.Subscript e (.Slice none none (some (.UnaryOp .USub (.Constant (.int 1) k p1) p2)) p3) pos) (tRevT K te) := by
  subst hK
  exact pe_revT he
theorem pg_tupK {es : List Expr} {k : Nat} {t : TGs} {n : Nat} {pos : Pos} {K : PySem.W.Frag} (hc : X.calm = true) (h : PGs X es t) (hn : (assignEach es X.env).length = n := by rfl) (hst : (assignEach es X.env).findIdx? (·.1) = none := by rfl) (hK : X.K = K := by rfl) : PG X (.Tuple es k pos) (gTup K n t) := by
  subst hK
  exact pg_tup hc h hn hst
theorem op_addU : OpR X (binaryOp .Add) (rAddU X.K) := fun pins s σ H x y v u Q I rx ry h => h.elim (fun h => op_add pins s σ H x y v u Q I rx ry h) fun h => h.elim (fun h => op_cat pins s σ H x y v u Q I rx ry h) fun h => op_add_str pins s σ H x y v u Q I rx ry h
theorem pe_disp1 {k v : Expr} {tk tv : TE} {pos : Pos} (hk : PE X k tk) (hv : PE X v tv) : PE X (.Dict [some k] [v] pos) (tDisp [(tk, tv)]) := pe_disp (pps_cons hk hv pps_nil) rfl rfl (by simp) (by show 1 ≤ 15; decide)
theorem op_mulU : OpR X (binaryOp .Mult) rMulU := opr_or op_mul op_rep
theorem r2_powU {K : PySem.W.Frag} {cl : Str → Option Addr} {W : WX} : R2ok K cl W (rI CPow fun i j => .int (i ^ j.toNat)) mPow := r2_pow fun j h1 h2 => ⟨h1, by omega, by decide⟩
theorem call_lenU : CallR X (.builtin "len") (rLenU X.K) := fun pins s σ H xs us Q I r h => h.elim (fun h => call_len_seq pins s σ H xs us Q I r h) fun h => call_len_str pins s σ H xs us Q I r h
theorem bt_int : bootBuiltins "int" = some (.type "int") := by decide +kernel
theorem bt_bool : bootBuiltins "bool" = some (.type "bool") := by decide +kernel
theorem bt_str : bootBuiltins "str" = some (.type "str") := by decide +kernel
theorem bt_list : bootBuiltins "list" = some (.type "list") := by decide +kernel
theorem bt_tuple : bootBuiltins "tuple" = some (.type "tuple") := by decide +kernel
theorem bt_dict : bootBuiltins "dict" = some (.type "dict") := by decide +kernel
end
theorem ae_cK {K : PySem.W.Frag} {cl : Str → Option Addr} {W : WX} {v : V} {d : D} (h : ∀ b l Bad H, Dat ⟨K, cl, b, l⟩ Bad H v d) : AE K cl W (tC v) (eC d) := by
  intro b l B0 H0 δ g σ H r g' S h' Q q
  cases h'
  exact q v H .refl S.bg rfl (h _ _ _ _)
/-- a def of the text, its name, how it is bound -/
structure Df (K : PySem.W.Frag) (mg : Str → Option Value) (x : Str) (st : Stmt) (ps : List Str) (f : Addr) (fd : FuncData) : Prop where
  F : Fun K x x st f fd
  b : Binds K fd ps []
  mg : mg x = some (.ref f)
  kp : PySem.W.keepIn K (.ref f) = true
/-- an own error without __init__ -/
structure Xc (K : PySem.W.Frag) (mg : Str → Option Value) (cl : Str → Option Addr) (x : Str) (c : Addr) : Prop where
  mg : mg x = some (.ref c)
  ex : PySem.W.excIn K c [.type "ValueError", .type "Exception", .type "BaseException", .type "object"] "ValueError.__new__" = true
  kp : PySem.W.keepIn K (.ref c) = true
  sub : PySem.W.subIn K (.ref c) (.type "BaseException") = some true
  ty : PySem.W.typeIn K (.ref c) = some (.type "type")
  cl : cl x = some c
end Vi

set_option Elab.async false
set_option linter.all false
set_option maxRecDepth 100000
set_option maxHeartbeats 4000000
namespace Vi
open PySem PySem.Spec PyProof.Rows L2

/-! the draws -/
def bagOk (g : Bag) : Bool := decide (0 ≤ g.x0) && decide (0 ≤ g.x1) && decide (g.x1 ≤ 2147483647) && decide (0 ≤ g.x2) && g.ns.all fun c => decide (0 ≤ c)
def manyOk (many : Int) : Bool := decide (1 ≤ many) && decide (many ≤ 1000000)
/-- the cell that is read -/
def cellOf (g : Bag) : Int := if g.x2 < g.ns.length then g.ns.getD g.x2.toNat 0 else 0
/-- the bag behind the first part -/
def bag1 (g : Bag) : Bag := if g.x0 = 0 then
    { x0 := if 10 ^ 18 ≤ cellOf g then cellOf g else g.x0, x1 := (g.x1 * 48271 + cellOf g % 2147483647 + 7919 * (g.x2 + 1)) % 2147483647, x2 := g.x2 + 1, ns := g.ns }
  else g
def tailOf (x1 many : Int) : Int :=
  ((x1 + 1) * 39373 % 1000000007 * ((x1 + 1) * 39373 % 1000000007) % 998244353 * 30011 % 998244353) / 7 % many
def takeV (many : Int) (g : Bag) : Int × Bag := if 0 < (bag1 g).x0 then ((bag1 g).x0 % many, { bag1 g with x0 := (bag1 g).x0 / many }) else (tailOf (bag1 g).x1 many, bag1 g)
def takeM (many : Int) : M EV := fun g => if (bagOk g && manyOk many) = true then some (.ok (.val (.int (takeV many g).1)), (takeV many g).2) else none
def mTake : MF := fun as => match as with
  | [.bag, .val (.int many)] => takeM many
  | _ => mno
theorem bagOk_iff {g : Bag} : bagOk g = true ↔ 0 ≤ g.x0 ∧ 0 ≤ g.x1 ∧ g.x1 ≤ 2147483647 ∧ 0 ≤ g.x2 ∧ ∀ c ∈ g.ns, 0 ≤ c := by
  unfold bagOk
  simp only [Bool.and_eq_true, decide_eq_true_eq, List.all_eq_true]
  constructor
  · rintro ⟨⟨⟨⟨h1, h2⟩, h3⟩, h4⟩, h5⟩
    exact ⟨h1, h2, h3, h4, h5⟩
  · rintro ⟨h1, h2, h3, h4, h5⟩
    exact ⟨⟨⟨⟨h1, h2⟩, h3⟩, h4⟩, h5⟩
theorem cell_nn {g : Bag} (h : bagOk g = true) : 0 ≤ cellOf g := by
  obtain ⟨_, _, _, h4, h5⟩ := bagOk_iff.mp h
  unfold cellOf
  split
  · rename_i hl
    have hi : g.x2.toNat < g.ns.length := by omega
    rw [List.getD_eq_getElem?_getD, List.getElem?_eq_getElem hi]
    exact h5 _ (List.getElem_mem hi)
  · exact Int.le_refl 0
theorem bag1_ok {g : Bag} (h : bagOk g = true) : bagOk (bag1 g) = true ∧ (bag1 g).ns = g.ns := by
  have hc := cell_nn h
  obtain ⟨h1, h2, h3, h4, h5⟩ := bagOk_iff.mp h
  unfold bag1
  split
  · refine ⟨bagOk_iff.mpr ⟨?_, ?_, ?_, ?_, h5⟩, rfl⟩
    · show 0 ≤ (if 10 ^ 18 ≤ cellOf g then cellOf g else g.x0)
      split <;> omega
    · exact Int.emod_nonneg _ (by decide)
    · have := Int.emod_lt_of_pos (g.x1 * 48271 + cellOf g % 2147483647 + 7919 * (g.x2 + 1)) (show (0 : Int) < 2147483647 by decide)
      show (g.x1 * 48271 + cellOf g % 2147483647 + 7919 * (g.x2 + 1)) % 2147483647 ≤ 2147483647
      omega
    · show 0 ≤ g.x2 + 1
      omega
  · exact ⟨h, rfl⟩
theorem take_spec {g : Bag} {many : Int} (h : bagOk g = true) (hm : 1 ≤ many) (hm2 : many ≤ 1000000) : ∃ r g', takeM many g = some (.ok (.val (.int r)), g') ∧ 0 ≤ r ∧ r < many ∧ bagOk g' = true ∧ g'.ns = g.ns := by
  have hb := bag1_ok h
  obtain ⟨h1, h2, h3, h4, h5⟩ := bagOk_iff.mp hb.1
  refine ⟨(takeV many g).1, (takeV many g).2, ?_, ?_, ?_, ?_, ?_⟩
  · unfold takeM manyOk
    rw [h, decide_eq_true hm, decide_eq_true hm2]
    rfl
  · unfold takeV
    split
    · exact Int.emod_nonneg _ (by omega)
    · exact Int.emod_nonneg _ (by omega)
  · unfold takeV
    split
    · exact Int.emod_lt_of_pos _ (by omega)
    · exact Int.emod_lt_of_pos _ (by omega)
  · unfold takeV
    split
    · exact bagOk_iff.mpr ⟨Int.ediv_nonneg h1 (by omega), h2, h3, h4, h5⟩
    · exact hb.1
  · unfold takeV
    split
    · exact hb.2
    · exact hb.2

section
variable {X : Cx}
/-- xs[i] read for a store by an operator -/
def rGetL (K : PySem.W.Frag) : V → V → Hp → VK → Prop := fun x y H Q => ∃ p xs i v, x = .ref p ∧ y = .int i ∧ SqL K H p xs ∧ 0 ≤ i ∧ i < 1000 ∧ xs[i.toNat]? = some v ∧ Q v H
theorem pget_L : PGet X (rGetL X.K) := by
  intro pins s σ H o i ov iv Q I ro ri h
  obtain ⟨p, xs, k, v, rfl, rfl, hq, h0, h1, hx, q⟩ := h
  cases ro
  obtain ⟨t, rfl⟩ := ri
  obtain ⟨its, r, pl, hz⟩ := I.list hq
  obtain ⟨u, hu, ru⟩ := r.get hx
  exact wpAny_getItem_list pl.isList h0 (by omega) (by simpa using hu) ⟨v, H, I, ru, q⟩
end
/-- the script's cells, without signs -/
def absL (ns : List Int) : List Int := (ns.take 63).map fun i => if i < 0 then -i else i
def bag0 (ns : List Int) : Bag := { x0 := 0, x1 := 1234567891, x2 := 0, ns := absL ns }
theorem bag0_ok (ns : List Int) : bagOk (bag0 ns) = true := by
  refine bagOk_iff.mpr ⟨by show (0 : Int) ≤ 0; decide, by show (0 : Int) ≤ 1234567891; decide, by show (1234567891 : Int) ≤ 2147483647; decide, by show (0 : Int) ≤ 0; decide, fun c hc => ?_⟩
  obtain ⟨i, _, rfl⟩ := List.mem_map.mp hc
  split <;> omega
/-- a bag made -/
def spBag (K : PySem.W.Frag) : Sp := fun vs H Q _ => ∃ (a : Addr) (ns : List Int), vs = [.ref a] ∧ SqL K H a (ns.map V.int) ∧ ns.length ≤ 63 ∧ ∀ (b l : Addr) (H' : Hp), H b = none → H l = none → l ≠ b →
  (∀ c o, H c = some o → H' c = some o) → H' b = some (.lst [.int 0, .int 1234567891, .int 0, .ref l]) → H' l = some (.lst ((absL ns).map V.int)) → Q (.ref b) H'

/-! the reading of the draw -/
def rInt1 : List V → Hp → VK → Prop := fun xs H Q => (∃ i, xs = [.int i] ∧ Q (.int i) H) ∨ ∃ k, xs = [.bl k] ∧ Q (.int (if k then 1 else 0)) H
abbrev ixB (K : PySem.W.Frag) (k : Int) : TE := tOp (rIxL K) (tVar 0) (tC (.int k))
abbrev intT (te : TE) : TE := tCB rInt1 (tCons te tNil)
abbrev opAddT (a c : TE) : TE := tOp (rI0 fun i j => .int (i + j)) a c
abbrev opMulT (a c : TE) : TE := tOp (rI CMul fun i j => .int (i * j)) a c
abbrev opModT (a c : TE) : TE := tOp (rI (fun _ j => 0 < j) fun i j => .int (i % j)) a c
abbrev opDivT (a c : TE) : TE := tOp (rI CDiv fun i j => .int (i / j)) a c
abbrev stT (i : Nat) (te : TE) : TS := tAsg te (gName i)
abbrev subT (k : Int) (te : TE) : TS := tAsg te (gSub (tVar 0) (tC (.int k)) rSetL)
abbrev rLen1 (K : PySem.W.Frag) : List V → Hp → VK → Prop := fun xs H Q => ∃ p ys, xs = [.ref p] ∧ (SqL K H p ys ∨ SqT K H p ys) ∧ Q (.int ys.length) H
def tTake1 (K : PySem.W.Frag) : TS :=
  tSeq (stT 2 (tC (.int 0)))
    (Evl.tCut (tIfS (tTest (tOp (rI0 fun i j => .bl (decide (i < j))) (ixB K 2) (tCB (rLen1 K) (tCons (ixB K 3) tNil)))) (stT 2 (tOp (rIxL K) (ixB K 3) (ixB K 2))) tNext)
    (tSeq (tAugS (tVar 0) (tC (.int 2)) (tC (.int 1)) (rGetL K) (ipI fun i j => i + j) rSetL)
    (Evl.tCut (tIfS (tTest (tOp (rI0 fun i j => .bl (decide (j ≤ i))) (tVar 2) (tOp (rI CPow fun i j => .int (i ^ j.toNat)) (tC (.int 10)) (tC (.int 18))))) (subT 0 (tVar 2)) tNext)
    (tSeq (stT 3 (opAddT (opAddT (opMulT (ixB K 1) (tC (.int 48271))) (opModT (intT (tVar 2)) (tC (.int 2147483647)))) (opMulT (tC (.int 7919)) (ixB K 2))))
    (subT 1 (opModT (intT (tVar 3)) (tC (.int 2147483647))))))))
def tTake (K : PySem.W.Frag) : TS :=
  Evl.tCut (tIfS (tTest (tOp rEq (ixB K 0) (tC (.int 0)))) (tTake1 K) tNext)
    (tSeq (tIfS (tTest (tOp (rI0 fun i j => .bl (decide (j < i))) (ixB K 0) (tC (.int 0)))) (tSeq (stT 4 (opModT (intT (ixB K 0)) (tVar 1))) (tSeq (subT 0 (opDivT (ixB K 0) (tVar 1))) (tRet (tVar 4)))) tNext)
    (tSeq (stT 5 (opModT (intT (opMulT (opAddT (ixB K 1) (tC (.int 1))) (tC (.int 39373)))) (tC (.int 1000000007))))
    (tSeq (stT 6 (opModT (intT (opMulT (opModT (intT (opMulT (tVar 5) (tVar 5))) (tC (.int 998244353))) (tC (.int 30011)))) (tC (.int 998244353))))
    (tRet (opModT (intT (opDivT (tVar 6) (tC (.int 7)))) (tVar 1))))))
abbrev bagV (x0 x1 x2 : Int) (l : Addr) : List V := [.int x0, .int x1, .int x2, .ref l]
/-- all but the bag is as it was -/
abbrev But (b : Addr) (H H' : Hp) : Prop := ∀ c, c ≠ b → H' c = H c
theorem but_upd {b : Addr} {H H' : Hp} {o : HO} (h : But b H H') : But b H (upd H' b o) := fun c n => by rw [upd_ne n]; exact h c n
theorem sq_b {K : PySem.W.Frag} {H : Hp} {b : Addr} {xs : List V} (h : H b = some (.lst xs)) : SqL K H b xs := Or.inl (Or.inl h)
theorem take1_reads {K : PySem.W.Frag} {b l : Addr} {g : Bag} {many : Int} {H : Hp} {D : Ends} (hb : H b = some (.lst (bagV g.x0 g.x1 g.x2 l))) (hl : H l = some (.lst (g.ns.map V.int))) (lb : l ≠ b) (ok : bagOk g = true) (h0 : g.x0 = 0)
    (q : ∀ v2 v3 H', But b H H' → H' b = some (.lst (bagV (bag1 g).x0 (bag1 g).x1 (bag1 g).x2 l)) → D.nx [some (.ref b), some (.int many), v2, v3, none, none, none] H') :
    tTake1 K D [some (.ref b), some (.int many), none, none, none, none, none] H := by
  obtain ⟨n0, n1, n2, n3, n4⟩ := bagOk_iff.mp ok
  have hc0 := cell_nn ok
  show Evl.tCut _ _ _ _ _
  -- the cell
  refine ⟨fun σ' H' => σ' = [some (.ref b), some (.int many), some (.int (cellOf g)), none, none, none, none] ∧ H' = H, ?_, ?_⟩
  · refine ⟨_, rfl, b, _, 2, _, rfl, rfl, sq_b hb, rfl, _, rfl, b, _, 3, _, rfl, rfl, sq_b hb, rfl, l, _, rfl, Or.inl (sq_b hl), _, _, rfl, rfl, _, rfl, ?_⟩
    rw [List.length_map]
    refine ite2 (fun hlt => ?_) (fun hge => ?_)
    · have hlt' : g.x2 < (g.ns.length : Int) := of_decide_eq_true hlt
      have hi : g.x2.toNat < g.ns.length := by omega
      have hat : atI (g.ns.map V.int) g.x2 = some (.int (cellOf g)) := by
        have e : (g.x2 : Int) = ((g.x2.toNat : Nat) : Int) := by omega
        rw [e]
        refine atI_nat ?_
        rw [List.getElem?_map, List.getElem?_eq_getElem hi]
        unfold cellOf
        rw [if_pos hlt', List.getD_eq_getElem?_getD, List.getElem?_eq_getElem hi]
        rfl
      refine ⟨_, rfl, b, _, 3, _, rfl, rfl, sq_b hb, rfl, _, rfl, b, _, 2, _, rfl, rfl, sq_b hb, rfl, l, _, _, _, rfl, rfl, sq_b hl, hat, ?_⟩
      exact ⟨rfl, rfl⟩
    · have e : cellOf g = 0 := by
        unfold cellOf
        rw [if_neg (fun z => hge (decide_eq_true z))]
      rw [e]
      exact ⟨rfl, rfl⟩
  rintro σ' Ha ⟨rfl, rfl⟩
  -- the place
  refine ⟨_, rfl, b, _, 2, _, rfl, rfl, sq_b hb, by decide, by decide, rfl, g.x2, 1, rfl, rfl, b, _, 2, 2, rfl, rfl, hb, rfl, ?_⟩
  refine ⟨fun σ' H' => σ' = [some (.ref b), some (.int many), some (.int (cellOf g)), none, none, none, none] ∧ H' b = some (.lst (bagV (bag1 g).x0 g.x1 (g.x2 + 1) l)) ∧ But b Ha H', ?_, ?_⟩
  · refine ⟨_, rfl, 10, 18, rfl, rfl, ⟨by decide, by decide, by decide⟩, _, _, rfl, rfl, _, rfl, ?_⟩
    have e18 : (10 : Int) ^ (18 : Int).toNat = 10 ^ 18 := rfl
    refine ite2 (fun hge => ?_) (fun hlt => ?_)
    · have hge' : (10 : Int) ^ 18 ≤ cellOf g := of_decide_eq_true hge
      refine ⟨_, rfl, _, rfl, b, _, 0, 0, rfl, rfl, upd_same, rfl, rfl, ?_, but_upd (but_upd fun _ _ => rfl)⟩
      rw [upd_same]
      unfold bag1
      rw [if_pos h0]
      dsimp only
      rw [if_pos hge']
      rfl
    · have hlt' : ¬ (10 : Int) ^ 18 ≤ cellOf g := fun z => hlt (decide_eq_true z)
      refine ⟨rfl, ?_, but_upd fun _ _ => rfl⟩
      rw [upd_same]
      unfold bag1
      rw [if_pos h0]
      dsimp only
      rw [if_neg hlt']
      rfl
  rintro σ' H' ⟨rfl, hb', hk⟩
  refine ⟨_, rfl, b, _, 1, _, rfl, rfl, sq_b hb', rfl, _, _, rfl, rfl, Or.inl ⟨by omega, by omega⟩, _, rfl, Or.inl ⟨_, rfl, _, _, rfl, rfl, (by show (0 : Int) < 2147483647; decide), _, _, rfl, rfl, _, rfl, b, _, 2, _, rfl, rfl, sq_b hb', rfl, _, _, rfl, rfl, Or.inl ⟨by decide, by decide⟩, _, _, rfl, rfl, ?_⟩⟩
  refine ⟨_, rfl, Or.inl ⟨_, rfl, _, _, rfl, rfl, (by show (0 : Int) < 2147483647; decide), _, rfl, b, _, 1, 1, rfl, rfl, hb', rfl, ?_⟩⟩
  refine q _ _ _ (but_upd hk) ?_
  rw [upd_same]
  unfold bag1
  rw [if_pos h0]
  rfl
theorem take_reads {K : PySem.W.Frag} {cl : Str → Option Addr} {vs : List V} {H : Hp} {Q : VK} {E : XK} (h : spM K cl 2 mTake vs H Q E) : tTake K { nx := fun _ H' => Q .non H', rt := Q } (vs.map some ++ [none, none, none, none, none]) H := by
  obtain ⟨b, l, B0, g, g', as, r, h1, h2, h3, h4, h5, h6, h7, h8, h9⟩ := h
  unfold mTake at h8
  split at h8
  case h_2 => cases h8
  rename_i many
  unfold takeM at h8
  split at h8
  case isFalse => cases h8
  rename_i hok
  rw [Bool.and_eq_true] at hok
  obtain ⟨ok, hm⟩ := hok
  have hm' : 1 ≤ many ∧ many ≤ 1000000 := by simpa [manyOk] using hm
  cases h8
  cases h2 with
  | cons a1 r1 =>
  cases r1 with
  | cons a2 r2 =>
  cases r2
  obtain rfl : _ = V.ref b := a1
  obtain rfl := datint (show Dat _ _ _ _ (.int many) from a2)
  have hb : H b = some (.lst (bagV g.x0 g.x1 g.x2 l)) := h5
  have done : ∀ (H' : Hp) (xs : Int × Bag), But b H H' → xs = takeV many g → H' b = some (.lst (bagV xs.2.x0 xs.2.x1 xs.2.x2 l)) → Q (.int xs.1) H' := fun H' xs hk hx hv => by
    subst hx
    refine h9 _ H' (fun a o n e => by rw [hk a n]; exact e) hv ?_ (Dat.int _)
    unfold takeV
    split
    · exact (bag1_ok ok).2
    · exact (bag1_ok ok).2
  obtain ⟨o0, o1, o2, o3, o4⟩ := bagOk_iff.mp (bag1_ok ok).1
  show Evl.tCut _ _ _ _ _
  refine ⟨fun σ' H' => ∃ v2 v3, σ' = [some (.ref b), some (.int many), v2, v3, none, none, none] ∧ But b H H' ∧ H' b = some (.lst (bagV (bag1 g).x0 (bag1 g).x1 (bag1 g).x2 l)), ?_, ?_⟩
  · refine ⟨_, rfl, b, _, 0, _, rfl, rfl, sq_b hb, rfl, rfl, _, rfl, ?_⟩
    refine ite2 (fun hz => ?_) (fun hnz => ?_)
    · have hz' : g.x0 = 0 := V.int.inj (of_decide_eq_true hz)
      exact take1_reads hb h7 h6 ok hz' fun v2 v3 H' k e => ⟨v2, v3, rfl, k, e⟩
    · have hnz' : ¬ g.x0 = 0 := fun z => hnz (decide_eq_true (by rw [z]))
      refine ⟨none, none, rfl, fun _ _ => rfl, ?_⟩
      have e : bag1 g = g := by
        unfold bag1
        rw [if_neg hnz']
      rw [e]
      exact hb
  rintro σ' H1 ⟨v2, v3, rfl, hk, hb1⟩
  refine ⟨_, rfl, b, _, 0, _, rfl, rfl, sq_b hb1, rfl, _, _, rfl, rfl, _, rfl, ?_⟩
  refine ite2 (fun hp => ?_) (fun hn => ?_)
  · have hp' : 0 < (bag1 g).x0 := of_decide_eq_true hp
    refine ⟨_, rfl, b, _, 0, _, rfl, rfl, sq_b hb1, rfl, Or.inl ⟨_, rfl, _, rfl, _, _, rfl, rfl, (by show (0 : Int) < many; omega), ?_⟩⟩
    refine ⟨_, rfl, b, _, 0, _, rfl, rfl, sq_b hb1, rfl, _, rfl, _, _, rfl, rfl, ⟨by omega, by omega⟩, _, rfl, b, _, 0, 0, rfl, rfl, hb1, rfl, ?_⟩
    refine ⟨_, rfl, ?_⟩
    refine done _ ((bag1 g).x0 % many, { bag1 g with x0 := (bag1 g).x0 / many }) (but_upd hk) ?_ upd_same
    unfold takeV
    rw [if_pos hp']
  · have hn' : ¬ 0 < (bag1 g).x0 := fun z => hn (decide_eq_true z)
    have m1 := Int.emod_nonneg (((bag1 g).x1 + 1) * 39373) (show (1000000007 : Int) ≠ 0 by decide)
    have m2 := Int.emod_lt_of_pos (((bag1 g).x1 + 1) * 39373) (show (0 : Int) < 1000000007 by decide)
    refine ⟨_, rfl, b, _, 1, _, rfl, rfl, sq_b hb1, rfl, _, _, rfl, rfl, _, _, rfl, rfl, Or.inr ⟨by decide, by decide⟩, Or.inl ⟨_, rfl, _, _, rfl, rfl, (by show (0 : Int) < 1000000007; decide), ?_⟩⟩
    refine ⟨_, rfl, _, rfl, _, _, rfl, rfl, Or.inl ⟨by omega, by omega⟩, Or.inl ⟨_, rfl, _, _, rfl, rfl, (by show (0 : Int) < 998244353; decide), _, _, rfl, rfl, Or.inr ⟨by decide, by decide⟩, Or.inl ⟨_, rfl, _, _, rfl, rfl, (by show (0 : Int) < 998244353; decide), ?_⟩⟩⟩
    refine ⟨_, rfl, _, _, rfl, rfl, ⟨by decide, by decide⟩, Or.inl ⟨_, rfl, _, rfl, _, _, rfl, rfl, (by show (0 : Int) < many; omega), ?_⟩⟩
    refine done _ (tailOf (bag1 g).x1 many, bag1 g) hk ?_ hb1
    unfold takeV
    rw [if_neg hn']

/-! the reading of the bag's making -/
def rAbs : List V → Hp → VK → Prop := fun xs H Q => ∃ i, xs = [.int i] ∧ Q (.int (if i < 0 then -i else i)) H
def tBag (K : PySem.W.Frag) : TS := tRet (tLst (tCons (tC (.int 0)) (tCons (tC (.int 1234567891)) (tCons (tC (.int 0)) (tCons (tLc (iList K (tSl (rSlL K) (tVar 0) tNoPart (tPart (tC (.int 63))))) (gName 1) tYes (tCB rAbs (tCons (tVar 1) tNil)) [1]) tNil)))))
theorem cut63 (ns : List Int) (h : ns.length ≤ 63) : cutV (ns.map V.int) none (some 63) = (ns.take 63).map V.int := by
  unfold cutV
  have e : HT.sIx (ns.map V.int).length (ns.map V.int).length (some 63) = ns.length := by
    have := HT.sIx_nat (ns.map V.int).length (ns.map V.int).length 63
    rw [show ((63 : Nat) : Int) = 63 from rfl] at this
    rw [this, List.length_map]
    omega
  rw [e, HT.sIx_none, List.drop_zero, Nat.sub_zero, List.map_take, List.take_of_length_le (by simp), List.take_of_length_le (by simpa using h)]
theorem bag_reads {K : PySem.W.Frag} {vs : List V} {H : Hp} {Q : VK} {E : XK} (h : spBag K vs H Q E) : tBag K { nx := fun _ H' => Q .non H', rt := Q } (vs.map some ++ [none]) H := by
  obtain ⟨a, ns, rfl, hS, hlen, k⟩ := h
  refine ⟨_, rfl, 63, rfl, a, _, rfl, hS, fun p hp => ?_⟩
  rw [cut63 ns hlen]
  refine ⟨p, rfl, ⟨_, Or.inl (Or.inl upd_same)⟩, fun l hl => ?_⟩
  have lp : l ≠ p := fun z => by
    subst z
    rw [upd_same] at hl
    cases hl
  have hl0 : H l = none := by rw [upd_ne lp] at hl; exact hl
  refine lc_list (xs := (ns.take 63).map V.int) (fun i H' => (∀ c o, H c = some o → H' c = some o) ∧ H' p = some (.lst ((ns.take 63).map V.int)) ∧ H' l = some (.lst (((absL ns).take i).map V.int))) ⟨fun c o e => ?_, ?_, ?_⟩ (fun i H' _ z => Or.inl (Or.inl z.2.1)) (fun i x H' hx z => ?_) fun H' z => ?_
  · rw [upd_ne (ne_of_none e hl0), upd_ne (ne_of_none e hp)]
    exact e
  · rw [upd_ne lp.symm, upd_same]
  · rw [upd_same]
    rfl
  · obtain ⟨z1, z2, z3⟩ := z
    rw [List.getElem?_map] at hx
    obtain ⟨n, hn, rfl⟩ := Option.map_eq_some_iff.mp hx
    have hi : i < (absL ns).length := by
      have := (List.getElem?_eq_some_iff.mp hn).1
      unfold absL
      rw [List.length_map]
      exact this
    refine ⟨rfl, ?_⟩
    show ∃ v, _ ∧ _
    refine ⟨_, rfl, n, rfl, _, z3, ?_, fun c o e => ?_, ?_, ?_⟩
    · rw [List.length_map, List.length_take]
      have : (absL ns).length ≤ 63 := by
        unfold absL
        rw [List.length_map, List.length_take]
        omega
      exact Nat.lt_of_le_of_lt (Nat.min_le_right _ _) (Nat.lt_of_le_of_lt this (by decide))
    · rw [upd_ne (ne_of_none e hl0)]
      exact z1 c o e
    · rw [upd_ne lp.symm]
      exact z2
    · rw [upd_same, List.take_add_one, List.map_append]
      have e : (absL ns)[i]? = some (if n < 0 then -n else n) := by
        unfold absL
        rw [List.getElem?_map, hn]
        rfl
      rw [e]
      rfl
  · obtain ⟨z1, z2, z3⟩ := z
    show [V.int 0, V.int 1234567891, V.int 0, V.ref l].length ≤ sizeLine ∧ _
    refine ⟨by show 4 ≤ sizeLine; decide, fun b hb => ?_⟩
    have bl : l ≠ b := fun e => by
      subst e
      rw [z3] at hb
      cases hb
    have hb0 : H b = none := by
      cases e : H b with
      | none => rfl
      | some o => rw [z1 b o e] at hb; cases hb
    refine k b l _ hb0 hl0 bl (fun c o e => ?_) upd_same ?_
    · rw [upd_ne (ne_of_none e hb0)]
      exact z1 c o e
    · rw [upd_ne bl, z3, List.length_map, show (ns.take 63).length = (absL ns).length by simp [absL], List.take_length]
end Vi

set_option Elab.async false
set_option linter.all false
set_option maxRecDepth 100000
set_option maxHeartbeats 4000000
namespace Vi
open PySem PySem.Spec PyProof.Rows L2
section
variable {P : Program} {w : World} {K : PySem.W.Frag} {cl : Str → Option Addr} {mg : Str → Option Value} {base : Heap}
/-- the law: a bag of the script, then the rest -/
theorem fnLaw {x qual : Str} {st : Stmt} {f : Addr} {fd : FuncData} {N ps : List Str} {k i n : Nat} {m : DT} (F : Fun K x qual st f fd) (S : FnScope N ps (defScope st)) (hps : ps.length = 1) (hn : N.length = n + 1)
    (hbody : ∀ (cdv : Value) (A : Around) (outer : List Env) (s : Shared) (H : Hp) (E : XK), GRoom k (A.deeper (envOfC qual (defScope st) s.heap.objs.size f cdv)) →
      ∃ t, PSs (cxOf (L2.CX P w) P w K mg base N qual (defScope st) f cdv A outer s H E) (defBody st) (tSeq (tAsg (tCallG (spBag K) (fun c d _ H' => E c d H') (tCons (tVar 0) tNil)) (gName i)) t) ∧ AS K cl (fun c d _ H' => E c d H') t m)
    (hm : ∀ ns : List Int, ∃ g', m ((List.replicate (n + 1) none).set i (some .bag)) (bag0 ns) = some (.rt (.val (.bl true)), g')) (hi : 1 ≤ i) : FnG P w K mg base (k + 1) f fd ps (spLaw K) := by
  refine fnG_of F S (fun vs H Q E h => by obtain ⟨a, ns, rfl, _⟩ := h; rw [hps]; rfl) fun cdv A outer s H vs Q E hr h => ?_
  obtain ⟨a, ns, rfl, hS, hlen, q⟩ := h
  obtain ⟨t, ht, ha⟩ := hbody cdv A outer s H E hr
  refine ⟨_, ht, ?_⟩
  have st0 : L2.start N [V.ref a] = some (V.ref a) :: List.replicate n none := by
    unfold L2.start
    rw [hn]
    rfl
  rw [st0]
  refine ⟨_, rfl, a, ns, rfl, hS, hlen, fun b l H' hb hl lb keep eb el => ?_⟩
  obtain ⟨g', hg⟩ := hm ns
  have at0 : ∀ (j : Nat) (sv : SV), ((List.replicate (n + 1) none).set i (some SV.bag))[j]? = some (some sv) → j = i ∧ sv = .bag ∧ i < n + 1 := fun j sv z => by
    by_cases e : i = j
    · subst e
      by_cases hl : i < n + 1
      · rw [List.getElem?_set_self (by simpa using hl)] at z
        cases z
        exact ⟨rfl, rfl, hl⟩
      · rw [List.getElem?_eq_none (by simpa using hl)] at z
        cases z
    · rw [List.getElem?_set_ne e, List.getElem?_replicate] at z
      split at z <;> cases z
  have S0 : Sto ⟨K, cl, b, l⟩ (fun a => a = b) H' ((List.replicate (n + 1) none).set i (some .bag)) (bag0 ns) ((some (V.ref a) :: List.replicate n none).set i (some (.ref b))) H' := by
    refine ⟨by simp, .refl, eb, lb, el, rfl, by show (H' b).isSome = true; rw [eb]; rfl, fun c z => by subst z; rw [eb]; rfl, fun j d z => ?_, fun j ds z => ?_, fun j j' ds es p z _ _ _ => ?_, fun j z => ?_, fun j x z => ?_, fun j ds p z => ?_⟩
    · cases (at0 j _ z).2.1
    · cases (at0 j _ z).2.1
    · cases (at0 j _ z).2.1
    · obtain ⟨rfl, _, hl'⟩ := at0 j _ z
      exact List.getElem?_set_self (by simpa using hl')
    · cases (at0 j _ z).2.1
    · cases (at0 j _ z).2.1
  refine ha b l _ H' _ (bag0 ns) _ H' _ g' S0 hg _ fun v H2 _ _ _ hv => ?_
  obtain rfl := datbl (show Dat _ _ _ _ (.bl true) from hv)
  exact q H2
end
end Vi

set_option Elab.async false
set_option linter.all false
set_option maxRecDepth 100000
set_option maxHeartbeats 4000000
namespace Vi
open PySem PySem.Spec PyProof.Rows L2

/-! running a meaning -/
def Ok {α : Type} (m : M α) (g : Bag) (R : α → Bag → Prop) : Prop := ∃ a g', m g = some (.ok a, g') ∧ R a g'
def Okn (m : DT) (δ : DS) (g : Bag) (R : Ot → Bag → Prop) : Prop := ∃ o g', m δ g = some (o, g') ∧ R o g'
section
variable {α β : Type} {g : Bag}
theorem ok_ret {a : α} {R : α → Bag → Prop} (h : R a g) : Ok (mret a) g R := ⟨a, g, rfl, h⟩
theorem ok_bind {m : M α} {f : α → M β} {R : β → Bag → Prop} (h : Ok m g fun a g1 => Ok (f a) g1 R) : Ok (mbind m f) g R := by
  obtain ⟨a, g1, e, b, g2, e2, r⟩ := h
  refine ⟨b, g2, ?_, r⟩
  unfold mbind
  rw [e]
  exact e2
theorem ok_of {o : Option α} {a : α} {R : α → Bag → Prop} (e : o = some a) (h : R a g) : Ok (mof o) g R := by
  subst e
  exact ⟨a, g, rfl, h⟩
theorem ok_imp {m : M α} {R S : α → Bag → Prop} (h : Ok m g R) (i : ∀ a g', R a g' → S a g') : Ok m g S := by
  obtain ⟨a, g', e, r⟩ := h
  exact ⟨a, g', e, i a g' r⟩
theorem okn_imp {m : DT} {δ : DS} {R S : Ot → Bag → Prop} (h : Okn m δ g R) (i : ∀ a g', R a g' → S a g') : Okn m δ g S := by
  obtain ⟨a, g', e, r⟩ := h
  exact ⟨a, g', e, i a g' r⟩
theorem ok_eq {m : M α} {a : α} {g' : Bag} {R : α → Bag → Prop} (e : m g = some (.ok a, g')) (h : R a g') : Ok m g R := ⟨a, g', e, h⟩
/-! statements -/
variable {δ : DS} {R : Ot → Bag → Prop}
theorem okn_next (h : R (.nx δ) g) : Okn sNext δ g R := ⟨_, _, rfl, h⟩
theorem okn_seq {a b : DT} (h : Okn a δ g fun o g1 => match o with
    | .nx δ1 => Okn b δ1 g1 R
    | o => R o g1) : Okn (sSeq a b) δ g R := by
  obtain ⟨o, g1, e, r⟩ := h
  unfold Okn sSeq
  rw [e]
  cases o with
  | nx δ1 => exact r
  | rt v => exact ⟨_, _, rfl, r⟩
  | bk δ1 => exact ⟨_, _, rfl, r⟩
  | ct δ1 => exact ⟨_, _, rfl, r⟩
  | er δ1 x => exact ⟨_, _, rfl, r⟩
theorem okn_on {m : DE} {f : EV → DT} (h : Ok (m δ) g fun e g1 => Okn (f e) δ g1 R) : Okn (sOn m f) δ g R := by
  obtain ⟨a, g1, e, b, g2, e2, r⟩ := h
  refine ⟨b, g2, ?_, r⟩
  unfold sOn
  rw [e]
  exact e2
theorem okn_onB {m : DB} {f : Bool → DT} (h : Ok (m δ) g fun e g1 => Okn (f e) δ g1 R) : Okn (sOnB m f) δ g R := by
  obtain ⟨a, g1, e, b, g2, e2, r⟩ := h
  refine ⟨b, g2, ?_, r⟩
  unfold sOnB
  rw [e]
  exact e2
theorem okn_if {c : DB} {a b : DT} (h : Ok (c δ) g fun t g1 => Okn (if t = true then a else b) δ g1 R) : Okn (sIf c a b) δ g R := okn_onB h
theorem okn_ret {m : DE} (h : Ok (m δ) g fun e g1 => ∃ r, retEv e = some r ∧ R (.rt r) g1) : Okn (sRet m) δ g R :=
  okn_on (ok_imp h fun e g1 ⟨r, h1, h2⟩ => ⟨_, _, by rw [h1]; rfl, h2⟩)
theorem okn_set {i : Nat} {m : DE} (h : Ok (m δ) g fun e g1 => ∃ d, e.keep = some d ∧ R (.nx (δ.set i (some (.val d)))) g1) : Okn (sSet i m) δ g R :=
  okn_on (ok_imp h fun e g1 ⟨r, h1, h2⟩ => ⟨_, _, by rw [h1]; rfl, h2⟩)
theorem okn_setO {i : Nat} {m : DE} (h : Ok (m δ) g fun e g1 => ∃ ds, e = .nw ds ∧ R (.nx (δ.set i (some (.own ds)))) g1) : Okn (sSetO i m) δ g R :=
  okn_on (ok_imp h fun e g1 ⟨r, h1, h2⟩ => ⟨_, _, by subst h1; rfl, h2⟩)
theorem okn_asg {m : DE} {t : DG} (h : Ok (m δ) g fun e g1 => ∃ d δ', e.keep = some d ∧ t d δ = some δ' ∧ R (.nx δ') g1) : Okn (sAsg m t) δ g R :=
  okn_on (ok_imp h fun e g1 ⟨d, δ', h1, h2, h3⟩ => ⟨_, _, by rw [h1]; show (t d δ).map _ = _; rw [h2]; rfl, h3⟩)
theorem okn_app {i : Nat} {m : DE} {ds : List D} (h0 : δ[i]? = some (some (.own (.lst ds)))) (hl : lineOk (ds.length + 1) = true) (h : Ok (m δ) g fun e g1 => ∃ d, e.keep = some d ∧ R (.nx (δ.set i (some (.own (.lst (ds ++ [d])))))) g1) : Okn (sApp i m) δ g R := by
  unfold Okn sApp sOwn
  rw [h0]
  refine okn_on (ok_imp h fun e g1 ⟨d, h1, h2⟩ => ⟨_, _, ?_, h2⟩)
  unfold fApp
  rw [if_pos hl, h1]
  rfl
theorem okn_ext {i : Nat} {m : DE} {ds : List D} (h0 : δ[i]? = some (some (.own (.lst ds)))) (h : Ok (m δ) g fun e g1 => ∃ es, e.look = some (.lst es) ∧ lineOk (ds.length + es.length) = true ∧ R (.nx (δ.set i (some (.own (.lst (ds ++ es)))))) g1) : Okn (sExt i m) δ g R := by
  unfold Okn sExt sOwn
  rw [h0]
  refine okn_on (ok_imp h fun e g1 ⟨d, h1, h2, h3⟩ => ⟨_, _, ?_, h3⟩)
  unfold fExt
  rw [h1]
  dsimp only
  rw [if_pos h2]
  rfl
theorem okn_for {mi : DI} {mg : DG} {body : DT} (h : Ok (mi δ) g fun ds g1 => Okn (sLoop mg body ds) δ g1 R) : Okn (sFor mi mg body) δ g R := by
  obtain ⟨a, g1, e, b, g2, e2, r⟩ := h
  refine ⟨b, g2, ?_, r⟩
  unfold sFor
  rw [e]
  exact e2
/-- what a loop keeps -/
theorem okn_loop {mg : DG} {body : DT} (I : DS → Bag → Prop) : ∀ (ds : List D) (δ : DS) (g : Bag), (∀ d ∈ ds, ∀ δ g, I δ g → ∃ δ1, mg d δ = some δ1 ∧ Okn body δ1 g fun o g2 => ∃ δ2, o = .nx δ2 ∧ I δ2 g2) → I δ g → (∀ δ' g', I δ' g' → R (.nx δ') g') → Okn (sLoop mg body ds) δ g R
  | [], δ, g, _, h0, h => ⟨_, _, rfl, h δ g h0⟩
  | d :: ds, δ, g, hs, h0, h => by
    obtain ⟨δ1, e1, o, g2, e2, δ2, rfl, h2⟩ := hs d List.mem_cons_self δ g h0
    obtain ⟨o', g', e3, r⟩ := okn_loop I ds δ2 g2 (fun d' m => hs d' (List.mem_cons_of_mem _ m)) h2 h
    refine ⟨o', g', ?_, r⟩
    show sLoop mg body (d :: ds) δ g = _
    unfold sLoop
    rw [e1]
    dsimp only
    rw [e2]
    exact e3
/-- the loop that returns early or goes on -/
theorem okn_loop1 {mg : DG} {body : DT} {d : D} {ds : List D} {δ1 : DS} (e1 : mg d δ = some δ1) (h : Okn body δ1 g fun o g2 => ∃ δ2, o = .nx δ2 ∧ Okn (sLoop mg body ds) δ2 g2 R) : Okn (sLoop mg body (d :: ds)) δ g R := by
  obtain ⟨o, g2, e2, δ2, rfl, o', g', e3, r⟩ := h
  refine ⟨o', g', ?_, r⟩
  show sLoop mg body (d :: ds) δ g = _
  unfold sLoop
  rw [e1]
  dsimp only
  rw [e2]
  exact e3
/-- a def that returns -/
theorem ok_body {n : Nat} {m : DT} {as : List AV} {R : EV → Bag → Prop} (h : Okn m (startD n as) g fun o g' => ∃ e, o = .rt e ∧ R e g') : Ok (mBody n m as) g R := by
  obtain ⟨o, g', e, v, rfl, r⟩ := h
  refine ⟨v, g', ?_, r⟩
  unfold mBody
  rw [e]
theorem ok_take {many : Int} {R : EV → Bag → Prop} (hg : bagOk g = true) (h1 : 1 ≤ many) (h2 : many ≤ 1000000) (h : ∀ (r : Int) g', 0 ≤ r → r < many → bagOk g' = true → R (.val (.int r)) g') : Ok (mTake [.bag, .val (.int many)]) g R := by
  obtain ⟨r, g', e, a, b, c, _⟩ := take_spec hg h1 h2
  exact ⟨_, g', e, h r g' a b c⟩
end

/-! a value beside itself -/
mutual
def szD : D → Option Nat
  | .non => some 5
  | .bl _ => some 5
  | .int i => if (decide (-999999999999 ≤ i) && decide (i ≤ 999999999999)) = true then some 13 else none
  | .str s => if PyData.strOk s = true then some (10 * s.length + 2) else none
  | .lst ds => (szL ds).map (· + 3)
  | .tup ds => (szL ds).map (· + 3)
  | .dct _ => none
  | .obj _ _ => none
def szL : List D → Option Nat
  | [] => some 0
  | d :: ds => match szD d, szL ds with
    | some m, some n => some (m + n + 2)
    | _, _ => none
end
mutual
def dpD : D → Nat
  | .lst ds => dpL ds + 1
  | .tup ds => dpL ds + 1
  | .non => 0
  | .bl _ => 0
  | .int _ => 0
  | .str _ => 0
  | .dct _ => 0
  | .obj _ _ => 0
def dpL : List D → Nat
  | [] => 0
  | d :: ds => max (dpD d) (dpL ds)
end
theorem int_ok {i : Int} (h : (decide (-999999999999 ≤ i) && decide (i ≤ 999999999999)) = true) : (PyData.shown (.int i)).length ≤ 13 ∧ PyData.showable (.int i) = true := by
  have h' : -999999999999 ≤ i ∧ i ≤ 999999999999 := by simpa using h
  have hn : i.natAbs < 10 ^ 12 := by omega
  refine ⟨PyData.shown_int_le hn, ?_⟩
  show decide (i.natAbs.log2 < 1920) = true
  refine decide_eq_true ?_
  by_cases z : i.natAbs = 0
  · rw [z]; decide
  · exact Nat.lt_trans ((Nat.log2_lt z).mpr (Nat.lt_trans hn (by decide : 10 ^ 12 < 2 ^ 40))) (by decide)
mutual
theorem szD_py : ∀ {d : D} {n : Nat}, szD d = some n → ∃ p, toPy d = some p ∧ p.canLay0 = true ∧ p.showable = true ∧ p.hasDict = false ∧ p.shown.length ≤ n ∧ p.depth = dpD d
  | .non, n, h => by cases h; exact ⟨.none, rfl, rfl, rfl, rfl, by decide, rfl⟩
  | .bl c, n, h => by cases h; exact ⟨.bool c, rfl, rfl, rfl, rfl, by cases c <;> decide, rfl⟩
  | .int i, n, h => by
    unfold szD at h
    split at h
    · rename_i hi
      cases h
      exact ⟨.int i, rfl, rfl, (int_ok hi).2, rfl, (int_ok hi).1, rfl⟩
    · cases h
  | .str s, n, h => by
    unfold szD at h
    split at h
    · rename_i hi
      cases h
      exact ⟨.str s, rfl, hi, rfl, rfl, StrLaws.reprText_len s (fun c hc => by
        have hs : PyData.strOk s = true := hi
        unfold PyData.strOk at hs
        have h2 := (Array.all_eq_true'.mp hs) c (by simpa using hc)
        have h3 : c < 0x110000 := by simpa using h2
        exact Nat.lt_trans h3 (by decide)), rfl⟩
    · cases h
  | .lst ds, n, h => by
    unfold szD at h
    cases e : szL ds with
    | none => rw [e] at h; cases h
    | some m =>
      rw [e] at h
      cases h
      obtain ⟨ps, h1, h2, h3, h4, h5, h6⟩ := szL_py e
      refine ⟨.list ps, by show (toPyL ds).map _ = _; rw [h1]; rfl, h2, h3, h4, ?_, by show PyData.depthAll ps + 1 = dpL ds + 1; rw [h6]⟩
      show (listText (PyData.shownAll ps)).length ≤ m + 3
      have := listText_len_le (PyData.shownAll ps)
      omega
  | .tup ds, n, h => by
    unfold szD at h
    cases e : szL ds with
    | none => rw [e] at h; cases h
    | some m =>
      rw [e] at h
      cases h
      obtain ⟨ps, h1, h2, h3, h4, h5, h6⟩ := szL_py e
      refine ⟨.tuple ps, by show (toPyL ds).map _ = _; rw [h1]; rfl, h2, h3, h4, ?_, by show PyData.depthAll ps + 1 = dpL ds + 1; rw [h6]⟩
      show (tupleText (PyData.shownAll ps)).length ≤ m + 3
      have := tupleText_len_le (PyData.shownAll ps)
      omega
  | .dct _, n, h => by cases h
  | .obj _ _, n, h => by cases h
theorem szL_py : ∀ {ds : List D} {n : Nat}, szL ds = some n → ∃ ps, toPyL ds = some ps ∧ PyData.canLayAll0 ps = true ∧ PyData.showableAll ps = true ∧ PyData.hasDictAll ps = false ∧ ((PyData.shownAll ps).map (·.length)).sum + 2 * (PyData.shownAll ps).length ≤ n ∧ PyData.depthAll ps = dpL ds
  | [], n, h => by cases h; exact ⟨[], rfl, rfl, rfl, rfl, by decide, rfl⟩
  | d :: ds, n, h => by
    unfold szL at h
    cases e1 : szD d with
    | none => rw [e1] at h; cases h
    | some m =>
      cases e2 : szL ds with
      | none => rw [e1, e2] at h; cases h
      | some k =>
        rw [e1, e2] at h
        cases h
        obtain ⟨p, a1, a2, a3, a4, a5, a6⟩ := szD_py e1
        obtain ⟨ps, b1, b2, b3, b4, b5, b6⟩ := szL_py e2
        refine ⟨p :: ps, by show (match toPy d, toPyL ds with | some p, some ps => some (p :: ps) | _, _ => none) = _; rw [a1, b1], by show (p.canLay0 && PyData.canLayAll0 ps) = true; rw [a2, b2]; rfl, by show (p.showable && PyData.showableAll ps) = true; rw [a3, b3]; rfl, by show (p.hasDict || PyData.hasDictAll ps) = false; rw [a4, b4]; rfl, ?_, by show max p.depth (PyData.depthAll ps) = max (dpD d) (dpL ds); rw [a6, b6]⟩
        show ((p.shown :: PyData.shownAll ps).map (·.length)).sum + 2 * (p.shown :: PyData.shownAll ps).length ≤ _
        simp only [List.map_cons, List.sum_cons, List.length_cons]
        omega
end
def alikeOk (d : D) : Bool := (match szD d with
  | some n => lineOk n
  | none => false) && decide (dpD d ≤ 60)
theorem alike_py {d : D} (h : alikeOk d = true) : ∃ p, toPy d = some p ∧ SeqAt.shaped p = true ∧ reprOk p = true ∧ PyData.eqv p p = true := by
  unfold alikeOk at h
  cases e : szD d with
  | none => rw [e] at h; simp at h
  | some n =>
    rw [e] at h
    have h' : lineOk n = true ∧ dpD d ≤ 60 := by simpa using h
    obtain ⟨p, h1, h2, h3, h4, h5, h6⟩ := szD_py e
    have hn : n ≤ 100000 := of_decide_eq_true h'.1
    refine ⟨p, h1, ?_, ?_, SeqAt.eqv_refl_plain p (PyData.plain_of_canLay0 p h2)⟩
    · unfold SeqAt.shaped
      rw [h2, h6]
      have : dpD d ≤ 64 := by omega
      rw [decide_eq_true this]
      rfl
    · unfold reprOk lineOk
      rw [h3, h4, h6, decide_eq_true h'.2, decide_eq_true (show p.shown.length ≤ 100000 by omega)]
      rfl
def bdAlike : DT := sRet (eAnd (e2 mEq (eVar 0) (eVar 1)) (e2 mEq (eB1 reprE (eVar 0)) (eB1 reprE (eVar 1))))
theorem eqU_self {d : D} (h : alikeOk d = true) : eqU d d = some true := by
  obtain ⟨p, h1, h2, h3, h4⟩ := alike_py h
  unfold eqU
  split
  · simp
  · unfold eqD
    rw [h1]
    dsimp only
    rw [h2, h4]
    rfl
theorem reprE_self {d : D} (h : alikeOk d = true) : ∃ s, reprE (.val d) = some (.val (.str s)) := by
  obtain ⟨p, h1, h2, h3, h4⟩ := alike_py h
  refine ⟨p.shown, ?_⟩
  unfold reprE
  show (match some d with | none => none | some d => match toPy d with | none => none | some p => if reprOk p = true then some (EV.val (.str p.shown)) else none) = _
  dsimp only
  rw [h1]
  dsimp only
  rw [if_pos h3]
theorem ok_alike {d : D} {g : Bag} {R : EV → Bag → Prop} (h : alikeOk d = true) (r : R (.val (.bl true)) g) : Ok (mBody 2 bdAlike [.val d, .val d]) g R := by
  obtain ⟨s, hs⟩ := reprE_self h
  refine ok_body (okn_ret (ok_bind (m := e2 mEq (eVar 0) (eVar 1) _) (ok_bind (m := eVar 0 _) (ok_ret (a := EV.val d) (ok_bind (m := eVar 1 _) (ok_ret (a := EV.val d) ?_))))))
  refine ok_of (o := (eqU d d).map fun t => EV.val (.bl t)) (a := .val (.bl true)) (by rw [eqU_self h]; rfl) ?_
  refine ok_bind (m := eB1 reprE (eVar 0) _) (ok_bind (m := eVar 0 _) (ok_ret (a := EV.val d) (ok_of hs ?_)))
  refine ok_bind (m := eB1 reprE (eVar 1) _) (ok_bind (m := eVar 1 _) (ok_ret (a := EV.val d) (ok_of hs ?_)))
  refine ok_of (o := (eqU (.str s) (.str s)).map fun t => EV.val (.bl t)) (a := .val (.bl true)) (by show (some (decide (s = s))).map _ = _; simp) ?_
  exact ⟨_, rfl, _, rfl, r⟩
end Vi

set_option Elab.async false
set_option linter.all false
set_option maxRecDepth 100000
set_option maxHeartbeats 4000000
namespace Vi
open PySem PySem.Spec PyProof.Rows L2
/-! equations of meanings -/
section
variable {α β : Type}
theorem q_ret {a : α} {f : α → M β} : mbind (mret a) f = f a := rfl
theorem q_no {f : α → M β} : mbind mno f = mno := rfl
theorem q_er {x : Xn} {f : α → M β} : mbind (merr x) f = merr x := rfl
theorem q_of {a : α} : mof (some a) = mret a := rfl
theorem q_of0 : mof (none : Option α) = mno := rfl
abbrev DM := Bag → Option (Ot × Bag)
def dret (o : Ot) : DM := fun g => some (o, g)
def dno : DM := fun _ => none
def sK (m : M EV) (k : EV → DM) (δ : DS) : DM := fun g => match m g with
  | none => none
  | some (.er x, g') => some (.er δ x, g')
  | some (.ok e, g') => k e g'
def sKB (m : M Bool) (k : Bool → DM) (δ : DS) : DM := fun g => match m g with
  | none => none
  | some (.er x, g') => some (.er δ x, g')
  | some (.ok e, g') => k e g'
def dB (a : DM) (b : DT) : DM := fun g => match a g with
  | some (.nx δ', g') => b δ' g'
  | r => r
def mB (a : DM) : M EV := fun g => match a g with
  | some (.rt e, g') => some (.ok e, g')
  | some (.nx _, g') => some (.ok (.val .non), g')
  | some (.er _ x, g') => some (.er x, g')
  | _ => none
def rK : EV → DM
  | .val d => dret (.rt (.val d))
  | .nw ds => dret (.rt (.nw ds))
  | _ => dno
def setK (i : Nat) (δ : DS) (e : EV) : DM := match e.keep with
  | some d => dret (.nx (δ.set i (some (.val d))))
  | none => dno
def asgK (t : DG) (δ : DS) (e : EV) : DM := match e.keep with
  | none => dno
  | some d => match t d δ with
    | some δ' => dret (.nx δ')
    | none => dno
variable {δ : DS} {m : DE} {mb : DB} {a b : DT}
theorem q_next : sNext δ = dret (.nx δ) := rfl
theorem q_seq : sSeq a b δ = dB (a δ) b := rfl
theorem q_seq1 {δ' : DS} : dB (dret (.nx δ')) b = b δ' := rfl
theorem q_seq2 {e : EV} : dB (dret (.rt e)) b = dret (.rt e) := rfl
theorem q_seq3 {x : Xn} : dB (dret (.er δ x)) b = dret (.er δ x) := rfl
theorem q_retS : sRet m δ = sK (m δ) rK δ := by
  funext g
  show sOn m _ δ g = sK (m δ) rK δ g
  unfold sOn sK
  cases m δ g with
  | none => rfl
  | some p =>
    obtain ⟨r, g'⟩ := p
    cases r with
    | er x => rfl
    | ok e => cases e <;> rfl
theorem q_set {i : Nat} : sSet i m δ = sK (m δ) (setK i δ) δ := by
  funext g
  show sOn m _ δ g = sK (m δ) (setK i δ) δ g
  unfold sOn sK
  cases m δ g with
  | none => rfl
  | some p =>
    obtain ⟨r, g'⟩ := p
    cases r with
    | er x => rfl
    | ok e =>
      dsimp only
      unfold setK
      cases e.keep <;> rfl
theorem q_asg {t : DG} : sAsg m t δ = sK (m δ) (asgK t δ) δ := by
  funext g
  show sOn m _ δ g = sK (m δ) (asgK t δ) δ g
  unfold sOn sK
  cases m δ g with
  | none => rfl
  | some p =>
    obtain ⟨r, g'⟩ := p
    cases r with
    | er x => rfl
    | ok e =>
      dsimp only
      unfold asgK
      cases e.keep with
      | none => rfl
      | some d =>
        dsimp only
        cases t d δ <;> rfl
theorem q_if : sIf mb a b δ = sKB (mb δ) (fun t => if t = true then a δ else b δ) δ := by
  funext g
  show sOnB mb _ δ g = sKB (mb δ) _ δ g
  unfold sOnB sKB
  cases mb δ g with
  | none => rfl
  | some p =>
    obtain ⟨r, g'⟩ := p
    cases r with
    | er x => rfl
    | ok e => cases e <;> rfl
theorem q_k {e : EV} {k : EV → DM} : sK (mret e) k δ = k e := rfl
theorem q_kB {e : Bool} {k : Bool → DM} : sKB (mret e) k δ = k e := rfl
theorem q_ke {x : Xn} {k : EV → DM} : sK (merr x) k δ = dret (.er δ x) := rfl
theorem q_raise {c : Str} : sRaise0 c δ = dret (.er δ ⟨c, []⟩) := rfl
theorem q_body {n : Nat} {as : List AV} : mBody n a as = mB (a (startD n as)) := rfl
theorem q_b1 {e : EV} : mB (dret (.rt e)) = mret e := rfl
theorem q_b2 : mB (dret (.nx δ)) = mret (.val .non) := rfl
theorem q_b3 {x : Xn} : mB (dret (.er δ x)) = merr x := rfl
end
/-! own classes and isinstance -/
theorem kit_self {K : PySem.W.Frag} {C : Addr} : PySem.W.kitOne K (.ref C) (.ref C) = some true := by
  unfold PySem.W.kitOne
  rw [if_pos (by simp)]
theorem kit_not {K : PySem.W.Frag} {C N : Addr} (hd : PySem.W.hasDictIn K N = true) (ht : PySem.W.typeIn K (.ref N) = some (.type "type")) (h1 : PySem.W.subIn K (.ref C) (.ref C) = some true) (h2 : PySem.W.subIn K (.ref C) (.ref N) = some false) : PySem.W.kitOne K (.ref C) (.ref N) = some false := by
  have ne : C ≠ N := fun z => by
    subst z
    rw [h1] at h2
    cases h2
  obtain ⟨cd, hc, _⟩ := PySem.W.any_some hd
  unfold PySem.W.kitOne
  rw [if_neg (by simpa using ne)]
  unfold PySem.W.kitCls
  dsimp only
  rw [hc, ht]
  simpa using h2
end Vi

set_option Elab.async false
set_option linter.all false
set_option maxRecDepth 100000
set_option maxHeartbeats 4000000
namespace Vi
open PySem PySem.Spec PyProof.Rows L2
/-! own classes: the rules for calls -/
theorem GRoom.in1 {k : Nat} {A : Around} (r : GRoom (k + 1) A) : GRoom k A.in1 := ⟨r.r.in1, r.gd⟩
theorem GRoom.make {k : Nat} {A : Around} (r : GRoom (k + 1) A) (C : Addr) (us : List Value) (kw : List (Str × Value)) : GRoom k (A.under (.builtin "type.__call__" ⟨.ref C :: us, kw⟩)) := ⟨r.r.make C us kw, r.gd⟩
section
variable {X : Cx} {k : Nat} {f C p g : Addr} {fd : FuncData} {ps : List Str} {sp : Sp} {x m : Str} {pp pos apos : Pos} {e o : Expr} {es : List Expr} {ta : TE} {t : TA} {W : WX}
def tMethG (C : Addr) (m : Str) (sp : Sp) (W : WX) (ta : TE) (t : TA) : TE := fun σ H Q => ta σ H fun x H1 => ∃ a dx fs, x = .ref a ∧ H1 a = some (.ins C dx fs) ∧ fs.lookup m = none ∧ t σ H1 fun vs H2 => sp (.ref a :: vs) H2 Q (fun cls d H' => W cls d σ H')
theorem pe_methG {pl : Sem Bool} (he : PE X o ta) (c : Cls X.K C) (hm : Meth X.K C m f) (F : FnG X.prog X.w X.K X.mg X.base k f fd ps sp) (hr : GRoom k X.A) (hb : Binds X.K fd ps []) (tk : Takes X W) (ha : PA X (e :: es) t)
    (hst : starEach (e :: es) X.env = (false, eval e X.env) :: starEach es X.env := by rfl) (hpl : (backTo pos (starEach es X.env)).any (·.1) = false := by rfl)
    (ht : eval (.Call (.Attribute o m apos) (e :: es) [] pos) X.env = (do
      let ov ← eval o X.env
      standAt apos.atName
      let (f, first) ← holding [ov] (getMethod ov m pl)
      callWith pos f first (backTo pos (starEach (e :: es) X.env)) (backToKw pos (keywordEach [] X.env))) := by rfl) :
    PE X (.Call (.Attribute o m apos) (e :: es) [] pos) (tMethG C m sp W ta t) := by
  refine ⟨fun pins s σ H Q I h => ?_⟩
  refine PySem.W.methodCall_KW (pl := pl) (thn (he.run pins s σ H _ I h) fun u s1 ⟨x, H1, I1, rx, a, dx, fs, ex, ea, l, q⟩ => ?_) ht
  subst ex
  obtain rfl : u = Value.ref a := rx
  refine getmeth_ok I1 ea c hm l ?_
  refine PySem.W.callWith_K (first := [.ref a]) (h₀ := X.base) I.ok.mod.kin hm.kp (thn (ha.run pos pins s1 σ H1 _ I1 q) fun us s2 ⟨vs, H2, I2, r, q2⟩ => ⟨I2.kIn, ?_⟩) hst hpl
  exact run_G (us := .ref a :: us) (vs := .ref a :: vs) F hr hb tk I2 (.cons rfl r) q2
theorem pe_methG0 {pl : Sem Bool} (he : PE X o ta) (c : Cls X.K C) (hm : Meth X.K C m f) (F : FnG X.prog X.w X.K X.mg X.base k f fd ps sp) (hr : GRoom k X.A) (hb : Binds X.K fd ps []) (tk : Takes X W)
    (ht : eval (.Call (.Attribute o m apos) [] [] pos) X.env = (do
      let ov ← eval o X.env
      standAt apos.atName
      let (f, first) ← holding [ov] (getMethod ov m pl)
      callWith pos f first (backTo pos (starEach [] X.env)) (backToKw pos (keywordEach [] X.env))) := by rfl) :
    PE X (.Call (.Attribute o m apos) [] [] pos) (tMethG C m sp W ta tNil) := by
  refine ⟨fun pins s σ H Q I h => ?_⟩
  refine PySem.W.methodCall_KW (pl := pl) (thn (he.run pins s σ H _ I h) fun u s1 ⟨x, H1, I1, rx, a, dx, fs, ex, ea, l, q⟩ => ?_) ht
  subst ex
  obtain rfl : u = Value.ref a := rx
  refine getmeth_ok I1 ea c hm l ?_
  exact PySem.W.callWith_K0 (first := [.ref a]) I1.kIn hm.kp (run_G (us := [.ref a]) (vs := [.ref a]) F hr hb tk I1 (.cons rfl .nil) q)
/-- e.f, a property whose getter lets nothing out -/
def tPropG (C : Addr) (sp : Sp) (ta : TE) : TE := fun σ H Q => ta σ H fun x H1 => ∃ a dx fs, x = .ref a ∧ H1 a = some (.ins C dx fs) ∧ sp [.ref a] H1 Q (fun _ _ _ => False)
theorem pe_propG (he : PE X e ta) (c : Cls X.K C) (hp : PropOf X.K C m p g) (F : FnG X.prog X.w X.K X.mg X.base k g fd ps sp) (hr : GRoom (k + 1) X.A) (hb : Binds X.K fd ps [])
    (hab : attributeBase e m X.env (eval e X.env) = eval e X.env := by rfl) : PE X (.Attribute e m pos) (tPropG C sp ta) := by
  refine ⟨fun pins s σ H Q I h => ?_⟩
  refine attr_of hab (thn (he.run pins s σ H _ I h) fun u s1 ⟨x, H1, I1, rx, a, dx, fs, ex, ea, q⟩ => ?_)
  subst ex
  obtain rfl : u = Value.ref a := rx
  obtain ⟨mA, O, _, _, _, _⟩ := ins_get I1.hok ea
  obtain ⟨od, J, _⟩ := O.look
  obtain ⟨rest, hrec⟩ := hp.rec_
  have I2 := I1.tok (s1.toks + 1)
  have hl : [Value.ref a].length = ps.length := by
    rw [← F.len _ _ _ _ q]
    rfl
  have hc : (PySem.W.clsIn X.K C).isSome = true := by
    obtain ⟨cd, hc, _⟩ := PySem.W.any_some c.hd
    rw [hc]
    rfl
  have bb := hb { s1 with toks := s1.toks + 1 } [.ref a] I2.kIn (by rw [List.append_nil]; exact hl)
  rw [List.append_nil] at bb
  refine PySem.W.get_bind I1.kIn J (PySem.W.plainGet_of (c.get m)).1 (PySem.W.findObj_data hc hp.at_ hp.get hp.tak) (PySem.W.plainGet_of (c.get m)).2 (wpAny_call (PySem.W.prop_get (s := { s1 with toks := s1.toks + 1 }) I1.kIn hrec ?_))
  refine codeAny_mono (F.run X.A.in1 X.stack { s1 with toks := s1.toks + 1 } H1 ⟨[.ref a], []⟩ [.ref a] [.ref a] Q _ hr.in1 I2.env0.in1 bb (.cons rfl .nil) q) fun r s' hq => ?_
  cases r with
  | error er =>
    obtain ⟨_, _, _, _, _, _, _, _, _, _, _, _, z⟩ := hq
    exact z.elim
  | ok fl =>
    cases fl with
    | ret u =>
      obtain ⟨v, H', I3, rv, q3⟩ := I2.after hq
      show wpAny _ _ (handedOut u) _ _ _
      rw [PySem.W.handedOut_of (handed_of rv)]
      exact wpAny_pure ⟨v, H', I3, rv, q3⟩
    | next => exact False.elim hq
    | brk => exact False.elim hq
    | cont => exact False.elim hq
/-- C(..): a new instance, then its __init__ -/
def tMakeG (C : Addr) (sp : Sp) (W : WX) (t : TA) : TE := fun σ H Q => t σ H fun vs H1 => ∀ x dx, H1 x = none → H1 dx = none → dx ≠ x →
  sp (.ref x :: vs) (upd (upd H1 dx (.own x)) x (.ins C dx [])) (fun v H2 => v = .non ∧ Q (.ref x) H2) (fun cls d H' => W cls d σ H')
theorem run_makeG {pins : List (Addr × Obj)} {σ : L2.St} {H : Hp} {s : Shared} {Q : VK} {us : List Value} {vs : List V} (M : Mk X.K C f) (F : FnG X.prog X.w X.K X.mg X.base k f fd ps sp) (hr : GRoom (k + 1) X.A) (hb : Binds X.K fd ps []) (tk : Takes X W)
    (I : Inv X pins σ H s) (r : Vals vs us)
    (h : ∀ x dx, H x = none → H dx = none → dx ≠ x → sp (.ref x :: vs) (upd (upd H dx (.own x)) x (.ins C dx [])) (fun v H2 => v = .non ∧ Q (.ref x) H2) (fun cls d H' => W cls d σ H')) :
    wpAny (model X.prog X.w) X.A (call (.ref C) us) (EP X pins σ Q) X.xe s := by
  have hq := h (s.heap.objs.size + 1) s.heap.objs.size (I.hok.fresh (Nat.le_succ _)) (I.hok.fresh (Nat.le_refl _)) (Nat.ne_of_lt (Nat.lt_succ_self _))
  have I2 := Inv.made (C := C) I
  have r2 : Vals (V.ref (s.heap.objs.size + 1) :: vs) (Value.ref (s.heap.objs.size + 1) :: us) := .cons rfl r
  have hl : (Value.ref (s.heap.objs.size + 1) :: us).length = ps.length := by
    have e := r2.length
    rw [F.len _ _ _ _ hq] at e
    exact e.symm
  have bb := hb { s with heap := (s.heap.push PySem.W.emptyDict).push (PySem.W.instObj C s.heap.objs.size) } (Value.ref (s.heap.objs.size + 1) :: us) I2.kIn (by rw [List.append_nil]; exact hl)
  rw [List.append_nil] at bb
  refine wpAny_call (make_map (f := f) I.kIn M.makes M.init (beq_iff_eq.mp M.fn) (codeAny_mono (F.run _ X.stack _ _ ⟨Value.ref (s.heap.objs.size + 1) :: us, []⟩ (Value.ref (s.heap.objs.size + 1) :: us) _ _ _ (hr.make C us [])
    (I2.env0.make C us []) bb r2 hq) fun r s' hq' => ?_))
  cases r with
  | error e => exact passAt tk σ pins _ _ e s' I2 hq'
  | ok fl =>
    cases fl with
    | ret u =>
      obtain ⟨v, H', I3, rv, ev, q3⟩ := I2.after hq'
      subst ev
      exact ⟨rv, ⟨V.ref (s.heap.objs.size + 1), H', I3, rfl, q3⟩⟩
    | next => exact False.elim hq'
    | brk => exact False.elim hq'
    | cont => exact False.elim hq'
theorem pe_makeG (M : Mk X.K C f) (F : FnG X.prog X.w X.K X.mg X.base k f fd ps sp) (hr : GRoom (k + 1) X.A) (hg : Gl X x) (hm : X.mg x = some (.ref C)) (hb : Binds X.K fd ps []) (tk : Takes X W)
    (ha : PA X (e :: es) t) (hdb : (x == ("__debug__" : Str)) = false := by decide) (he : starEach (e :: es) X.env = (false, eval e X.env) :: starEach es X.env := by rfl) (hpl : (backTo pos (starEach es X.env)).any (·.1) = false := by rfl) :
    PE X (.Call (.Name x pp) (e :: es) [] pos) (tMakeG C sp W t) := by
  refine ⟨fun pins s σ H Q I h => ?_⟩
  refine wpAny_Call_Name_kw (ld_glob I hg hm ?_ hdb)
  refine PySem.W.callWith_K (h₀ := X.base) I.ok.mod.kin M.kp (thn (ha.run pos pins s σ H _ I h) fun us s1 ⟨vs, H1, I1, r, q⟩ => ⟨I1.kIn, ?_⟩) he hpl
  exact run_makeG M F hr hb tk I1 r q
/-- C(.., k = v, ..) -/
def tMakeKG (C : Addr) (n m : Nat) (sp : Sp) (gV : List V → List V → List V) (W : WX) (t tk : TA) : TE := fun σ H Q => t σ H fun vs H1 => tk σ H1 fun zs H2 => vs.length = n ∧ zs.length = m ∧ ∀ x dx, H2 x = none → H2 dx = none → dx ≠ x →
  sp (gV (.ref x :: vs) zs) (upd (upd H2 dx (.own x)) x (.ins C dx [])) (fun v H3 => v = .non ∧ Q (.ref x) H3) (fun cls d H' => W cls d σ H')
theorem run_makeKG {n : Nat} {ks : List Str} {gg : List Value → List Value → List Value} {gV : List V → List V → List V} {pins : List (Addr × Obj)} {σ : L2.St} {H : Hp} {s : Shared} {Q : VK} {us ws : List Value} {vs zs : List V} (M : Mk X.K C f) (F : FnG X.prog X.w X.K X.mg X.base k f fd ps sp) (hr : GRoom (k + 1) X.A) (hb : KBn X.K fd ps (n + 1) ks gg gV) (tk : Takes X W)
    (I : Inv X pins σ H s) (r : Vals vs us) (rz : Vals zs ws) (l1 : vs.length = n) (l2 : zs.length = ks.length)
    (h : ∀ x dx, H x = none → H dx = none → dx ≠ x → sp (gV (.ref x :: vs) zs) (upd (upd H dx (.own x)) x (.ins C dx [])) (fun v H2 => v = .non ∧ Q (.ref x) H2) (fun cls d H' => W cls d σ H')) :
    wpAny (model X.prog X.w) X.A (call (.ref C) us (ks.zip ws)) (EP X pins σ Q) X.xe s := by
  have hq := h (s.heap.objs.size + 1) s.heap.objs.size (I.hok.fresh (Nat.le_succ _)) (I.hok.fresh (Nat.le_refl _)) (Nat.ne_of_lt (Nat.lt_succ_self _))
  have I2 := Inv.made (C := C) I
  have r1 : Vals (V.ref (s.heap.objs.size + 1) :: vs) (Value.ref (s.heap.objs.size + 1) :: us) := .cons rfl r
  have r2 := hb.rel r1 rz
  have n1 : (Value.ref (s.heap.objs.size + 1) :: us).length = n + 1 := by
    rw [List.length_cons, ← r.length, l1]
  refine wpAny_call (make_map (f := f) I.kIn M.makes M.init (beq_iff_eq.mp M.fn) (codeAny_mono (F.run _ X.stack _ _ ⟨Value.ref (s.heap.objs.size + 1) :: us, ks.zip ws⟩ (gg (Value.ref (s.heap.objs.size + 1) :: us) ws) _ _ _ (hr.make C us (ks.zip ws))
    (I2.env0.make C us (ks.zip ws)) (hb.to _ (Value.ref (s.heap.objs.size + 1) :: us) ws I2.kIn n1 (rz.length.symm.trans l2)) r2 hq) fun r s' hq' => ?_))
  cases r with
  | error e => exact passAt tk σ pins _ _ e s' I2 hq'
  | ok fl =>
    cases fl with
    | ret u =>
      obtain ⟨v, H', I3, rv, ev, q3⟩ := I2.after hq'
      subst ev
      exact ⟨rv, ⟨V.ref (s.heap.objs.size + 1), H', I3, rfl, q3⟩⟩
    | next => exact False.elim hq'
    | brk => exact False.elim hq'
    | cont => exact False.elim hq'
theorem pe_makeKG {n : Nat} {ks : List Str} {gg : List Value → List Value → List Value} {gV : List V → List V → List V} {kws : List Keyword} {tz : TA} (M : Mk X.K C f) (F : FnG X.prog X.w X.K X.mg X.base k f fd ps sp) (hr : GRoom (k + 1) X.A) (hg : Gl X x) (hm : X.mg x = some (.ref C)) (hb : KBn X.K fd ps (n + 1) ks gg gV) (tk : Takes X W) (ha : PA X (e :: es) t) (hkw : PK X kws tz)
    (hall : (backToKw pos (keywordEach kws X.env)).all (·.1.isSome) = true := by rfl) (hks : (backToKw pos (keywordEach kws X.env)).filterMap (·.1) = ks := by rfl) (hdb : (x == ("__debug__" : Str)) = false := by decide)
    (he : starEach (e :: es) X.env = (false, eval e X.env) :: starEach es X.env := by rfl) (hpl : ((backTo pos (starEach (e :: es) X.env)).any (·.1) || (backToKw pos (keywordEach kws X.env)).any (·.1.isNone)) = false := by rfl) :
    PE X (.Call (.Name x pp) (e :: es) kws pos) (tMakeKG C n ks.length sp gV W t tz) := by
  refine ⟨fun pins s σ H Q I h => ?_⟩
  refine wpAny_Call_Name_kw (ld_glob I hg hm ?_ hdb)
  refine PySem.W.callWith_KW (h₀ := X.base) I.ok.mod.kin M.kp hall (thn (ha.run pos pins s σ H _ I h) fun us s1 ⟨vs, H1, I1, r, q⟩ => ?_) hpl he
  refine thn (hkw.run pos pins s1 σ H1 _ I1 q) fun ws s2 ⟨zs, H2, I2, rz, l1, l2, q2⟩ => ⟨I2.kIn, ?_⟩
  rw [hks]
  exact run_makeKG M F hr hb tk I2 r rz l1 l2 q2
end
/-! data of instances -/
theorem DatF.len {G : Gd} {Bad : Addr → Prop} {H : Hp} : ∀ {vs : List (Str × V)} {ds : List (Str × D)}, DatF G Bad H vs ds → vs.length = ds.length
  | _, _, .nil => rfl
  | _, _, .cons _ r => congrArg Nat.succ r.len
theorem DatF.get {G : Gd} {Bad : Addr → Prop} {H : Hp} {n : Str} : ∀ {vs : List (Str × V)} {ds : List (Str × D)} {d : D}, DatF G Bad H vs ds → ds.lookup n = some d → ∃ v, vs.lookup n = some v ∧ Dat G Bad H v d
  | _, _, d, .nil, h => by cases h
  | _, _, d, .cons (k := k) (v := v) a r, h => by
    rw [List.lookup_cons] at h ⊢
    cases e : n == k with
    | true =>
      rw [e] at h
      cases h
      exact ⟨_, rfl, a⟩
    | false =>
      rw [e] at h
      exact DatF.get r h
theorem DatF.none {G : Gd} {Bad : Addr → Prop} {H : Hp} {n : Str} : ∀ {vs : List (Str × V)} {ds : List (Str × D)}, DatF G Bad H vs ds → ds.lookup n = none → vs.lookup n = none
  | _, _, .nil, h => rfl
  | _, _, .cons (k := k) a r, h => by
    rw [List.lookup_cons] at h ⊢
    cases e : n == k with
    | true =>
      rw [e] at h
      cases h
    | false =>
      rw [e] at h
      exact DatF.none r h
theorem dat_obj {G : Gd} {Bad : Addr → Prop} {H : Hp} {v : V} {c : Str} {fs : List (Str × D)} (h : Dat G Bad H v (.obj c fs)) : ∃ a C dx vs, v = .ref a ∧ ¬ Bad a ∧ H a = some (.ins C dx vs) ∧ G.cl c = some C ∧ DatF G Bad H vs fs := by
  cases h with
  | obj n h c r => exact ⟨_, _, _, _, rfl, n, h, c, r⟩
section
variable {K : PySem.W.Frag} {cl : Str → Option Addr} {W : WX} {te : TE} {ta : TA} {me : DE} {ma : DA} {c m : Str} {C : Addr}
/-- e.f, a field -/
def fldE (c f : Str) (e : EV) : Option EV := match e with
  | .val (.obj c' fs) => if c' = c then (fs.lookup f).map .val else none
  | _ => none
theorem ae_fld (h : AE K cl W te me) (hc : cl c = some C) (kc : Cls K C) (kn : NoAttr K C m) : AE K cl W (tFld K te m) (eB1 (fldE c m) me) := by
  intro b l B0 H0 δ g σ H r g' S hm Q q
  rcases mb_cases hm with ⟨x, e, rfl⟩ | ⟨ev, g1, e, hm⟩
  · exact h b l B0 H0 δ g σ H _ _ S e _ q
  refine h b l B0 H0 δ g σ H _ _ S e _ fun v H1 k1 b1 n1 hv => ?_
  cases hf : fldE c m ev with
  | none => rw [hf] at hm; cases hm
  | some r0 =>
    rw [hf] at hm
    cases hm
    unfold fldE at hf
    split at hf
    · rename_i c' fs
      split at hf
      · rename_i ec
        subst ec
        obtain ⟨d, hd, rfl⟩ := Option.map_eq_some_iff.mp hf
        obtain ⟨a, C', dx, vs, rfl, na, hi, hcl, hF⟩ := dat_obj (show Dat _ _ _ _ _ from hv)
        have ec : C' = C := Option.some.inj (hcl.symm.trans hc)
        subst ec
        obtain ⟨w, hw, hD⟩ := hF.get hd
        exact ⟨a, C', dx, vs, w, rfl, hi, kc, kn, hw, q _ _ k1 b1 n1 hD⟩
      · cases hf
    · cases hf
/-- what lets nothing out -/
def mQuiet (m : M EV) : M EV := fun g => match m g with
  | some (.ok e, g') => some (.ok e, g')
  | _ => none
/-- e.f, a property -/
def eProp (c : Str) (f : MF) (me : DE) : DE := fun δ => mbind (me δ) fun e => match e with
  | .val (.obj c' fs) => if c' = c then mQuiet (f [.val (.obj c' fs)]) else mno
  | _ => mno
theorem ae_prop {f : MF} (h : AE K cl W te me) (hc : cl c = some C) : AE K cl W (tPropG C (spM K cl 1 f) te) (eProp c f me) := by
  intro b l B0 H0 δ g σ H r g' S hm0 Q q
  rcases mb_cases hm0 with ⟨x, e, rfl⟩ | ⟨ev, g1, e, hm⟩
  rotate_left
  clear hm0
  rotate_left
  · exact h b l B0 H0 δ g σ H _ _ S e _ q
  refine h b l B0 H0 δ g σ H _ _ S e _ fun v H1 k1 b1 n1 hv => ?_
  have S1 := S.kp k1 b1 n1
  split at hm
  · rename_i c' fs
    split at hm
    · rename_i ec
      subst ec
      obtain ⟨a, C', dx, vs, rfl, na, hi, hcl, hF⟩ := dat_obj (show Dat _ _ _ _ _ from hv)
      have ec : C' = C := Option.some.inj (hcl.symm.trans hc)
      subst ec
      unfold mQuiet at hm
      cases hg : f [.val (.obj c' fs)] g1 with
      | none => rw [hg] at hm; cases hm
      | some pr =>
        obtain ⟨r1, g2⟩ := pr
        rw [hg] at hm
        cases r1 with
        | er x => cases hm
        | ok e2 =>
          cases hm
          have hl : H1 l = some (.lst (g1.ns.map V.int)) := S1.ent l _ S1.lb S1.scr
          refine ⟨a, dx, vs, rfl, hi, b, l, Bd B0 δ σ, g1, g', [.val (.obj c' fs)], .ok e2, rfl, .cons (show Dat _ _ _ _ _ from hv) .nil, S1.bd, S1.alB, b1, S1.lb, hl, hg, ?_⟩
          exact fun v H2 k2 b2 n2 h2 => q v H2 (k1.trans k2) b2 (n2.trans n1) (evok_from b1.some k1 h2)
    · cases hm
  · cases hm
/-- e.m(..) -/
def eMeth (c m : Str) (n : Nat) (f : MF) (me : DE) (ma : DA) : DE := fun δ => mbind (me δ) fun e => match e with
  | .val (.obj c' fs) => if c' = c ∧ fs.lookup m = none then mbind (ma δ) (fun es => match argsOf es with
    | some as => if as.length + 1 = n then f (.val (.obj c' fs) :: as) else mno
    | none => mno) else mno
  | _ => mno
theorem ae_meth {n : Nat} {f : MF} (h : AE K cl W te me) (hA : AA K cl W ta ma) (hc : cl c = some C) : AE K cl W (tMethG C m (spM K cl n f) W te ta) (eMeth c m n f me ma) := by
  intro b l B0 H0 δ g σ H r g' S hm0 Q q
  rcases mb_cases hm0 with ⟨x, e, rfl⟩ | ⟨ev, g1, e, hm⟩
  · exact h b l B0 H0 δ g σ H _ _ S e _ q
  clear hm0
  refine h b l B0 H0 δ g σ H _ _ S e _ fun v H1 k1 b1 n1 hv => ?_
  have S1 := S.kp k1 b1 n1
  have q1 := post_then k1 b1 n1 q
  split at hm
  · rename_i c' fs
    split at hm
    · rename_i hh
      obtain ⟨ec, hlk⟩ := hh
      subst ec
      have hv' : Dat ⟨K, cl, b, l⟩ (Bd B0 δ σ) H1 v (.obj c' fs) := hv
      obtain ⟨a, C', dx, vs, rfl, na, hi, hcl, hF⟩ := dat_obj hv'
      have ec : C' = C := Option.some.inj (hcl.symm.trans hc)
      subst ec
      refine ⟨a, dx, vs, rfl, hi, hF.none hlk, ?_⟩
      rcases mb_cases hm with ⟨x, e2, rfl⟩ | ⟨es, g2, e2, hm2⟩
      · exact hA b l B0 H0 δ g1 σ H1 _ _ S1 e2 _ q1
      clear hm
      refine hA b l B0 H0 δ g1 σ H1 _ _ S1 e2 _ fun ws H2 k2 b2 n2 hw => ?_
      have S2 := S1.kp k2 b2 n2
      cases ha : argsOf es with
      | none => rw [ha] at hm2; cases hm2
      | some as =>
        rw [ha] at hm2
        dsimp only at hm2
        split at hm2
        · rename_i hn
          have hl : H2 l = some (.lst (g2.ns.map V.int)) := S2.ent l _ S2.lb S2.scr
          have q2 := post_then k2 b2 n2 q1
          refine ⟨b, l, Bd B0 δ σ, g2, g', .val (.obj c' fs) :: as, r, hn, .cons (Dat.goes (k2.goes S.bd) hv') (args_ok S1.alB hw ha), S2.bd, S2.alB, b2, S2.lb, hl, hm2, ?_⟩
          cases r with
          | ok ev => exact fun v H3 k3 b3 n3 h3 => q2 v H3 k3 b3 n3 h3
          | er x => exact fun c d H3 k3 b3 n3 h3 => q2 c d H3 k3 b3 n3 h3
        · cases hm2
    · cases hm
  · cases hm
end
end Vi

set_option Elab.async false
set_option linter.all false
set_option maxRecDepth 100000
set_option maxHeartbeats 4000000
namespace Vi
open PySem PySem.Spec PyProof.Rows L2
/-! making an instance -/
def putD (f : Str) (d : D) : List (Str × D) → List (Str × D)
  | [] => [(f, d)]
  | (g, x) :: r => if g = f then (g, d) :: r else (g, x) :: putD f d r
theorem datf_put {G : Gd} {Bad : Addr → Prop} {H : Hp} {f : Str} {v : V} {d : D} (hv : Dat G Bad H v d) : ∀ {vs : List (Str × V)} {ds : List (Str × D)}, DatF G Bad H vs ds → DatF G Bad H (putF f v vs) (putD f d ds)
  | _, _, .nil => .cons hv .nil
  | _, _, .cons (k := k) a r => by
    unfold putF putD
    by_cases e : k = f
    · rw [if_pos e, if_pos e]
      exact .cons hv r
    · rw [if_neg e, if_neg e]
      exact .cons a (datf_put hv r)
abbrev DF := DS → List (Str × D) → Bag → Option (DS × List (Str × D) × Bag)
/-- a part of an __init__: the instance stands in slot 0, apart from all data -/
def AFs (K : PySem.W.Frag) (cl : Str → Option Addr) (C : Addr) (t : TS) (m : DF) : Prop := ∀ (b l : Addr) B0 H0 δ g σ H x dx vs fs δ' fs' g', Sto ⟨K, cl, b, l⟩ (With B0 x) H0 δ g σ H → δ[0]? = some (some (.exc x)) → H0 x = none → H x = some (.ins C dx vs) → DatF ⟨K, cl, b, l⟩ (Bd (With B0 x) δ σ) H vs fs →
  m δ fs g = some (δ', fs', g') → ∀ Dn : Ends, (∀ σ' H' vs', Sto ⟨K, cl, b, l⟩ (With B0 x) H0 δ' g' σ' H' → H' x = some (.ins C dx vs') → DatF ⟨K, cl, b, l⟩ (Bd (With B0 x) δ' σ') H' vs' fs' → Dn.nx σ' H') → t Dn σ H
/-- the bad ones may change -/
theorem Sto.updB {G : Gd} {B0 : Addr → Prop} {H0 H : Hp} {δ : DS} {g : Bag} {σ : L2.St} {x : Addr} {o : HO} (S : Sto G B0 H0 δ g σ H) (hx : B0 x) (h0 : H0 x = none) (hn : ∀ (i : Nat) (ds : D), δ[i]? = some (some (.own ds)) → σ[i]? ≠ some (some (.ref x))) : Sto G B0 H0 δ g σ (upd H x o) ∧ Goes (Bd B0 δ σ) (Bd B0 δ σ) H (upd H x o) := by
  have xb : x ≠ G.b := S.ownb h0
  have go : Goes (Bd B0 δ σ) (Bd B0 δ σ) H (upd H x o) := fun a u n e => ⟨by rw [upd_ne (fun z => n (by rw [z]; exact Or.inl hx))]; exact e, n⟩
  refine ⟨⟨S.len, fun a u n e => ?_, ?_, S.lb, S.scr, S.b0, S.hb, fun a ha => ?_, fun i d h => ?_, fun i ds h => ?_, S.inj, S.bag, S.exc, S.nb⟩, go⟩
  · rw [upd_ne (ne_of_none e h0)]
    exact S.ent a u n e
  · show upd H x o G.b = _
    rw [upd_ne (fun z => xb z.symm)]
    exact S.bg
  · unfold upd
    split
    · rfl
    · exact S.al a ha
  · obtain ⟨v, h1, h2⟩ := S.val i d h
    exact ⟨v, h1, Dat.goes go h2⟩
  · obtain ⟨p, vs, h1, h2, h3, h4⟩ := S.own i ds h
    have px : p ≠ x := fun z => hn i ds h (by rw [h1, z])
    exact ⟨p, vs, h1, h2, by rw [upd_ne px]; exact h3, OwnD.goes go h4⟩
section
variable {K : PySem.W.Frag} {cl : Str → Option Addr} {W : WX} {te : TE} {t u : TS} {me : DE} {ma : DT} {C : Addr} {f : Str} {m1 m2 : DF}
/-- self.f = e -/
def fSet (f : Str) (me : DE) : DF := fun δ fs g => match me δ g with
  | some (.ok e, g1) => match e.keep with
    | some d => if fs.length < 1000 then some (δ, putD f d fs, g1) else none
    | none => none
  | _ => none
theorem af_set (h : AE K cl W te me) (kc : Cls K C) (kn : NoAttr K C f) : AFs K cl C (sFld K (tVar 0) te f) (fSet f me) := by
  intro b l B0 H0 δ g σ H x dx vs fs δ' fs' g' S s0 h0 hx hF hm Dn q
  unfold fSet at hm
  cases e : me δ g with
  | none => rw [e] at hm; cases hm
  | some pr =>
    obtain ⟨r, g1⟩ := pr
    rw [e] at hm
    cases r with
    | er y => cases hm
    | ok ev =>
      dsimp only at hm
      cases hk : ev.keep with
      | none => rw [hk] at hm; cases hm
      | some d =>
        rw [hk] at hm
        dsimp only at hm
        split at hm
        · rename_i hlt
          cases hm
          refine h b l _ H0 δ g σ H _ _ S e _ fun v H1 k1 b1 n1 hv => ?_
          have S1 := S.kp k1 b1 n1
          have xb : x ≠ b := S.ownb h0
          have hx1 := k1 x _ xb hx
          refine ⟨.ref x, S.exc 0 x s0, x, C, dx, vs, rfl, hx1, kc, kn, by rw [hF.len]; exact hlt, ?_⟩
          have hd := evok_keep S.alB hv hk
          have hn : ∀ (i : Nat) (ds : D), δ[i]? = some (some (.own ds)) → σ[i]? ≠ some (some (.ref x)) := fun i ds hi z => by
            obtain ⟨p, ws, a1, a2, a3, a4⟩ := S1.own i ds hi
            rw [z] at a1
            cases a1
            rw [hx1] at a3
            cases a3
            cases a4
          obtain ⟨S2, go⟩ := S1.updB (o := .ins C dx (putF f v vs)) (Or.inr rfl) h0 hn
          exact q σ _ _ S2 upd_same (datf_put (Dat.goes go hd) (DatF.goes go (DatF.goes (k1.goes S.bd) hF)))
        · cases hm
/-- is slot 0 as it was -/
def same0 (δ δ1 : DS) : Bool := match (δ[0]? : Option (Option SV)), (δ1[0]? : Option (Option SV)) with
  | some (some (SV.exc a)), some (some (SV.exc c)) => decide (a = c)
  | _, _ => false
theorem same0_of {δ δ1 : DS} {x : Addr} (h : same0 δ δ1 = true) (h0 : δ[0]? = some (some (.exc x))) : δ1[0]? = some (some (.exc x)) := by
  unfold same0 at h
  rw [h0] at h
  split at h
  · rename_i a c e1 e2
    cases e1
    rw [e2, ← of_decide_eq_true h]
  · cases h
def fSeq (m1 m2 : DF) : DF := fun δ fs g => match m1 δ fs g with
  | some (δ1, fs1, g1) => if same0 δ δ1 = true then m2 δ1 fs1 g1 else none
  | none => none
theorem af_seq (h1 : AFs K cl C t m1) (h2 : AFs K cl C u m2) : AFs K cl C (tSeq t u) (fSeq m1 m2) := by
  intro b l B0 H0 δ g σ H x dx vs fs δ' fs' g' S s0 h0 hx hF hm Dn q
  unfold fSeq at hm
  cases e : m1 δ fs g with
  | none => rw [e] at hm; cases hm
  | some pr =>
    obtain ⟨δ1, fs1, g1⟩ := pr
    rw [e] at hm
    dsimp only at hm
    split at hm
    · rename_i hs
      exact h1 b l B0 H0 δ g σ H x dx vs fs δ1 fs1 g1 S s0 h0 hx hF e _ fun σ' H' vs' S' hx' hF' => h2 b l B0 H0 δ1 g1 σ' H' x dx vs' fs1 δ' fs' g' S' (same0_of hs s0) h0 hx' hF' hm Dn q
    · cases hm
/-- a statement that does not speak of the instance -/
def fSt (m : DT) : DF := fun δ fs g => match m δ g with
  | some (.nx δ', g') => some (δ', fs, g')
  | _ => none
theorem af_st (h : AS K cl W t ma) : AFs K cl C t (fSt ma) := by
  intro b l B0 H0 δ g σ H x dx vs fs δ' fs' g' S s0 h0 hx hF hm Dn q
  unfold fSt at hm
  cases e : ma δ g with
  | none => rw [e] at hm; cases hm
  | some pr =>
    obtain ⟨o, g1⟩ := pr
    rw [e] at hm
    cases o with
    | nx δ1 =>
      cases hm
      refine h b l _ (ground δ σ H) δ g σ H _ _ S.rebase e Dn fun σ' H' S' => ?_
      have xb : x ≠ b := S.ownb h0
      have hgx : ground δ σ H x = some (.ins C dx vs) := by
        unfold ground
        rw [if_neg]
        · exact hx
        · rintro ⟨i, ds, h1, h2⟩
          obtain ⟨p, ws, a1, a2, a3, a4⟩ := S.own i ds h1
          rw [h2] at a1
          cases a1
          rw [hx] at a3
          cases a3
          cases a4
      refine q σ' H' vs (S.unbase S') (S'.ent x _ xb hgx) ?_
      refine DatF.goes (fun a o n e => ?_) hF
      have e0 := ground_of e n
      refine ⟨S'.ent a o (fun z => n (z ▸ S.bd)) e0, fun z => ?_⟩
      rcases z with z | ⟨i, ds, h1, h2⟩
      · exact n (Or.inl z)
      · obtain ⟨p, ws, a1, a2, _, _⟩ := S'.own i ds h1
        rw [h2] at a1
        cases a1
        rw [a2] at e0
        cases e0
    | rt v => cases hm
    | bk d => cases hm
    | ct d => cases hm
    | er d y => cases hm
end
/-- the promise of an __init__ -/
def spI (K : PySem.W.Frag) (cl : Str → Option Addr) (c : Str) (C : Addr) (n : Nat) (f : List AV → M (List (Str × D))) : Sp := fun vs H Q _ =>
  ∃ (b l : Addr) (B0 : Addr → Prop) (Ho : Hp) (x dx : Addr) (g g' : Bag) (as : List AV) (ws : List V) (fs : List (Str × D)), vs = .ref x :: ws ∧ as.length = n ∧ H = upd (upd Ho dx (.own x)) x (.ins C dx []) ∧ Ho x = none ∧ Ho dx = none ∧ dx ≠ x ∧
    AVs ⟨K, cl, b, l⟩ B0 Ho ws as ∧ B0 b ∧ (∀ a, B0 a → (Ho a).isSome = true) ∧ BagAt ⟨K, cl, b, l⟩ Ho g ∧ l ≠ b ∧ Ho l = some (.lst (g.ns.map V.int)) ∧ f as g = some (.ok fs, g') ∧
    ∀ H', Kp ⟨K, cl, b, l⟩ Ho H' → BagAt ⟨K, cl, b, l⟩ H' g' → g'.ns = g.ns → Dat ⟨K, cl, b, l⟩ B0 H' (.ref x) (.obj c fs) → Q .non H'
theorem spI_len {K : PySem.W.Frag} {cl : Str → Option Addr} {c : Str} {C : Addr} {n : Nat} {f : List AV → M (List (Str × D))} : ∀ vs H Q E, spI K cl c C n f vs H Q E → vs.length = n + 1 := fun vs H Q E h => by
  obtain ⟨b, l, B0, Ho, x, dx, g, g', as, ws, fs, rfl, h1, _, _, _, _, h2, _⟩ := h
  rw [List.length_cons, h2.len, h1]
section
variable {P : Program} {w : World} {K : PySem.W.Frag} {cl : Str → Option Addr} {mg : Str → Option Value} {base : Heap}
theorem avs_goes {G : Gd} {Bad Bad' : Addr → Prop} {H H' : Hp} (go : Goes Bad Bad' H H') {vs : List V} {as : List AV} (h : AVs G Bad H vs as) : AVs G Bad' H' vs as := by
  induction h with
  | nil => exact .nil
  | @cons v vs a' as a _ ih =>
    refine .cons ?_ ih
    cases a' with
    | val d => exact Dat.goes go a
    | bag => exact a
    | slf y => exact a
theorem int_inj : ∀ xs ys : List Int, xs.map V.int = ys.map V.int → xs = ys := by
  intro xs
  induction xs with
  | nil =>
    intro ys h
    cases ys with
    | nil => rfl
    | cons y ys => cases h
  | cons x xs ih =>
    intro ys h
    cases ys with
    | nil => cases h
    | cons y ys =>
      rw [List.map_cons, List.map_cons] at h
      injection h with h1 h2
      injection h1 with h1
      rw [h1, ih ys h2]
/-- THE RULE for an __init__ -/
theorem fnI {qual : Str} {st : Stmt} {f : Addr} {fd : FuncData} {N ps : List Str} {k n : Nat} {c : Str} {C : Addr} {m : DF} {F : List AV → M (List (Str × D))} {nm : Str} (hF : Fun K nm qual st f fd) (S : FnScope N ps (defScope st)) (hn : ps.length = n + 1) (hc : cl c = some C)
    (hbody : ∀ (cdv : Value) (A : Around) (outer : List Env) (s : Shared) (H : Hp) (E : XK), GRoom k (A.deeper (envOfC qual (defScope st) s.heap.objs.size f cdv)) →
      ∃ t, PSs (cxOf (L2.CX P w) P w K mg base N qual (defScope st) f cdv A outer s H E) (defBody st) t ∧ AFs K cl C t m)
    (hm : ∀ (x : Addr) (as : List AV) (g g' : Bag) (fs : List (Str × D)), F as g = some (.ok fs, g') → ∃ δ', m (startD N.length (.slf x :: as)) [] g = some (δ', fs, g')) : FnG P w K mg base (k + 1) f fd ps (spI K cl c C n F) := by
  refine fnG_of hF S (fun vs H Q E h => by rw [spI_len vs H Q E h, hn]) fun cdv A outer s H vs Q E hr h => ?_
  obtain ⟨b, l, B0, Ho, x, dx, g, g', as, ws, fs, rfl, h1, rfl, hx, hdx, ne, h2, h3, h4, h5, h6, h7, h8, h9⟩ := h
  obtain ⟨t, ht, ha⟩ := hbody cdv A outer s _ E hr
  refine ⟨t, ht, ?_⟩
  obtain ⟨δ', e⟩ := hm x as g g' fs h8
  have nn : ∀ a o, Ho a = some o → upd (upd Ho dx (.own x)) x (.ins C dx []) a = some o ∧ a ≠ x := fun a o z => by
    have ax : a ≠ x := fun y => by subst y; rw [hx] at z; cases z
    have ad : a ≠ dx := fun y => by subst y; rw [hdx] at z; cases z
    rw [upd_ne ax, upd_ne ad]
    exact ⟨z, ax⟩
  have go : Goes B0 (With B0 x) Ho (upd (upd Ho dx (.own x)) x (.ins C dx [])) := fun a o n z => ⟨(nn a o z).1, fun y => y.elim n (nn a o z).2⟩
  have some_ : ∀ a, (Ho a).isSome = true → (upd (upd Ho dx (.own x)) x (.ins C dx []) a).isSome = true := fun a z => by
    obtain ⟨o, ho⟩ := Option.isSome_iff_exists.mp z
    rw [(nn a o ho).1]
    rfl
  have S0 : Sto ⟨K, cl, b, l⟩ (With B0 x) (upd (upd Ho dx (.own x)) x (.ins C dx [])) (startD N.length (.slf x :: as)) g (L2.start N (.ref x :: ws)) (upd (upd Ho dx (.own x)) x (.ins C dx [])) := by
    have hav : AVs ⟨K, cl, b, l⟩ (With B0 x) (upd (upd Ho dx (.own x)) x (.ins C dx [])) (.ref x :: ws) (.slf x :: as) := .cons rfl (avs_goes go h2)
    have := av_sto (n := N.length - (AV.slf x :: as).length) hav (Or.inl h3) (fun a z => z.elim (fun y => some_ a (h4 a y)) fun y => by rw [y, upd_same]; rfl) (nn b _ h5).1 h6 (nn l _ h7).1
    unfold startD L2.start
    rw [hav.len]
    exact this
  have S1 := S0.weak0 (H0 := Ho) (fun a o _ z => (nn a o z).1) (by rw [show Ho b = _ from h5]; rfl) (by show (Ho l).isSome = true; rw [h7]; rfl)
  refine ha b l B0 Ho _ g _ _ x dx [] [] δ' fs g' S1 rfl hx upd_same .nil e _ fun σ' H' vs' S' hx' hF' => ?_
  have nsq : g'.ns = g.ns := by
    have e1 := S'.scr
    rw [show Ho l = some (.lst (g.ns.map V.int)) from h7] at e1
    have e' := HO.lst.inj (Option.some.inj e1)
    exact int_inj _ _ e'.symm
  refine h9 H' S'.ent S'.bg nsq ?_
  refine .obj (fun z => ?_) hx' hc (DatF.goes (goes_less fun a z => Or.inl (Or.inl z)) hF')
  have := h4 x z
  rw [hx] at this
  cases this
end
section
variable {K : PySem.W.Frag} {cl : Str → Option Addr} {W : WX} {ta tk : TA} {ma mk : DA} {c : Str} {C : Addr}
/-- C(.., k = v, ..) -/
def eMakeK (c : Str) (n m : Nat) (gM : List AV → List AV → List AV) (f : List AV → M (List (Str × D))) (ma mk : DA) : DE := fun δ => mbind (ma δ) fun es => mbind (mk δ) fun zs => match argsOf es, argsOf zs with
  | some as, some bs => if as.length = n ∧ bs.length = m then (fun g => match f (gM as bs) g with
    | some (.ok fs, g') => some (.ok (.val (.obj c fs)), g')
    | _ => none) else mno
  | _, _ => mno
theorem ae_makeK {n m k : Nat} {gV : List V → List V → List V} {gM : List AV → List AV → List AV} {f : List AV → M (List (Str × D))} (h : AA K cl W ta ma) (hk : AA K cl W tk mk) (hc : cl c = some C) (hl : ∀ as bs, as.length = n → bs.length = m → (gM as bs).length = k)
    (hg : ∀ (G : Gd) (Bad : Addr → Prop) (H : Hp) (x : Addr) (vs zs : List V) (as bs : List AV), as.length = n → bs.length = m → AVs G Bad H vs as → AVs G Bad H zs bs → ∃ ws, gV (.ref x :: vs) zs = .ref x :: ws ∧ AVs G Bad H ws (gM as bs)) :
    AE K cl W (tMakeKG C n m (spI K cl c C k f) gV W ta tk) (eMakeK c n m gM f ma mk) := by
  intro b l B0 H0 δ g σ H r g' S hm0 Q q
  rcases mb_cases hm0 with ⟨x, e, rfl⟩ | ⟨es, g1, e, hm1⟩
  · exact h b l B0 H0 δ g σ H _ _ S e _ q
  clear hm0
  refine h b l B0 H0 δ g σ H _ _ S e _ fun vs H1 k1 b1 n1 hv => ?_
  have S1 := S.kp k1 b1 n1
  have q1 := post_then k1 b1 n1 q
  rcases mb_cases hm1 with ⟨x, e2, rfl⟩ | ⟨zs, g2, e2, hm⟩
  · exact hk b l B0 H0 δ g1 σ H1 _ _ S1 e2 _ q1
  clear hm1
  refine hk b l B0 H0 δ g1 σ H1 _ _ S1 e2 _ fun us H2 k2 b2 n2 hu => ?_
  have S2 := S1.kp k2 b2 n2
  have q2 := post_then k2 b2 n2 q1
  cases ha : argsOf es with
  | none => rw [ha] at hm; cases hm
  | some as =>
    cases hb : argsOf zs with
    | none => rw [ha, hb] at hm; cases hm
    | some bs =>
      rw [ha, hb] at hm
      dsimp only at hm
      split at hm
      · rename_i hn
        dsimp only at hm
        cases ef : f (gM as bs) g2 with
        | none => rw [ef] at hm; cases hm
        | some pr =>
          obtain ⟨r1, g3⟩ := pr
          rw [ef] at hm
          cases r1 with
          | er y => cases hm
          | ok fs =>
            cases hm
            have hA := avs_goes (k2.goes S.bd) (args_ok S.alB hv ha)
            have hB := args_ok S1.alB hu hb
            refine ⟨by rw [hA.len]; exact hn.1, by rw [hB.len]; exact hn.2, fun x dx hx hdx ne => ?_⟩
            obtain ⟨ws, e3, hW⟩ := hg _ _ _ x _ _ _ _ hn.1 hn.2 hA hB
            have hl2 : H2 l = some (.lst (g2.ns.map V.int)) := S2.ent l _ S2.lb S2.scr
            rw [e3]
            refine ⟨b, l, Bd B0 δ σ, H2, x, dx, g2, g', gM as bs, ws, fs, rfl, hl as bs hn.1 hn.2, rfl, hx, hdx, ne, hW, S2.bd, S2.alB, b2, S2.lb, hl2, ef, fun H' k3 b3 n3 hd => ⟨rfl, ?_⟩⟩
            exact q2 _ H' k3 b3 n3 hd
      · cases hm
/-- C(..) -/
def eMake (c : Str) (n : Nat) (f : List AV → M (List (Str × D))) (ma : DA) : DE := fun δ => mbind (ma δ) fun es => match argsOf es with
  | some as => if as.length = n then (fun g => match f as g with
    | some (.ok fs, g') => some (.ok (.val (.obj c fs)), g')
    | _ => none) else mno
  | _ => mno
theorem ae_make {n : Nat} {f : List AV → M (List (Str × D))} (h : AA K cl W ta ma) : AE K cl W (tMakeG C (spI K cl c C n f) W ta) (eMake c n f ma) := by
  intro b l B0 H0 δ g σ H r g' S hm0 Q q
  rcases mb_cases hm0 with ⟨x, e, rfl⟩ | ⟨es, g1, e, hm⟩
  · exact h b l B0 H0 δ g σ H _ _ S e _ q
  clear hm0
  refine h b l B0 H0 δ g σ H _ _ S e _ fun vs H1 k1 b1 n1 hv => ?_
  have S1 := S.kp k1 b1 n1
  have q1 := post_then k1 b1 n1 q
  cases ha : argsOf es with
  | none => rw [ha] at hm; cases hm
  | some as =>
    rw [ha] at hm
    dsimp only at hm
    split at hm
    · rename_i hn
      dsimp only at hm
      cases ef : f as g1 with
      | none => rw [ef] at hm; cases hm
      | some pr =>
        obtain ⟨r1, g3⟩ := pr
        rw [ef] at hm
        cases r1 with
        | er y => cases hm
        | ok fs =>
          cases hm
          have hA := args_ok S.alB hv ha
          intro x dx hx hdx ne
          have hl2 : H1 l = some (.lst (g1.ns.map V.int)) := S1.ent l _ S1.lb S1.scr
          refine ⟨b, l, Bd B0 δ σ, H1, x, dx, g1, g', as, vs, fs, rfl, hn, rfl, hx, hdx, ne, hA, S1.bd, S1.alB, b1, S1.lb, hl2, ef, fun H' k3 b3 n3 hd => ⟨rfl, ?_⟩⟩
          exact q1 _ H' k3 b3 n3 hd
    · cases hm
end
end Vi

set_option Elab.async false
set_option linter.all false
set_option maxRecDepth 100000
set_option maxHeartbeats 4000000
namespace Vi
open PySem PySem.Spec PyProof.Rows L2
/-! built-ins over lists -/
def asBl : List D → Option (List Bool)
  | [] => some []
  | .bl c :: ds => (asBl ds).map (c :: ·)
  | _ :: _ => none
def asInt : List D → Option (List Int)
  | [] => some []
  | .int c :: ds => (asInt ds).map (c :: ·)
  | _ :: _ => none
theorem datl_bl {G : Gd} {Bad : Addr → Prop} {H : Hp} : ∀ {vs : List V} {ds : List D} {bs : List Bool}, DatL G Bad H vs ds → asBl ds = some bs → vs = bs.map V.bl
  | _, _, bs, .nil, h => by cases h; rfl
  | _, _, bs, .cons (d := d) a r, h => by
    cases d with
    | bl c =>
      unfold asBl at h
      obtain ⟨bs', h1, rfl⟩ := Option.map_eq_some_iff.mp h
      obtain rfl := datbl a
      rw [datl_bl r h1]
      rfl
    | _ => cases h
theorem datl_int {G : Gd} {Bad : Addr → Prop} {H : Hp} : ∀ {vs : List V} {ds : List D} {bs : List Int}, DatL G Bad H vs ds → asInt ds = some bs → vs = bs.map V.int
  | _, _, bs, .nil, h => by cases h; rfl
  | _, _, bs, .cons (d := d) a r, h => by
    cases d with
    | int c =>
      unfold asInt at h
      obtain ⟨bs', h1, rfl⟩ := Option.map_eq_some_iff.mp h
      obtain rfl := datint a
      rw [datl_int r h1]
      rfl
    | _ => cases h
def lookL (e : EV) : Option (List D) := match e.look with
  | some (.lst ds) => some ds
  | _ => none
theorem lookL_of {e : EV} {ds : List D} (h : lookL e = some ds) : e.look = some (.lst ds) := by
  unfold lookL at h
  split at h
  · rename_i e1
    cases h
    exact e1
  · cases h
def allE (e : EV) : Option EV := (lookL e).bind fun ds => (asBl ds).map fun bs => .val (.bl (bs.all id))
def anyE (e : EV) : Option EV := (lookL e).bind fun ds => (asBl ds).map fun bs => .val (.bl (bs.any id))
def sumE (e : EV) : Option EV := (lookL e).bind fun ds => (asInt ds).map fun ns => .val (.int ns.sum)
/-- the greatest of integers, the least -/
def maxI : List Int → Option Int
  | [] => none
  | n :: ns => some (ns.foldl max n)
def minI : List Int → Option Int
  | [] => none
  | n :: ns => some (ns.foldl min n)
theorem foldl_max : ∀ (ns : List Int) (n : Int), (ns.foldl max n ∈ n :: ns) ∧ ∀ y ∈ n :: ns, y ≤ ns.foldl max n
  | [], n => ⟨by simp, by simp⟩
  | a :: ns, n => by
    obtain ⟨h1, h2⟩ := foldl_max ns (max n a)
    rw [List.foldl_cons]
    refine ⟨?_, fun y hy => ?_⟩
    · rcases List.mem_cons.mp h1 with h | h
      · rw [h]
        rcases Int.le_total n a with z | z
        · rw [Int.max_eq_right z]; simp
        · rw [Int.max_eq_left z]; simp
      · exact List.mem_cons_of_mem _ (List.mem_cons_of_mem _ h)
    · have hm := h2 (max n a) List.mem_cons_self
      rcases List.mem_cons.mp hy with h | h
      · rw [h]; exact Int.le_trans (Int.le_max_left _ _) hm
      · rcases List.mem_cons.mp h with h | h
        · rw [h]; exact Int.le_trans (Int.le_max_right _ _) hm
        · exact h2 y (List.mem_cons_of_mem _ h)
theorem foldl_min : ∀ (ns : List Int) (n : Int), (ns.foldl min n ∈ n :: ns) ∧ ∀ y ∈ n :: ns, ns.foldl min n ≤ y
  | [], n => ⟨by simp, by simp⟩
  | a :: ns, n => by
    obtain ⟨h1, h2⟩ := foldl_min ns (min n a)
    rw [List.foldl_cons]
    refine ⟨?_, fun y hy => ?_⟩
    · rcases List.mem_cons.mp h1 with h | h
      · rw [h]
        rcases Int.le_total n a with z | z
        · rw [Int.min_eq_left z]; simp
        · rw [Int.min_eq_right z]; simp
      · exact List.mem_cons_of_mem _ (List.mem_cons_of_mem _ h)
    · have hm := h2 (min n a) List.mem_cons_self
      rcases List.mem_cons.mp hy with h | h
      · rw [h]; exact Int.le_trans hm (Int.min_le_left _ _)
      · rcases List.mem_cons.mp h with h | h
        · rw [h]; exact Int.le_trans hm (Int.min_le_right _ _)
        · exact h2 y (List.mem_cons_of_mem _ h)
def maxE (e : EV) : Option EV := (lookL e).bind fun ds => (asInt ds).bind fun ns => (maxI ns).map fun m => .val (.int m)
def minE (e : EV) : Option EV := (lookL e).bind fun ds => (asInt ds).bind fun ns => (minI ns).map fun m => .val (.int m)
section
variable {K : PySem.W.Frag} {cl : Str → Option Addr} {W : WX}
theorem r1_all : R1ok K cl W (rAll K) allE := by
  intro b l B0 H0 δ g σ H H1 x e v S al k hv hf Q q
  obtain ⟨ds, h1, h2⟩ := Option.bind_eq_some_iff.mp hf
  obtain ⟨bs, h3, rfl⟩ := Option.map_eq_some_iff.mp h2
  obtain ⟨a, vs, rfl, h4, h5⟩ := (evok_items hv).1 (lookL_of h1)
  obtain rfl := datl_bl h5 h3
  exact ⟨a, bs, rfl, Or.inl (Or.inl h4), q _ H1 .refl S.bg (.bl _)⟩
theorem r1_any : R1ok K cl W (rAny K) anyE := by
  intro b l B0 H0 δ g σ H H1 x e v S al k hv hf Q q
  obtain ⟨ds, h1, h2⟩ := Option.bind_eq_some_iff.mp hf
  obtain ⟨bs, h3, rfl⟩ := Option.map_eq_some_iff.mp h2
  obtain ⟨a, vs, rfl, h4, h5⟩ := (evok_items hv).1 (lookL_of h1)
  obtain rfl := datl_bl h5 h3
  exact ⟨a, bs, rfl, Or.inl (Or.inl h4), q _ H1 .refl S.bg (.bl _)⟩
theorem r1_sum : R1ok K cl W (rSum K) sumE := by
  intro b l B0 H0 δ g σ H H1 x e v S al k hv hf Q q
  obtain ⟨ds, h1, h2⟩ := Option.bind_eq_some_iff.mp hf
  obtain ⟨bs, h3, rfl⟩ := Option.map_eq_some_iff.mp h2
  obtain ⟨a, vs, rfl, h4, h5⟩ := (evok_items hv).1 (lookL_of h1)
  obtain rfl := datl_int h5 h3
  exact ⟨a, bs, rfl, Or.inl (Or.inl h4), q _ H1 .refl S.bg (.int _)⟩
theorem r1_max : R1ok K cl W (rMax K) maxE := by
  intro b l B0 H0 δ g σ H H1 x e v S al k hv hf Q q
  obtain ⟨ds, h1, h2⟩ := Option.bind_eq_some_iff.mp hf
  obtain ⟨bs, h3, h3'⟩ := Option.bind_eq_some_iff.mp h2
  obtain ⟨m, h6, rfl⟩ := Option.map_eq_some_iff.mp h3'
  obtain ⟨a, vs, rfl, h4, h5⟩ := (evok_items hv).1 (lookL_of h1)
  obtain rfl := datl_int h5 h3
  cases bs with
  | nil => cases h6
  | cons n ns =>
    cases h6
    refine ⟨a, n :: ns, rfl, Or.inl (Or.inl h4), Nat.succ_pos _, fun m hm hy => ?_⟩
    obtain ⟨f1, f2⟩ := foldl_max ns n
    have : m = ns.foldl max n := Int.le_antisymm (f2 m hm) (hy _ f1)
    rw [this]
    exact q _ H1 .refl S.bg (.int _)
theorem r1_min : R1ok K cl W (rMin K) minE := by
  intro b l B0 H0 δ g σ H H1 x e v S al k hv hf Q q
  obtain ⟨ds, h1, h2⟩ := Option.bind_eq_some_iff.mp hf
  obtain ⟨bs, h3, h3'⟩ := Option.bind_eq_some_iff.mp h2
  obtain ⟨m, h6, rfl⟩ := Option.map_eq_some_iff.mp h3'
  obtain ⟨a, vs, rfl, h4, h5⟩ := (evok_items hv).1 (lookL_of h1)
  obtain rfl := datl_int h5 h3
  cases bs with
  | nil => cases h6
  | cons n ns =>
    cases h6
    refine ⟨a, n :: ns, rfl, Or.inl (Or.inl h4), Nat.succ_pos _, fun m hm hy => ?_⟩
    obtain ⟨f1, f2⟩ := foldl_min ns n
    have : m = ns.foldl min n := Int.le_antisymm (hy _ f1) (f2 m hm)
    rw [this]
    exact q _ H1 .refl S.bg (.int _)
/-- list(x), tuple(x) of a list or a tuple -/
abbrev rLstOf (K : PySem.W.Frag) : List V → Hp → VK → Prop := fun xs H Q => ∃ p ys, xs = [.ref p] ∧ (SqL K H p ys ∨ SqT K H p ys) ∧ ∀ l, H l = none → Q (.ref l) (upd H l (.lst ys))
abbrev rTupOf (K : PySem.W.Frag) : List V → Hp → VK → Prop := fun xs H Q => ∃ p ys, xs = [.ref p] ∧ ((SqL K H p ys ∧ ∀ l, H l = none → Q (.ref l) (upd H l (.tup ys))) ∨ (SqT K H p ys ∧ Q (.ref p) H))
def lstE (e : EV) : Option EV := match e.look with
  | some (.lst ds) => some (.nw (.lst ds))
  | some (.tup ds) => some (.nw (.lst ds))
  | _ => none
def tupE : EV → Option EV
  | .val (.lst ds) => some (.val (.tup ds))
  | .val (.tup ds) => some (.val (.tup ds))
  | .nw (.lst ds) => some (.val (.tup ds))
  | .bw (.lst ds) => some (.val (.tup ds))
  | _ => none
theorem new_lst {G : Gd} {B0 : Addr → Prop} {H0 H1 : Hp} {δ : DS} {g : Bag} {σ : L2.St} {p : Addr} {vs : List V} {ds : List D} (S : Sto G B0 H0 δ g σ H1) (hp : H1 p = none) (h : DatL G (Bd B0 δ σ) H1 vs ds) : DatL G (With (Bd B0 δ σ) p) (upd H1 p (.lst vs)) vs ds :=
  DatL.goes (fun a o n e => ⟨by rw [upd_ne (ne_of_none e hp)]; exact e, fun z => z.elim n (ne_of_none e hp)⟩) h
theorem look_items {G : Gd} {Bad : Addr → Prop} {H H' : Hp} {v : V} {e : EV} {ds : List D} (h : EVok G Bad H H' v e) : (e.look = some (.lst ds) → ∃ a vs, v = .ref a ∧ H' a = some (.lst vs) ∧ DatL G Bad H' vs ds) := (evok_items h).1
theorem r1_lst : R1ok K cl W (rLstOf K) lstE := by
  intro b l B0 H0 δ g σ H H1 x e v S al k hv hf Q q
  unfold lstE at hf
  have fin : ∀ {a : Addr} {vs : List V} {ds : List D}, DatL ⟨K, cl, b, l⟩ (Bd B0 δ σ) H1 vs ds → some (EV.nw (.lst ds)) = some e → ∀ p, H1 p = none → Q (.ref p) (upd H1 p (.lst vs)) := fun {a vs ds} hd he p hp => by
    cases he
    exact q _ _ (Kp.new hp) (bag_upd S.bg hp) ⟨p, _, rfl, hp, upd_same, .lst (new_lst S hp hd)⟩
  split at hf
  · rename_i ds e1
    obtain ⟨a, vs, rfl, h4, h5⟩ := (evok_items hv).1 e1
    exact ⟨a, vs, rfl, Or.inl (Or.inl (Or.inl h4)), fin (a := a) h5 hf⟩
  · rename_i ds e1
    obtain ⟨a, vs, rfl, h4, h5⟩ := (evok_items hv).2 e1
    exact ⟨a, vs, rfl, Or.inr h4, fin (a := a) h5 hf⟩
  · cases hf
theorem r1_tup : R1ok K cl W (rTupOf K) tupE := by
  intro b l B0 H0 δ g σ H H1 x e v S al k hv hf Q q
  have fin : ∀ {vs : List V} {ds : List D}, DatL ⟨K, cl, b, l⟩ (Bd B0 δ σ) H1 vs ds → some (EV.val (.tup ds)) = some e → ∀ p, H1 p = none → Q (.ref p) (upd H1 p (.tup vs)) := fun {vs ds} hd he p hp => by
    cases he
    refine q _ _ (Kp.new hp) (bag_upd S.bg hp) (.tupH (fun z => by have := S.alB p z; rw [hp] at this; cases this) upd_same ?_)
    exact DatL.goes (fun a o n e => ⟨by rw [upd_ne (ne_of_none e hp)]; exact e, n⟩) hd
  unfold tupE at hf
  split at hf
  · rename_i ds
    obtain ⟨a, vs, rfl, h4, h5⟩ := (evok_items hv).1 rfl
    exact ⟨a, vs, rfl, Or.inl ⟨Or.inl (Or.inl h4), fin h5 hf⟩⟩
  · rename_i ds
    cases hf
    obtain ⟨a, vs, rfl, h4, h5⟩ := (evok_items hv).2 rfl
    exact ⟨a, vs, rfl, Or.inr ⟨h4, q _ H1 .refl S.bg hv⟩⟩
  · rename_i ds
    obtain ⟨a, vs, rfl, h4, h5⟩ := (evok_items hv).1 rfl
    exact ⟨a, vs, rfl, Or.inl ⟨Or.inl (Or.inl h4), fin h5 hf⟩⟩
  · rename_i ds
    obtain ⟨a, vs, rfl, h4, h5⟩ := (evok_items hv).1 rfl
    exact ⟨a, vs, rfl, Or.inl ⟨Or.inl (Or.inl h4), fin h5 hf⟩⟩
  · cases hf
/-- x in xs, of flat values -/
def flatD : D → Bool
  | .non => true
  | .bl _ => true
  | .int _ => true
  | .str _ => true
  | _ => false
def eqFD : D → D → Bool
  | .non, .non => true
  | .bl a, .bl b => a == b
  | .bl a, .int b => (if a then 1 else 0) == b
  | .int a, .bl b => a == (if b then 1 else 0)
  | .int a, .int b => a == b
  | .str a, .str b => a == b
  | _, _ => false
theorem flat_v {G : Gd} {Bad : Addr → Prop} {H : Hp} {v : V} {d : D} (h : Dat G Bad H v d) (f : flatD d = true) : flatV v = true := by
  cases h <;> first | rfl | cases f
theorem eqF_v {G : Gd} {Bad Bad' : Addr → Prop} {H H' : Hp} {v w : V} {d e : D} (h : Dat G Bad H v d) (h' : Dat G Bad' H' w e) (f : flatD d = true) (f' : flatD e = true) : eqV v w = eqFD d e := by
  cases h <;> first | (cases f; done) | (cases h' <;> first | (cases f'; done) | rfl)
theorem flat_vs {G : Gd} {Bad : Addr → Prop} {H : Hp} : ∀ {vs : List V} {ds : List D}, DatL G Bad H vs ds → ds.all flatD = true → vs.all flatV = true
  | _, _, .nil, _ => rfl
  | _, _, .cons a r, f => by
    rw [List.all_cons, Bool.and_eq_true] at f ⊢
    exact ⟨flat_v a f.1, flat_vs r f.2⟩
theorem inV_v {G : Gd} {Bad Bad' : Addr → Prop} {H H' : Hp} {v : V} {d : D} (h : Dat G Bad' H' v d) (f : flatD d = true) : ∀ {vs : List V} {ds : List D}, DatL G Bad H vs ds → ds.all flatD = true → inV v vs = ds.any fun y => eqFD y d
  | _, _, .nil, _ => rfl
  | _, _, .cons a r, f' => by
    rw [List.all_cons, Bool.and_eq_true] at f'
    show (eqV _ _ || inV v _) = (eqFD _ _ || List.any _ _)
    rw [eqF_v a h f'.1 f, inV_v h f r f'.2]
def inD (d : D) (ds : List D) : Option Bool := if (flatD d && ds.all flatD) = true then some (ds.any fun y => eqFD y d) else none
def inF (neg : Bool) (x y : D) : Option EV := match y with
  | .lst ds => (inD x ds).map fun t => .val (.bl (if neg then !t else t))
  | .tup ds => (inD x ds).map fun t => .val (.bl (if neg then !t else t))
  | _ => none
def mIn (neg : Bool) := mL2 (inF neg)
theorem r2_in {neg : Bool} : R2ok K cl W (rIn K neg) (mIn neg) := by
  intro b l B0 H0 δ g σ H H1 x y v w r g' S al k hv hw hm Q q
  obtain ⟨dx, dy, e, ex, ey, hf, rfl, rfl⟩ := mL2_cases hm
  have hx := evok_look hv ex
  unfold inF at hf
  have fin : ∀ {a : Addr} {vs : List V} {ds : List D}, DatL ⟨K, cl, b, l⟩ (Bd B0 δ σ) H1 vs ds → ((inD dx ds).map fun t => EV.val (.bl (if neg then !t else t))) = some e → flatV v = true ∧ vs.all flatV = true ∧ Q (.bl (if neg then !inV v vs else inV v vs)) H1 := fun {a vs ds} hd he => by
    obtain ⟨t, h1, rfl⟩ := Option.map_eq_some_iff.mp he
    unfold inD at h1
    split at h1
    · rename_i hh
      rw [Bool.and_eq_true] at hh
      cases h1
      refine ⟨flat_v hx hh.1, flat_vs hd hh.2, ?_⟩
      rw [inV_v hx hh.1 hd hh.2]
      exact q _ H1 .refl S.bg rfl (.bl _)
    · cases h1
  split at hf
  · rename_i ds
    obtain ⟨a, vs, rfl, h4, h5⟩ := (evok_items hw).1 ey
    obtain ⟨f1, f2, f3⟩ := fin (a := a) h5 hf
    exact ⟨a, vs, rfl, Or.inl (Or.inl (Or.inl h4)), f1, f2, f3⟩
  · rename_i ds
    obtain ⟨a, vs, rfl, h4, h5⟩ := (evok_items hw).2 ey
    obtain ⟨f1, f2, f3⟩ := fin (a := a) h5 hf
    exact ⟨a, vs, rfl, Or.inr h4, f1, f2, f3⟩
  · cases hf
end
end Vi

set_option Elab.async false
set_option linter.all false
set_option maxRecDepth 100000
set_option maxHeartbeats 4000000
namespace Vi
open PySem PySem.Spec PyProof.Rows L2
section
variable {K : PySem.W.Frag} {cl : Str → Option Addr} {W : WX} {te ta tb : TE} {me ma mb : DE}
/-! truth of any value -/
def truD : D → Option Bool
  | .non => some false
  | .bl c => some c
  | .int i => some (i != 0)
  | .str s => if lineOk s.length = true then some ((s.length : Int) != 0) else none
  | .lst ds => some (!ds.isEmpty)
  | .tup ds => some (!ds.isEmpty)
  | .dct _ => none
  | .obj _ _ => none
def truE (e : EV) : Option Bool := e.look.bind truD
theorem datk_len {G : Gd} {Bad : Addr → Prop} {H : Hp} : ∀ {vs : List (Key × V)} {ds : List (Key × D)}, DatK G Bad H vs ds → vs.isEmpty = ds.isEmpty
  | _, _, .nil => rfl
  | _, _, .cons _ _ => rfl
theorem datl_emp {G : Gd} {Bad : Addr → Prop} {H : Hp} : ∀ {vs : List V} {ds : List D}, DatL G Bad H vs ds → vs.isEmpty = ds.isEmpty
  | _, _, .nil => rfl
  | _, _, .cons _ _ => rfl
theorem tru_v {G : Gd} {Bad : Addr → Prop} {H : Hp} {v : V} {d : D} {k : Bool} (h : Dat G Bad H v d) (t : truD d = some k) : TruV G.K v H k := by
  cases h with
  | non => cases t; rfl
  | bl c => cases t; rfl
  | int i => cases t; rfl
  | str s =>
    have t' : (if lineOk s.length = true then some ((s.length : Int) != 0) else none) = some k := t
    split at t'
    · rename_i hl
      cases t'
      exact ⟨line_of hl, rfl⟩
    · cases t'
  | lstH n h r =>
    cases t
    exact Or.inl ⟨_, Or.inl (Or.inl h), by rw [datl_emp r]⟩
  | tupH n h r =>
    cases t
    exact Or.inr (Or.inl ⟨_, Or.inl (Or.inl h), by rw [datl_emp r]⟩)
  | tupK h r =>
    cases t
    exact Or.inr (Or.inl ⟨_, sqT_no h, by rw [datl_emp r]⟩)
  | dct n h r => cases t
  | obj n h c r => cases t
def bTru (m : DE) : DB := fun δ => mbind (m δ) fun e => mof (truE e)
theorem ab_tru (h : AE K cl W te me) : AB K cl W (fun σ H Q => te σ H fun x H' => ∃ k, TruV K x H' k ∧ Q k H') (bTru me) := by
  intro b l B0 H0 δ g σ H r g' S hm Q q
  rcases mb_cases hm with ⟨x, e, rfl⟩ | ⟨ev, g1, e, hm1⟩
  · exact h b l B0 H0 δ g σ H _ _ S e _ q
  refine h b l B0 H0 δ g σ H _ _ S e _ fun v H1 k1 b1 n1 hv => ?_
  cases ht : truE ev with
  | none => rw [ht] at hm1; cases hm1
  | some k =>
    rw [ht] at hm1
    cases hm1
    obtain ⟨d, h1, h2⟩ := Option.bind_eq_some_iff.mp ht
    exact ⟨k, tru_v (evok_look hv h1) h2, q H1 k1 b1 n1⟩
def eNotT (m : DE) : DE := fun δ => mbind (m δ) fun e => mof ((truE e).map fun k => .val (.bl (!k)))
theorem ae_notT (h : AE K cl W te me) : AE K cl W (tNotT K te) (eNotT me) := by
  intro b l B0 H0 δ g σ H r g' S hm Q q
  rcases mb_cases hm with ⟨x, e, rfl⟩ | ⟨ev, g1, e, hm1⟩
  · exact h b l B0 H0 δ g σ H _ _ S e _ q
  refine h b l B0 H0 δ g σ H _ _ S e _ fun v H1 k1 b1 n1 hv => ?_
  cases ht : truE ev with
  | none => rw [ht] at hm1; cases hm1
  | some k =>
    rw [ht] at hm1
    cases hm1
    obtain ⟨d, h1, h2⟩ := Option.bind_eq_some_iff.mp ht
    exact ⟨k, tru_v (evok_look hv h1) h2, q _ H1 k1 b1 n1 (.bl _)⟩
/-- a or b of any values; what a gives is a thing that may be kept -/
def eOrT (a b : DE) : DE := fun δ => mbind (a δ) fun e => match truE e with
  | some true => mret e
  | some false => b δ
  | none => mno
theorem ae_orT (ha : AE K cl W ta ma) (hb : AE K cl W tb mb) : AE K cl W (tOrT K ta tb) (eOrT ma mb) := by
  intro b l B0 H0 δ g σ H r g' S hm Q q
  rcases mb_cases hm with ⟨x, e, rfl⟩ | ⟨ev, g1, e, hm1⟩
  · exact ha b l B0 H0 δ g σ H _ _ S e _ q
  refine ha b l B0 H0 δ g σ H _ _ S e _ fun v H1 k1 b1 n1 hv => ?_
  cases ht : truE ev with
  | none => rw [ht] at hm1; cases hm1
  | some k =>
    rw [ht] at hm1
    obtain ⟨d, h1, h2⟩ := Option.bind_eq_some_iff.mp ht
    refine ⟨k, tru_v (evok_look hv h1) h2, ?_⟩
    cases k with
    | true =>
      cases hm1
      exact q v H1 k1 b1 n1 hv
    | false => exact hb b l B0 H0 δ g1 σ H1 _ _ (S.kp k1 b1 n1) hm1 _ (post_then k1 b1 n1 q)
/-! is None -/
def isNon : EV → Option Bool
  | .val .non => some true
  | .val _ => some false
  | .nw _ => some false
  | .bw _ => some false
  | .bag => some false
  | .exc _ => some false
def mIsN (neg : Bool) : EV → EV → M EV := fun x y => match y with
  | .val .non => mof ((isNon x).map fun t => .val (.bl (if neg then !t else t)))
  | _ => mno
theorem non_v {G : Gd} {Bad : Addr → Prop} {H H' : Hp} {v : V} {e : EV} {t : Bool} (h : EVok G Bad H H' v e) (ht : isNon e = some t) : decide (v = .non) = t := by
  cases e with
  | val d =>
    have h' : Dat G Bad H' v d := h
    cases h' <;> (cases ht; simp)
  | nw ds =>
    obtain ⟨p, vs, rfl, _⟩ := h
    cases ht
    simp
  | bw ds =>
    obtain ⟨p, vs, rfl, _⟩ := h
    cases ht
    simp
  | bag =>
    have h' : v = V.ref G.b := h
    subst h'
    cases ht
    simp
  | exc a =>
    have h' : v = V.ref a := h
    subst h'
    cases ht
    simp
theorem r2_isN : R2ok K cl W (fun x y H Q => y = .non ∧ Q (.bl (decide (x = .non))) H) (mIsN false) := by
  intro b l B0 H0 δ g σ H H1 x y v w r g' S al k hv hw hm Q q
  unfold mIsN at hm
  split at hm
  · cases ht : isNon x with
    | none => rw [ht] at hm; cases hm
    | some t =>
      rw [ht] at hm
      cases hm
      have hw' : Dat ⟨K, cl, b, l⟩ (Bd B0 δ σ) H1 w .non := hw
      cases hw'
      refine ⟨rfl, ?_⟩
      rw [non_v hv ht]
      exact q _ H1 .refl S.bg rfl (.bl _)
  · cases hm
theorem r2_notN : R2ok K cl W (fun x y H Q => y = .non ∧ Q (.bl (!decide (x = .non))) H) (mIsN true) := by
  intro b l B0 H0 δ g σ H H1 x y v w r g' S al k hv hw hm Q q
  unfold mIsN at hm
  split at hm
  · cases ht : isNon x with
    | none => rw [ht] at hm; cases hm
    | some t =>
      rw [ht] at hm
      cases hm
      have hw' : Dat ⟨K, cl, b, l⟩ (Bd B0 δ σ) H1 w .non := hw
      cases hw'
      refine ⟨rfl, ?_⟩
      rw [non_v hv ht]
      exact q _ H1 .refl S.bg rfl (.bl _)
  · cases hm
/-! slices -/
def cutD (xs : List D) (lo hi : Option Int) : List D := (xs.drop (HT.sIx xs.length 0 lo)).take (HT.sIx xs.length xs.length hi - HT.sIx xs.length 0 lo)
theorem datl_dropN {G : Gd} {Bad : Addr → Prop} {H : Hp} : ∀ (n : Nat) {vs : List V} {ds : List D}, DatL G Bad H vs ds → DatL G Bad H (vs.drop n) (ds.drop n)
  | 0, _, _, h => h
  | n + 1, _, _, .nil => by rw [List.drop_nil, List.drop_nil]; exact .nil
  | n + 1, _, _, .cons _ r => datl_dropN n r
theorem datl_take {G : Gd} {Bad : Addr → Prop} {H : Hp} : ∀ (n : Nat) {vs : List V} {ds : List D}, DatL G Bad H vs ds → DatL G Bad H (vs.take n) (ds.take n)
  | 0, _, _, _ => by rw [List.take_zero, List.take_zero]; exact .nil
  | n + 1, _, _, .nil => by rw [List.take_nil, List.take_nil]; exact .nil
  | n + 1, _, _, .cons a r => by rw [List.take_succ_cons, List.take_succ_cons]; exact .cons a (datl_take n r)
theorem datl_cut {G : Gd} {Bad : Addr → Prop} {H : Hp} {vs : List V} {ds : List D} {lo hi : Option Int} (h : DatL G Bad H vs ds) : DatL G Bad H (cutV vs lo hi) (cutD ds lo hi) := by
  unfold cutV cutD
  rw [h.len]
  exact datl_take _ (datl_dropN _ h)
abbrev DO := DS → M (Option Int)
def oNo : DO := fun _ => mret none
def oSo (m : DE) : DO := fun δ => mbind (m δ) fun e => match e with
  | .val (.int i) => mret (some i)
  | _ => mno
def PostO (G : Gd) (Bad : Addr → Prop) (W : WX) (σ : L2.St) (H : Hp) (g g' : Bag) (Q : Option Int → Hp → Prop) : Rs (Option Int) → Prop
  | .ok c => ∀ H', Kp G H H' → BagAt G H' g' → g'.ns = g.ns → Q c H'
  | .er x => ∀ cls dx H', Kp G H H' → BagAt G H' g' → g'.ns = g.ns → ExAt G Bad H' cls dx x → W cls dx σ H'
def AO (K : PySem.W.Frag) (cl : Str → Option Addr) (W : WX) (tt : TO) (m : DO) : Prop := ∀ (b l : Addr) B0 H0 δ g σ H r g', Sto ⟨K, cl, b, l⟩ B0 H0 δ g σ H → m δ g = some (r, g') → ∀ Q, PostO ⟨K, cl, b, l⟩ (Bd B0 δ σ) W σ H g g' Q r → tt σ H Q
theorem ao_no : AO K cl W tNoPart oNo := by
  intro b l B0 H0 δ g σ H r g' S hm Q q
  cases hm
  exact q H .refl S.bg rfl
theorem ao_so (h : AE K cl W te me) : AO K cl W (tPart te) (oSo me) := by
  intro b l B0 H0 δ g σ H r g' S hm Q q
  rcases mb_cases hm with ⟨x, e, rfl⟩ | ⟨ev, g1, e, hm1⟩
  · exact h b l B0 H0 δ g σ H _ _ S e _ q
  refine h b l B0 H0 δ g σ H _ _ S e _ fun v H1 k1 b1 n1 hv => ?_
  split at hm1
  · cases hm1
    exact ⟨_, datint (show Dat _ _ _ _ (.int _) from hv), q H1 k1 b1 n1⟩
  · cases hm1
def slD (lo hi : Option Int) : D → Option EV
  | .lst ds => some (.nw (.lst (cutD ds lo hi)))
  | .tup ds => some (.val (.tup (cutD ds lo hi)))
  | _ => none
def eSl (me : DE) (ml mh : DO) : DE := fun δ => mbind (me δ) fun e => mbind (ml δ) fun lo => mbind (mh δ) fun hi => match e.look with
  | some d => mof (slD lo hi d)
  | none => mno
def rSlU (K : PySem.W.Frag) : V → Option Int → Option Int → Hp → VK → Prop := fun x lo hi H Q => rSlL K x lo hi H Q ∨ rSlA K x lo hi H Q
theorem ae_sl {tl th : TO} {ml mh : DO} (h : AE K cl W te me) (hl : AO K cl W tl ml) (hh : AO K cl W th mh) : AE K cl W (tSl (rSlU K) te tl th) (eSl me ml mh) := by
  intro b l B0 H0 δ g σ H r g' S hm Q q
  rcases mb_cases hm with ⟨x, e, rfl⟩ | ⟨ev, g1, e, hm1⟩
  · exact h b l B0 H0 δ g σ H _ _ S e _ q
  refine h b l B0 H0 δ g σ H _ _ S e _ fun v H1 k1 b1 n1 hv => ?_
  have S1 := S.kp k1 b1 n1
  have q1 := post_then k1 b1 n1 q
  rcases mb_cases hm1 with ⟨x, e2, rfl⟩ | ⟨lo, g2, e2, hm2⟩
  · exact hl b l B0 H0 δ g1 σ H1 _ _ S1 e2 _ q1
  refine hl b l B0 H0 δ g1 σ H1 _ _ S1 e2 _ fun H2 k2 b2 n2 => ?_
  have S2 := S1.kp k2 b2 n2
  have q2 := post_then k2 b2 n2 q1
  rcases mb_cases hm2 with ⟨x, e3, rfl⟩ | ⟨hi, g3, e3, hm3⟩
  · exact hh b l B0 H0 δ g2 σ H2 _ _ S2 e3 _ q2
  refine hh b l B0 H0 δ g2 σ H2 _ _ S2 e3 _ fun H3 k3 b3 n3 => ?_
  have S3 := S2.kp k3 b3 n3
  have q3 := post_then k3 b3 n3 q2
  have hv3 := evok_kp S.bd S.bg.some (k2.trans k3) hv
  cases hk : ev.look with
  | none => rw [hk] at hm3; cases hm3
  | some d =>
    rw [hk] at hm3
    cases d with
    | lst ds =>
      cases hm3
      obtain ⟨a, vs, rfl, h4, h5⟩ := (evok_items hv3).1 hk
      refine Or.inl ⟨a, vs, rfl, Or.inl (Or.inl h4), fun p hp => ?_⟩
      exact q3 _ _ (Kp.new hp) (bag_upd b3 hp) rfl ⟨p, _, rfl, hp, upd_same, .lst (new_lst S3 hp (datl_cut h5))⟩
    | tup ds =>
      cases hm3
      obtain ⟨a, vs, rfl, h4, h5⟩ := (evok_items hv3).2 hk
      refine Or.inr ⟨a, vs, rfl, h4, fun hf => ?_, fun hf p hp => ?_⟩
      · have e5 : cutD ds lo hi = ds := by
          unfold cutD
          rw [← h5.len, hf.1, hf.2, List.drop_zero, Nat.sub_zero, h5.len, List.take_length]
        rw [e5] at q3
        have hD : Dat ⟨K, cl, b, l⟩ (Bd B0 δ σ) H3 (.ref a) (.tup ds) := by
          cases ev with
          | val d => cases hk; exact hv3
          | nw es => cases hk; obtain ⟨_, _, _, _, _, z⟩ := hv3; cases z
          | bw es => cases hk; obtain ⟨_, _, _, _, _, _, z⟩ := hv3; cases z
          | bag => cases hk
          | exc y => cases hk
        exact q3 _ H3 .refl b3 rfl hD
      · refine q3 _ _ (Kp.new hp) (bag_upd b3 hp) rfl (.tupH (fun z => by have := S3.alB p z; rw [hp] at this; cases this) upd_same ?_)
        exact DatL.goes (fun a o n e => ⟨by rw [upd_ne (ne_of_none e hp)]; exact e, n⟩) (datl_cut h5)
    | _ => cases hm3
/-! x op= e, a, b = e1, e2 -/
def augK (i : Nat) (f : Int → Int → Int) (a : Int) : EV → DT := fun e δ g => match e with
  | .val (.int c) => some (.nx (δ.set i (some (.val (.int (f a c))))), g)
  | _ => none
def sAugI (i : Nat) (f : Int → Int → Int) (me : DE) : DT := fun δ g => match (δ[i]? : Option (Option SV)) with
  | some (some (SV.val (D.int a))) => sOn me (augK i f a) δ g
  | _ => none
theorem as_aug {i : Nat} {f : Int → Int → Int} (h : AE K cl W te me) : AS K cl W (tAug i te (ipI f)) (sAugI i f me) := by
  intro b l B0 H0 δ g σ H o g' S hm Dn q
  unfold sAugI at hm
  split at hm
  · rename_i a ha
    obtain ⟨v, h1, h2⟩ := S.val i _ ha
    obtain rfl := datint h2
    refine ⟨_, h1, ?_⟩
    refine as_on (f := augK i f a) (tf := fun y Dn σ H1 => ipI f (.int a) y H1 fun z H2 => Dn.nx (σ.set i (some z)) H2) h (fun b l B0 H0 δ g g1 σ H H1 e v o g' S k bg n hv h Dn q => ?_) b l B0 H0 δ g σ H o g' S hm Dn q
    unfold augK at h
    split at h
    · cases h
      refine ⟨_, _, rfl, datint (show Dat _ _ _ _ (.int _) from hv), q _ H1 ((S.kp k bg n).set (.int _))⟩
    · cases h
  · cases hm
/-- a, b = e1, e2 -/
def sPar (i j : Nat) (ma : DA) : DT := fun δ g => match ma δ g with
  | none => none
  | some (.er x, g') => some (.er δ x, g')
  | some (.ok es, g') => match keepL es with
    | some [a, c] => some (.nx ((δ.set i (some (.val a))).set j (some (.val c))), g')
    | _ => none
theorem as_par {i j : Nat} {tA : TA} {ma : DA} (h : AA K cl W tA ma) : AS K cl W (tPar i j tA) (sPar i j ma) := by
  intro b l B0 H0 δ g σ H o g' S hm Dn q
  unfold sPar at hm
  cases e : ma δ g with
  | none => rw [e] at hm; cases hm
  | some pr =>
    obtain ⟨r, g1⟩ := pr
    rw [e] at hm
    cases r with
    | er x =>
      cases hm
      exact h b l B0 H0 δ g σ H _ _ S e _ fun c d H' k bg n hx => q c d σ H' (S.kp k bg n) hx
    | ok es =>
      refine h b l B0 H0 δ g σ H _ _ S e _ fun vs H1 k1 b1 n1 hv => ?_
      have S1 := S.kp k1 b1 n1
      dsimp only at hm
      split at hm
      · rename_i a c hk
        cases hm
        have hd := evs_keepL S.alB hv hk
        cases hd with
        | cons h1 r =>
          cases r with
          | cons h2 r =>
            cases r
            have S2 := S1.set (i := i) h1
            refine ⟨_, _, rfl, q _ H1 (S2.set (i := j) (Dat.goes (goes_less fun a z => ?_) h2))⟩
            exact bd_set_sub (fun ds z => by cases z) z
      · cases hm
/-- a, b = [..], e2 where a's list is changed later, e2 a plain value -/
def sParO (i j : Nat) (ma : DA) : DT := fun δ g => match ma δ g with
  | none => none
  | some (.er x, g') => some (.er δ x, g')
  | some (.ok [.nw ds, .val c], g') => if plainE (.val c) = true then some (.nx ((δ.set i (some (.own ds))).set j (some (.val c))), g') else none
  | _ => none
theorem as_parO {i j : Nat} {tA : TA} {ma : DA} (h : AA K cl W tA ma) : AS K cl W (tPar i j tA) (sParO i j ma) := by
  intro b l B0 H0 δ g σ H o g' S hm Dn q
  unfold sParO at hm
  cases e : ma δ g with
  | none => rw [e] at hm; cases hm
  | some pr =>
    obtain ⟨r, g1⟩ := pr
    rw [e] at hm
    cases r with
    | er x =>
      cases hm
      exact h b l B0 H0 δ g σ H _ _ S e _ fun c d H' k bg n hx => q c d σ H' (S.kp k bg n) hx
    | ok es =>
      refine h b l B0 H0 δ g σ H _ _ S e _ fun vs H1 k1 b1 n1 hv => ?_
      split at hm
      · cases hm
      · rename_i x z1
        cases z1
      · rename_i ds c g2 z1
        cases z1
        split at hm
        · rename_i hp
          cases hm
          cases hv with
          | cons h1 r =>
            cases r with
            | cons h2 r =>
              cases r
              have S2 := S.setOwn (i := i) k1 b1 n1 h1
              exact ⟨_, _, rfl, q _ H1 (S2.set (i := j) (show Dat _ _ _ _ c from plain_any (H2 := H1) (e := .val c) h2 hp))⟩
        · cases hm
      · cases hm
end
end Vi

set_option Elab.async false
set_option linter.all false
set_option maxRecDepth 100000
set_option maxHeartbeats 4000000
namespace Vi
open PySem PySem.Spec PyProof.Rows L2
/-! raise C(e) of an own class whose __init__ keeps e in a field -/
section
variable {P : Program} {w : World} {K : PySem.W.Frag} {mg : Str → Option Value} {base : Heap}
theorem fnK_of {x qual : Str} {st : Stmt} {f : Addr} {fd : FuncData} {N ps : List Str} {k : Nat} {sp : Sp} (F : Fun K x qual st f fd) (S : FnScope N ps (defScope st)) (len : ∀ vs H Q E, sp vs H Q E → vs.length = ps.length)
    (hbody : ∀ (cdv : Value) (A : Around) (outer : List Env) (s : Shared) (H : Hp) (vs : List V) (Q : VK) (E : XK), Room k (A.deeper (envOfC qual (defScope st) s.heap.objs.size f cdv)) → sp vs H Q E →
      ∃ t, PSs (cxOf (L2.CX P w) P w K mg base N qual (defScope st) f cdv A outer s H E) (defBody st) t ∧ t { nx := fun _ H' => Q .non H', rt := Q } (L2.start N vs) H) : FnOk P w K mg base (L2.CX P w) (k + 1) f fd ps sp := by
  obtain ⟨oc, od, kV, doc, pm, an, cdv, ct, osl, rfl, lk, hcd⟩ := F.ex
  refine ⟨len, fun A outer s H args us vs Q E hr e0 hb r hsp => ?_⟩
  have hl := len _ _ _ _ hsp
  have kin : K.In s.heap := e0.mod.kin.keeps fun b o e => (e0.bs b o e).1
  have lim : s.heap.NoLimit := e0.mod.nolimit.keeps fun b o e => (e0.bs b o e).1
  have kinds : ∀ y ∈ ps.zip us, (defScope st).names.lookup y.1 = some .local ∨ ((defScope st).names.lookup y.1 = some .cell ∧ ((cellsFrom (s.heap.objs.size + 1) (defScope st).names []).lookup y.1).isSome = true) := by
    rintro ⟨n, v⟩ hy
    rcases S.par n (List.of_mem_zip hy).1 with q | q
    · exact Or.inl q
    · exact Or.inr ⟨q, PySem.W.cellsFrom_some _ _ _ (Or.inl q)⟩
  refine codeAny_call_function hr.depth (kin _ _ lk) rfl S.co S.gen rfl (PySem.W.codeRec_of kin hcd) (hb _ _ _ _ ?_)
  refine wpAny_newFunctionEnv_cells S.kind kinds fun env he s1 xc => ?_
  subst he
  refine ⟨lim.keeps xc.toInCall.keep, codeAny_func ?_⟩
  obtain ⟨t, ht, hq⟩ := hbody cdv A outer s H vs Q E (hr.deeper _) hsp
  have I := inv_start (CX := L2.CX P w) (N := N) (qual := qual) (f := f) (cd := cdv) (E := E) S hr.hd e0 hl r xc
  refine wpAny_mono (ht.run [] s1 (L2.start N vs) H _ I hq) (fun fl s' hs => ?_) fun e s' hs => hs
  cases fl with
  | ret u =>
    obtain ⟨v, σ', H', J, rv, q⟩ := hs
    exact ⟨v, H', J.os, J.bare, J.base, J.hok, rv, q⟩
  | next =>
    obtain ⟨σ', H', J, q⟩ := hs
    exact ⟨.non, H', J.os, J.bare, J.base, J.hok, rfl, q⟩
  | brk =>
    obtain ⟨_, _, _, q⟩ := hs
    exact q.elim
  | cont =>
    obtain ⟨_, _, _, q⟩ := hs
    exact q.elim
/-- the __init__'s promise -/
def spX (K : PySem.W.Frag) (C : Addr) (f : Str) : Sp := fun vs H Q _ => ∃ a y, vs = [.ref a, y] ∧ OexC K C ∧ PySem.W.findIn K (.ref C) f = some none ∧ H a = some (exo a C none) ∧ ∀ dx, H dx = none → dx ≠ a → Q .non (upd (upd H dx (exd dx [(f, y)])) a (exo a C (some dx)))
theorem fnX1 {x qual p f : Str} {st : Stmt} {fa C : Addr} {fd : FuncData} {k : Nat} (F : Fun K x qual st fa fd) (S : FnScope ["self", p] ["self", p] (defScope st))
    (hbody : ∀ (cdv : Value) (A : Around) (outer : List Env) (s : Shared) (H : Hp) (E : XK), PSs (cxOf (L2.CX P w) P w K mg base ["self", p] qual (defScope st) fa cdv A outer s H E) (defBody st) (tOst K f (tVar 0) (tVar 1))) :
    FnOk P w K mg base (L2.CX P w) (k + 1) fa fd ["self", p] (spX K C f) := by
  refine fnK_of F S (fun vs H Q E h => by obtain ⟨a, y, rfl, _⟩ := h; rfl) fun cdv A outer s H vs Q E hr h => ?_
  obtain ⟨a, y, rfl, T, hno, ha, q⟩ := h
  exact ⟨_, hbody cdv A outer s H E, y, rfl, .ref a, rfl, a, C, rfl, T, hno, Or.inl ⟨ha, fun dx hn ne => q dx hn ne⟩⟩
end
def tRaise1 (C : Addr) (sp : Sp) (W : WX) (ta : TA) : TS := fun _ σ H => tMkO C sp [] ta σ H fun cls d H' => W cls d σ H'
def sRaise1 (c f : Str) (me : DE) : DT := sOn me fun e δ g => e.keep.map fun d => (.er δ ⟨c, [(f, d)]⟩, g)
section
variable {K : PySem.W.Frag} {cl : Str → Option Addr} {W : WX} {te : TE} {me : DE} {C : Addr} {c f : Str}
theorem as_raise1 (hc : cl c = some C) (T : OexC K C) (hno : PySem.W.findIn K (.ref C) f = some none) (h : AE K cl W te me) : AS K cl W (tRaise1 C (spX K C f) W (tCons te tNil)) (sRaise1 c f me) := by
  refine as_on (f := fun e δ g => e.keep.map fun d => (.er δ ⟨c, [(f, d)]⟩, g)) (tf := fun v (Dn : Ends) σ H1 => (fun vs H1 => vs.length ≤ 1000 ∧ ∀ a, H1 a = none → spX K C f (.ref a :: (vs ++ [])) (upd H1 a (exo a C none))
  (fun v H2 => v = .non ∧ ∃ (d : Addr) (fs : List (Str × V)), H2 a = some (exo a C (some d)) ∧ H2 d = some (exd d fs) ∧ H1 d = none ∧ W (.ref C) (some d) σ (upd (del H2 a) d (.xd fs))) (fun _ _ _ => False)) [v] H1) h fun b l B0 H0 δ g g1 σ H H1 e v o g' S k bg n hv h Dn q => ?_
  cases hk : e.keep with
  | none => rw [hk] at h; cases h
  | some d =>
    rw [hk] at h
    cases h
    have hd := evok_keep S.alB hv hk
    have S1 := S.kp k bg n
    refine ⟨by show 1 ≤ 1000; decide, fun a ha => ⟨a, v, rfl, T, hno, upd_same, fun dx hdx ne => ⟨rfl, dx, [(f, v)], upd_same, ?_, ?_, ?_⟩⟩⟩
    · rw [upd_ne ne, upd_same]
    · rw [upd_ne ne] at hdx
      exact hdx
    · rw [upd_ne ne] at hdx
      have e1 : upd (del (upd (upd (upd H1 a (exo a C none)) dx (exd dx [(f, v)])) a (exo a C (some dx))) a) dx (.xd [(f, v)]) = upd H1 dx (.xd [(f, v)]) := by
        funext z
        by_cases z1 : z = dx
        · subst z1
          rw [upd_same, upd_same]
        · rw [upd_ne z1, upd_ne z1]
          by_cases z2 : z = a
          · subst z2
            rw [del_same, ha]
          · rw [del_ne z2, upd_ne z2, upd_ne z1, upd_ne z2]
      rw [e1]
      have S2 := S1.kp (Kp.new (o := .xd [(f, v)]) hdx) (bag_upd bg hdx) rfl
      refine q (.ref C) (some dx) σ _ S2 ⟨C, hc, rfl, by simp, [(f, v)], upd_same, fun z => ?_, .cons (Dat.goes (fun a o n e => ⟨by rw [upd_ne (ne_of_none e hdx)]; exact e, n⟩) hd) .nil⟩
      have := S1.alB dx z
      rw [hdx] at this
      cases this
end
theorem sl_U {X : Cx} : SlR X (rSlU X.K) := SlR.or sl_list sl_tupA
theorem bt_all : bootBuiltins "all" = some (.builtin "all") := by decide +kernel
theorem bt_any : bootBuiltins "any" = some (.builtin "any") := by decide +kernel
theorem bt_sum : bootBuiltins "sum" = some (.builtin "sum") := by decide +kernel
theorem bt_max : bootBuiltins "max" = some (.builtin "max") := by decide +kernel
theorem bt_min : bootBuiltins "min" = some (.builtin "min") := by decide +kernel
theorem passes_no {X : Cx} : Passes (L2.CX X.prog X.w) X (fun _ _ _ => False) := fun pins σ H s e s' I h => by
  obtain ⟨_, _, _, _, _, _, _, _, _, _, _, _, z⟩ := h
  exact z.elim
/-- an own error class whose __init__ keeps its one argument in the field f -/
structure Xd (P : Program) (w : World) (base : Heap) (K : PySem.W.Frag) (mg : Str → Option Value) (cl : Str → Option Addr) (x f p : Str) (C fI : Addr) (fd : FuncData) : Prop where
  at_ : mg x = some (.ref C)
  cc : cl x = some C
  T : OexC K C
  iC : PySem.W.findIn K (.ref C) "__init__" = some (some (.ref fI))
  tI : PySem.W.typeIn K (.ref fI) = some (.type "function")
  no : PySem.W.findIn K (.ref C) f = some none
  F : FnOk P w K mg base (L2.CX P w) 1 fI fd ["self", p] (spX K C f)
  b : Binds K fd ["self", p] []
theorem ps_raise1 {X : Cx} {W : WX} {x f p : Str} {C fI : Addr} {fd : FuncData} {cl : Str → Option Addr} {pos pos' pn : Pos} {e : Expr} {te : TE} (D : Xd X.prog X.w X.base X.K X.mg cl x f p C fI fd) (hc : X.calm = true) (tk : Takes X W) (hr : GRoom 2 X.A) (hg : Gl X x) (he : PE X e te)
    (hdb : (x == ("__debug__" : Str)) = false := by decide) (hs : starEach [e] X.env = (false, eval e X.env) :: starEach [] X.env := by rfl) (hpl : (backTo pos (starEach [] X.env)).any (·.1) = false := by rfl) :
    PS X (.Raise (some (.Call (.Name x pn) [e] [] pos)) none pos') (tRaise1 C (spX X.K C f) W (tCons te tNil)) :=
  ps_raise hc tk (pmk_oex (dvs := []) D.T D.iC D.tI D.F hr.r D.b .nil passes_no hg D.at_ (pa_cons he pa_nil hs) hdb hs hpl)
end Vi

set_option Elab.async false
set_option linter.all false
set_option maxRecDepth 100000
set_option maxHeartbeats 4000000
namespace Vi
open PySem PySem.Spec PyProof.Rows L2
/-- an own class -/
structure Kc (K : PySem.W.Frag) (mg : Str → Option Value) (cl : Str → Option Addr) (x : Str) (C : Addr) : Prop where
  at_ : mg x = some (.ref C)
  cc : cl x = some C
  kc : Cls K C
/-- its property f: the getter's meaning is m -/
def Pc (P : Program) (w : World) (K : PySem.W.Frag) (mg : Str → Option Value) (base : Heap) (cl : Str → Option Addr) (k : Nat) (C : Addr) (f : Str) (m : MF) : Prop :=
  ∃ (p g : Addr) (fd : FuncData), PropOf K C f p g ∧ FnG P w K mg base k g fd ["self"] (spM K cl 1 m) ∧ Binds K fd ["self"] []
/-- its method: as a def's meaning, the instance first -/
def Mc (P : Program) (w : World) (K : PySem.W.Frag) (mg : Str → Option Value) (base : Heap) (cl : Str → Option Addr) (k : Nat) (C : Addr) (f : Str) (ps : List Str) (m : MF) : Prop :=
  ∃ (g : Addr) (fd : FuncData), Meth K C f g ∧ FnG P w K mg base k g fd ps (spM K cl ps.length m) ∧ Binds K fd ps []
section
variable {X : Cx} {k j : Nat} {C : Addr} {m : MF} {f x : Str} {ps : List Str} {cl : Str → Option Addr} {pos apos : Pos} {e o : Expr} {es : List Expr} {te : TE} {t : TA} {W : WX}
theorem pe_propC (D : Kc X.K X.mg cl x C) (p : Pc X.prog X.w X.K X.mg X.base cl k C f m) (hr : GRoom j X.A) (hk : k + 1 ≤ j) (he : PE X e te) (hab : attributeBase e f X.env (eval e X.env) = eval e X.env := by rfl) : PE X (.Attribute e f pos) (tPropG C (spM X.K cl 1 m) te) := by
  obtain ⟨p, g, fd, h1, h2, h3⟩ := p
  exact pe_propG he D.kc h1 h2 (hr.mono hk) h3 hab
theorem pe_fldC (D : Kc X.K X.mg cl x C) (he : PE X e te) (hab : attributeBase e f X.env (eval e X.env) = eval e X.env := by rfl) : PE X (.Attribute e f pos) (tFld X.K te f) := pe_fld he hab
theorem pe_methC {pl : Sem Bool} (D : Kc X.K X.mg cl x C) (M : Mc X.prog X.w X.K X.mg X.base cl k C f ps m) (hr : GRoom j X.A) (hk : k ≤ j) (tk : Takes X W) (he : PE X o te) (ha : PA X (e :: es) t)
    (hst : starEach (e :: es) X.env = (false, eval e X.env) :: starEach es X.env := by rfl) (hpl : (backTo pos (starEach es X.env)).any (·.1) = false := by rfl)
    (ht : eval (.Call (.Attribute o f apos) (e :: es) [] pos) X.env = (do
      let ov ← eval o X.env
      standAt apos.atName
      let (f, first) ← holding [ov] (getMethod ov f pl)
      callWith pos f first (backTo pos (starEach (e :: es) X.env)) (backToKw pos (keywordEach [] X.env))) := by rfl) :
    PE X (.Call (.Attribute o f apos) (e :: es) [] pos) (tMethG C f (spM X.K cl ps.length m) W te t) := by
  obtain ⟨g, fd, h1, h2, h3⟩ := M
  exact pe_methG he D.kc h1 h2 (hr.mono hk) h3 tk ha hst hpl ht
theorem pe_methC0 {pl : Sem Bool} (D : Kc X.K X.mg cl x C) (M : Mc X.prog X.w X.K X.mg X.base cl k C f ps m) (hr : GRoom j X.A) (hk : k ≤ j) (tk : Takes X W) (he : PE X o te)
    (ht : eval (.Call (.Attribute o f apos) [] [] pos) X.env = (do
      let ov ← eval o X.env
      standAt apos.atName
      let (f, first) ← holding [ov] (getMethod ov f pl)
      callWith pos f first (backTo pos (starEach [] X.env)) (backToKw pos (keywordEach [] X.env))) := by rfl) :
    PE X (.Call (.Attribute o f apos) [] [] pos) (tMethG C f (spM X.K cl ps.length m) W te tNil) := by
  obtain ⟨g, fd, h1, h2, h3⟩ := M
  exact pe_methG0 he D.kc h1 h2 (hr.mono hk) h3 tk ht
end
end Vi

set_option Elab.async false
set_option linter.all false
set_option maxRecDepth 100000
set_option maxHeartbeats 4000000
namespace Vi
open PySem PySem.Spec PyProof.Rows L2
/-! dicts, looked into -/
def valD (kvs : List (Key × D)) (k : Key) : Option D := (kvs.find? fun kv => decide (kv.1 = k)).map (·.2)
theorem datk_val {G : Gd} {Bad : Addr → Prop} {H : Hp} {k : Key} : ∀ {vs : List (Key × V)} {ds : List (Key × D)}, DatK G Bad H vs ds → (∀ d, valD ds k = some d → ∃ v, valV vs k = some v ∧ Dat G Bad H v d) ∧ (valD ds k = none → valV vs k = none)
  | _, _, .nil => ⟨(fun d h => by cases h), fun _ => rfl⟩
  | _, _, .cons (k := k') (v := v) (d := d') a r => by
    unfold valD valV
    rw [List.find?_cons, List.find?_cons]
    by_cases e : k' = k
    · rw [decide_eq_true (show (k', d').1 = k from e)]
      exact ⟨(fun d h => by cases h; exact ⟨v, rfl, a⟩), (fun h => by cases h)⟩
    · rw [decide_eq_false (show ¬ (k', d').1 = k from e)]
      exact datk_val r
theorem evok_dct {G : Gd} {Bad : Addr → Prop} {H H' : Hp} {v : V} {e : EV} {kvs : List (Key × D)} (h : EVok G Bad H H' v e) (k : e.look = some (.dct kvs)) : ∃ a vs, v = .ref a ∧ Rd H' a (.dK vs) ∧ DatK G Bad H' vs kvs := by
  cases e with
  | val d' =>
    cases k
    have h' : Dat G Bad H' v (.dct kvs) := h
    cases h' with
    | dct n h2 r => exact ⟨_, _, rfl, h2, r⟩
  | nw es =>
    cases k
    obtain ⟨p, vs, rfl, h1, h2, h3⟩ := h
    obtain ⟨ws, rfl, h3'⟩ := h3.fdc
    exact ⟨p, ws, rfl, Or.inl h2, DatK.goes (goes_less fun a z => Or.inl z) h3'⟩
  | bw es =>
    cases k
    obtain ⟨p, vs, rfl, h1, h2, h3, h4⟩ := h
    obtain ⟨ws, rfl, h4'⟩ := h4.fdc
    exact ⟨p, ws, rfl, Or.inl h3, h4'⟩
  | bag => cases k
  | exc x => cases k
section
variable {K : PySem.W.Frag} {cl : Str → Option Addr} {W : WX} {te ta tb tc : TE} {ma mb mc : DE}
/-- d[k], there -/
def dgetD (x y : EV) : Option EV := match x.look with
  | some (.dct kvs) => (keyE y).bind fun k => (valD kvs k).map .val
  | _ => none
def eDGet (a c : DE) : DE := fun δ => mbind (a δ) fun x => mbind (c δ) fun y => mof (dgetD x y)
theorem ae_dget (ha : AE K cl W ta ma) (hb : AE K cl W tb mb) : AE K cl W (tDGet ta tb) (eDGet ma mb) := by
  intro b l B0 H0 δ g σ H r g' S hm Q q
  rcases mb_cases hm with ⟨x, e, rfl⟩ | ⟨ev, g1, e, hm1⟩
  · exact ha b l B0 H0 δ g σ H _ _ S e _ q
  refine ha b l B0 H0 δ g σ H _ _ S e _ fun v H1 k1 b1 n1 hv => ?_
  have S1 := S.kp k1 b1 n1
  have q1 := post_then k1 b1 n1 q
  rcases mb_cases hm1 with ⟨x, e2, rfl⟩ | ⟨ev2, g2, e2, hm2⟩
  · exact hb b l B0 H0 δ g1 σ H1 _ _ S1 e2 _ q1
  refine hb b l B0 H0 δ g1 σ H1 _ _ S1 e2 _ fun u H2 k2 b2 n2 hu => ?_
  have hv2 := evok_kp S.bd S.bg.some k2 hv
  cases hd : dgetD ev ev2 with
  | none => rw [hd] at hm2; cases hm2
  | some r0 =>
    rw [hd] at hm2
    cases hm2
    unfold dgetD at hd
    split at hd
    · rename_i kvs hlk
      obtain ⟨k, hk, hd1⟩ := Option.bind_eq_some_iff.mp hd
      obtain ⟨d, hd2, rfl⟩ := Option.map_eq_some_iff.mp hd1
      obtain ⟨a, vs, rfl, h1, h2⟩ := evok_dct hv2 hlk
      obtain rfl := keyE_v hu hk
      obtain ⟨w, hw, hD⟩ := (datk_val h2).1 d hd2
      exact ⟨a, w, rfl, Or.inl ⟨vs, k, h1, rfl, hw.symm⟩, q1 w H2 k2 b2 n2 hD⟩
    · cases hd
/-- d.get(k, x) -/
def dget2D (kvs : List (Key × D)) (y z : EV) : Option EV := (keyE y).map fun k => match valD kvs k with
    | some d => .val d
    | none => z
def eDGet2 (a c z : DE) : DE := fun δ => mbind (a δ) fun x => match x.look with
  | some (.dct kvs) => mbind (c δ) fun y => mbind (z δ) fun u => mof (dget2D kvs y u)
  | _ => mno
theorem ae_dget2 (ha : AE K cl W ta ma) (hb : AE K cl W tb mb) (hc : AE K cl W tc mc) : AE K cl W (tDGet2 ta tb tc) (eDGet2 ma mb mc) := by
  intro b l B0 H0 δ g σ H r g' S hm Q q
  rcases mb_cases hm with ⟨x, e, rfl⟩ | ⟨ev, g1, e, hm0⟩
  · exact ha b l B0 H0 δ g σ H _ _ S e _ q
  refine ha b l B0 H0 δ g σ H _ _ S e _ fun v H1 k1 b1 n1 hv => ?_
  have S1 := S.kp k1 b1 n1
  have q1 := post_then k1 b1 n1 q
  obtain ⟨kvs, hlk⟩ : ∃ kvs, ev.look = some (.dct kvs) := by
    cases h : ev.look with
    | none => rw [h] at hm0; cases hm0
    | some d => rw [h] at hm0; cases d <;> first | exact ⟨_, rfl⟩ | cases hm0
  rw [hlk] at hm0
  dsimp only at hm0
  obtain ⟨a, vs, rfl, h1, h2⟩ := evok_dct hv hlk
  refine ⟨a, rfl, Or.inl ⟨vs, h1⟩, ?_⟩
  rcases mb_cases hm0 with ⟨x, e2, rfl⟩ | ⟨ev2, g2, e2, hm1⟩
  · exact hb b l B0 H0 δ g1 σ H1 _ _ S1 e2 _ q1
  refine hb b l B0 H0 δ g1 σ H1 _ _ S1 e2 _ fun u H2 k2 b2 n2 hu => ?_
  have S2 := S1.kp k2 b2 n2
  have q2 := post_then k2 b2 n2 q1
  rcases mb_cases hm1 with ⟨x, e3, rfl⟩ | ⟨ev3, g3, e3, hm2⟩
  · exact hc b l B0 H0 δ g2 σ H2 _ _ S2 e3 _ q2
  refine hc b l B0 H0 δ g2 σ H2 _ _ S2 e3 _ fun z H3 k3 b3 n3 hz => ?_
  have hv3 := evok_kp S.bd S.bg.some (k2.trans k3) hv
  cases hd : dget2D kvs ev2 ev3 with
  | none => rw [hd] at hm2; cases hm2
  | some r0 =>
    rw [hd] at hm2
    cases hm2
    obtain ⟨k, hk, hd⟩ := Option.map_eq_some_iff.mp hd
    obtain ⟨a', vs', e4, h3, h4⟩ := evok_dct hv3 hlk
    cases e4
    obtain rfl := keyE_v hu hk
    cases hw : valD kvs k with
    | some d =>
      rw [hw] at hd
      cases hd
      obtain ⟨w, hw', hD⟩ := (datk_val h4).1 d hw
      exact ⟨some w, Or.inl ⟨vs', k, h3, rfl, hw'.symm⟩, q2 w H3 k3 b3 n3 hD⟩
    | none =>
      rw [hw] at hd
      cases hd
      exact ⟨none, Or.inl ⟨vs', k, h3, rfl, ((datk_val h4).2 hw).symm⟩, q2 z H3 k3 b3 n3 hz⟩
end
end Vi

set_option Elab.async false
set_option linter.all false
set_option maxRecDepth 100000
set_option maxHeartbeats 4000000
namespace Vi
open PySem PySem.Spec PyProof.Rows L2
/-! dict comprehensions -/
def putKD (kvs : List (Key × D)) (k : Key) (v : D) : List (Key × D) :=
  if (kvs.any fun kv => decide (kv.1 = k)) = true then kvs.map (fun kv => if kv.1 = k then (kv.1, v) else kv) else kvs ++ [(k, v)]
theorem datk_count {G : Gd} {Bad : Addr → Prop} {H : Hp} : ∀ {vs : List (Key × V)} {ds : List (Key × D)}, DatK G Bad H vs ds → vs.length = ds.length
  | _, _, .nil => rfl
  | _, _, .cons _ r => congrArg Nat.succ (datk_count r)
theorem datk_any {G : Gd} {Bad : Addr → Prop} {H : Hp} {k : Key} : ∀ {vs : List (Key × V)} {ds : List (Key × D)}, DatK G Bad H vs ds → (vs.any fun kv => decide (kv.1 = k)) = ds.any fun kv => decide (kv.1 = k)
  | _, _, .nil => rfl
  | _, _, .cons _ r => by rw [List.any_cons, List.any_cons, datk_any r]
theorem datk_snoc {G : Gd} {Bad : Addr → Prop} {H : Hp} {k : Key} {v : V} {d : D} (h : Dat G Bad H v d) : ∀ {vs : List (Key × V)} {ds : List (Key × D)}, DatK G Bad H vs ds → DatK G Bad H (vs ++ [(k, v)]) (ds ++ [(k, d)])
  | _, _, .nil => .cons h .nil
  | _, _, .cons a r => .cons a (datk_snoc h r)
theorem datk_map {G : Gd} {Bad : Addr → Prop} {H : Hp} {k : Key} {v : V} {d : D} (h : Dat G Bad H v d) : ∀ {vs : List (Key × V)} {ds : List (Key × D)}, DatK G Bad H vs ds → DatK G Bad H (vs.map fun kv => if kv.1 = k then (kv.1, v) else kv) (ds.map fun kv => if kv.1 = k then (kv.1, d) else kv)
  | _, _, .nil => .nil
  | _, _, .cons (k := k') a r => by
    rw [List.map_cons, List.map_cons]
    by_cases e : k' = k
    · rw [if_pos e, if_pos e]
      exact .cons h (datk_map h r)
    · rw [if_neg e, if_neg e]
      exact .cons a (datk_map h r)
theorem datk_put {G : Gd} {Bad : Addr → Prop} {H : Hp} {k : Key} {v : V} {d : D} (h : Dat G Bad H v d) {vs : List (Key × V)} {ds : List (Key × D)} (r : DatK G Bad H vs ds) : DatK G Bad H (putK vs k v) (putKD ds k d) := by
  unfold putK putKD
  rw [datk_any r]
  split
  · exact datk_map h r
  · exact datk_snoc h r
def dcGo (mg : DG) (mt : DB) (mk me : DE) (δ : DS) : List D → List (Key × D) → Bag → Option (List (Key × D) × Bag)
  | [], acc, g => some (acc, g)
  | d :: ds, acc, g => match mg d δ with
    | none => none
    | some δ2 => match mt δ2 g with
      | some (.ok true, g1) => match mk δ2 g1 with
        | some (.ok ek, g2) => match me δ2 g2 with
          | some (.ok e, g3) => match keyE ek, e.keep with
            | some k, some x => if lineOk (acc.length + 1) = true then dcGo mg mt mk me δ ds (putKD acc k x) g3 else none
            | _, _ => none
          | _ => none
        | _ => none
      | some (.ok false, g1) => dcGo mg mt mk me δ ds acc g1
      | _ => none
section
variable {K : PySem.W.Frag} {cl : Str → Option Addr} {W : WX} {tt : TT} {tk te : TE} {mt : DB} {mk me : DE}
theorem dc_walk {b l : Addr} {B0 : Addr → Prop} {H0 Hs : Hp} {δp : DS} {σ : L2.St} {vs js : List Nat} {tg : TG} {mg : DG} {J : It} {ds : List D} {p : Addr} {Nx : Hp → Prop}
    (hg : AG K cl js tg mg) (ht : AB K cl WF tt mt) (hk : AE K cl WF tk mk) (he : AE K cl WF te me) (hjs : ∀ k ∈ js, k ∈ vs) (hJ : ItOk ⟨K, cl, b, l⟩ B0 H0 J ds) (hp : B0 p) (pb : p ≠ b) (h0 : H0 p = none) (ho : ∀ (i : Nat) (es : D), (wipeD δp vs)[i]? = some (some (.own es)) → (L2.wipe σ vs)[i]? ≠ some (some (V.ref p))) (hsp : Hs p = none)
    {g0 gF : Bag} {acc0 accF : List (Key × D)} {v0 : List (Key × V)} {H : Hp} (S : Sto ⟨K, cl, b, l⟩ B0 H0 (wipeD δp vs) g0 (L2.wipe σ vs) H) (kp : Kp ⟨K, cl, b, l⟩ Hs H) (hv : H p = some (.dK v0)) (dv : DatK ⟨K, cl, b, l⟩ (Bd B0 (wipeD δp vs) (L2.wipe σ vs)) H v0 acc0)
    (hr : dcGo mg mt mk me (wipeD δp vs) ds acc0 g0 = some (accF, gF))
    (hN : ∀ H' vF, Sto ⟨K, cl, b, l⟩ B0 H0 (wipeD δp vs) gF (L2.wipe σ vs) H' → Kp ⟨K, cl, b, l⟩ Hs H' → H' p = some (.dK vF) → DatK ⟨K, cl, b, l⟩ (Bd B0 (wipeD δp vs) (L2.wipe σ vs)) H' vF accF → gF.ns = g0.ns → Nx H') :
    ∃ WW : Nat → Nat → Hp → Prop, (∃ m, WW 0 m H) ∧ ∀ i m H, WW i m H →
      (J.stop i H ∧ Nx H) ∨ (J.go i H ∧ ∃ Ny : Hp → Prop, (∀ H', Ny H' → ∃ m', m' < m ∧ WW (i + 1) m' H') ∧ ∀ x H', J.yld i H x H' → tg x (L2.wipe σ vs) H' fun σ2 H2 => L2.wipe σ2 vs = L2.wipe σ vs ∧ tt σ2 H2 fun c H3 =>
        if c = true then tk σ2 H3 fun y H4 => te σ2 H4 fun z H5 => ∃ kvs k, y = kV k ∧ H5 p = some (.dK kvs) ∧ kvs.length < sizeLine ∧ Ny (upd H5 p (.dK (putK kvs k z))) else Ny H3) := by
  refine ⟨fun i m H' => m = ds.length - i ∧ i ≤ ds.length ∧ ∃ g2 acc v2, Sto ⟨K, cl, b, l⟩ B0 H0 (wipeD δp vs) g2 (L2.wipe σ vs) H' ∧ Kp ⟨K, cl, b, l⟩ Hs H' ∧ H' p = some (.dK v2) ∧ DatK ⟨K, cl, b, l⟩ (Bd B0 (wipeD δp vs) (L2.wipe σ vs)) H' v2 acc ∧ dcGo mg mt mk me (wipeD δp vs) (ds.drop i) acc g2 = some (accF, gF) ∧ g2.ns = g0.ns,
    ⟨ds.length, rfl, Nat.zero_le _, g0, acc0, v0, S, kp, hv, dv, hr, rfl⟩, ?_⟩
  rintro i m H1 ⟨rfl, hle, g1, acc, v1, S1, k1, hv1, d1, h1, n1⟩
  obtain ⟨hgo', hstop⟩ := hJ _ H1 S1.goes0 S1.alB
  by_cases hlt : i < ds.length
  · obtain ⟨d, e1, e2⟩ := drop_get hlt
    obtain ⟨hgo, hy⟩ := hgo' i d e1
    refine Or.inr ⟨hgo, fun H' => ∃ g2 acc v2, Sto ⟨K, cl, b, l⟩ B0 H0 (wipeD δp vs) g2 (L2.wipe σ vs) H' ∧ Kp ⟨K, cl, b, l⟩ Hs H' ∧ H' p = some (.dK v2) ∧ DatK ⟨K, cl, b, l⟩ (Bd B0 (wipeD δp vs) (L2.wipe σ vs)) H' v2 acc ∧ dcGo mg mt mk me (wipeD δp vs) (ds.drop (i + 1)) acc g2 = some (accF, gF) ∧ g2.ns = g0.ns,
      fun H' ⟨g2, acc2, v2, z⟩ => ⟨ds.length - (i + 1), by omega, rfl, hlt, g2, acc2, v2, z⟩, fun x H2 y => ?_⟩
    obtain ⟨ww, dx⟩ := hy x H2 y
    obtain ⟨S1', kw⟩ := ww.sto S1
    replace hv1 := kw p _ pb hv1
    replace d1 := DatK.goes (kw.goes S1.bd) d1
    replace k1 := k1.trans kw
    replace S1 := S1'
    rw [e2] at h1
    unfold dcGo at h1
    cases em : mg d (wipeD δp vs) with
    | none => rw [em] at h1; cases h1
    | some δ2 =>
      rw [em] at h1
      dsimp only at h1
      refine hg b l B0 H0 _ g1 _ H2 x d δ2 S1 dx em _ fun σ2 S2 sub ag ow => ?_
      have back : L2.wipe σ2 vs = L2.wipe σ vs := wipe_back (ag.1.trans (wipe_len σ vs)) (fun k hk => (ag.2 k hk).1) hjs
      have bd2 : ∀ a, Bd B0 (wipeD δp vs) (L2.wipe σ vs) a → Bd B0 δ2 σ2 a := fun a z => by
        rcases z with z | ⟨j, es, a1, a2⟩
        · exact Or.inl z
        · have nj : j ∉ js := fun z => (wipeD_at a1).1 (hjs j z)
          exact Or.inr ⟨j, es, by rw [(ag.2 j nj).2]; exact a1, by rw [(ag.2 j nj).1]; exact a2⟩
      refine ⟨back, ?_⟩
      cases et : mt δ2 g1 with
      | none => rw [et] at h1; cases h1
      | some pr =>
        obtain ⟨r, g2⟩ := pr
        rw [et] at h1
        cases r with
        | er z => cases h1
        | ok c =>
          refine ht b l B0 H0 δ2 g1 σ2 H2 _ g2 S2 et _ fun H3 k3 b3 n3 => ?_
          cases c with
          | false =>
            show ∃ g2 acc v2, _
            exact ⟨g2, acc, v1, S1.kp k3 b3 n3, k1.trans k3, k3 p _ pb hv1, DatK.goes (k3.goes S1.bd) d1, h1, n3.trans n1⟩
          | true =>
            dsimp only at h1
            have S3 := S2.kp k3 b3 n3
            cases ek : mk δ2 g2 with
            | none => rw [ek] at h1; cases h1
            | some pr =>
              obtain ⟨r, g3⟩ := pr
              rw [ek] at h1
              cases r with
              | er z => cases h1
              | ok kv =>
                dsimp only at h1
                cases ee : me δ2 g3 with
                | none => rw [ee] at h1; cases h1
                | some pr =>
                  obtain ⟨r, g4⟩ := pr
                  rw [ee] at h1
                  cases r with
                  | er z => cases h1
                  | ok ev =>
                    dsimp only at h1
                    cases hkk : keyE kv with
                    | none => rw [hkk] at h1; cases h1
                    | some k =>
                      cases hw : ev.keep with
                      | none => rw [hkk, hw] at h1; cases h1
                      | some w =>
                        rw [hkk, hw] at h1
                        dsimp only at h1
                        split at h1
                        · rename_i hl
                          show tk σ2 H3 fun y H4 => te σ2 H4 fun z H5 => ∃ kvs k, y = kV k ∧ H5 p = some (.dK kvs) ∧ kvs.length < sizeLine ∧ _
                          refine hk b l B0 H0 δ2 g2 σ2 H3 _ g3 S3 ek _ fun y H4 k4 b4 n4 hy4 => ?_
                          have S4 := S3.kp k4 b4 n4
                          refine he b l B0 H0 δ2 g3 σ2 H4 _ g4 S4 ee _ fun z H5 k5 b5 n5 hz5 => ?_
                          have k25 := (k3.trans k4).trans k5
                          have n25 := n5.trans (n4.trans n3)
                          have dy : Dat ⟨K, cl, b, l⟩ (Bd B0 (wipeD δp vs) (L2.wipe σ vs)) H5 z w := Dat.goes (goes_less bd2) (evok_keep S4.alB hz5 hw)
                          have d5 : DatK ⟨K, cl, b, l⟩ (Bd B0 (wipeD δp vs) (L2.wipe σ vs)) H5 v1 acc := DatK.goes (k25.goes S1.bd) d1
                          have hl' := line_of hl
                          have := datk_count d1
                          refine ⟨v1, k, keyE_v hy4 hkk, k25 p _ pb hv1, by omega, g4, putKD acc k w, putK v1 k z, (S1.kp k25 b5 n25).poke hp pb h0 ho, ?_, upd_same, ?_, h1, n25.trans n1⟩
                          · intro a u n e
                            rw [upd_ne (ne_of_none e hsp)]
                            exact (k1.trans k25) a u n e
                          · exact DatK.goes (fun a u n e => ⟨by rw [upd_ne (fun z => n (by rw [z]; exact Or.inl hp))]; exact e, n⟩) (datk_put dy d5)
                        · cases h1
  · have ei : i = ds.length := by omega
    subst ei
    rw [List.drop_length] at h1
    cases h1
    exact Or.inl ⟨hstop, hN H1 v1 S1 k1 hv1 d1 n1⟩

def eDc (vs : List Nat) (mi : DI) (mg : DG) (mt : DB) (mk me : DE) : DE := fun δ => mbind (mi δ) fun ds g => if noOwn vs δ = true then (match dcGo mg mt mk me (wipeD δ vs) ds [] g with
  | some (es, g') => some (.ok (.nw (.dct es)), g')
  | none => none) else none
theorem ae_dc_at {b l : Addr} {B0 : Addr → Prop} {H0 : Hp} {δ : DS} {g : Bag} {σ : L2.St} {H : Hp} {vs js : List Nat} {wi : TI} {mi : DI} {tg : TG} {mg : DG} (S : Sto ⟨K, cl, b, l⟩ B0 H0 δ g σ H) (hi : AIat ⟨K, cl, b, l⟩ B0 W δ g σ H wi mi) (hg : AG K cl js tg mg) (ht : AB K cl WF tt mt) (hk : AE K cl WF tk mk) (he : AE K cl WF te me) (hjs : ∀ k ∈ js, k ∈ vs)
    {r : Rs EV} {g' : Bag} (hm : eDc vs mi mg mt mk me δ g = some (r, g')) (Q : VK) (q : Post ⟨K, cl, b, l⟩ (Bd B0 δ σ) W σ H g g' Q r) : tDc wi tg tt tk te vs σ H Q := by
  rcases mb_cases hm with ⟨x, e, rfl⟩ | ⟨ds, g1, e, hm⟩
  · exact hi _ _ e _ q
  · refine hi _ _ e _ fun J H1 k1 b1 n1 hJ => ?_
    have S1 := S.kp k1 b1 n1
    split at hm
    · rename_i hno
      cases hr : dcGo mg mt mk me (wipeD δ vs) ds [] g1 with
      | none => rw [hr] at hm; cases hm
      | some pr =>
        obtain ⟨es, g2⟩ := pr
        rw [hr] at hm
        cases hm
        intro p hp
        obtain ⟨Sw, bw⟩ := S1.wipe hno
        have Sb := Sw.box (o := .dK []) hp
        have pb : p ≠ b := fun z => by
          subst z
          have := S1.bg.some
          rw [hp] at this
          cases this
        have hp0 : H p = none := fresh_kp b1.some k1 hp
        have gp : ground (wipeD δ vs) (L2.wipe σ vs) H1 p = none := by
          cases z : ground (wipeD δ vs) (L2.wipe σ vs) H1 p with
          | none => rfl
          | some o => rw [ground_sub z] at hp; cases hp
        have up : ∀ a, With (Bd B0 δ σ) p a → Bd (With B0 p) (wipeD δ vs) (L2.wipe σ vs) a := fun a z => by
          rcases z with z | z
          · rcases (bw a).mpr z with z | z
            · exact Or.inl (Or.inl z)
            · exact Or.inr z
          · exact Or.inl (Or.inr z)
        refine dc_walk (K := K) (cl := cl) (b := b) (l := l) (B0 := With B0 p) (H0 := ground (wipeD δ vs) (L2.wipe σ vs) H1) (Hs := H) hg ht hk he hjs (hJ.goes fun a o n e => ⟨ground_of (B0 := B0) e fun z => n ((bw a).mp z), fun z => ?_⟩) (Or.inr rfl) pb gp (fun i es h z => ?_) hp0 Sb (k1.trans (Kp.new hp)) upd_same .nil hr fun H' vF S' k' hv dv nn => ?_
        · rcases z with z | z
          · exact n (Or.inl z)
          · subst z
            rw [hp] at e
            cases e
        · obtain ⟨q', ws, c1, c2, c3, _⟩ := Sw.own i es h
          rw [z] at c1
          cases c1
          rw [hp] at c3
          cases c3
        · exact q _ H' k' S'.bg (nn.trans n1) ⟨p, _, rfl, hp0, hv, .dct (DatK.goes (goes_less up) dv)⟩
    · cases hm
theorem ae_dc {vs js : List Nat} {wi : TI} {mi : DI} {tg : TG} {mg : DG} (hi : AI K cl W wi mi) (hg : AG K cl js tg mg) (ht : AB K cl WF tt mt) (hk : AE K cl WF tk mk) (he : AE K cl WF te me) (hjs : ∀ k ∈ js, k ∈ vs) : AE K cl W (tDc wi tg tt tk te vs) (eDc vs mi mg mt mk me) := by
  intro b l B0 H0 δ g σ H r g' S hm Q q
  exact ae_dc_at S (fun r g' e R p => hi b l B0 H0 δ g σ H r g' S e R p) hg ht hk he hjs hm Q q
end
end Vi

set_option Elab.async false
set_option linter.all false
set_option maxRecDepth 100000
set_option maxHeartbeats 4000000
namespace Vi
open PySem PySem.Spec PyProof.Rows L2
/-! set(xs) of a list of ints, and sorted(set(xs)) -/
def nilS (w : World) : Obj := { cls := .type "set", dict := none, data := .set #[] 0 (.fresh 0 0 (!w.params.followText "set-order")) }
/-- what __init__ leaves at a: the set of is; all else is kept -/
def Filled (w : World) (h0 h' : Heap) (a : Addr) (is : List Int) : Prop := ∃ c, SetR w h' a (fun j => decide (j ∈ is)) c ∧ c ≤ is.length ∧ ∀ b o, h0.get? b = some o → h'.get? b = some o
section
variable {P : Program} {w : World} {A : Around} {E : Value → Shared → Prop} {s : Shared} {l : Addr} {xs : Array Value} {is : List Int}
theorem item_int (isI : IntsAre xs.toList is) {i : Nat} {v : Value} (hv : xs[i]? = some v) : ∃ k t, is[i]? = some k ∧ v = .int k t := by
  have n : xs.size = is.length := by simpa using isI.length
  have lt : i < is.length := n ▸ (Array.getElem?_eq_some_iff.mp hv).1
  obtain ⟨t, e⟩ := isI.int_at i v (by simpa using hv)
  exact ⟨is[i], t, List.getElem?_eq_getElem lt, by rw [e]; simp [List.getD_eq_getElem?_getD, lt]⟩
theorem fillL (nh : A.handled = none) (L : s.heap.IsList l xs) (isI : IntsAre xs.toList is) (big : is.length + 1 < scanBound) :
    codeAny (model P w) A (.call (.builtin "set.__init__") ⟨[.ref s.heap.objs.size, .ref l], []⟩) (wants (fun r s2 => r = .none ∧ ∃ h' tk, s2 = { s with heap := h', toks := tk } ∧ Filled w s.heap h' s.heap.objs.size is) E) { s with heap := s.heap.push (nilS w) } := by
  have n : xs.size = is.length := by simpa using isI.length
  have me : (s.heap.push (nilS w)).get? s.heap.objs.size = some (nilS w) := Heap.get?_push_size _ rfl
  refine codeAny_call_builtin F.called_set.init.plain F.entry_set_init (check_set_init_1 ⟨_, me, rfl⟩ ?_)
  have L2 : (s.heap.push (nilS w)).IsList l xs := L.push _
  have old : l < s.heap.objs.size := by
    obtain ⟨o, e, _⟩ := L
    exact Heap.lt_size e
  obtain ⟨⟨oc, od, oda, osl⟩, here, e1, m, e2⟩ := id L2
  dsimp only at e1 e2
  subst e1 e2
  have no1 := F.sub_list_set
  have no2 := F.sub_list_frozenset
  have no3 : (Value.type "list" == Value.type "dict") = false := by decide
  unfold Builtin.«set.__init__» noKeywords Builtin.Frozenset.updateFrom
  generalize gen : pyIter = walkOf
  wp_walk
  subst gen
  refine wpAny_pyIter_list L2 (wpAny_bind (wpAny_runValue ?_))
  have size1 : (s.heap.push (nilS w)).objs.size = s.heap.objs.size + 1 := Heap.size_push ..
  have apart : l ≠ (s.heap.push (nilS w)).objs.size := fun z => Nat.not_lt.mpr (Nat.le_succ s.heap.objs.size) (by rw [z, size1] at old; exact old)
  refine set_update_ints ((Walks.list (by simp [nh]) _ l apart xs).toS) s.heap.objs.size (fun z => ?_) is n big (fun i v => item_int isI) (xs.size - 0) 0 _ rfl (Nat.zero_le _) ⟨⟨_, Heap.get?_push_size _ rfl, rfl, rfl⟩, L2.push _⟩ ⟨0, Nat.le_refl 0, setR_new_at (Heap.get?_push_of_some _ me)⟩ ?_
  · rcases List.mem_cons.mp z with z | z
    · rw [size1] at z
      exact Nat.ne_of_lt (Nat.lt_succ_self _) z
    · exact Nat.ne_of_gt old (List.mem_singleton.mp z)
  rintro ⟨h', g', d', tk', os'⟩ c mv cle R
  obtain rfl : g' = s.gens := mv.gens
  obtain rfl : d' = s.drawn := mv.drawn
  obtain rfl : os' = s.os := mv.os
  refine wpAny_pure (wpAny_pure ⟨rfl, h', tk', rfl, c, R, n ▸ cle, fun b o e => mv.heap b o (fun z => ?_) (Heap.get?_push_of_some _ (Heap.get?_push_of_some _ e))⟩)
  have lt := Heap.lt_size e
  rcases List.mem_cons.mp z with z | z
  · exact Nat.ne_of_lt lt z
  · rw [List.mem_singleton.mp z, size1] at lt
    exact Nat.not_lt.mpr (Nat.le_succ _) lt
theorem setL {Q : Value → Shared → Prop} (nh : A.handled = none) (L : s.heap.IsList l xs) (isI : IntsAre xs.toList is) (big : is.length + 1 < scanBound)
    (q : ∀ (h' : Heap) (tk : Nat), Filled w s.heap h' s.heap.objs.size is → Q (.ref s.heap.objs.size) { s with heap := h', toks := tk }) : wpAny (model P w) A (call (.type "set") [.ref l]) Q E s := by
  obtain ⟨c0, r0, m0⟩ := F.called_set.mro
  have m1 := F.called_set.made
  have m2 := F.called_set.sub
  have m3 := F.called_set.notType
  have m4 := F.called_set.canCreate
  have m5 := F.typeCall_set_1 (.ref l)
  refine wpAny_call (codeAny_of_tree (wpAny_pure ⟨Code.quiet_builtin _ (by decide +kernel), codeAny_builtin F.entry_type_call ?_⟩))
  rw [Around.under_plain (weight_type_call_type "set" [.ref l] []) rfl]
  repeat (any_goals (first | assumption | wp_step))
  refine codeAny_mono (code_set_led1 (.ref l) (E := E) (Q₁ := fun o t => o = .ref s.heap.objs.size ∧ t = { s with heap := s.heap.push (nilS w) }) ⟨rfl, rfl⟩) fun r t hr => ?_
  match r, hr with
  | .error e, hr => exact hr
  | .ok .next, hr => exact hr.elim
  | .ok .brk, hr => exact hr.elim
  | .ok .cont, hr => exact hr.elim
  | .ok (.ret o), ⟨e1, e2⟩ =>
    subst e1 e2
    have m6 := F.called_set.init.lookup
    have m7 := F.called_set.init.bind (.ref s.heap.objs.size)
    have me : (s.heap.push (nilS w)).get? s.heap.objs.size = some (nilS w) := Heap.get?_push_size _ rfl
    have ty : Shared.TypeIs { s with heap := s.heap.push (nilS w) } (.ref s.heap.objs.size) "set" := ⟨_, me, rfl⟩
    repeat (any_goals (first | assumption | wp_step))
    refine codeAny_mono (fillL (E := E) (by simp [nh]) L isI big) fun r t hr => ?_
    match r, hr with
    | .error e, hr => exact hr
    | .ok .next, hr => exact hr.elim
    | .ok .brk, hr => exact hr.elim
    | .ok .cont, hr => exact hr.elim
    | .ok (.ret o), ⟨e1, h', tk, e2, f⟩ =>
      subst e1 e2
      repeat (any_goals (first | assumption | wp_step))
      exact q h' tk f
end
/-! the sorted list of the different ones -/
def insU (n : Int) : List Int → List Int
  | [] => [n]
  | m :: r => if n < m then n :: m :: r else if n = m then m :: r else m :: insU n r
def sortU (ns : List Int) : List Int := ns.foldr insU []
theorem insU_mem {n k : Int} : ∀ {r : List Int}, k ∈ insU n r ↔ k = n ∨ k ∈ r
  | [] => by simp [insU]
  | m :: r => by
    unfold insU
    split
    · simp
    · split
      · rename_i e
        subst e
        simp
      · rw [List.mem_cons, insU_mem, List.mem_cons]
        constructor
        · rintro (h | h | h)
          · exact Or.inr (Or.inl h)
          · exact Or.inl h
          · exact Or.inr (Or.inr h)
        · rintro (h | h | h)
          · exact Or.inr (Or.inl h)
          · exact Or.inl h
          · exact Or.inr (Or.inr h)
theorem insU_up {n : Int} : ∀ {r : List Int}, r.Pairwise (· < ·) → (insU n r).Pairwise (· < ·)
  | [], _ => by simp [insU]
  | m :: r, h => by
    obtain ⟨h1, h2⟩ := List.pairwise_cons.mp h
    unfold insU
    split
    · rename_i lt
      refine List.pairwise_cons.mpr ⟨fun k hk => ?_, h⟩
      rcases List.mem_cons.mp hk with e | e
      · rw [e]; exact lt
      · exact Int.lt_trans lt (h1 k e)
    · split
      · exact h
      · rename_i nlt ne
        refine List.pairwise_cons.mpr ⟨fun k hk => ?_, insU_up h2⟩
        rcases insU_mem.mp hk with e | e
        · rw [e]; omega
        · exact h1 k e
theorem sortU_mem {k : Int} : ∀ {ns : List Int}, k ∈ sortU ns ↔ k ∈ ns
  | [] => by simp [sortU]
  | n :: ns => by
    show k ∈ insU n (sortU ns) ↔ _
    rw [insU_mem, sortU_mem, List.mem_cons]
theorem sortU_up : ∀ (ns : List Int), (sortU ns).Pairwise (· < ·)
  | [] => List.Pairwise.nil
  | n :: ns => insU_up (sortU_up ns)
theorem up_ext : ∀ {xs ys : List Int}, xs.Pairwise (· < ·) → ys.Pairwise (· < ·) → (∀ k, k ∈ xs ↔ k ∈ ys) → xs = ys
  | [], [], _, _, _ => rfl
  | [], y :: ys, _, _, h => by simpa using (h y).mpr List.mem_cons_self
  | x :: xs, [], _, _, h => by simpa using (h x).mp List.mem_cons_self
  | x :: xs, y :: ys, hx, hy, h => by
    obtain ⟨x1, x2⟩ := List.pairwise_cons.mp hx
    obtain ⟨y1, y2⟩ := List.pairwise_cons.mp hy
    have e : x = y := by
      rcases List.mem_cons.mp ((h x).mp List.mem_cons_self) with a | a
      · exact a
      · rcases List.mem_cons.mp ((h y).mpr List.mem_cons_self) with b | b
        · exact b.symm
        · have c1 := y1 x a
          have c2 := x1 y b
          omega
    subst e
    rw [up_ext x2 y2 fun k => ?_]
    constructor
    · intro hk
      rcases List.mem_cons.mp ((h k).mp (List.mem_cons_of_mem _ hk)) with a | a
      · have := x1 k hk
        omega
      · exact a
    · intro hk
      rcases List.mem_cons.mp ((h k).mpr (List.mem_cons_of_mem _ hk)) with a | a
      · have := y1 k hk
        omega
      · exact a
/-- set(x), x a list or a tuple of few ints -/
def rSetI (K : PySem.W.Frag) (w : World) : List V → Hp → VK → Prop := fun xs H Q => ∃ (l : Addr) (ns : List Int), xs = [.ref l] ∧ (SqL K H l (ns.map V.int) ∨ SqT K H l (ns.map V.int)) ∧ ns.length < 64 ∧ ∀ p c, H p = none → c ≤ ns.length → Q (.ref p) (upd H p (SetO w p (fun j => decide (j ∈ ns)) c))
theorem call_setI {X : Cx} (hc : X.calm = true) : CallR X (.type "set") (rSetI X.K X.w) := by
  intro pins s σ H xs us Q I r h
  obtain ⟨l, ns, rfl, hq, hl, q⟩ := h
  obtain ⟨u, rfl, rx⟩ := vals1 r
  cases rx
  have nh := I.ok.hd hc
  have big : ns.length + 1 < scanBound := by unfold scanBound; omega
  have hn : H s.heap.objs.size = none := I.hok.fresh (Nat.le_refl _)
  have fin : ∀ (h' : Heap) (tk c : Nat), SetR X.w h' s.heap.objs.size (fun j => decide (j ∈ ns)) c → c ≤ ns.length → (∀ b o, s.heap.get? b = some o → h'.get? b = some o) → EP X pins σ Q (.ref s.heap.objs.size) { s with heap := h', toks := tk } := fun h' tk c R cle k =>
    ⟨.ref s.heap.objs.size, upd H s.heap.objs.size (SetO X.w s.heap.objs.size (fun j => decide (j ∈ ns)) c), I.laid (t' := tk) k (Nat.le_refl _) (setO_new R), rfl, q _ c hn cle⟩
  rcases hq with hq | hq
  · obtain ⟨its, rv, L, _⟩ := I.list hq
    exact setL nh L.isList (ints_of_vals rv) big fun h' tk ⟨c, R, cle, k⟩ => fin h' tk c R cle k
  · obtain ⟨its, rv, L, _⟩ := I.tuple hq
    exact call_set_tupI ns nh L (ints_of_vals rv) big fun h' tk c R cle k => fin h' tk c R cle k
section
variable {K : PySem.W.Frag} {cl : Str → Option Addr} {W : WX} {te : TE} {me : DE} {w : World}
def itemsE (e : EV) : Option (List D) := match e.look with
  | some (.lst ds) => some ds
  | some (.tup ds) => some ds
  | _ => none
/-- sorted(set(x)) -/
def sortSetE (e : EV) : Option EV := (itemsE e).bind fun ds => (asInt ds).bind fun ns => if ns.length < 64 then some (.nw (.lst ((sortU ns).map D.int))) else none
theorem datl_ints {G : Gd} {Bad : Addr → Prop} {H : Hp} : ∀ ns : List Int, DatL G Bad H (ns.map V.int) (ns.map D.int)
  | [] => .nil
  | n :: ns => .cons (.int n) (datl_ints ns)
theorem ae_sortSet (h : AE K cl W te me) : AE K cl W (tCB (rSortedSet w) (tCons (tCB (rSetI K w) (tCons te tNil)) tNil)) (eB1 sortSetE me) := by
  intro b l B0 H0 δ g σ H r g' S hm Q q
  rcases mb_cases hm with ⟨x, e, rfl⟩ | ⟨ev, g1, e, hm1⟩
  · exact h b l B0 H0 δ g σ H _ _ S e _ q
  refine h b l B0 H0 δ g σ H _ _ S e _ fun v H1 k1 b1 n1 hv => ?_
  have S1 := S.kp k1 b1 n1
  cases hd : sortSetE ev with
  | none => rw [hd] at hm1; cases hm1
  | some r0 =>
    rw [hd] at hm1
    cases hm1
    obtain ⟨ds, h1, h2⟩ := Option.bind_eq_some_iff.mp hd
    obtain ⟨ns, h3, h4⟩ := Option.bind_eq_some_iff.mp h2
    split at h4
    · rename_i hl
      cases h4
      have src : ∃ a, v = .ref a ∧ (SqL K H1 a (ns.map V.int) ∨ SqT K H1 a (ns.map V.int)) := by
        unfold itemsE at h1
        split at h1
        · rename_i e1
          cases h1
          obtain ⟨a, vs, e2, h5, h6⟩ := (evok_items hv).1 e1
          obtain rfl := datl_int h6 h3
          exact ⟨a, e2, Or.inl (Or.inl (Or.inl h5))⟩
        · rename_i e1
          cases h1
          obtain ⟨a, vs, e2, h5, h6⟩ := (evok_items hv).2 e1
          obtain rfl := datl_int h6 h3
          exact ⟨a, e2, Or.inr h5⟩
        · cases h1
      obtain ⟨a, rfl, hq⟩ := src
      refine ⟨a, ns, rfl, hq, hl, fun p c hp cle => ⟨p, _, c, rfl, upd_same, by omega, fun ms z up mem len hz => ?_⟩⟩
      have e5 : ms = sortU ns := up_ext up (sortU_up ns) fun k => by rw [mem k, sortU_mem, decide_eq_true_eq]
      subst e5
      have pb : p ≠ b := fun z => by subst z; rw [show H1 p = some _ from b1] at hp; cases hp
      have zp : z ≠ p := fun y => by subst y; rw [upd_same] at hz; cases hz
      have hz1 : H1 z = none := by rw [upd_ne zp] at hz; exact hz
      refine q _ _ (k1.trans ((Kp.new hp).trans (Kp.new hz))) (bag_upd (bag_upd b1 hp) hz) n1 ⟨z, _, rfl, fresh_kp b1.some k1 hz1, upd_same, .lst (datl_ints _)⟩
    · cases h4
end
theorem bt_sorted : bootBuiltins "sorted" = some (.builtin "sorted") := by decide +kernel
theorem bt_set : bootBuiltins "set" = some (.type "set") := by decide +kernel
end Vi

set_option Elab.async false
set_option linter.all false
set_option maxRecDepth 100000
set_option maxHeartbeats 4000000
namespace Vi
open PySem PySem.Spec PyProof.Rows L2
/-- a def as it stands, whatever its defaults -/
def FunA (K : PySem.W.Frag) (x qual : Str) (st : Stmt) (f : Addr) (fd : FuncData) : Prop := ∃ (oc : Value) (od : Option Addr) (dV kV doc pm : Value) (an : Option Addr) (cdv ct : Value) (osl : Array (Option Value)),
  fd = PySem.W.fnOf x qual (defArgs st) (defBody st) (defScope st) dV kV doc pm an cdv ct ∧ K.lookup f = some ⟨oc, od, .func fd, osl⟩ ∧ PySem.W.codeIn K cdv qual = true
theorem funA_of {K : PySem.W.Frag} {x qual : Str} {st : Stmt} {f : Addr} {fd : FuncData} {dvs : List V} {kws : List (Str × V)} (F : FunD K x qual (defArgs st) (defBody st) (defScope st) dvs kws f fd) : FunA K x qual st f fd := by
  obtain ⟨oc, od, dV, kV, doc, pm, an, cdv, ct, osl, e, lk, hcd, _, _⟩ := F.ex
  exact ⟨oc, od, dV, kV, doc, pm, an, cdv, ct, osl, e, lk, hcd⟩
section
variable {P : Program} {w : World} {K : PySem.W.Frag} {cl : Str → Option Addr} {mg : Str → Option Value} {base : Heap}
theorem fnG_ofA {x qual : Str} {st : Stmt} {f : Addr} {fd : FuncData} {N ps : List Str} {k : Nat} {sp : Sp} (F : FunA K x qual st f fd) (S : FnScope N ps (defScope st)) (len : ∀ vs H Q E, sp vs H Q E → vs.length = ps.length)
    (hbody : ∀ (cdv : Value) (A : Around) (outer : List Env) (s : Shared) (H : Hp) (vs : List V) (Q : VK) (E : XK), GRoom k (A.deeper (envOfC qual (defScope st) s.heap.objs.size f cdv)) → sp vs H Q E →
      ∃ t, PSs (cxOf (L2.CX P w) P w K mg base N qual (defScope st) f cdv A outer s H E) (defBody st) t ∧ t { nx := fun _ H' => Q .non H', rt := Q } (L2.start N vs) H) : FnG P w K mg base (k + 1) f fd ps sp := by
  obtain ⟨oc, od, dV, kV, doc, pm, an, cdv, ct, osl, rfl, lk, hcd⟩ := F
  refine ⟨len, fun A outer s H args us vs Q E hr e0 hb r hsp => ?_⟩
  have hl := len _ _ _ _ hsp
  have kin : K.In s.heap := e0.mod.kin.keeps fun b o e => (e0.bs b o e).1
  have lim : s.heap.NoLimit := e0.mod.nolimit.keeps fun b o e => (e0.bs b o e).1
  have kinds : ∀ y ∈ ps.zip us, (defScope st).names.lookup y.1 = some .local ∨ ((defScope st).names.lookup y.1 = some .cell ∧ ((cellsFrom (s.heap.objs.size + 1) (defScope st).names []).lookup y.1).isSome = true) := by
    rintro ⟨n, v⟩ hy
    rcases S.par n (List.of_mem_zip hy).1 with q | q
    · exact Or.inl q
    · exact Or.inr ⟨q, PySem.W.cellsFrom_some _ _ _ (Or.inl q)⟩
  refine codeAny_call_function hr.r.depth (kin _ _ lk) rfl S.co S.gen rfl (PySem.W.codeRec_of kin hcd) (hb _ _ _ _ ?_)
  refine wpAny_newFunctionEnv_cells S.kind kinds fun env he s1 xc => ?_
  subst he
  refine ⟨lim.keeps xc.toInCall.keep, codeAny_func ?_⟩
  obtain ⟨t, ht, hq⟩ := hbody cdv A outer s H vs Q E (hr.deeper _) hsp
  have I := inv_start (CX := L2.CX P w) (N := N) (qual := qual) (f := f) (cd := cdv) (E := E) S hr.r.hd e0 hl r xc
  refine wpAny_mono (ht.run [] s1 (L2.start N vs) H _ I hq) (fun fl s' hs => ?_) fun e s' hs => hs
  cases fl with
  | ret u =>
    obtain ⟨v, σ', H', J, rv, q⟩ := hs
    exact ⟨v, H', J.os, J.bare, J.base, J.hok, rv, q⟩
  | next =>
    obtain ⟨σ', H', J, q⟩ := hs
    exact ⟨.non, H', J.os, J.bare, J.base, J.hok, rfl, q⟩
  | brk =>
    obtain ⟨_, _, _, q⟩ := hs
    exact q.elim
  | cont =>
    obtain ⟨_, _, _, q⟩ := hs
    exact q.elim
/-- THE RULE for an __init__ -/
theorem fnIA {qual : Str} {st : Stmt} {f : Addr} {fd : FuncData} {N ps : List Str} {k n : Nat} {c : Str} {C : Addr} {m : DF} {F : List AV → M (List (Str × D))} {nm : Str} (hF : FunA K nm qual st f fd) (S : FnScope N ps (defScope st)) (hn : ps.length = n + 1) (hc : cl c = some C)
    (hbody : ∀ (cdv : Value) (A : Around) (outer : List Env) (s : Shared) (H : Hp) (E : XK), GRoom k (A.deeper (envOfC qual (defScope st) s.heap.objs.size f cdv)) →
      ∃ t, PSs (cxOf (L2.CX P w) P w K mg base N qual (defScope st) f cdv A outer s H E) (defBody st) t ∧ AFs K cl C t m)
    (hm : ∀ (x : Addr) (as : List AV) (g g' : Bag) (fs : List (Str × D)), F as g = some (.ok fs, g') → ∃ δ', m (startD N.length (.slf x :: as)) [] g = some (δ', fs, g')) : FnG P w K mg base (k + 1) f fd ps (spI K cl c C n F) := by
  refine fnG_ofA hF S (fun vs H Q E h => by rw [spI_len vs H Q E h, hn]) fun cdv A outer s H vs Q E hr h => ?_
  obtain ⟨b, l, B0, Ho, x, dx, g, g', as, ws, fs, rfl, h1, rfl, hx, hdx, ne, h2, h3, h4, h5, h6, h7, h8, h9⟩ := h
  obtain ⟨t, ht, ha⟩ := hbody cdv A outer s _ E hr
  refine ⟨t, ht, ?_⟩
  obtain ⟨δ', e⟩ := hm x as g g' fs h8
  have nn : ∀ a o, Ho a = some o → upd (upd Ho dx (.own x)) x (.ins C dx []) a = some o ∧ a ≠ x := fun a o z => by
    have ax : a ≠ x := fun y => by subst y; rw [hx] at z; cases z
    have ad : a ≠ dx := fun y => by subst y; rw [hdx] at z; cases z
    rw [upd_ne ax, upd_ne ad]
    exact ⟨z, ax⟩
  have go : Goes B0 (With B0 x) Ho (upd (upd Ho dx (.own x)) x (.ins C dx [])) := fun a o n z => ⟨(nn a o z).1, fun y => y.elim n (nn a o z).2⟩
  have some_ : ∀ a, (Ho a).isSome = true → (upd (upd Ho dx (.own x)) x (.ins C dx []) a).isSome = true := fun a z => by
    obtain ⟨o, ho⟩ := Option.isSome_iff_exists.mp z
    rw [(nn a o ho).1]
    rfl
  have S0 : Sto ⟨K, cl, b, l⟩ (With B0 x) (upd (upd Ho dx (.own x)) x (.ins C dx [])) (startD N.length (.slf x :: as)) g (L2.start N (.ref x :: ws)) (upd (upd Ho dx (.own x)) x (.ins C dx [])) := by
    have hav : AVs ⟨K, cl, b, l⟩ (With B0 x) (upd (upd Ho dx (.own x)) x (.ins C dx [])) (.ref x :: ws) (.slf x :: as) := .cons rfl (avs_goes go h2)
    have := av_sto (n := N.length - (AV.slf x :: as).length) hav (Or.inl h3) (fun a z => z.elim (fun y => some_ a (h4 a y)) fun y => by rw [y, upd_same]; rfl) (nn b _ h5).1 h6 (nn l _ h7).1
    unfold startD L2.start
    rw [hav.len]
    exact this
  have S1 := S0.weak0 (H0 := Ho) (fun a o _ z => (nn a o z).1) (by rw [show Ho b = _ from h5]; rfl) (by show (Ho l).isSome = true; rw [h7]; rfl)
  refine ha b l B0 Ho _ g _ _ x dx [] [] δ' fs g' S1 rfl hx upd_same .nil e _ fun σ' H' vs' S' hx' hF' => ?_
  have nsq : g'.ns = g.ns := by
    have e1 := S'.scr
    rw [show Ho l = some (.lst (g.ns.map V.int)) from h7] at e1
    have e' := HO.lst.inj (Option.some.inj e1)
    exact int_inj _ _ e'.symm
  refine h9 H' S'.ent S'.bg nsq ?_
  refine .obj (fun z => ?_) hx' hc (DatF.goes (goes_less fun a z => Or.inl (Or.inl z)) hF')
  have := h4 x z
  rw [hx] at this
  cases this
end
/-- making instances of x: its __init__ with n positional values and the keywords ks, all that it has, in order -/
def Jc (P : Program) (w : World) (K : PySem.W.Frag) (mg : Str → Option Value) (base : Heap) (cl : Str → Option Addr) (k : Nat) (x : Str) (C : Addr) (ps : List Str) (n : Nat) (ks : List Str) (F : List AV → M (List (Str × D))) : Prop :=
  ∃ (fI : Addr) (fd : FuncData), Mk K C fI ∧ FnG P w K mg base k fI fd ps (spI K cl x C (n + ks.length) F) ∧ KBn K fd ps (n + 1) ks (fun us ws => us ++ ws) (fun vs zs => vs ++ zs)
section
variable {X : Cx} {k j n : Nat} {C : Addr} {x : Str} {ps ks : List Str} {cl : Str → Option Addr} {F : List AV → M (List (Str × D))} {pp pos : Pos} {e : Expr} {es : List Expr} {kws : List Keyword} {t tz : TA} {W : WX}
theorem pe_makeC (Dk : Kc X.K X.mg cl x C) (J : Jc X.prog X.w X.K X.mg X.base cl k x C ps n ks F) (hr : GRoom j X.A) (hk : k + 1 ≤ j) (hg : Gl X x) (tk : Takes X W) (ha : PA X (e :: es) t) (hkw : PK X kws tz)
    (hall : (backToKw pos (keywordEach kws X.env)).all (·.1.isSome) = true := by rfl) (hks : (backToKw pos (keywordEach kws X.env)).filterMap (·.1) = ks := by rfl) (hdb : (x == ("__debug__" : Str)) = false := by decide)
    (he : starEach (e :: es) X.env = (false, eval e X.env) :: starEach es X.env := by rfl) (hpl : ((backTo pos (starEach (e :: es) X.env)).any (·.1) || (backToKw pos (keywordEach kws X.env)).any (·.1.isNone)) = false := by rfl) :
    PE X (.Call (.Name x pp) (e :: es) kws pos) (tMakeKG C n ks.length (spI X.K cl x C (n + ks.length) F) (fun vs zs => vs ++ zs) W t tz) := by
  obtain ⟨fI, fd, h1, h2, h3⟩ := J
  exact pe_makeKG h1 h2 (hr.mono hk) hg Dk.at_ h3 tk ha hkw hall hks hdb he hpl
end
theorem avs_append {G : Gd} {Bad : Addr → Prop} {H : Hp} : ∀ {vs ws : List V} {as bs : List AV}, AVs G Bad H vs as → AVs G Bad H ws bs → AVs G Bad H (vs ++ ws) (as ++ bs)
  | _, _, _, _, .nil, q => q
  | _, _, _, _, .cons a r, q => .cons a (avs_append r q)
theorem ae_makeC {K : PySem.W.Frag} {cl : Str → Option Addr} {W : WX} {ta tk : TA} {ma mk : DA} {c : Str} {C : Addr} {n m : Nat} {f : List AV → M (List (Str × D))} (h : AA K cl W ta ma) (hk : AA K cl W tk mk) (hc : cl c = some C) :
    AE K cl W (tMakeKG C n m (spI K cl c C (n + m) f) (fun vs zs => vs ++ zs) W ta tk) (eMakeK c n m (fun as bs => as ++ bs) f ma mk) :=
  ae_makeK h hk hc (fun as bs h1 h2 => by rw [List.length_append, h1, h2]) fun G Bad H x vs zs as bs _ _ h1 h2 => ⟨vs ++ zs, rfl, avs_append h1 h2⟩
end Vi

set_option Elab.async false
set_option linter.all false
set_option maxRecDepth 100000
set_option maxHeartbeats 4000000
namespace Vi
open PySem PySem.Spec PyProof.Rows L2
section
variable {K : PySem.W.Frag} {cl : Str → Option Addr} {W : WX} {te : TE} {me : DE}
/-! list(range(n)) -/
def lrgE : EV → Option EV
  | .val (.int j) => if smallI j = true then some (.nw (.lst (rngD 0 j.toNat))) else none
  | _ => none
theorem datl_rg {G : Gd} {Bad : Addr → Prop} {H : Hp} (lo : Int) : ∀ (is : List Nat), DatL G Bad H (is.map fun i : Nat => V.int (lo + (i : Int))) (is.map fun i : Nat => D.int (lo + (i : Int)))
  | [] => .nil
  | i :: is => .cons (.int _) (datl_rg lo is)
theorem ae_lrg (h : AE K cl W te me) : AE K cl W (tLstRg (tRg1 te)) (eB1 lrgE me) := by
  intro b l B0 H0 δ g σ H r g' S hm Q q
  rcases mb_cases hm with ⟨x, e, rfl⟩ | ⟨ev, g1, e, hm1⟩
  · exact h b l B0 H0 δ g σ H _ _ S e _ q
  refine h b l B0 H0 δ g σ H _ _ S e _ fun v H1 k1 b1 n1 hv => ?_
  have S1 := S.kp k1 b1 n1
  cases hd : lrgE ev with
  | none => rw [hd] at hm1; cases hm1
  | some r0 =>
    rw [hd] at hm1
    cases hm1
    unfold lrgE at hd
    split at hd
    · rename_i j
      split at hd
      · rename_i hs
        cases hd
        have hs' : -100000 ≤ j ∧ j ≤ 100000 := by simpa [smallI] using hs
        refine ⟨j, datint (show Dat _ _ _ _ (.int j) from hv), ⟨by omega, by omega, by omega, by omega, by omega⟩, fun p hp => ?_⟩
        refine q _ _ (k1.trans (Kp.new hp)) (bag_upd b1 hp) n1 ⟨p, _, rfl, fresh_kp b1.some k1 hp, upd_same, .lst ?_⟩
        unfold rgV rngD
        rw [show (j - 0).toNat = j.toNat by omega]
        exact datl_rg 0 (List.range j.toNat)
      · cases hd
    · cases hd
/-! {k: v, ..} -/
def pairsE : List (DE × DE) → DS → M (List (Key × D))
  | [], _ => mret []
  | (mk, mv) :: r, δ => mbind (mk δ) fun k => mbind (mv δ) fun v => match keyE k, v.keep with
    | some k', some d => mbind (pairsE r δ) fun ps => mret ((k', d) :: ps)
    | _, _ => mno
def mergeD (kvs more : List (Key × D)) : List (Key × D) := more.foldl (fun acc kv => putKD acc kv.1 kv.2) kvs
theorem datk_merge {G : Gd} {Bad : Addr → Prop} {H : Hp} : ∀ {ms : List (Key × V)} {md : List (Key × D)} {vs : List (Key × V)} {ds : List (Key × D)}, DatK G Bad H ms md → DatK G Bad H vs ds → DatK G Bad H (mergeK vs ms) (mergeD ds md)
  | _, _, _, _, .nil, q => q
  | _, _, vs, ds, .cons (k := k) (v := v) (vs := ms) (d := d) (ds := md) a r, q => by
    show DatK G Bad H (mergeK (putK vs k v) ms) (mergeD (putKD ds k d) md)
    exact datk_merge r (datk_put a q)
def eDn (ps : List (DE × DE)) : DE := fun δ => mbind (pairsE ps δ) fun kvs => if kvs.length ≤ 15 then mret (.nw (.dct (mergeD [] kvs))) else mno
/-- the pairs, one behind another; the new dict stands at p -/
inductive APs (K : PySem.W.Frag) (cl : Str → Option Addr) (W : WX) : List (TE × TE) → List (DE × DE) → Prop
  | nil : APs K cl W [] []
  | cons {tk tv : TE} {mk mv : DE} {ts : List (TE × TE)} {ms : List (DE × DE)} : AE K cl W tk mk → AE K cl W tv mv → APs K cl W ts ms → APs K cl W ((tk, tv) :: ts) ((mk, mv) :: ms)
theorem pairs_ok {ts : List (TE × TE)} {ms : List (DE × DE)} (h : APs K cl W ts ms) : ∀ (b l : Addr) B0 H0 δ g σ H r g', Sto ⟨K, cl, b, l⟩ B0 H0 δ g σ H → pairsE ms δ g = some (r, g') → ∀ Q : List (V × V) → Hp → Prop,
    (match r with
      | .ok ds => ∀ kvs H', Kp ⟨K, cl, b, l⟩ H H' → BagAt ⟨K, cl, b, l⟩ H' g' → g'.ns = g.ns → DatK ⟨K, cl, b, l⟩ (Bd B0 δ σ) H' kvs ds → Q (kvs.map fun kv => (kV kv.1, kv.2)) H'
      | .er x => ∀ c d H', Kp ⟨K, cl, b, l⟩ H H' → BagAt ⟨K, cl, b, l⟩ H' g' → g'.ns = g.ns → ExAt ⟨K, cl, b, l⟩ (Bd B0 δ σ) H' c d x → W c d σ H') → tPairs ts σ H Q := by
  induction h with
  | nil =>
    intro b l B0 H0 δ g σ H r g' S hm Q q
    cases hm
    exact q [] H .refl S.bg rfl .nil
  | @cons tk tv mk mv ts ms hk hv _ ih =>
    intro b l B0 H0 δ g σ H r g' S hm Q q
    rcases mb_cases hm with ⟨x, e, rfl⟩ | ⟨ek, g1, e, hm1⟩
    · exact hk b l B0 H0 δ g σ H _ _ S e _ q
    refine hk b l B0 H0 δ g σ H _ _ S e _ fun kv H1 k1 b1 n1 h1 => ?_
    have S1 := S.kp k1 b1 n1
    rcases mb_cases hm1 with ⟨x, e2, rfl⟩ | ⟨ev, g2, e2, hm2⟩
    · exact hv b l B0 H0 δ g1 σ H1 _ _ S1 e2 _ fun c d H' k bb n hx => q c d H' (k1.trans k) bb (n.trans n1) hx
    refine hv b l B0 H0 δ g1 σ H1 _ _ S1 e2 _ fun vv H2 k2 b2 n2 h2 => ?_
    have S2 := S1.kp k2 b2 n2
    cases hkk : keyE ek with
    | none => rw [hkk] at hm2; cases hm2
    | some k =>
      cases hw : ev.keep with
      | none => rw [hkk, hw] at hm2; cases hm2
      | some d =>
        rw [hkk, hw] at hm2
        dsimp only at hm2
        have hd := evok_keep S1.alB h2 hw
        have k12 := k1.trans k2
        rcases mb_cases hm2 with ⟨x, e3, rfl⟩ | ⟨ps, g3, e3, hm3⟩
        · exact ih b l B0 H0 δ g2 σ H2 _ _ S2 e3 _ fun c dd H' kk bb n hx => q c dd H' (k12.trans kk) bb (n.trans (n2.trans n1)) hx
        cases hm3
        refine ih b l B0 H0 δ g2 σ H2 _ _ S2 e3 _ fun kvs H3 k3 b3 n3 h3 => ?_
        obtain rfl := keyE_v h1 hkk
        exact q ((k, vv) :: kvs) H3 (k12.trans k3) b3 (n3.trans (n2.trans n1)) (.cons (Dat.goes (k3.goes S.bd) hd) h3)
theorem ae_dn {ts : List (TE × TE)} {ms : List (DE × DE)} (h : APs K cl W ts ms) : AE K cl W (tDisp ts) (eDn ms) := by
  intro b l B0 H0 δ g σ H r g' S hm Q q p hp
  have S0 := S.box (o := .dK []) hp
  have k0 : Kp ⟨K, cl, b, l⟩ H (upd H p (.dK [])) := Kp.new hp
  have pb : p ≠ b := fun z => by
    subst z
    have := S.bg.some
    rw [hp] at this
    cases this
  have less : ∀ a, Bd B0 δ σ a → Bd (With B0 p) δ σ a := fun a z => z.elim (fun z => Or.inl (Or.inl z)) Or.inr
  rcases mb_cases hm with ⟨x, e, rfl⟩ | ⟨kvd, g1, e, hm1⟩
  · exact pairs_ok h b l _ _ δ g σ _ _ _ S0 e _ fun c d H' k bb n hx => q c d H' (k0.trans k) bb n (ex_less hx less)
  refine pairs_ok h b l _ _ δ g σ _ _ _ S0 e _ fun kvs H1 k1 b1 n1 h1 => ?_
  split at hm1
  · rename_i hl
    cases hm1
    have npB : ¬ Bd B0 δ σ p := fun z => by have := S.alB p z; rw [hp] at this; cases this
    refine ⟨k1 p _ pb upd_same, kvs, rfl, by rw [datk_count h1]; exact hl, ?_⟩
    refine q _ _ (fun a o n e => ?_) ?_ n1 ⟨p, _, rfl, hp, upd_same, .dct (datk_merge ?_ .nil)⟩
    · rw [upd_ne (ne_of_none e hp)]
      exact k1 a o n (k0 a o n e)
    · show upd H1 p _ b = _
      rw [upd_ne (fun z => pb z.symm)]
      exact b1
    · exact DatK.goes (fun a o n e => ⟨by rw [upd_ne (fun z => n (by rw [z]; exact Or.inl (Or.inr rfl)))]; exact e, fun z => n (z.elim (less a) fun z => Or.inl (Or.inr z))⟩) h1
  · cases hm1
end
end Vi

set_option Elab.async false
set_option linter.all false
set_option maxRecDepth 100000
set_option maxHeartbeats 4000000
namespace Vi
open PySem PySem.Spec PyProof.Rows L2
/-! dict(pairs) -/
def asPairs : List D → Option (List (Key × D))
  | [] => some []
  | .tup [.int i, d] :: r => (asPairs r).map ((.inl i, d) :: ·)
  | .tup [.str s, d] :: r => (asPairs r).map ((.inr s, d) :: ·)
  | _ :: _ => none
theorem dat_tup {G : Gd} {Bad : Addr → Prop} {H : Hp} {v : V} {ds : List D} (h : Dat G Bad H v (.tup ds)) : ∃ a vs, v = .ref a ∧ SqT G.K H a vs ∧ DatL G Bad H vs ds := by
  cases h with
  | tupH n h2 r => exact ⟨_, _, rfl, Or.inl (Or.inl h2), r⟩
  | tupK h2 r => exact ⟨_, _, rfl, sqT_no h2, r⟩
theorem pair_of {G : Gd} {Bad : Addr → Prop} {H : Hp} {v : V} {a d : D} (h : Dat G Bad H v (.tup [a, d])) : ∃ p x y, v = .ref p ∧ SqT G.K H p [x, y] ∧ Dat G Bad H x a ∧ Dat G Bad H y d := by
  obtain ⟨p, vs, e, h1, h2⟩ := dat_tup h
  cases h2 with
  | cons a1 r =>
    cases r with
    | cons a2 r =>
      cases r
      exact ⟨p, _, _, e, h1, a1, a2⟩
theorem asPairs_v {G : Gd} {Bad : Addr → Prop} {H : Hp} : ∀ {ds : List D} {vs : List V} {kvs : List (Key × D)}, DatL G Bad H vs ds → asPairs ds = some kvs → ∃ (ps : List Addr) (kvv : List (Key × V)), vs = ps.map V.ref ∧ Paired (fun p kv => SqT G.K H p [kV kv.1, kv.2]) ps kvv ∧ DatK G Bad H kvv kvs
  | [], _, kvs, h, e => by
    cases h
    cases e
    exact ⟨[], [], rfl, .nil, .nil⟩
  | d :: ds, _, kvs, h, e => by
    cases h with
    | cons a r =>
      unfold asPairs at e
      split at e
      · rename_i z
        cases z
      · rename_i i d' r' z
        cases z
        obtain ⟨k', h1, rfl⟩ := Option.map_eq_some_iff.mp e
        obtain ⟨ps, kvv, rfl, h2, h3⟩ := asPairs_v r h1
        obtain ⟨p, x, y, rfl, h4, h5, h6⟩ := pair_of a
        obtain rfl := datint h5
        exact ⟨p :: ps, (.inl i, y) :: kvv, rfl, .cons h4 h2, .cons h6 h3⟩
      · rename_i i d' r' z
        cases z
        obtain ⟨k', h1, rfl⟩ := Option.map_eq_some_iff.mp e
        obtain ⟨ps, kvv, rfl, h2, h3⟩ := asPairs_v r h1
        obtain ⟨p, x, y, rfl, h4, h5, h6⟩ := pair_of a
        obtain rfl := datstr h5
        exact ⟨p :: ps, (.inr i, y) :: kvv, rfl, .cons h4 h2, .cons h6 h3⟩
      · cases e
section
variable {K : PySem.W.Frag} {cl : Str → Option Addr} {W : WX}
abbrev rDictP (K : PySem.W.Frag) : List V → Hp → VK → Prop := fun xs H Q => ∃ (a : Addr) (ps : List Addr) (kvs : List (Key × V)), xs = [.ref a] ∧ SqL K H a (ps.map V.ref) ∧ Paired (fun p kv => SqT K H p [kV kv.1, kv.2]) ps kvs ∧ ∀ p, H p = none → Q (.ref p) (upd H p (.dK (mergeK [] kvs)))
def dictE (e : EV) : Option EV := (lookL e).bind fun ds => (asPairs ds).map fun kvs => .nw (.dct (mergeD [] kvs))
theorem r1_dict : R1ok K cl W (rDictP K) dictE := by
  intro b l B0 H0 δ g σ H H1 x e v S al k hv hf Q q
  obtain ⟨ds, h1, h2⟩ := Option.bind_eq_some_iff.mp hf
  obtain ⟨kvs, h3, rfl⟩ := Option.map_eq_some_iff.mp h2
  -- apart from what may change, for what is new in it as well
  have keep : ∃ a vs, v = .ref a ∧ H1 a = some (.lst vs) ∧ DatL ⟨K, cl, b, l⟩ (Bd B0 δ σ) H1 vs ds := by
    obtain ⟨a, vs, e1, h4, h5⟩ := (evok_items hv).1 (lookL_of h1)
    exact ⟨a, vs, e1, h4, h5⟩
  obtain ⟨a, vs, rfl, h4, h5⟩ := keep
  obtain ⟨ps, kvv, rfl, h6, h7⟩ := asPairs_v h5 h3
  refine ⟨a, ps, kvv, rfl, Or.inl (Or.inl h4), h6, fun p hp => ?_⟩
  refine q _ _ (Kp.new hp) (bag_upd S.bg hp) ⟨p, _, rfl, hp, upd_same, .dct (datk_merge ?_ .nil)⟩
  exact DatK.goes (fun a o n e => ⟨by rw [upd_ne (ne_of_none e hp)]; exact e, fun z => z.elim n fun z => by subst z; rw [hp] at e; cases e⟩) h7
end
end Vi

set_option Elab.async false
set_option linter.all false
set_option maxRecDepth 100000
set_option maxHeartbeats 4000000
namespace Vi
open PySem PySem.Spec PyProof.Rows L2
section
variable {K : PySem.W.Frag} {cl : Str → Option Addr} {W : WX} {te ti : TE} {me mi : DE}
/-! xs.insert(i, y), xs.clear(), xs[i] = y of own lists -/
abbrev rIns : V → List V → Hp → VK → Prop := fun x vs H Q => ∃ (l : Addr) (xs : List V) (i : Int) (y : V), x = .ref l ∧ vs = [.int i, y] ∧ H l = some (.lst xs) ∧ xs.length < sizeLine ∧ 0 ≤ i ∧ i < 2 ^ 63 ∧ Q .non (upd H l (.lst (xs.take i.toNat ++ [y] ++ xs.drop i.toNat)))
/-- two values, then a change of the own list in slot i -/
def sOwn2 (i : Nat) (f : D → EV → EV → Option D) (m1 m2 : DE) : DT := fun δ g => match (δ[i]? : Option (Option SV)) with
  | some (some (SV.own ds)) => sOn m1 (fun e δ g => sOn m2 (fun e2 δ g => (f ds e e2).map fun es => (Ot.nx (δ.set i (some (.own es))), g)) δ g) δ g
  | _ => none
def fIns : D → EV → EV → Option D := fun ds e e2 => match ds with
  | .lst ds => (match e with
    | .val (.int k) => if (lineOk (ds.length + 1) && decide (0 ≤ k) && decide (k ≤ 100000)) = true then e2.keep.map fun d => .lst (ds.take k.toNat ++ [d] ++ ds.drop k.toNat) else none
    | _ => none)
  | _ => none
/-- the slot holds an own list -/
def atLst (i : Nat) (m : DT) : DT := fun δ g => match (δ[i]? : Option (Option SV)) with
  | some (some (SV.own (.lst _))) => m δ g
  | _ => none
def sIns (i : Nat) (m1 m2 : DE) : DT := atLst i (sOwn2 i fIns m1 m2)
theorem as_ins {i : Nat} (h1 : AE K cl W ti mi) (h2 : AE K cl W te me) : AS K cl W (tDrop (tBM K "list" rIns (tVar i) (tCons ti (tCons te tNil)))) (sIns i mi me) := by
  intro b l B0 H0 δ g σ H o g' S hm Dn q
  unfold sIns atLst at hm
  split at hm
  · rename_i ds hd
    unfold sOwn2 at hm
    rw [hd] at hm
    dsimp only at hm
    obtain ⟨p, vs, a1, a2, a3, a4⟩ := S.own i _ hd
    obtain ⟨vs, rfl, _⟩ := a4.fst
    refine ⟨.ref p, a1, Or.inl ⟨rfl, vs, Or.inl (Or.inl a3)⟩, ?_⟩
    show ti σ H fun v1 H1 => te σ H1 fun v2 H2 => rIns (.ref p) [v1, v2] H2 fun _ H3 => Dn.nx σ H3
    unfold sOn at hm
    cases e : mi δ g with
    | none => rw [e] at hm; cases hm
    | some pr =>
      obtain ⟨rs, g1⟩ := pr
      rw [e] at hm
      cases rs with
      | er x =>
        cases hm
        exact h1 b l B0 H0 δ g σ H _ _ S e _ fun c d H' k bg n hx => q c d σ H' (S.kp k bg n) hx
      | ok ev =>
        dsimp only at hm
        refine h1 b l B0 H0 δ g σ H _ _ S e _ fun v H1 k1 b1 n1 hv => ?_
        have S1 := S.kp k1 b1 n1
        cases e2 : me δ g1 with
        | none => rw [e2] at hm; cases hm
        | some pr =>
          obtain ⟨rs, g2⟩ := pr
          rw [e2] at hm
          cases rs with
          | er x =>
            cases hm
            exact h2 b l B0 H0 δ g1 σ H1 _ _ S1 e2 _ fun c d H' k bg n hx => q c d σ H' (S1.kp k bg n) hx
          | ok ev2 =>
            obtain ⟨es, h3, h4⟩ := Option.map_eq_some_iff.mp hm
            cases h4
            refine h2 b l B0 H0 δ g1 σ H1 _ _ S1 e2 _ fun u H2 k2 b2 n2 hu => ?_
            have S2 := S1.kp k2 b2 n2
            obtain ⟨p', vs', c1, c2, c3, c4⟩ := S2.own i _ hd
            rw [a1] at c1
            cases c1
            obtain ⟨vs', rfl, c4'⟩ := c4.fst
            unfold fIns at h3
            dsimp only at h3
            split at h3
            · rename_i k
              split at h3
              · rename_i hh
                obtain ⟨d, h5, rfl⟩ := Option.map_eq_some_iff.mp h3
                have hh' : (lineOk (ds.length + 1) = true ∧ 0 ≤ k) ∧ k ≤ 100000 := by simpa using hh
                have hl := line_of hh'.1.1
                have hn := c4'.len
                have hk := evok_keep S1.alB hu h5
                refine ⟨p, vs', k, u, rfl, by rw [datint (show Dat _ _ _ _ (.int k) from hv)], c3, by omega, hh'.1.2, by omega, ?_⟩
                exact q σ _ (S2.wr hd a1 (.lst ((datl_take k.toNat c4').append (.cons hk .nil) |>.append (datl_dropN k.toNat c4'))))
              · cases h3
            · cases h3
  · cases hm
/-- xs.clear() -/
def sClr (i : Nat) : DT := fun δ g => match (δ[i]? : Option (Option SV)) with
  | some (some (SV.own (.lst _))) => some (.nx (δ.set i (some (.own (.lst [])))), g)
  | _ => none
theorem as_clr {i : Nat} : AS K cl W (tDrop (tBM0 K "list" rClear (tVar i))) (sClr i) := by
  intro b l B0 H0 δ g σ H o g' S hm Dn q
  unfold sClr at hm
  split at hm
  · rename_i ds hd
    cases hm
    obtain ⟨p, vs, a1, a2, a3, a4⟩ := S.own i _ hd
    obtain ⟨vs, rfl, _⟩ := a4.fst
    exact ⟨.ref p, a1, Or.inl ⟨rfl, vs, Or.inl (Or.inl a3)⟩, p, vs, rfl, rfl, a3, q σ _ (S.wr hd a1 (.lst .nil))⟩
  · cases hm
def fPut : D → EV → EV → Option D := fun ds e e2 => match ds with
  | .lst ds => (match e2 with
    | .val (.int k) => (ixN ds.length k).bind fun j => e.keep.map fun d => .lst (ds.set j d)
    | _ => none)
  | .dct kvs => if lineOk (kvs.length + 1) = true then (keyE e2).bind fun k => e.keep.map fun d => .dct (putKD kvs k d) else none
  | _ => none
/-- the store of a list, or of a dict -/
def rSetU : V → V → V → Hp → (Hp → Prop) → Prop := fun o i v H Q => rSetL o i v H Q ∨ rSetD o i v H Q
theorem set_U {X : Cx} (hu : X.A.units + 64 < cLine) : PSet X rSetU := fun pins s σ H o i v ov iv u Q I ro ri rv h => h.elim (fun h => set_list pins s σ H o i v ov iv u Q I ro ri rv h) fun h => set_dict (by omega) pins s σ H o i v ov iv u Q I ro ri rv h
/-- xs[i] = y: the value first -/
def sPut (i : Nat) (mi me : DE) : DT := sOwn2 i fPut me mi
theorem datl_set {G : Gd} {Bad : Addr → Prop} {H : Hp} {v : V} {d : D} (h : Dat G Bad H v d) : ∀ (j : Nat) {vs : List V} {ds : List D}, DatL G Bad H vs ds → DatL G Bad H (vs.set j v) (ds.set j d)
  | _, _, _, .nil => .nil
  | 0, _, _, .cons _ r => .cons h r
  | j + 1, _, _, .cons a r => .cons a (datl_set h j r)
/-- what a store does at an own object -/
theorem put_own {G : Gd} {B0 : Addr → Prop} {H0 H : Hp} {δ : DS} {g : Bag} {σ : L2.St} (S : Sto G B0 H0 δ g σ H) {i : Nat} {ds es : D} {p : Addr} (hd : δ[i]? = some (some (.own ds))) (a1 : σ[i]? = some (some (V.ref p))) {e e2 : EV} {v u : V} {d : D} (hk : e.keep = some d) (hv : Dat G (Bd B0 δ σ) H v d) {H9 : Hp} (hu : EVok G (Bd B0 δ σ) H9 H u e2) (hf : fPut ds e e2 = some es) {Q : Hp → Prop}
    (q : ∀ H', Sto G B0 H0 (δ.set i (some (.own es))) g σ H' → (∀ a o, a ≠ p → H a = some o → H' a = some o) → Q H') : rSetU (.ref p) u v H Q := by
  obtain ⟨p', vs', c1, c2, c3, c4⟩ := S.own i _ hd
  rw [a1] at c1
  cases c1
  unfold fPut at hf
  split at hf
  · rename_i ds
    obtain ⟨vs', rfl, c4'⟩ := c4.fst
    split at hf
    · rename_i k
      obtain ⟨j, h5, h6⟩ := Option.bind_eq_some_iff.mp hf
      obtain ⟨d', h7, rfl⟩ := Option.map_eq_some_iff.mp h6
      rw [hk] at h7
      cases h7
      exact Or.inl ⟨p, vs', k, j, rfl, datint (show Dat _ _ _ _ (.int k) from hu), c3, by rw [c4'.len]; exact h5, q _ (S.wr hd a1 (.lst (datl_set hv j c4'))) fun a o n e => by rw [upd_ne n]; exact e⟩
    · cases hf
  · rename_i kvs
    obtain ⟨vs', rfl, c4'⟩ := c4.fdc
    split at hf
    · rename_i hl
      obtain ⟨k, h5, h6⟩ := Option.bind_eq_some_iff.mp hf
      obtain ⟨d', h7, rfl⟩ := Option.map_eq_some_iff.mp h6
      rw [hk] at h7
      cases h7
      have hl' := line_of hl
      have hn := datk_count c4'
      obtain rfl := keyE_v hu h5
      exact Or.inr ⟨p, _, rfl, Or.inl ⟨vs', k, c3, rfl, by omega, rfl⟩, q _ (S.wr hd a1 (.dct (datk_put hv c4'))) fun a o n e => by rw [upd_ne n]; exact e⟩
    · cases hf
  · cases hf
theorem as_put {i : Nat} (h1 : AE K cl W ti mi) (h2 : AE K cl W te me) : AS K cl W (tAsg te (gSub (tVar i) ti rSetU)) (sPut i mi me) := by
  intro b l B0 H0 δ g σ H o g' S hm Dn q
  unfold sPut sOwn2 at hm
  split at hm
  · rename_i ds hd
    obtain ⟨p, vs, a1, a2, a3, _⟩ := S.own i ds hd
    show te σ H fun v H1 => (∃ x, σ[i]? = some (some x) ∧ ti σ H1 fun k H2 => rSetU x k v H2 fun H3 => Dn.nx σ H3)
    unfold sOn at hm
    cases e : me δ g with
    | none => rw [e] at hm; cases hm
    | some pr =>
      obtain ⟨rs, g1⟩ := pr
      rw [e] at hm
      cases rs with
      | er x =>
        cases hm
        exact h2 b l B0 H0 δ g σ H _ _ S e _ fun c d H' k bg n hx => q c d σ H' (S.kp k bg n) hx
      | ok ev =>
        dsimp only at hm
        refine h2 b l B0 H0 δ g σ H _ _ S e _ fun v H1 k1 b1 n1 hv => ⟨.ref p, a1, ?_⟩
        have S1 := S.kp k1 b1 n1
        cases e2 : mi δ g1 with
        | none => rw [e2] at hm; cases hm
        | some pr =>
          obtain ⟨rs, g2⟩ := pr
          rw [e2] at hm
          cases rs with
          | er x =>
            cases hm
            exact h1 b l B0 H0 δ g1 σ H1 _ _ S1 e2 _ fun c d H' k bg n hx => q c d σ H' (S1.kp k bg n) hx
          | ok ev2 =>
            obtain ⟨es, h3, h4⟩ := Option.map_eq_some_iff.mp hm
            cases h4
            refine h1 b l B0 H0 δ g1 σ H1 _ _ S1 e2 _ fun u H2 k2 b2 n2 hu => ?_
            have S2 := S1.kp k2 b2 n2
            have hkk : ∃ d, ev.keep = some d := by
              unfold fPut at h3
              split at h3
              · split at h3
                · obtain ⟨j, h5, h6⟩ := Option.bind_eq_some_iff.mp h3
                  obtain ⟨d', h7, _⟩ := Option.map_eq_some_iff.mp h6
                  exact ⟨_, h7⟩
                · cases h3
              · split at h3
                · obtain ⟨j, h5, h6⟩ := Option.bind_eq_some_iff.mp h3
                  obtain ⟨d', h7, _⟩ := Option.map_eq_some_iff.mp h6
                  exact ⟨_, h7⟩
                · cases h3
              · cases h3
            obtain ⟨d, hk⟩ := hkk
            exact put_own S2 hd a1 hk (Dat.goes (k2.goes S1.bd) (evok_keep S.alB hv hk)) hu h3 fun H' S' _ => q σ H' S'
  · cases hm
end
end Vi

set_option Elab.async false
set_option linter.all false
set_option maxRecDepth 100000
set_option maxHeartbeats 4000000
namespace Vi
open PySem PySem.Spec PyProof.Rows L2
/-! data while a dict is frozen, and behind that -/
theorem rd_not {H : Hp} {d : Addr} {u : List (Key × V)} (h : Rd H d (.dK u)) {o : HO} (e : H d = some o) : o = .dK u ∨ ∃ ob, o = .frz ob (.dK u) := by
  rcases h with h | ⟨ob, h⟩
  · rw [h] at e
    cases e
    exact Or.inl rfl
  · rw [h] at e
    cases e
    exact Or.inr ⟨_, rfl⟩
theorem rd_eq {H : Hp} {d : Addr} {u w : List (Key × V)} (h : Rd H d (.dK u)) (k : Rd H d (.dK w)) : w = u := by
  rcases k with k | ⟨ob, k⟩
  · rcases rd_not h k with z | ⟨_, z⟩
    · cases z; rfl
    · cases z
  · rcases rd_not h k with z | ⟨_, z⟩
    · cases z
    · cases z; rfl
mutual
/-- H' is as H, but a dict at d that may be frozen or not -/
theorem Dat.swap {G : Gd} {Bad : Addr → Prop} {H H' : Hp} {d : Addr} {u : List (Key × V)} (hk : ∀ a o, a ≠ d → H a = some o → H' a = some o) (h1 : Rd H d (.dK u)) (h2 : Rd H' d (.dK u)) : ∀ {v : V} {t : D}, Dat G Bad H v t → Dat G Bad H' v t
  | _, _, .non => .non
  | _, _, .bl c => .bl c
  | _, _, .int i => .int i
  | _, _, .str s => .str s
  | _, _, .lstH (a := a) n h r => .lstH n (hk a _ (fun z => by subst z; rcases rd_not h1 h with z | ⟨_, z⟩ <;> cases z) h) (DatL.swap hk h1 h2 r)
  | _, _, .tupH (a := a) n h r => .tupH n (hk a _ (fun z => by subst z; rcases rd_not h1 h with z | ⟨_, z⟩ <;> cases z) h) (DatL.swap hk h1 h2 r)
  | _, _, .tupK h r => .tupK h (DatL.swap hk h1 h2 r)
  | _, _, .dct (a := a) n h r => .dct n (by
      by_cases z : a = d
      · subst z
        obtain rfl := rd_eq h1 h
        exact h2
      · rcases h with h | ⟨o, h⟩
        · exact Or.inl (hk a _ z h)
        · exact Or.inr ⟨o, hk a _ z h⟩) (DatK.swap hk h1 h2 r)
  | _, _, .obj (a := a) n h c r => .obj n (hk a _ (fun z => by subst z; rcases rd_not h1 h with z | ⟨_, z⟩ <;> cases z) h) c (DatF.swap hk h1 h2 r)
theorem DatL.swap {G : Gd} {Bad : Addr → Prop} {H H' : Hp} {d : Addr} {u : List (Key × V)} (hk : ∀ a o, a ≠ d → H a = some o → H' a = some o) (h1 : Rd H d (.dK u)) (h2 : Rd H' d (.dK u)) : ∀ {v : List V} {t : List D}, DatL G Bad H v t → DatL G Bad H' v t
  | _, _, .nil => .nil
  | _, _, .cons a r => .cons (Dat.swap hk h1 h2 a) (DatL.swap hk h1 h2 r)
theorem DatK.swap {G : Gd} {Bad : Addr → Prop} {H H' : Hp} {d : Addr} {u : List (Key × V)} (hk : ∀ a o, a ≠ d → H a = some o → H' a = some o) (h1 : Rd H d (.dK u)) (h2 : Rd H' d (.dK u)) : ∀ {v : List (Key × V)} {t : List (Key × D)}, DatK G Bad H v t → DatK G Bad H' v t
  | _, _, .nil => .nil
  | _, _, .cons a r => .cons (Dat.swap hk h1 h2 a) (DatK.swap hk h1 h2 r)
theorem DatF.swap {G : Gd} {Bad : Addr → Prop} {H H' : Hp} {d : Addr} {u : List (Key × V)} (hk : ∀ a o, a ≠ d → H a = some o → H' a = some o) (h1 : Rd H d (.dK u)) (h2 : Rd H' d (.dK u)) : ∀ {v : List (Str × V)} {t : List (Str × D)}, DatF G Bad H v t → DatF G Bad H' v t
  | _, _, .nil => .nil
  | _, _, .cons a r => .cons (Dat.swap hk h1 h2 a) (DatF.swap hk h1 h2 r)
end
theorem OwnD.swap {G : Gd} {Bad : Addr → Prop} {H H' : Hp} {d : Addr} {u : List (Key × V)} (hk : ∀ a o, a ≠ d → H a = some o → H' a = some o) (h1 : Rd H d (.dK u)) (h2 : Rd H' d (.dK u)) {o : HO} {t : D} (h : OwnD G Bad H o t) : OwnD G Bad H' o t := by
  cases h with
  | lst h => exact .lst (DatL.swap hk h1 h2 h)
  | dct h => exact .dct (DatK.swap hk h1 h2 h)
section
variable {G : Gd} {B0 : Addr → Prop} {H0 H H' : Hp} {δ δ' : DS} {g g' : Bag} {σ σ' : L2.St} {d : Addr} {od : Obj} {vs : List (Key × V)}
abbrev lockd (H : Hp) (d : Addr) (od : Obj) (vs : List (Key × V)) : Hp := upd H d (.frz od (.dK vs))
theorem lock_ne {a : Addr} {o : HO} (n : a ≠ d) (h : H a = some o) : lockd H d od vs a = some o := by rw [lockd, upd_ne n]; exact h
theorem Sto.lock (S : Sto G B0 H0 δ g σ H) (n : ¬ Bd B0 δ σ d) (e : H d = some (.dK vs)) : Sto G B0 (lockd H0 d od vs) δ g σ (lockd H d od vs) := by
  have db : G.b ≠ d := fun z => n (Or.inl (z ▸ S.b0))
  have dl : G.l ≠ d := fun z => by
    have := S.ent _ _ S.lb S.scr
    rw [z, e] at this
    cases this
  have hk : ∀ a o, a ≠ d → H a = some o → lockd H d od vs a = some o := fun a o n h => lock_ne n h
  have r1 : Rd H d (.dK vs) := Or.inl e
  have r2 : Rd (lockd H d od vs) d (.dK vs) := Or.inr ⟨od, upd_same⟩
  refine ⟨S.len, fun a o nb h => ?_, ?_, S.lb, ?_, S.b0, ?_, fun a h => ?_, fun i t h => ?_, fun i t h => ?_, S.inj, S.bag, S.exc, S.nb⟩
  · by_cases z : a = d
    · subst z
      rw [lockd, upd_same] at h
      rw [lockd, upd_same]
      exact h
    · rw [lockd, upd_ne z] at h
      exact lock_ne z (S.ent a o nb h)
  · exact lock_ne db S.bg
  · exact lock_ne dl S.scr
  · rw [lockd, upd_ne db]
    exact S.hb
  · by_cases z : a = d
    · subst z
      rw [lockd, upd_same]
      rfl
    · rw [lockd, upd_ne z]
      exact S.al a h
  · obtain ⟨v, h1, h2⟩ := S.val i t h
    exact ⟨v, h1, Dat.swap hk r1 r2 h2⟩
  · obtain ⟨p, o, h1, h2, h3, h4⟩ := S.own i t h
    have pd : p ≠ d := fun z => n (Or.inr ⟨i, t, h, z ▸ h1⟩)
    exact ⟨p, o, h1, by rw [lockd, upd_ne pd]; exact h2, lock_ne pd h3, OwnD.swap hk r1 r2 h4⟩
/-- what is unlocked -/
theorem unlock_ev {Bad : Addr → Prop} (nb : ¬ Bad d) (h1 : H' d = some (.frz od (.dK vs))) {v : V} {e : EV} (h : EVok G Bad (lockd H d od vs) H' v e) : EVok G Bad H (upd H' d (.dK vs)) v e := by
  have hk : ∀ a o, a ≠ d → H' a = some o → upd H' d (.dK vs) a = some o := fun a o n h => by rw [upd_ne n]; exact h
  have r1 : Rd H' d (.dK vs) := Or.inr ⟨od, h1⟩
  have r2 : Rd (upd H' d (.dK vs)) d (.dK vs) := Or.inl upd_same
  cases e with
  | val t => exact Dat.swap hk r1 r2 h
  | nw t =>
    obtain ⟨p, o, rfl, a1, a2, a3⟩ := h
    have pd : p ≠ d := fun z => by subst z; rw [lockd, upd_same] at a1; cases a1
    rw [lockd, upd_ne pd] at a1
    exact ⟨p, o, rfl, a1, hk p o pd a2, OwnD.swap hk r1 r2 a3⟩
  | bw t =>
    obtain ⟨p, o, rfl, a1, a2, a3, a4⟩ := h
    have pd : p ≠ d := fun z => by subst z; exact nb a1
    exact ⟨p, o, rfl, a1, a2, hk p o pd a3, OwnD.swap hk r1 r2 a4⟩
  | bag => exact h
  | exc x => exact h
theorem unlock_kp (hd : ∀ o, H d = some o → o = .dK vs) (k : Kp G (lockd H d od vs) H') : Kp G H (upd H' d (.dK vs)) := fun a o n e => by
  by_cases z : a = d
  · subst z
    rw [upd_same, hd o e]
  · rw [upd_ne z]
    exact k a o n (lock_ne z e)
theorem Sto.unlock (S : Sto G B0 (lockd H0 d od vs) δ g σ H) (db : G.b ≠ d) (nb : ¬ B0 d) (hd : ∀ o, H0 d = some o → o = .dK vs) (hb : (H0 G.b).isSome = true) (dl : G.l ≠ d) : H d = some (.frz od (.dK vs)) ∧ Sto G B0 H0 δ g σ (upd H d (.dK vs)) := by
  have h1 : H d = some (.frz od (.dK vs)) := S.ent d _ (fun z => db z.symm) upd_same
  refine ⟨h1, ?_⟩
  have hk : ∀ a o, a ≠ d → H a = some o → upd H d (.dK vs) a = some o := fun a o n h => by rw [upd_ne n]; exact h
  have r1 : Rd H d (.dK vs) := Or.inr ⟨od, h1⟩
  have r2 : Rd (upd H d (.dK vs)) d (.dK vs) := Or.inl upd_same
  refine ⟨S.len, unlock_kp hd S.ent, ?_, S.lb, ?_, S.b0, hb, fun a h => ?_, fun i t h => ?_, fun i t h => ?_, S.inj, S.bag, S.exc, S.nb⟩
  · exact hk _ _ db S.bg
  · have := S.scr
    rw [lockd, upd_ne dl] at this
    exact this
  · by_cases z : a = d
    · subst z
      rw [upd_same]
      rfl
    · rw [upd_ne z]
      exact S.al a h
  · obtain ⟨v, h1, h2⟩ := S.val i t h
    exact ⟨v, h1, Dat.swap hk r1 r2 h2⟩
  · obtain ⟨p, o, a1, a2, a3, a4⟩ := S.own i t h
    have pd : p ≠ d := fun z => by subst z; rw [lockd, upd_same] at a2; cases a2
    rw [lockd, upd_ne pd] at a2
    exact ⟨p, o, a1, a2, hk p o pd a3, OwnD.swap hk r1 r2 a4⟩
end
/-! what names the dict -/
def LkOk (K : PySem.W.Frag) (cl : Str → Option Addr) (lk : DS → Option (List (Key × D))) (te : TE) : Prop := ∀ (b l : Addr) (B0 : Addr → Prop) (H0 : Hp) (δ : DS) (g : Bag) (σ : L2.St) (H : Hp) (kvs : List (Key × D)), Sto ⟨K, cl, b, l⟩ B0 H0 δ g σ H → lk δ = some kvs →
  ∃ d vs, ¬ Bd B0 δ σ d ∧ Rd H d (.dK vs) ∧ DatK ⟨K, cl, b, l⟩ (Bd B0 δ σ) H vs kvs ∧ ∀ H', (∀ a o, a ≠ d → H a = some o → H' a = some o) → ∀ Q : VK, Q (.ref d) H' → te σ H' Q
def lkVar (i : Nat) : DS → Option (List (Key × D)) := fun δ => match (δ[i]? : Option (Option SV)) with
  | some (some (SV.val (.dct kvs))) => some kvs
  | _ => none
def lkFld (i : Nat) (c f : Str) : DS → Option (List (Key × D)) := fun δ => match (δ[i]? : Option (Option SV)) with
  | some (some (SV.val (.obj c' fs))) => if c' = c then (match fs.lookup f with
    | some (.dct kvs) => some kvs
    | _ => none) else none
  | _ => none
theorem dat_dct {G : Gd} {Bad : Addr → Prop} {H : Hp} {v : V} {kvs : List (Key × D)} (h : Dat G Bad H v (.dct kvs)) : ∃ d vs, v = .ref d ∧ ¬ Bad d ∧ Rd H d (.dK vs) ∧ DatK G Bad H vs kvs := by
  cases h with
  | dct n e r => exact ⟨_, _, rfl, n, e, r⟩
section
variable {K : PySem.W.Frag} {cl : Str → Option Addr} {W : WX}
theorem lk_var {i : Nat} : LkOk K cl (lkVar i) (tVar i) := by
  intro b l B0 H0 δ g σ H kvs S h
  unfold lkVar at h
  split at h
  · rename_i k e
    cases h
    obtain ⟨v, h1, h2⟩ := S.val i _ e
    obtain ⟨d, vs, rfl, n, r, q⟩ := dat_dct h2
    exact ⟨d, vs, n, r, q, fun H' hk Q p => ⟨_, h1, p⟩⟩
  · cases h
theorem lk_fld {i : Nat} {c f : Str} {C : Addr} (hc : cl c = some C) (kc : Cls K C) (kn : NoAttr K C f) : LkOk K cl (lkFld i c f) (tFld K (tVar i) f) := by
  intro b l B0 H0 δ g σ H kvs S h
  unfold lkFld at h
  split at h
  · rename_i c' fs e
    split at h
    · rename_i ec
      subst ec
      cases hl : fs.lookup f with
      | none => rw [hl] at h; cases h
      | some t =>
        rw [hl] at h
        cases t with
        | dct k =>
          cases h
          obtain ⟨v, h1, h2⟩ := S.val i _ e
          obtain ⟨a, C', dx, ws, rfl, na, hi, hcl, hF⟩ := dat_obj h2
          have ec : C' = C := Option.some.inj (hcl.symm.trans hc)
          subst ec
          obtain ⟨w, hw, hD⟩ := hF.get hl
          obtain ⟨d, vs, rfl, n, r, q⟩ := dat_dct hD
          exact ⟨d, vs, n, r, q, fun H' hk Q p => ⟨_, h1, a, C', dx, ws, _, rfl, hk a _ (fun z => by subst z; rcases rd_not r hi with z | ⟨_, z⟩ <;> cases z) hi, kc, kn, hw, p⟩⟩
        | non => cases h
        | bl c => cases h
        | int i => cases h
        | str s => cases h
        | lst ds => cases h
        | tup ds => cases h
        | obj c f => cases h
    · cases h
  · cases h
def keyD : Key → D
  | .inl i => .int i
  | .inr s => .str s
theorem key_dat {G : Gd} {Bad : Addr → Prop} {H : Hp} : ∀ k : Key, Dat G Bad H (kV k) (keyD k)
  | .inl i => .int i
  | .inr s => .str s
theorem datk_at {G : Gd} {Bad : Addr → Prop} {H : Hp} : ∀ {vs : List (Key × V)} {ds : List (Key × D)} {i : Nat} {k : Key} {d : D}, DatK G Bad H vs ds → ds[i]? = some (k, d) → ∃ v, vs[i]? = some (k, v) ∧ Dat G Bad H v d
  | _, _, i, k, d, .nil, h => by simp at h
  | _, _, 0, k, d, .cons a r, h => by
    simp at h
    obtain ⟨rfl, rfl⟩ := h
    exact ⟨_, rfl, a⟩
  | _, _, i + 1, k, d, .cons a r, h => by
    obtain ⟨v, h1, h2⟩ := datk_at (i := i) (k := k) (d := d) r (by simpa using h)
    exact ⟨v, by simpa using h1, h2⟩
def iItemsD (lk : DS → Option (List (Key × D))) : DI := fun δ => match lk δ with
  | some kvs => mret (kvs.map fun kv => .tup [keyD kv.1, kv.2])
  | none => mno
def iValsD (lk : DS → Option (List (Key × D))) : DI := fun δ => match lk δ with
  | some kvs => mret (kvs.map fun kv => kv.2)
  | none => mno
def iKeysD (lk : DS → Option (List (Key × D))) : DI := fun δ => match lk δ with
  | some kvs => mret (kvs.map fun kv => keyD kv.1)
  | none => mno
/-- the walk stands where the dict is locked -/
def AIz (K : PySem.W.Frag) (cl : Str → Option Addr) (W : WX) (lk : DS → Option (List (Key × D))) (te : TE) (wi : TI) (mi : DI) : Prop := ∀ (b l : Addr) (B0 : Addr → Prop) (H0 : Hp) (δ : DS) (g : Bag) (σ : L2.St) (H : Hp) (kvs : List (Key × D)) (d : Addr) (od : Obj) (vs : List (Key × V)), Sto ⟨K, cl, b, l⟩ B0 H0 δ g σ H → lk δ = some kvs →
  ¬ Bd B0 δ σ d → H d = some (.frz od (.dK vs)) → DatK ⟨K, cl, b, l⟩ (Bd B0 δ σ) H vs kvs → (∀ Q : VK, Q (.ref d) H → te σ H Q) → AIat ⟨K, cl, b, l⟩ B0 W δ g σ H wi mi
theorem aiz_items {lk : DS → Option (List (Key × D))} {te : TE} : AIz K cl W lk te (iItems te) (iItemsD lk) := by
  intro b l B0 H0 δ g σ H kvs d od vs S hl nb hd hD ht r g' hm R q
  unfold iItemsD at hm
  rw [hl] at hm
  cases hm
  refine ht _ ⟨d, od, vs, rfl, hd, q _ H .refl S.bg rfl ?_⟩
  intro Bad' H' gg al
  have hd' := (gg d _ nb hd).1
  refine ⟨fun i t ht => ?_, ?_⟩
  · rw [List.getElem?_map] at ht
    obtain ⟨⟨k, x⟩, h1, rfl⟩ := Option.map_eq_some_iff.mp ht
    obtain ⟨v, h2, h3⟩ := datk_at hD h1
    refine ⟨⟨hd', (List.getElem?_eq_some_iff.mp h2).1⟩, fun y H'' z => ?_⟩
    obtain ⟨T, k', v', e1, rfl, e2, rfl⟩ := z
    rw [h2] at e1
    cases e1
    refine ⟨Or.inr ⟨T, _, e2, rfl⟩, .tupH (fun z => by have := al T z; rw [e2] at this; cases this) upd_same (.cons (key_dat k) (.cons ?_ .nil))⟩
    exact Dat.goes (goes_new' e2) (Dat.goes gg h3)
  · rw [List.length_map]
    exact ⟨hd', by rw [datk_count hD]; exact Nat.le_refl _⟩
theorem aiz_vals {lk : DS → Option (List (Key × D))} {te : TE} : AIz K cl W lk te (iVals te) (iValsD lk) := by
  intro b l B0 H0 δ g σ H kvs d od vs S hl nb hd hD ht r g' hm R q
  unfold iValsD at hm
  rw [hl] at hm
  cases hm
  refine ht _ ⟨d, od, vs, rfl, hd, q _ H .refl S.bg rfl ?_⟩
  intro Bad' H' gg al
  have hd' := (gg d _ nb hd).1
  refine ⟨fun i t ht => ?_, ?_⟩
  · rw [List.getElem?_map] at ht
    obtain ⟨⟨k, x⟩, h1, rfl⟩ := Option.map_eq_some_iff.mp ht
    obtain ⟨v, h2, h3⟩ := datk_at hD h1
    refine ⟨⟨hd', (List.getElem?_eq_some_iff.mp h2).1⟩, fun y H'' z => ?_⟩
    obtain ⟨rfl, k', e1⟩ := z
    rw [h2] at e1
    cases e1
    exact ⟨Or.inl rfl, Dat.goes gg h3⟩
  · rw [List.length_map]
    exact ⟨hd', by rw [datk_count hD]; exact Nat.le_refl _⟩
theorem aiz_keys {lk : DS → Option (List (Key × D))} {te : TE} : AIz K cl W lk te (iKeys te) (iKeysD lk) := by
  intro b l B0 H0 δ g σ H kvs d od vs S hl nb hd hD ht r g' hm R q
  unfold iKeysD at hm
  rw [hl] at hm
  cases hm
  refine ht _ ⟨d, od, rfl, Or.inl ⟨vs, hd, q _ H .refl S.bg rfl ?_⟩⟩
  intro Bad' H' gg al
  have hd' := (gg d _ nb hd).1
  refine ⟨fun i t ht => ?_, ?_⟩
  · rw [List.getElem?_map] at ht
    obtain ⟨⟨k, x⟩, h1, rfl⟩ := Option.map_eq_some_iff.mp ht
    obtain ⟨v, h2, h3⟩ := datk_at hD h1
    refine ⟨⟨hd', (List.getElem?_eq_some_iff.mp h2).1⟩, fun y H'' z => ?_⟩
    obtain ⟨rfl, k', v', e1, rfl⟩ := z
    rw [h2] at e1
    cases e1
    exact ⟨Or.inl rfl, key_dat k⟩
  · rw [List.length_map]
    exact ⟨hd', by rw [datk_count hD]; exact Nat.le_refl _⟩
/-! the regions -/
def tEither (t u : TE) : TE := fun σ H Q => t σ H Q ∨ u σ H Q
theorem pe_either {X : Cx} {e : Expr} {t u : TE} (h : PE X e t) (k : PE X e u) : PE X e (tEither t u) := ⟨fun pins s σ H Q I q => q.elim (h.run pins s σ H Q I) (k.run pins s σ H Q I)⟩
def tzE (t : TE) : TE := tEither t (tLockE t)
theorem pe_z {X : Cx} {e : Expr} {t : TE} (h : PE X e t) : PE X e (tzE t) := pe_either h (pe_lock h)
def tzS (t : TS) : TS := fun D σ H => t D σ H ∨ tLock t D σ H
theorem ps_z {X : Cx} {st : Stmt} {t : TS} (h : PS X st t) : PS X st (tzS t) := ⟨fun pins s σ H D I q => q.elim (h.run pins s σ H D I) ((ps_lock h).run pins s σ H D I)⟩
/-- errors are let out nowhere; the dict is there -/
def eZ (lk : DS → Option (List (Key × D))) (m : DE) : DE := fun δ g => match lk δ with
  | none => none
  | some _ => match m δ g with
    | some (.ok e, g') => some (.ok e, g')
    | _ => none
theorem ae_z {lk : DS → Option (List (Key × D))} {te tx : TE} {mx : DE} (P : LkOk K cl lk te)
    (hx : ∀ (b l : Addr) (B0 : Addr → Prop) (H0 : Hp) (δ : DS) (g : Bag) (σ : L2.St) (H : Hp) (kvs : List (Key × D)) (d : Addr) (od : Obj) (vs : List (Key × V)), Sto ⟨K, cl, b, l⟩ B0 H0 δ g σ H → lk δ = some kvs →
      ¬ Bd B0 δ σ d → H d = some (.frz od (.dK vs)) → DatK ⟨K, cl, b, l⟩ (Bd B0 δ σ) H vs kvs → (∀ Q : VK, Q (.ref d) H → te σ H Q) → ∀ r g', mx δ g = some (r, g') → ∀ Q, Post ⟨K, cl, b, l⟩ (Bd B0 δ σ) W σ H g g' Q r → tx σ H Q) :
    AE K cl W (tzE tx) (eZ lk mx) := by
  intro b l B0 H0 δ g σ H r g' S hm Q q
  unfold eZ at hm
  cases hlk : lk δ with
  | none => rw [hlk] at hm; cases hm
  | some kvs =>
    rw [hlk] at hm
    dsimp only at hm
    cases e : mx δ g with
    | none => rw [e] at hm; cases hm
    | some pr =>
      obtain ⟨r1, g1⟩ := pr
      rw [e] at hm
      cases r1 with
      | er x => cases hm
      | ok ev =>
        cases hm
        obtain ⟨d, vs, nb, hr, hD, hte⟩ := P b l B0 H0 δ g σ H kvs S hlk
        rcases hr with hr | ⟨od, hr⟩
        · refine Or.inr ⟨d, .dK vs, hr, trivial, fun od => ?_⟩
          have S1 := S.lock (od := od) nb hr
          have hk : ∀ a o, a ≠ d → H a = some o → lockd H d od vs a = some o := fun a o n h => lock_ne n h
          refine hx b l B0 _ δ g σ _ kvs d od vs S1 hlk nb upd_same (DatK.swap hk (Or.inl hr) (Or.inr ⟨od, upd_same⟩) hD) (hte _ hk) _ _ e _ fun v H' k bg n hv => ?_
          have db : (⟨K, cl, b, l⟩ : Gd).b ≠ d := fun z => nb (Or.inl (z ▸ S.b0))
          have h1 := k d _ (fun z => db z.symm) upd_same
          refine ⟨h1, q v _ (unlock_kp (fun o e => by rw [hr] at e; cases e; rfl) k) ?_ n (unlock_ev nb h1 hv)⟩
          show upd H' d _ b = _
          rw [upd_ne db]
          exact bg
        · exact Or.inl (hx b l B0 H0 δ g σ H kvs d od vs S hlk nb hr hD (hte H fun _ _ _ h => h) _ _ e _ q)
def sZ (lk : DS → Option (List (Key × D))) (m : DT) : DT := fun δ g => match lk δ with
  | none => none
  | some _ => match m δ g with
    | some (.er _ _, _) => none
    | r => r
theorem as_z {lk : DS → Option (List (Key × D))} {te : TE} {tx : TS} {mx : DT} (P : LkOk K cl lk te)
    (hx : ∀ (b l : Addr) (B0 : Addr → Prop) (H0 : Hp) (δ : DS) (g : Bag) (σ : L2.St) (H : Hp) (kvs : List (Key × D)) (d : Addr) (od : Obj) (vs : List (Key × V)), Sto ⟨K, cl, b, l⟩ B0 H0 δ g σ H → lk δ = some kvs →
      ¬ Bd B0 δ σ d → H d = some (.frz od (.dK vs)) → DatK ⟨K, cl, b, l⟩ (Bd B0 δ σ) H vs kvs → (∀ Q : VK, Q (.ref d) H → te σ H Q) → ∀ o g', mx δ g = some (o, g') → ∀ Dn, PostS ⟨K, cl, b, l⟩ B0 H0 W Dn g' o → tx Dn σ H) :
    AS K cl W (tzS tx) (sZ lk mx) := by
  intro b l B0 H0 δ g σ H o g' S hm Dn q
  unfold sZ at hm
  cases hlk : lk δ with
  | none => rw [hlk] at hm; cases hm
  | some kvs =>
    rw [hlk] at hm
    dsimp only at hm
    cases e : mx δ g with
    | none => rw [e] at hm; cases hm
    | some pr =>
      obtain ⟨o1, g1⟩ := pr
      rw [e] at hm
      obtain ⟨d, vs, nb, hr, hD, hte⟩ := P b l B0 H0 δ g σ H kvs S hlk
      rcases hr with hr | ⟨od, hr⟩
      · refine Or.inr ⟨d, .dK vs, hr, trivial, fun od => ?_⟩
        have S1 := S.lock (od := od) nb hr
        have hk : ∀ a o, a ≠ d → H a = some o → lockd H d od vs a = some o := fun a o n h => lock_ne n h
        have db : (⟨K, cl, b, l⟩ : Gd).b ≠ d := fun z => nb (Or.inl (z ▸ S.b0))
        have dl : (⟨K, cl, b, l⟩ : Gd).l ≠ d := fun z => by
          have := S.ent _ _ S.lb S.scr
          rw [z, hr] at this
          cases this
        have h0 : ∀ o, H0 d = some o → o = .dK vs := fun o e => by
          have := S.ent d o (fun z => db z.symm) e
          rw [hr] at this
          cases this
          rfl
        have n0 : ¬ B0 d := fun z => nb (Or.inl z)
        refine hx b l B0 _ δ g σ _ kvs d od vs S1 hlk nb upd_same (DatK.swap hk (Or.inl hr) (Or.inr ⟨od, upd_same⟩) hD) (hte _ hk) _ _ e _ ?_
        cases o1 with
        | nx δ' =>
          cases hm
          exact fun σ' H' S' => ⟨(S'.unlock db n0 h0 S.hb dl).1, q σ' _ (S'.unlock db n0 h0 S.hb dl).2⟩
        | bk δ' =>
          cases hm
          exact fun σ' H' S' => ⟨(S'.unlock db n0 h0 S.hb dl).1, q σ' _ (S'.unlock db n0 h0 S.hb dl).2⟩
        | ct δ' =>
          cases hm
          exact fun σ' H' S' => ⟨(S'.unlock db n0 h0 S.hb dl).1, q σ' _ (S'.unlock db n0 h0 S.hb dl).2⟩
        | rt ev =>
          cases hm
          intro v H' k bg sc hv
          have h1 := k d _ (fun z => db z.symm) upd_same
          refine ⟨h1, q v _ (unlock_kp h0 k) ?_ ?_ (unlock_ev n0 h1 hv)⟩
          · show upd H' d _ b = _
            rw [upd_ne db]
            exact bg
          · rw [lockd, upd_ne dl] at sc
            exact sc
        | er δ' x => cases hm
      · refine Or.inl (hx b l B0 H0 δ g σ H kvs d od vs S hlk nb hr hD (hte H fun _ _ _ h => h) _ _ e _ ?_)
        cases o1 <;> first | (cases hm; exact q) | cases hm
section
variable {te0 te tk : TE} {tt tt1 : TT} {me mk : DE} {mt mt1 : DB} {lk : DS → Option (List (Key × D))} {vs vs1 js js1 : List Nat} {wi wi1 : TI} {mi mi1 : DI} {tg tg1 : TG} {mg mg1 : DG}
theorem ae_lcz (P : LkOk K cl lk te0) (hi : AIz K cl W lk te0 wi mi) (hg : AG K cl js tg mg) (ht : AB K cl WF tt mt) (he : AE K cl WF te me) (hjs : ∀ k ∈ js, k ∈ vs) : AE K cl W (tzE (tLc wi tg tt te vs)) (eZ lk (eLc vs mi mg mt me)) :=
  ae_z P fun b l B0 H0 δ g σ H kvs d od ws S hl nb hd hD ht0 r g' hm Q q => ae_lc_at S (hi b l B0 H0 δ g σ H kvs d od ws S hl nb hd hD ht0) hg ht he hjs hm Q q
theorem ae_lc2z (P : LkOk K cl lk te0) (hi : AIz K cl W lk te0 wi mi) (hg : AG K cl js tg mg) (ht : AB K cl WF tt mt) (hi1 : AI K cl WF wi1 mi1) (hg1 : AG K cl js1 tg1 mg1) (ht1 : AB K cl WF tt1 mt1) (he : AE K cl WF te me)
    (hjs : ∀ k ∈ js, k ∈ vs) (hjs1 : ∀ k ∈ js1, k ∈ vs1) (hv1 : ∀ k ∈ vs1, k ∈ vs) : AE K cl W (tzE (tLc2 wi tg tt wi1 tg1 tt1 te vs vs1)) (eZ lk (eLc2 vs vs1 mi mg mt mi1 mg1 mt1 me)) :=
  ae_z P fun b l B0 H0 δ g σ H kvs d od ws S hl nb hd hD ht0 r g' hm Q q => ae_lc2_at S (hi b l B0 H0 δ g σ H kvs d od ws S hl nb hd hD ht0) hg ht hi1 hg1 ht1 he hjs hjs1 hv1 hm Q q
theorem ae_dcz (P : LkOk K cl lk te0) (hi : AIz K cl W lk te0 wi mi) (hg : AG K cl js tg mg) (ht : AB K cl WF tt mt) (hk : AE K cl WF tk mk) (he : AE K cl WF te me) (hjs : ∀ k ∈ js, k ∈ vs) : AE K cl W (tzE (tDc wi tg tt tk te vs)) (eZ lk (eDc vs mi mg mt mk me)) :=
  ae_z P fun b l B0 H0 δ g σ H kvs d od ws S hl nb hd hD ht0 r g' hm Q q => ae_dc_at S (hi b l B0 H0 δ g σ H kvs d od ws S hl nb hd hD ht0) hg ht hk he hjs hm Q q
theorem as_forz {ts : TS} {mb : DT} (P : LkOk K cl lk te0) (hi : AIz K cl W lk te0 wi mi) (hg : AG K cl js tg mg) (hb : AS K cl W ts mb) : AS K cl W (tzS (tFor wi tg ts)) (sZ lk (sFor mi mg mb)) :=
  as_z P fun b l B0 H0 δ g σ H kvs d od ws S hl nb hd hD ht0 o g' hm Dn q => as_for_at S (hi b l B0 H0 δ g σ H kvs d od ws S hl nb hd hD ht0) hg hb hm Dn q
end
/-! targets that change own objects -/
def AM (K : PySem.W.Frag) (cl : Str → Option Addr) (tg : TG) (mg : DG) : Prop := ∀ (b l : Addr) B0 H0 δ g σ H v d δ', Sto ⟨K, cl, b, l⟩ B0 H0 δ g σ H → Dat ⟨K, cl, b, l⟩ (Bd B0 δ σ) H v d → mg d δ = some δ' →
  ∀ Q : L2.St → Hp → Prop, (∀ σ' H', Sto ⟨K, cl, b, l⟩ B0 H0 δ' g σ' H' → Goes (Bd B0 δ σ) (Bd B0 δ' σ') H H' → Q σ' H') → tg v σ H Q
def AMs (K : PySem.W.Frag) (cl : Str → Option Addr) (tg : TGs) (mg : DGs) : Prop := ∀ (b l : Addr) B0 H0 δ g σ H vs ds δ', Sto ⟨K, cl, b, l⟩ B0 H0 δ g σ H → DatL ⟨K, cl, b, l⟩ (Bd B0 δ σ) H vs ds → mg ds δ = some δ' →
  ∀ Q : L2.St → Hp → Prop, (∀ σ' H', Sto ⟨K, cl, b, l⟩ B0 H0 δ' g σ' H' → Goes (Bd B0 δ σ) (Bd B0 δ' σ') H H' → Q σ' H') → tg vs σ H Q
theorem am_of {js : List Nat} {tg : TG} {mg : DG} (h : AG K cl js tg mg) : AM K cl tg mg := fun b l B0 H0 δ g σ H v d δ' S hd hm Q q => h b l B0 H0 δ g σ H v d δ' S hd hm Q fun σ' S' sub _ _ => q σ' H S' (goes_less sub)
/-- xs[k] = .., k written -/
def dPutC (i : Nat) (k : D) : DG := fun d δ => match (δ[i]? : Option (Option SV)) with
  | some (some (SV.own ds)) => (fPut ds (.val d) (.val k)).map fun es => δ.set i (some (.own es))
  | _ => none
theorem am_sub {i : Nat} {kv : V} {k : D} (hk : ∀ G Bad H, Dat G Bad H kv k) : AM K cl (gSub (tVar i) (tC kv) rSetU) (dPutC i k) := by
  intro b l B0 H0 δ g σ H v d δ' S hd hm Q q
  unfold dPutC at hm
  split at hm
  · rename_i ds e
    obtain ⟨es, h1, h2⟩ := Option.map_eq_some_iff.mp hm
    cases h2
    obtain ⟨p, o, a1, a2, a3, a4⟩ := S.own i ds e
    refine ⟨.ref p, a1, ?_⟩
    refine put_own S e a1 (e := .val d) (d := d) rfl hd (H9 := H) (show EVok _ _ _ _ kv (.val k) from hk _ _ _) h1 fun H' S' hne => q σ H' S' ?_
    intro a u n e1
    refine ⟨hne a u (fun z => n (Or.inr ⟨i, ds, e, z ▸ a1⟩)) e1, fun z => n ?_⟩
    rcases z with z | ⟨j, t, b1, b2⟩
    · exact Or.inl z
    · by_cases ij : i = j
      · subst ij
        exact Or.inr ⟨i, ds, e, b2⟩
      · rw [List.getElem?_set_ne ij] at b1
        exact Or.inr ⟨j, t, b1, b2⟩
  · cases hm
theorem ams_nil : AMs K cl gNil dNil := by
  intro b l B0 H0 δ g σ H vs ds δ' S h hm Q q
  cases h with
  | nil =>
    cases hm
    exact ⟨rfl, q σ H S (goes_less fun _ z => z)⟩
  | cons _ _ => cases hm
theorem ams_cons {t : TG} {u : TGs} {m : DG} {r : DGs} (h1 : AM K cl t m) (h2 : AMs K cl u r) : AMs K cl (gCons t u) (dCons m r) := by
  intro b l B0 H0 δ g σ H vs ds δ' S h hm Q q
  cases h with
  | nil => cases hm
  | cons a rr =>
    obtain ⟨δ1, e1, e2⟩ := Option.bind_eq_some_iff.mp hm
    refine ⟨_, _, rfl, h1 b l B0 H0 δ g σ H _ _ δ1 S a e1 _ fun σ1 H1 S1 go1 => ?_⟩
    exact h2 b l B0 H0 δ1 g σ1 H1 _ _ δ' S1 (DatL.goes go1 rr) e2 _ fun σ2 H2 S2 go2 => q σ2 H2 S2 (go1.trans go2)
theorem am_tup {n : Nat} {u : TGs} {r : DGs} (h : AMs K cl u r) : AM K cl (gTup K n u) (dTup n r) := by
  intro b l B0 H0 δ g σ H v d δ' S hd hm Q q
  unfold dTup at hm
  split at hm
  · rename_i ds
    split at hm
    · rename_i hl
      cases hd with
      | tupH nb e rr => exact ⟨_, _, rfl, Or.inl (Or.inl e), rr.len.trans hl, h b l B0 H0 δ g σ H _ _ δ' S rr hm Q q⟩
      | tupK e rr => exact ⟨_, _, rfl, sqT_no e, rr.len.trans hl, h b l B0 H0 δ g σ H _ _ δ' S rr hm Q q⟩
    · cases hm
  · cases hm
theorem as_asgM {te : TE} {me : DE} {tg : TG} {mg : DG} (h : AE K cl W te me) (hg : AM K cl tg mg) : AS K cl W (tAsg te tg) (sAsg me mg) :=
  as_on (tf := fun v Dn σ H1 => tg v σ H1 Dn.nx) h fun b l B0 H0 δ g g1 σ H H1 e v o g' S k bg n hv h Dn q => by
    cases hk : e.keep with
    | none => rw [hk] at h; cases h
    | some d =>
      rw [hk] at h
      obtain ⟨δ', e1, e2⟩ := Option.map_eq_some_iff.mp h
      cases e2
      exact hg b l B0 H0 δ g1 σ H1 v d δ' (S.kp k bg n) (evok_keep S.alB hv hk) e1 _ fun σ' H' S' _ => q σ' H' S'
/-! an own object is given up behind a statement -/
def relD (i : Nat) (δ : DS) : Option DS := match (δ[i]? : Option (Option SV)) with
  | some (some (SV.own d)) => some (δ.set i (some (.val d)))
  | some (some (SV.val _)) => some δ
  | _ => none
def sRel (i : Nat) (m : DT) : DT := fun δ g => match m δ g with
  | some (.nx δ', g') => (relD i δ').map fun δ2 => (.nx δ2, g')
  | r => r
theorem relD_sto {G : Gd} {B0 : Addr → Prop} {H0 H : Hp} {δ δ' : DS} {g : Bag} {σ : L2.St} {i : Nat} (h : relD i δ = some δ') (S : Sto G B0 H0 δ g σ H) : Sto G B0 H0 δ' g σ H := by
  unfold relD at h
  split at h
  · rename_i d e
    cases h
    exact S.rel e
  · cases h
    exact S
  · cases h
theorem as_rel {i : Nat} {t : TS} {m : DT} (h : AS K cl W t m) : AS K cl W t (sRel i m) := by
  intro b l B0 H0 δ g σ H o g' S hm Dn q
  unfold sRel at hm
  cases e : m δ g with
  | none => rw [e] at hm; cases hm
  | some pr =>
    obtain ⟨o1, g1⟩ := pr
    rw [e] at hm
    cases o1 with
    | nx δ1 =>
      obtain ⟨δ2, h1, h2⟩ := Option.map_eq_some_iff.mp hm
      cases h2
      exact h b l B0 H0 δ g σ H _ _ S e _ fun σ' H' S' => q σ' H' (relD_sto h1 S')
    | rt v => cases hm; exact h b l B0 H0 δ g σ H _ _ S e _ q
    | bk δ1 => cases hm; exact h b l B0 H0 δ g σ H _ _ S e _ q
    | ct δ1 => cases hm; exact h b l B0 H0 δ g σ H _ _ S e _ q
    | er δ1 x => cases hm; exact h b l B0 H0 δ g σ H _ _ S e _ q
/-! statements that are never reached -/
def sNo : DT := fun _ _ => none
theorem as_no {t : TS} : AS K cl W t sNo := fun _ _ _ _ _ _ _ _ _ _ _ hm => by cases hm
def eNo : DE := fun _ _ => none
theorem ae_no {t : TE} : AE K cl W t eNo := fun _ _ _ _ _ _ _ _ _ _ _ hm => by cases hm
end
end Vi

set_option Elab.async false
set_option linter.all false
set_option maxRecDepth 100000
set_option maxHeartbeats 4000000
namespace Vi
open PySem PySem.Spec PyProof.Rows L2
/-! sorted(ints), min and max of two -/
def insI (x : Int) : List Int → List Int
  | [] => [x]
  | y :: ys => if x ≤ y then x :: y :: ys else y :: insI x ys
def isort : List Int → List Int
  | [] => []
  | x :: xs => insI x (isort xs)
theorem insI_perm (x : Int) : ∀ ys : List Int, (insI x ys).Perm (x :: ys)
  | [] => .refl _
  | y :: ys => by
    unfold insI
    split
    · exact .refl _
    · exact ((insI_perm x ys).cons y).trans (.swap x y ys)
theorem isort_perm : ∀ xs : List Int, (isort xs).Perm xs
  | [] => .refl _
  | x :: xs => (insI_perm x (isort xs)).trans ((isort_perm xs).cons x)
theorem insI_up (x : Int) : ∀ ys : List Int, ys.Pairwise (· ≤ ·) → (insI x ys).Pairwise (· ≤ ·)
  | [], _ => List.pairwise_singleton _ _
  | y :: ys, h => by
    obtain ⟨h1, h2⟩ := List.pairwise_cons.mp h
    unfold insI
    split
    · rename_i le
      exact List.pairwise_cons.mpr ⟨fun z hz => by
        rcases List.mem_cons.mp hz with rfl | hz
        · exact le
        · exact Int.le_trans le (h1 z hz), h⟩
    · rename_i nle
      refine List.pairwise_cons.mpr ⟨fun z hz => ?_, insI_up x ys h2⟩
      rcases List.mem_cons.mp ((insI_perm x ys).mem_iff.mp hz) with rfl | hz
      · omega
      · exact h1 z hz
theorem isort_up : ∀ xs : List Int, (isort xs).Pairwise (· ≤ ·)
  | [] => List.Pairwise.nil
  | x :: xs => insI_up x _ (isort_up xs)
theorem sort_one {xs ys : List Int} (p : xs.Perm ys) (h : xs.Pairwise (· ≤ ·)) : xs = isort ys :=
  (p.trans (isort_perm ys).symm).eq_of_pairwise (fun _ _ _ _ h1 h2 => Int.le_antisymm h1 h2) h (isort_up ys)
def sortIE (e : EV) : Option EV := (lookL e).bind fun ds => (asInt ds).map fun ns => .nw (.lst ((isort ns).map D.int))
/-- a rule for two values, none is made -/
def min2E : List EV → Option EV
  | [x, y] => (match x, y with
    | .val (.int i), .val (.int j) => some (.val (.int (if j < i then j else i)))
    | _, _ => none)
  | _ => none
def max2E : List EV → Option EV
  | [x, y] => (match x, y with
    | .val (.int i), .val (.int j) => some (.val (.int (if j > i then j else i)))
    | _, _ => none)
  | _ => none
def eBA (f : List EV → Option EV) (m : DA) : DE := fun δ => mbind (m δ) fun xs => mof (f xs)
abbrev rMin2 : List V → Hp → VK → Prop := fun xs H Q => ∃ i j, xs = [.int i, .int j] ∧ Q (.int (if j < i then j else i)) H
abbrev rMax2U : List V → Hp → VK → Prop := fun xs H Q => ∃ i j, xs = [.int i, .int j] ∧ Q (.int (if j > i then j else i)) H
section
variable {K : PySem.W.Frag} {cl : Str → Option Addr} {W : WX} {te : TE} {me : DE} {ta : TA} {ma : DA}
theorem r1_sortI : R1ok K cl W (rSortedI K) sortIE := by
  intro b l B0 H0 δ g σ H H1 x e v S al k hv hf Q q
  obtain ⟨ds, h1, h2⟩ := Option.bind_eq_some_iff.mp hf
  obtain ⟨ns, h3, rfl⟩ := Option.map_eq_some_iff.mp h2
  obtain ⟨a, vs, rfl, h4, h5⟩ := (evok_items hv).1 (lookL_of h1)
  obtain rfl := datl_int h5 h3
  refine ⟨a, ns, rfl, Or.inl (Or.inl h4), fun ns' p hp hs hn => ?_⟩
  obtain rfl := sort_one hp hs
  exact q _ _ (Kp.new hn) (bag_upd S.bg hn) ⟨p, _, rfl, hn, upd_same, .lst (datl_ints _)⟩
theorem ae_min2 (h : AA K cl W ta ma) : AE K cl W (tCB rMin2 ta) (eBA min2E ma) := by
  intro b l B0 H0 δ g σ H r g' S hm Q q
  rcases mb_cases hm with ⟨x, e, rfl⟩ | ⟨xs, g1, e, hm⟩
  · exact h b l B0 H0 δ g σ H _ _ S e _ q
  · refine h b l B0 H0 δ g σ H _ _ S e _ fun vs H1 k1 b1 n1 hv => ?_
    obtain ⟨a, ha, rfl, rfl⟩ := mof_cases hm
    unfold min2E at ha
    split at ha
    · split at ha
      · cases ha
        cases hv with
        | cons h1 hr =>
          cases hr with
          | cons h2 hr =>
            cases hr
            exact ⟨_, _, by rw [datint (show Dat _ _ _ _ _ from h1), datint (show Dat _ _ _ _ _ from h2)], q _ H1 k1 b1 n1 (.int _)⟩
      · cases ha
    · cases ha
theorem ae_max2 (h : AA K cl W ta ma) : AE K cl W (tCB rMax2U ta) (eBA max2E ma) := by
  intro b l B0 H0 δ g σ H r g' S hm Q q
  rcases mb_cases hm with ⟨x, e, rfl⟩ | ⟨xs, g1, e, hm⟩
  · exact h b l B0 H0 δ g σ H _ _ S e _ q
  · refine h b l B0 H0 δ g σ H _ _ S e _ fun vs H1 k1 b1 n1 hv => ?_
    obtain ⟨a, ha, rfl, rfl⟩ := mof_cases hm
    unfold max2E at ha
    split at ha
    · split at ha
      · cases ha
        cases hv with
        | cons h1 hr =>
          cases hr with
          | cons h2 hr =>
            cases hr
            exact ⟨_, _, by rw [datint (show Dat _ _ _ _ _ from h1), datint (show Dat _ _ _ _ _ from h2)], q _ H1 k1 b1 n1 (.int _)⟩
      · cases ha
    · cases ha
end
end Vi

set_option Elab.async false
set_option linter.all false
set_option maxRecDepth 100000
set_option maxHeartbeats 4000000
namespace Vi
open PySem PySem.Spec PyProof.Rows L2
/-! defs with what they bind -/
theorem funA_fun {K : PySem.W.Frag} {x qual : Str} {st : Stmt} {f : Addr} {fd : FuncData} (F : Fun K x qual st f fd) : FunA K x qual st f fd := by
  obtain ⟨oc, od, kV, doc, pm, an, cdv, ct, osl, e, lk, hcd⟩ := F.ex
  exact ⟨oc, od, .none, kV, doc, pm, an, cdv, ct, osl, e, lk, hcd⟩
theorem kbn_0 {K : PySem.W.Frag} {fd : FuncData} {ps : List Str} {n : Nat} (b : Binds K fd ps []) (h : ps.length = n) : KBn K fd ps n [] (fun us ws => us ++ ws) (fun vs zs => vs ++ zs) := by
  refine ⟨fun s us ws X l1 l2 => ?_, fun r1 r2 => r1.append r2⟩
  have e : ws = [] := List.length_eq_zero_iff.mp l2
  subst e
  exact b s us X (by rw [List.append_nil, l1, h])
/-! comprehensions that draw nothing -/
theorem lcGo_fm {mg : DG} {mt : DB} {me : DE} {δ : DS} (f : D → Option D) : ∀ (ds acc : List D) (g : Bag), (∀ d ∈ ds, ∃ δ2, mg d δ = some δ2 ∧ (match f d with
    | none => mt δ2 g = some (.ok false, g)
    | some x => mt δ2 g = some (.ok true, g) ∧ ∃ e, me δ2 g = some (.ok e, g) ∧ e.keep = some x)) → lineOk (acc.length + ds.length) = true → lcGo mg mt me δ ds acc g = some (acc ++ ds.filterMap f, g)
  | [], acc, g, _, _ => by
    unfold lcGo
    simp
  | d :: ds, acc, g, h, hl => by
    obtain ⟨δ2, e1, e2⟩ := h d List.mem_cons_self
    unfold lcGo
    rw [e1]
    dsimp only
    have hl' : acc.length + (ds.length + 1) ≤ 100000 := of_decide_eq_true hl
    cases hf : f d with
    | none =>
      rw [hf] at e2
      dsimp only at e2
      rw [e2]
      dsimp only
      rw [lcGo_fm f ds acc g (fun d' m => h d' (List.mem_cons_of_mem _ m)) (decide_eq_true (by omega)), List.filterMap_cons, hf]
    | some x =>
      rw [hf] at e2
      obtain ⟨e2, ev, e3, e4⟩ := e2
      rw [e2]
      dsimp only
      rw [e3]
      dsimp only
      rw [e4]
      dsimp only
      rw [if_pos (show lineOk (acc.length + 1) = true from decide_eq_true (by omega)), lcGo_fm f ds (acc ++ [x]) g (fun d' m => h d' (List.mem_cons_of_mem _ m)) (decide_eq_true (by simp; omega)), List.filterMap_cons, hf]
      simp
/-- a comprehension over known things -/
theorem eLc_fm {vs : List Nat} {mi : DI} {mg : DG} {mt : DB} {me : DE} {δ : DS} {g : Bag} {ds : List D} (f : D → Option D) (hi : mi δ g = some (.ok ds, g)) (hn : noOwn vs δ = true)
    (h : ∀ d ∈ ds, ∃ δ2, mg d (wipeD δ vs) = some δ2 ∧ (match f d with
    | none => mt δ2 g = some (.ok false, g)
    | some x => mt δ2 g = some (.ok true, g) ∧ ∃ e, me δ2 g = some (.ok e, g) ∧ e.keep = some x)) (hl : lineOk ds.length = true) : eLc vs mi mg mt me δ g = some (.ok (.nw (.lst (ds.filterMap f))), g) := by
  unfold eLc mbind
  rw [hi]
  dsimp only
  rw [if_pos hn, lcGo_fm f ds [] g h (by simpa using hl)]
  rfl
/-- .. every item kept -/
theorem eLc_map {vs : List Nat} {mi : DI} {mg : DG} {me : DE} {δ : DS} {g : Bag} {ds : List D} (f : D → D) (hi : mi δ g = some (.ok ds, g)) (hn : noOwn vs δ = true)
    (h : ∀ d ∈ ds, ∃ δ2, mg d (wipeD δ vs) = some δ2 ∧ ∃ e, me δ2 g = some (.ok e, g) ∧ e.keep = some (f d)) (hl : lineOk ds.length = true) : eLc vs mi mg bYes me δ g = some (.ok (.nw (.lst (ds.map f))), g) := by
  rw [eLc_fm (fun d => some (f d)) hi hn (fun d m => ?_) hl, List.filterMap_eq_map']
  obtain ⟨δ2, e1, e, e2, e3⟩ := h d m
  exact ⟨δ2, e1, rfl, e, e2, e3⟩
/-- a comprehension that draws -/
theorem lcGo_ok {mg : DG} {mt : DB} {me : DE} {δ : DS} (P : List D → List D → Bag → Prop) : ∀ (ds acc : List D) (g : Bag), (∀ d ds acc g, P (d :: ds) acc g → ∃ δ2, mg d δ = some δ2 ∧ Ok (mt δ2) g fun t g1 => if t = true then Ok (me δ2) g1 fun e g2 => ∃ x, e.keep = some x ∧ lineOk (acc.length + 1) = true ∧ P ds (acc ++ [x]) g2 else P ds acc g1) →
    P ds acc g → ∃ acc' g', lcGo mg mt me δ ds acc g = some (acc', g') ∧ P [] acc' g'
  | [], acc, g, _, h => ⟨acc, g, rfl, h⟩
  | d :: ds, acc, g, hs, h => by
    obtain ⟨δ2, e1, t, g1, e2, r⟩ := hs d ds acc g h
    cases t with
    | false =>
      obtain ⟨a, g', e3, r'⟩ := lcGo_ok P ds acc g1 hs r
      refine ⟨a, g', ?_, r'⟩
      unfold lcGo
      rw [e1]
      dsimp only
      rw [e2]
      exact e3
    | true =>
      obtain ⟨ev, g2, e3, x, e4, hl, r⟩ := r
      obtain ⟨a, g', e5, r'⟩ := lcGo_ok P ds (acc ++ [x]) g2 hs r
      refine ⟨a, g', ?_, r'⟩
      unfold lcGo
      rw [e1]
      dsimp only
      rw [e2]
      dsimp only
      rw [e3]
      dsimp only
      rw [e4]
      dsimp only
      rw [if_pos hl]
      exact e5
theorem ok_lc {vs : List Nat} {mi : DI} {mg : DG} {mt : DB} {me : DE} {δ : DS} {g : Bag} {ds : List D} {R : EV → Bag → Prop} (P : List D → List D → Bag → Prop) (hi : mi δ g = some (.ok ds, g)) (hn : noOwn vs δ = true)
    (hs : ∀ d ds acc g, P (d :: ds) acc g → ∃ δ2, mg d (wipeD δ vs) = some δ2 ∧ Ok (mt δ2) g fun t g1 => if t = true then Ok (me δ2) g1 fun e g2 => ∃ x, e.keep = some x ∧ lineOk (acc.length + 1) = true ∧ P ds (acc ++ [x]) g2 else P ds acc g1)
    (h0 : P ds [] g) (h : ∀ acc g', P [] acc g' → R (.nw (.lst acc)) g') : Ok (eLc vs mi mg mt me δ) g R := by
  obtain ⟨acc, g', e, p⟩ := lcGo_ok P ds [] g hs h0
  refine ⟨_, g', ?_, h acc g' p⟩
  unfold eLc mbind
  rw [hi]
  dsimp only
  rw [if_pos hn, e]
/-! a loop that draws nothing -/
theorem sLoop_all {mg : DG} {body : DT} {g : Bag} (I : DS → Prop) : ∀ (ds : List D) (δ : DS), (∀ d ∈ ds, ∀ δ, I δ → ∃ δ1 δ2, mg d δ = some δ1 ∧ body δ1 g = some (.nx δ2, g) ∧ I δ2) → I δ → ∃ δ', sLoop mg body ds δ g = some (.nx δ', g) ∧ I δ'
  | [], δ, _, h => ⟨δ, rfl, h⟩
  | d :: ds, δ, hs, h => by
    obtain ⟨δ1, δ2, e1, e2, h2⟩ := hs d List.mem_cons_self δ h
    obtain ⟨δ', e3, h3⟩ := sLoop_all I ds δ2 (fun d' m => hs d' (List.mem_cons_of_mem _ m)) h2
    refine ⟨δ', ?_, h3⟩
    unfold sLoop
    rw [e1]
    dsimp only
    rw [e2]
    exact e3
/-- .. to the first item at which it returns -/
theorem sLoop_find {mg : DG} {body : DT} {g : Bag} {e : EV} (I : DS → Prop) (q : D → Bool) : ∀ (ds : List D) (δ : DS), (∀ d ∈ ds, ∀ δ, I δ → ∃ δ1, mg d δ = some δ1 ∧ (q d = true → body δ1 g = some (.rt e, g)) ∧ (q d = false → ∃ δ2, body δ1 g = some (.nx δ2, g) ∧ I δ2)) → I δ →
    (ds.any q = true → sLoop mg body ds δ g = some (.rt e, g)) ∧ (ds.any q = false → ∃ δ', sLoop mg body ds δ g = some (.nx δ', g) ∧ I δ')
  | [], δ, _, h => ⟨fun z => (by cases z), fun _ => ⟨δ, rfl, h⟩⟩
  | d :: ds, δ, hs, h => by
    obtain ⟨δ1, e1, h1, h1'⟩ := hs d List.mem_cons_self δ h
    rw [List.any_cons]
    cases hq : q d with
    | true =>
      refine ⟨fun _ => ?_, fun z => (by cases z)⟩
      unfold sLoop
      rw [e1]
      dsimp only
      rw [h1 hq]
    | false =>
      obtain ⟨δ2, e2, h2⟩ := h1' hq
      obtain ⟨ih, ih'⟩ := sLoop_find (e := e) I q ds δ2 (fun d' m => hs d' (List.mem_cons_of_mem _ m)) h2
      refine ⟨fun z => ?_, fun z => ?_⟩
      · unfold sLoop
        rw [e1]
        dsimp only
        rw [e2]
        exact ih z
      · obtain ⟨δ', e3, h3⟩ := ih' z
        refine ⟨δ', ?_, h3⟩
        unfold sLoop
        rw [e1]
        dsimp only
        rw [e2]
        exact e3
/-! small facts -/
theorem asInt_map (ns : List Int) : asInt (ns.map D.int) = some ns := by
  induction ns with
  | nil => rfl
  | cons n ns ih => simp only [List.map_cons, asInt, ih, Option.map]
theorem asBl_map (bs : List Bool) : asBl (bs.map D.bl) = some bs := by
  induction bs with
  | nil => rfl
  | cons n ns ih => simp only [List.map_cons, asBl, ih, Option.map]
theorem asInt_eq : ∀ {ds : List D} {ns : List Int}, asInt ds = some ns → ds = ns.map D.int
  | [], ns, h => by cases h; rfl
  | d :: ds, ns, h => by
    cases d with
    | int c =>
      unfold asInt at h
      obtain ⟨ms, h1, rfl⟩ := Option.map_eq_some_iff.mp h
      rw [asInt_eq h1]
      rfl
    | non => cases h
    | bl c => cases h
    | str s => cases h
    | lst s => cases h
    | tup s => cases h
    | dct s => cases h
    | obj c s => cases h
theorem lk_hit {f : Str} {d : D} {fs : List (Str × D)} : List.lookup f ((f, d) :: fs) = some d := by simp [List.lookup_cons]
theorem lk_miss {f k : Str} {d : D} {fs : List (Str × D)} (h : (f == k) = false) : List.lookup f ((k, d) :: fs) = List.lookup f fs := by rw [List.lookup_cons, h]
/-- lists of integers are equal as they are -/
theorem eqv_ints : ∀ (xs ys : List Int), PyData.eqvAll (xs.map PyData.int) (ys.map PyData.int) = decide (xs = ys)
  | [], [] => rfl
  | [], _ :: _ => rfl
  | _ :: _, [] => rfl
  | x :: xs, y :: ys => by
    show (PyData.eqv (.int x) (.int y) && PyData.eqvAll (xs.map PyData.int) (ys.map PyData.int)) = _
    rw [eqv_ints xs ys]
    show (decide (x = y) && decide (xs = ys)) = _
    by_cases h : x = y <;> by_cases h2 : xs = ys <;> simp [h, h2]
end Vi

set_option Elab.async false
set_option linter.all false
set_option maxRecDepth 100000
set_option maxHeartbeats 4000000
namespace Vi
open PySem PySem.Spec PyProof.Rows L2
/-! rules as data -/
structure Rl where
  sz : List Int
  bp : List Int
  bs : List Int
  bw : List Int
  soft : Bool
  side : Bool
  off : Int
def lstI (ns : List Int) : D := .lst (ns.map D.int)
def tupI (ns : List Int) : D := .tup (ns.map D.int)
def Rl.wh (r : Rl) : Str := if r.side = true then "side" else "any"
def Rl.fs (r : Rl) : List (Str × D) := [("_sizes", tupI r.sz), ("_bad", .dct [(.inr "pillar", tupI r.bp), (.inr "sold", tupI r.bs), (.inr "wall", tupI r.bw)]), ("_soft", .bl r.soft), ("_where", .str r.wh), ("_offer", .int r.off)]
def Rl.d (r : Rl) : D := .obj "Rule" r.fs
def Rl.bad (r : Rl) (e : Str) : List Int := if e = "pillar" then r.bp else if e = "sold" then r.bs else r.bw
def szOk (n : Int) : Bool := decide (1 ≤ n) && decide (n ≤ 5)
/-- ascending, each once, from 1 to 5 -/
def UpOk (ns : List Int) : Prop := ns.Pairwise (· < ·) ∧ ∀ n ∈ ns, 1 ≤ n ∧ n ≤ 5
structure Rl.Ok (r : Rl) : Prop where
  sz : UpOk r.sz
  ne : r.sz ≠ []
  bp : UpOk r.bp
  bs : UpOk r.bs
  bw : UpOk r.bw
  o0 : 0 ≤ r.off
  o5 : r.off ≤ 5
theorem Rl.Ok.bad {r : Rl} (h : r.Ok) (e : Str) : UpOk (r.bad e) := by
  unfold Rl.bad
  split
  · exact h.bp
  · split
    · exact h.bs
    · exact h.bw
theorem up_len {ns : List Int} (h : UpOk ns) : ns.length ≤ 5 := by
  obtain ⟨h1, h2⟩ := h
  have : ∀ (ns : List Int) (lo : Int), ns.Pairwise (· < ·) → (∀ n ∈ ns, lo ≤ n ∧ n ≤ 5) → lo ≤ 6 → (ns.length : Int) ≤ 6 - lo := by
    intro ns
    induction ns with
    | nil => intro lo _ _ h; simp; omega
    | cons a ns ih =>
      intro lo hp hm hl
      obtain ⟨p1, p2⟩ := List.pairwise_cons.mp hp
      have ha := hm a List.mem_cons_self
      have := ih (a + 1) p2 (fun n hn => ⟨by have := p1 n hn; omega, (hm n (List.mem_cons_of_mem _ hn)).2⟩) (by omega)
      simp only [List.length_cons]
      omega
  have := this ns 1 h1 h2 (by decide)
  omega
def ntsOf : D → Option (List Int)
  | .lst ds => asInt ds
  | .tup ds => asInt ds
  | _ => none
def numsOk (d : D) : Bool := match ntsOf d with
  | some ns => ns.all szOk && decide (ns.length < 64)
  | none => false
def isEndB (s : Str) : Bool := decide (s = "pillar") || decide (s = "sold") || decide (s = "wall")
def badKv (kv : Key × D) : Bool := match kv.1 with
  | .inr s => isEndB s && numsOk kv.2
  | .inl _ => false
def badAt (kvs : List (Key × D)) (e : Str) : List Int := match valD kvs (.inr e) with
  | some d => (ntsOf d).getD []
  | none => []
def badOf : D → Option (List Int × List Int × List Int)
  | .non => some ([], [], [])
  | .dct kvs => if (kvs.all badKv && decide (kvs.length < 1000)) = true then some (badAt kvs "pillar", badAt kvs "sold", badAt kvs "wall") else none
  | _ => none
def mkRl (a b : D) (soft : Bool) (w : Str) (off : Int) : Option Rl := (ntsOf a).bind fun ns => (badOf b).bind fun q =>
  if (numsOk a && !ns.isEmpty && (decide (w = "any") || decide (w = "side")) && decide (0 ≤ off) && decide (off ≤ 5)) = true then some ⟨sortU ns, sortU q.1, sortU q.2.1, sortU q.2.2, soft, decide (w = "side"), off⟩ else none
def F_Rule : List AV → M (List (Str × D)) := fun as g => match as with
  | [.val a, .val b, .val (.bl soft), .val (.str w), .val (.int off)] => (mkRl a b soft w off).map fun r => (.ok r.fs, g)
  | _ => none
def splFs (r : Rl) (l e : Str) : List (Str × D) := [("_near", lstI (r.bad l)), ("_far", lstI (r.bad e)), ("_is_soft", .bl r.soft), ("_is_beside", .bl r.side), ("_many", .int r.off)]
def splD (r : Rl) (l e : Str) : D := .obj "Splits" (splFs r l e)
open Classical in
noncomputable def F_Splits : List AV → M (List (Str × D)) := fun as g =>
  if h : ∃ (r : Rl) (l e : Str), as = [.val r.d, .val (.str l), .val (.str e)] ∧ isEndB l = true ∧ isEndB e = true then some (.ok (splFs h.choose h.choose_spec.choose h.choose_spec.choose_spec.choose), g) else none
theorem map_int_inj {xs ys : List Int} (h : xs.map D.int = ys.map D.int) : xs = ys := by
  have := congrArg asInt h
  rw [asInt_map, asInt_map] at this
  exact Option.some.inj this
theorem wh_inj {r s : Rl} (h : r.wh = s.wh) : r.side = s.side := by
  unfold Rl.wh at h
  have ne : ("side" : Str) ≠ "any" := by decide +kernel
  cases hr : r.side <;> cases hs : s.side <;> rw [hr, hs] at h
  · exact absurd h.symm ne
  · exact absurd h ne
theorem Rl.d_inj {r s : Rl} (h : r.d = s.d) : r = s := by
  unfold Rl.d Rl.fs tupI at h
  injection h with _ h
  injection h with h1 h
  injection h with h2 h
  injection h with h3 h
  injection h with h4 h
  injection h with h5 _
  injection h1 with _ h1
  injection h1 with h1
  injection h2 with _ h2
  injection h2 with h2
  injection h2 with p1 h2
  injection h2 with p2 h2
  injection h2 with p3 _
  injection p1 with _ p1
  injection p1 with p1
  injection p2 with _ p2
  injection p2 with p2
  injection p3 with _ p3
  injection p3 with p3
  injection h3 with _ h3
  injection h3 with h3
  injection h4 with _ h4
  injection h4 with h4
  injection h5 with _ h5
  injection h5 with h5
  have e1 := map_int_inj h1
  have e2 := map_int_inj p1
  have e3 := map_int_inj p2
  have e4 := map_int_inj p3
  have e5 := wh_inj h4
  cases r
  cases s
  simp only at e1 e2 e3 e4 e5 h3 h5
  subst e1 e2 e3 e4 e5 h3 h5
  rfl
theorem F_Splits_eq {r : Rl} {l e : Str} {g : Bag} (hl : isEndB l = true) (he : isEndB e = true) : F_Splits [.val r.d, .val (.str l), .val (.str e)] g = some (.ok (splFs r l e), g) := by
  have h : ∃ (r' : Rl) (l' e' : Str), [AV.val r.d, AV.val (.str l), AV.val (.str e)] = [.val r'.d, .val (.str l'), .val (.str e')] ∧ isEndB l' = true ∧ isEndB e' = true := ⟨r, l, e, rfl, hl, he⟩
  unfold F_Splits
  rw [dif_pos h]
  have q := h.choose_spec.choose_spec.choose_spec.1
  injection q with q1 q
  injection q with q2 q
  injection q with q3 _
  injection q1 with q1
  injection q2 with q2
  injection q2 with q2
  injection q3 with q3
  injection q3 with q3
  rw [← q3, ← q2, ← Rl.d_inj q1]
theorem F_Splits_inv {as : List AV} {g g' : Bag} {fs : List (Str × D)} (h : F_Splits as g = some (.ok fs, g')) : ∃ (r : Rl) (l e : Str), as = [.val r.d, .val (.str l), .val (.str e)] ∧ isEndB l = true ∧ isEndB e = true ∧ fs = splFs r l e ∧ g' = g := by
  unfold F_Splits at h
  split at h
  · rename_i hh
    obtain ⟨r, l, e, rfl, hl, he⟩ := hh
    have q := F_Splits_eq (r := r) (g := g) hl he
    unfold F_Splits at q
    rw [dif_pos ⟨r, l, e, rfl, hl, he⟩] at q
    rw [q] at h
    cases h
    exact ⟨r, l, e, rfl, hl, he, rfl, rfl⟩
  · cases h
theorem sortU_ok {ns : List Int} (h : ns.all szOk = true) : UpOk (sortU ns) := ⟨sortU_up ns, fun n hn => by
  have := List.all_eq_true.mp h n (sortU_mem.mp hn)
  simpa [szOk] using this⟩
theorem sortU_ne {ns : List Int} (h : ns ≠ []) : sortU ns ≠ [] := by
  cases ns with
  | nil => exact absurd rfl h
  | cons a ns => exact List.ne_nil_of_mem (sortU_mem.mpr (List.mem_cons_self (a := a)))
/-- what stands already ascending stays -/
theorem up_extI : ∀ {xs ys : List Int}, xs.Pairwise (· < ·) → ys.Pairwise (· < ·) → (∀ n, n ∈ xs ↔ n ∈ ys) → xs = ys
  | [], [], _, _, _ => rfl
  | [], y :: ys, _, _, h => absurd ((h y).mpr List.mem_cons_self) (by simp)
  | x :: xs, [], _, _, h => absurd ((h x).mp List.mem_cons_self) (by simp)
  | x :: xs, y :: ys, hx, hy, h => by
    obtain ⟨x1, x2⟩ := List.pairwise_cons.mp hx
    obtain ⟨y1, y2⟩ := List.pairwise_cons.mp hy
    have e : x = y := by
      rcases List.mem_cons.mp ((h x).mp List.mem_cons_self) with e | e
      · exact e
      · rcases List.mem_cons.mp ((h y).mpr List.mem_cons_self) with e' | e'
        · exact e'.symm
        · have := y1 x e
          have := x1 y e'
          omega
    subst e
    rw [up_extI x2 y2 fun n => ⟨fun hn => (List.mem_cons.mp ((h n).mp (List.mem_cons_of_mem _ hn))).resolve_left fun z => by have := x1 n hn; omega, fun hn => (List.mem_cons.mp ((h n).mpr (List.mem_cons_of_mem _ hn))).resolve_left fun z => by have := y1 n hn; omega⟩]
theorem sortU_self {ns : List Int} (h : ns.Pairwise (· < ·)) : sortU ns = ns := up_extI (sortU_up ns) h fun _ => sortU_mem
theorem badAt_ok {kvs : List (Key × D)} (h : kvs.all badKv = true) (e : Str) : (badAt kvs e).all szOk = true ∧ (badAt kvs e).length < 64 := by
  unfold badAt
  split
  · rename_i d hd
    unfold valD at hd
    obtain ⟨kv, h1, rfl⟩ := Option.map_eq_some_iff.mp hd
    have hm := List.all_eq_true.mp h kv (List.mem_of_find?_eq_some h1)
    unfold badKv at hm
    split at hm
    · have h2 : numsOk kv.2 = true := (Bool.and_eq_true_iff.mp hm).2
      unfold numsOk at h2
      split at h2
      · rename_i ns hn
        rw [hn]
        have := Bool.and_eq_true_iff.mp h2
        exact ⟨this.1, of_decide_eq_true this.2⟩
      · cases h2
    · cases hm
  · exact ⟨rfl, by decide⟩
theorem mkRl_ok {a b : D} {soft : Bool} {w : Str} {off : Int} {r : Rl} (h : mkRl a b soft w off = some r) : r.Ok := by
  unfold mkRl at h
  obtain ⟨ns, h1, h⟩ := Option.bind_eq_some_iff.mp h
  obtain ⟨q, h2, h⟩ := Option.bind_eq_some_iff.mp h
  split at h
  · rename_i hc
    cases h
    simp only [Bool.and_eq_true, decide_eq_true_eq] at hc
    obtain ⟨⟨⟨⟨c1, c2⟩, c3⟩, c4⟩, c5⟩ := hc
    unfold numsOk at c1
    rw [h1] at c1
    have ha := (Bool.and_eq_true_iff.mp c1).1
    have hb : q.1.all szOk = true ∧ q.2.1.all szOk = true ∧ q.2.2.all szOk = true := by
      unfold badOf at h2
      split at h2
      · cases h2; exact ⟨rfl, rfl, rfl⟩
      · split at h2
        · rename_i hk
          cases h2
          have hk' := (Bool.and_eq_true_iff.mp hk).1
          exact ⟨(badAt_ok hk' _).1, (badAt_ok hk' _).1, (badAt_ok hk' _).1⟩
        · cases h2
      · cases h2
    exact ⟨sortU_ok ha, sortU_ne (by simpa using c2), sortU_ok hb.1, sortU_ok hb.2.1, sortU_ok hb.2.2, c4, c5⟩
  · cases h
/-! what a rule offers, over integers -/
def possI (side : Bool) (rest : Int) : List Int := if side = true ∧ 0 < rest then [0, rest] else (List.range (rest + 1).toNat).map fun (i : Nat) => (i : Int)
def goodI (near far : List Int) (rest b : Int) : Bool := !near.contains b && !far.contains (rest - b)
def letOf (soft : Bool) (near far : List Int) (rest : Int) (found : List Int) : List Int :=
  if near = [] ∧ far = [] then found else if soft = true ∧ found.filter (goodI near far rest) = [] then found else found.filter (goodI near far rest)
def offI (r : Rl) (l e : Str) (rest : Int) : List Int :=
  if r.off = 0 then letOf r.soft (r.bad l) (r.bad e) rest (possI r.side rest)
  else (letOf r.soft (r.bad l) (r.bad e) rest (possI r.side (if r.side = true then rest else (if r.off + 9 < rest then r.off + 9 else rest)))).take r.off.toNat
/-! fields -/
theorem rl_sizes {r : Rl} : r.fs.lookup ("_sizes" : Str) = some (tupI r.sz) := lk_hit
theorem rl_bad {r : Rl} : r.fs.lookup ("_bad" : Str) = some (.dct [(.inr "pillar", tupI r.bp), (.inr "sold", tupI r.bs), (.inr "wall", tupI r.bw)]) := by
  unfold Rl.fs
  rw [lk_miss (by decide +kernel), lk_hit]
theorem rl_soft {r : Rl} : r.fs.lookup ("_soft" : Str) = some (.bl r.soft) := by
  unfold Rl.fs
  rw [lk_miss (by decide +kernel), lk_miss (by decide +kernel), lk_hit]
theorem rl_where {r : Rl} : r.fs.lookup ("_where" : Str) = some (.str r.wh) := by
  unfold Rl.fs
  rw [lk_miss (by decide +kernel), lk_miss (by decide +kernel), lk_miss (by decide +kernel), lk_hit]
theorem rl_offer {r : Rl} : r.fs.lookup ("_offer" : Str) = some (.int r.off) := by
  unfold Rl.fs
  rw [lk_miss (by decide +kernel), lk_miss (by decide +kernel), lk_miss (by decide +kernel), lk_miss (by decide +kernel), lk_hit]
theorem rl_none {r : Rl} {m : Str} (h1 : (m == "_sizes") = false) (h2 : (m == "_bad") = false) (h3 : (m == "_soft") = false) (h4 : (m == "_where") = false) (h5 : (m == "_offer") = false) : r.fs.lookup m = none := by
  unfold Rl.fs
  rw [lk_miss h1, lk_miss h2, lk_miss h3, lk_miss h4, lk_miss h5]
  rfl
theorem sp_near {r : Rl} {l e : Str} : (splFs r l e).lookup ("_near" : Str) = some (lstI (r.bad l)) := lk_hit
theorem sp_far {r : Rl} {l e : Str} : (splFs r l e).lookup ("_far" : Str) = some (lstI (r.bad e)) := by
  unfold splFs
  rw [lk_miss (by decide +kernel), lk_hit]
theorem sp_soft {r : Rl} {l e : Str} : (splFs r l e).lookup ("_is_soft" : Str) = some (.bl r.soft) := by
  unfold splFs
  rw [lk_miss (by decide +kernel), lk_miss (by decide +kernel), lk_hit]
theorem sp_beside {r : Rl} {l e : Str} : (splFs r l e).lookup ("_is_beside" : Str) = some (.bl r.side) := by
  unfold splFs
  rw [lk_miss (by decide +kernel), lk_miss (by decide +kernel), lk_miss (by decide +kernel), lk_hit]
theorem sp_many {r : Rl} {l e : Str} : (splFs r l e).lookup ("_many" : Str) = some (.int r.off) := by
  unfold splFs
  rw [lk_miss (by decide +kernel), lk_miss (by decide +kernel), lk_miss (by decide +kernel), lk_miss (by decide +kernel), lk_hit]
theorem sp_none {r : Rl} {l e m : Str} (h1 : (m == "_near") = false) (h2 : (m == "_far") = false) (h3 : (m == "_is_soft") = false) (h4 : (m == "_is_beside") = false) (h5 : (m == "_many") = false) : (splFs r l e).lookup m = none := by
  unfold splFs
  rw [lk_miss h1, lk_miss h2, lk_miss h3, lk_miss h4, lk_miss h5]
  rfl
theorem q_quiet {e : EV} : mQuiet (mret e) = mret e := rfl
theorem f_obj {c f : Str} {fs : List (Str × D)} {d : D} (h : fs.lookup f = some d) : fldE c f (.val (.obj c fs)) = some (.val d) := by
  show (if c = c then (fs.lookup f).map EV.val else none) = _
  rw [if_pos rfl, h]
  rfl
/-- a method of an instance -/
theorem q_meth {c m : Str} {n : Nat} {f : MF} {me : DE} {ma : DA} {δ : DS} {fs : List (Str × D)} {es : List EV} {as : List AV} (h1 : me δ = mret (.val (.obj c fs))) (h2 : fs.lookup m = none) (h3 : ma δ = mret es) (h4 : argsOf es = some as) (h5 : as.length + 1 = n) : eMeth c m n f me ma δ = f (.val (.obj c fs) :: as) := by
  unfold eMeth
  rw [h1, q_ret]
  show (if c = c ∧ fs.lookup m = none then mbind (ma δ) _ else mno) = _
  rw [if_pos ⟨rfl, h2⟩, h3, q_ret]
  show (match argsOf es with
    | some as => if as.length + 1 = n then f (.val (.obj c fs) :: as) else mno
    | none => mno) = _
  rw [h4]
  exact if_pos h5
theorem q_prop {c : Str} {f : MF} {me : DE} {δ : DS} {fs : List (Str × D)} {e : EV} (h1 : me δ = mret (.val (.obj c fs))) (h2 : f [.val (.obj c fs)] = mret e) : eProp c f me δ = mret e := by
  unfold eProp
  rw [h1, q_ret]
  show (if c = c then mQuiet (f [.val (.obj c fs)]) else mno) = _
  rw [if_pos rfl, h2]
  rfl
theorem q_call {n : Nat} {f : MF} {ma : DA} {δ : DS} {es : List EV} {as : List AV} (h3 : ma δ = mret es) (h4 : argsOf es = some as) (h5 : as.length = n) : eCall n f ma δ = f as := by
  unfold eCall
  rw [h3, q_ret]
  show (match argsOf es with
    | some as => if as.length = n then f as else mno
    | none => mno) = _
  rw [h4]
  exact if_pos h5
theorem dcGo_step {mg : DG} {mt : DB} {mk me : DE} {δ δ2 : DS} {d : D} {ds : List D} {acc : List (Key × D)} {g : Bag} {ek e : EV} {k : Key} {x : D} (h1 : mg d δ = some δ2) (h2 : mt δ2 = mret true) (h3 : mk δ2 = mret ek) (h4 : me δ2 = mret e) (h5 : keyE ek = some k) (h6 : e.keep = some x) (h7 : lineOk (acc.length + 1) = true) :
    dcGo mg mt mk me δ (d :: ds) acc g = dcGo mg mt mk me δ ds (putKD acc k x) g := by
  have q : dcGo mg mt mk me δ (d :: ds) acc g = (match mg d δ with
    | none => none
    | some δ2 => match mt δ2 g with
      | some (.ok true, g1) => match mk δ2 g1 with
        | some (.ok ek, g2) => match me δ2 g2 with
          | some (.ok e, g3) => match keyE ek, e.keep with
            | some k, some x => if lineOk (acc.length + 1) = true then dcGo mg mt mk me δ ds (putKD acc k x) g3 else none
            | _, _ => none
          | _ => none
        | _ => none
      | some (.ok false, g1) => dcGo mg mt mk me δ ds acc g1
      | _ => none) := rfl
  rw [q, h1]
  dsimp only
  rw [h2]
  dsimp only [mret]
  rw [h3]
  dsimp only [mret]
  rw [h4]
  dsimp only [mret]
  rw [h5, h6]
  dsimp only
  rw [if_pos h7]
theorem eDc_of {vs : List Nat} {mi : DI} {mg : DG} {mt : DB} {mk me : DE} {δ : DS} {g : Bag} {ds : List D} {es : List (Key × D)} (hi : mi δ g = some (.ok ds, g)) (hn : noOwn vs δ = true) (hr : dcGo mg mt mk me (wipeD δ vs) ds [] g = some (es, g)) : eDc vs mi mg mt mk me δ g = some (.ok (.nw (.dct es)), g) := by
  unfold eDc mbind
  rw [hi]
  dsimp only
  rw [if_pos hn, hr]
theorem putKD_new {acc : List (Key × D)} {k : Key} {x : D} (h : ∀ kv ∈ acc, kv.1 ≠ k) : putKD acc k x = acc ++ [(k, x)] := by
  unfold putKD
  rw [if_neg]
  intro z
  obtain ⟨kv, h1, h2⟩ := List.any_eq_true.mp z
  exact h kv h1 (of_decide_eq_true h2)
theorem eZ_ok {lk : DS → Option (List (Key × D))} {m : DE} {δ : DS} {g g' : Bag} {e : EV} {kvs : List (Key × D)} (h1 : lk δ = some kvs) (h2 : m δ g = some (.ok e, g')) : eZ lk m δ g = some (.ok e, g') := by
  unfold eZ
  rw [h1]
  dsimp only
  rw [h2]
theorem truE_bl {c : Bool} : truE (.val (.bl c)) = some c := rfl
theorem truE_lst {ds : List D} : truE (.val (.lst ds)) = some (!ds.isEmpty) := rfl
theorem truE_nw {ds : List D} : truE (.nw (.lst ds)) = some (!ds.isEmpty) := rfl
/-- lists of integers as they are compared -/
theorem toPyL_ints (ns : List Int) : toPyL (ns.map D.int) = some (ns.map PyData.int) := by
  induction ns with
  | nil => rfl
  | cons n ns ih =>
    show (match toPy (.int n), toPyL (ns.map D.int) with
      | some p, some ps => some (p :: ps)
      | _, _ => none) = _
    rw [ih]
    rfl
theorem shaped_ints (ns : List Int) : SeqAt.shaped (.list (ns.map PyData.int)) = true := by
  have h1 : PyData.canLayAll0 (ns.map PyData.int) = true := by
    induction ns with
    | nil => rfl
    | cons n ns ih => show (PyData.canLay0 (.int n) && PyData.canLayAll0 (ns.map PyData.int)) = true; rw [ih]; rfl
  have h2 : PyData.depthAll (ns.map PyData.int) = 0 := by
    induction ns with
    | nil => rfl
    | cons n ns ih => show max (PyData.depth (.int n)) (PyData.depthAll (ns.map PyData.int)) = 0; rw [ih (by exact (Bool.and_eq_true_iff.mp h1).2)]; rfl
  unfold SeqAt.shaped
  rw [show PyData.canLay0 (.list (ns.map PyData.int)) = PyData.canLayAll0 (ns.map PyData.int) from rfl, h1, show PyData.depth (.list (ns.map PyData.int)) = PyData.depthAll (ns.map PyData.int) + 1 from rfl, h2]
  rfl
theorem eqU_ints (xs ys : List Int) : eqU (.lst (xs.map D.int)) (.lst (ys.map D.int)) = some (decide (xs = ys)) := by
  show eqD (.lst (xs.map D.int)) (.lst (ys.map D.int)) = _
  unfold eqD
  rw [show toPy (.lst (xs.map D.int)) = (toPyL (xs.map D.int)).map .list from rfl, toPyL_ints, show toPy (.lst (ys.map D.int)) = (toPyL (ys.map D.int)).map .list from rfl, toPyL_ints]
  dsimp only [Option.map]
  rw [shaped_ints, shaped_ints]
  exact congrArg some (eqv_ints xs ys)
theorem eqU_bl (a b : Bool) : eqU (.bl a) (.bl b) = some (decide (a = b)) := by
  cases a <;> cases b <;> rfl
theorem eqU_int (a b : Int) : eqU (.int a) (.int b) = some (decide (a = b)) := by
  show eqD (.int a) (.int b) = _
  unfold eqD
  show some (a == b) = _
  by_cases h : a = b <;> simp [h]
theorem eqU_str (a b : Str) : eqU (.str a) (.str b) = some (decide (a = b)) := rfl
end Vi

set_option Elab.async false
set_option linter.all false
set_option maxRecDepth 100000
set_option maxHeartbeats 4000000
namespace Vi
open PySem PySem.Spec PyProof.Rows L2
/-! properties and methods within comprehensions -/
section
variable {X : Cx} {k j : Nat} {C : Addr} {m : MF} {f x : Str} {ps : List Str} {cl : Str → Option Addr} {pos apos : Pos} {e o : Expr} {es : List Expr} {te : TE} {t : TA} {W : WX} {K : PySem.W.Frag}
theorem pe_propCK (D : Kc X.K X.mg cl x C) (p : Pc X.prog X.w X.K X.mg X.base cl k C f m) (hr : GRoom j X.A) (hk : k + 1 ≤ j) (he : PE X e te) (hab : attributeBase e f X.env (eval e X.env) = eval e X.env := by rfl) (hK : X.K = K := by rfl) : PE X (.Attribute e f pos) (tPropG C (spM K cl 1 m) te) := by
  subst hK
  exact pe_propC D p hr hk he hab
theorem pe_fldCK (D : Kc X.K X.mg cl x C) (he : PE X e te) (hab : attributeBase e f X.env (eval e X.env) = eval e X.env := by rfl) (hK : X.K = K := by rfl) : PE X (.Attribute e f pos) (tFld K te f) := by
  subst hK
  exact pe_fldC D he hab
theorem pe_methCK {pl : Sem Bool} (D : Kc X.K X.mg cl x C) (M : Mc X.prog X.w X.K X.mg X.base cl k C f ps m) (hr : GRoom j X.A) (hk : k ≤ j) (tk : Takes X W) (he : PE X o te) (ha : PA X (e :: es) t)
    (hst : starEach (e :: es) X.env = (false, eval e X.env) :: starEach es X.env := by rfl) (hpl : (backTo pos (starEach es X.env)).any (·.1) = false := by rfl)
    (ht : eval (.Call (.Attribute o f apos) (e :: es) [] pos) X.env = (do
      let ov ← eval o X.env
      standAt apos.atName
      let (f, first) ← holding [ov] (getMethod ov f pl)
      callWith pos f first (backTo pos (starEach (e :: es) X.env)) (backToKw pos (keywordEach [] X.env))) := by rfl) (hK : X.K = K := by rfl) :
    PE X (.Call (.Attribute o f apos) (e :: es) [] pos) (tMethG C f (spM K cl ps.length m) W te t) := by
  subst hK
  exact pe_methC D M hr hk tk he ha hst hpl ht
theorem pe_methC0K {pl : Sem Bool} (D : Kc X.K X.mg cl x C) (M : Mc X.prog X.w X.K X.mg X.base cl k C f ps m) (hr : GRoom j X.A) (hk : k ≤ j) (tk : Takes X W) (he : PE X o te)
    (ht : eval (.Call (.Attribute o f apos) [] [] pos) X.env = (do
      let ov ← eval o X.env
      standAt apos.atName
      let (f, first) ← holding [ov] (getMethod ov f pl)
      callWith pos f first (backTo pos (starEach [] X.env)) (backToKw pos (keywordEach [] X.env))) := by rfl) (hK : X.K = K := by rfl) :
    PE X (.Call (.Attribute o f apos) [] [] pos) (tMethG C f (spM K cl ps.length m) W te tNil) := by
  subst hK
  exact pe_methC0 D M hr hk tk he ht
end
/-! an instance made with a default left out -/
def JcD (P : Program) (w : World) (K : PySem.W.Frag) (mg : Str → Option Value) (base : Heap) (cl : Str → Option Addr) (k : Nat) (x : Str) (C : Addr) (ps : List Str) (n : Nat) (ks : List Str) (m : Nat) (gV : List V → List V → List V) (F : List AV → M (List (Str × D))) : Prop :=
  ∃ (fI : Addr) (fd : FuncData) (gU : List Value → List Value → List Value), Mk K C fI ∧ FnG P w K mg base k fI fd ps (spI K cl x C m F) ∧ KBn K fd ps (n + 1) ks gU gV
section
variable {X : Cx} {k j n m : Nat} {C : Addr} {x : Str} {ps ks : List Str} {cl : Str → Option Addr} {F : List AV → M (List (Str × D))} {gV : List V → List V → List V} {pp pos : Pos} {e : Expr} {es : List Expr} {kws : List Keyword} {t tz : TA} {W : WX}
theorem pe_makeD (Dk : Kc X.K X.mg cl x C) (J : JcD X.prog X.w X.K X.mg X.base cl k x C ps n ks m gV F) (hr : GRoom j X.A) (hk : k + 1 ≤ j) (hg : Gl X x) (tk : Takes X W) (ha : PA X (e :: es) t) (hkw : PK X kws tz)
    (hall : (backToKw pos (keywordEach kws X.env)).all (·.1.isSome) = true := by rfl) (hks : (backToKw pos (keywordEach kws X.env)).filterMap (·.1) = ks := by rfl) (hdb : (x == ("__debug__" : Str)) = false := by decide)
    (he : starEach (e :: es) X.env = (false, eval e X.env) :: starEach es X.env := by rfl) (hpl : ((backTo pos (starEach (e :: es) X.env)).any (·.1) || (backToKw pos (keywordEach kws X.env)).any (·.1.isNone)) = false := by rfl) :
    PE X (.Call (.Name x pp) (e :: es) kws pos) (tMakeKG C n ks.length (spI X.K cl x C m F) gV W t tz) := by
  obtain ⟨fI, fd, gU, h1, h2, h3⟩ := J
  exact pe_makeKG h1 h2 (hr.mono hk) hg Dk.at_ h3 tk ha hkw hall hks hdb he hpl
end
theorem ae_makeD {K : PySem.W.Frag} {cl : Str → Option Addr} {W : WX} {ta tk : TA} {ma mk : DA} {c : Str} {C : Addr} {n m : Nat} {f : List AV → M (List (Str × D))} (h : AA K cl W ta ma) (hk : AA K cl W tk mk) (hc : cl c = some C) :
    AE K cl W (tMakeKG C n m (spI K cl c C (n + 1 + m) f) (fun vs zs => vs ++ [V.non] ++ zs) W ta tk) (eMakeK c n m (fun as bs => as ++ [.val .non] ++ bs) f ma mk) :=
  ae_makeK h hk hc (fun as bs h1 h2 => by rw [List.length_append, List.length_append, h1, h2]; rfl) fun G Bad H x vs zs as bs _ _ h1 h2 => ⟨vs ++ [V.non] ++ zs, rfl, avs_append (avs_append h1 (.cons .non .nil)) h2⟩
/-! max of a list or a tuple -/
def rMaxU (K : PySem.W.Frag) : List V → Hp → VK → Prop := fun vs H Q => ∃ (a : Addr) (ns : List Int), vs = [V.ref a] ∧ (SqL K H a (ns.map V.int) ∨ SqT K H a (ns.map V.int)) ∧ 0 < ns.length ∧ ∀ m, m ∈ ns → (∀ y, y ∈ ns → y ≤ m) → Q (.int m) H
theorem cr_maxU {X : Cx} (hc : X.calm = true) (hu : X.A.units + 64 < cLine) : CallR X (.builtin "max") (rMaxU X.K) := by
  intro pins s σ H vs us Q I r h
  obtain ⟨a, ns, rfl, hs, hne, q⟩ := h
  rcases hs with hs | hs
  · exact cr_max hc pins s σ H _ us Q I r ⟨a, ns, rfl, hs, hne, q⟩
  · obtain ⟨its, rv, hl, _⟩ := I.tuple hs
    rw [Vals.ref1 r]
    cases ns with
    | nil => exact absurd hne (by decide)
    | cons n ns =>
      refine PySem.W.max_tuple_data (x := .int n) (xs := ns.map PyData.int) (I.ok.hd hc) hl (ints_readAll _ rv.ints) ⟨?_, ?_⟩ ?_ fun i v h' tk bs hv hr hk => ?_
      · intro x hx y hy
        rcases List.mem_cons.mp hx with rfl | hx <;> rcases List.mem_cons.mp hy with rfl | hy
        · rfl
        · obtain ⟨k, _, rfl⟩ := List.mem_map.mp hy; rfl
        · obtain ⟨k, _, rfl⟩ := List.mem_map.mp hx; rfl
        · obtain ⟨k, _, rfl⟩ := List.mem_map.mp hx; obtain ⟨k, _, rfl⟩ := List.mem_map.mp hy; rfl
      · intro x hx z
        rcases List.mem_cons.mp hx with rfl | hx
        · cases z
        · obtain ⟨k, _, rfl⟩ := List.mem_map.mp hx
          cases z
      · rw [show PyData.depthAll (PyData.int n :: ns.map PyData.int) = 0 from by
          show PyData.depthAll ((n :: ns).map PyData.int) = 0
          generalize n :: ns = xs
          induction xs with
          | nil => rfl
          | cons z zs ih => show max (PyData.depth (.int z)) (PyData.depthAll (zs.map PyData.int)) = 0; rw [ih]; rfl]
        omega
      · rw [PySem.W.maxD_ints] at hr
        obtain ⟨f1, f2⟩ := foldl_max ns n
        cases hr with
        | int _ t => exact ⟨.int _, H, I.kept hk, ⟨_, rfl⟩, q _ f1 f2⟩
def lookS (e : EV) : Option (List D) := match e.look with
  | some (.lst ds) => some ds
  | some (.tup ds) => some ds
  | _ => none
def maxSE (e : EV) : Option EV := (lookS e).bind fun ds => (asInt ds).bind fun ns => (maxI ns).map fun m => .val (.int m)
theorem r1_maxU {K : PySem.W.Frag} {cl : Str → Option Addr} {W : WX} : R1ok K cl W (rMaxU K) maxSE := by
  intro b l B0 H0 δ g σ H H1 x e v S al k hv hf Q q
  obtain ⟨ds, h1, h2⟩ := Option.bind_eq_some_iff.mp hf
  obtain ⟨bs, h3, h3'⟩ := Option.bind_eq_some_iff.mp h2
  obtain ⟨m, h6, rfl⟩ := Option.map_eq_some_iff.mp h3'
  have key : ∃ a vs, v = .ref a ∧ (SqL K H1 a vs ∨ SqT K H1 a vs) ∧ DatL ⟨K, cl, b, l⟩ (Bd B0 δ σ) H1 vs ds := by
    unfold lookS at h1
    split at h1
    · rename_i e1
      cases h1
      obtain ⟨a, vs, e, h4, h5⟩ := (evok_items hv).1 e1
      exact ⟨a, vs, e, Or.inl (Or.inl (Or.inl h4)), h5⟩
    · rename_i e1
      cases h1
      obtain ⟨a, vs, e, h4, h5⟩ := (evok_items hv).2 e1
      exact ⟨a, vs, e, Or.inr h4, h5⟩
    · cases h1
  obtain ⟨a, vs, rfl, h4, h5⟩ := key
  obtain rfl := datl_int h5 h3
  cases bs with
  | nil => cases h6
  | cons n ns =>
    cases h6
    refine ⟨a, n :: ns, rfl, h4, Nat.succ_pos _, fun m hm hy => ?_⟩
    obtain ⟨f1, f2⟩ := foldl_max ns n
    have : m = ns.foldl max n := Int.le_antisymm (f2 m hm) (hy _ f1)
    rw [this]
    exact q _ H1 .refl S.bg (.int _)
end Vi
namespace L2
open PySem PySem.Spec PyProof.Rows
section
variable {X : Cx}
/-- a name's dict comprehension -/
theorem ps_setDc {i : Nat} {y : Str} {py : Pos} {kx vx tg iter : Expr} {ifs : List Expr} {scope : Scope} {own : List (Str × Nat)} {pos spos : Pos} {wi : TI} {g : TG} {tt : TT} {tk tv : TE} (hc : X.calm = true) (hN : X.N.Nodup) (hy : X.N[i]? = some y) (hyl : X.env.scope.names.lookup y = some .local)
    (hsw : swapsWith (.DictComp kx vx [⟨tg, iter, ifs, 0⟩] scope pos) (some (.Name y py)) spos.line X.env = pure true) (hi : PI X tg iter wi) (ok : BlkOk X.N X.env.scope scope own)
    (hg : ∀ (s : Shared) (H : Hp) (C : Addr) (cl : List (Str × Addr)) (fp : List Addr), PG (X.blk s H scope (compEnvC scope cl C X.env) fp) tg g) (ht : ∀ (s : Shared) (H : Hp) (C : Addr) (cl : List (Str × Addr)) (fp : List Addr), PTs (X.blk s H scope (compEnvC scope cl C X.env) fp) ifs tt)
    (hk : ∀ (s : Shared) (H : Hp) (C : Addr) (cl : List (Str × Addr)) (fp : List Addr), PE (X.blk s H scope (compEnvC scope cl C X.env) fp) kx tk)
    (he : ∀ (s : Shared) (H : Hp) (C : Addr) (cl : List (Str × Addr)) (fp : List Addr), PE (X.blk s H scope (compEnvC scope cl C X.env) fp) vx tv) (hs : ∀ x, foldedSetIterable iter X.env x = pure x := by intro _; rfl) :
    PS X (.Assign [.Name y py] (.DictComp kx vx [⟨tg, iter, ifs, 0⟩] scope pos) spos) (tAsg (tDc wi g tt tk tv (own.map (·.2))) (gName i)) := by
  refine ⟨fun pins s σ H D I h => ?_⟩
  rw [exec_Assign_Name_used _ _ _ _ hsw]
  refine wpAny_bind (wpAny_standAt (wpAny_bind ?_))
  show wpAny _ X.A (do let _ ← comprehension (.DictComp kx vx [⟨tg, iter, ifs, 0⟩] scope pos) scope X.env (firstIterPos [⟨tg, iter, ifs, 0⟩] pos) newDict false (eval iter X.env) (some (assign (.Name y py) X.env))) _ _ s
  have h : tDc wi g tt tk tv (own.map (·.2)) σ H (fun x H1 => gName i x σ H1 D.nx) := h
  refine wpAny_bind (thn (dc_core (Qf := fun _ s' => SP X pins D .next s') hc hN I hi ok hg ht hk he hs h fun L C s' m H' I' q hn f => ?_) fun _ s' hq => wpAny_pure (wpAny_pure hq))
  show wpAny _ _ (assign (.Name y py) X.env (.ref L)) _ _ _
  refine wpAny_assign_Name (store_ok2 (v := V.ref L) I' hN hy (.inl hyl) rfl (fun s2 I2 ⟨a, sb, ha⟩ => ?_) (.inr hyl))
  obtain ⟨f0, f1, f2, f3, f4, f5⟩ := f
  have haC : C ≠ a := by
    rcases ha with z | z
    · rw [z]; exact f1
    · exact fun e => f4 y a z e.symm
  refine ⟨m, hn.sameBut sb haC, fun h3 sb3 => ?_⟩
  exact ⟨_, H', I2.turned (t' := s2.toks) (fun b o hb e => (sb3.2 b hb).trans e) f0 f1 f3 f4 f5, q⟩
theorem sw_trueD {kx vx : Expr} {gs : List Comprehension} {scope : Scope} {pos py : Pos} {y : Str} {l : Nat} {env : Env} (hk : env.scope.kind = .function) (hy : env.scope.names.lookup y = some .local) (hl : (py.line == pos.line) = true)
    (ha : (scope.names.any fun (n, k) => n == y && (k == .local || k == .cell)) = false) : swapsWith (.DictComp kx vx gs scope pos) (some (.Name y py)) l env = pure true := by
  have ky : env.kindOf y = some .local := hy
  have hb : env.blockKind = .function := by unfold Env.blockKind; rw [hk]; rfl
  unfold swapsWith
  simp only [hb, ky, ha, Expr.pos, hl]
  rfl
end
end L2

set_option Elab.async false
set_option linter.all false
set_option maxRecDepth 100000
set_option maxHeartbeats 8000000
namespace K27
open PySem PySem.Spec PyProof.Rows L2 Vi
def top (i : Nat) : Stmt := PySem.Challenge.pw_loneseats_k27_whole_rules_side_by_side.main.body.getD i (.Pass ⟨0, 0, 0, 0⟩)
def meth (i j : Nat) : Stmt := match top i with
  | .ClassDef _ _ _ b _ _ _ _ _ _ _ => b.getD j (.Pass ⟨0, 0, 0, 0⟩)
  | s => s
structure Bn (mg : Str → Option Value) : Prop where
  b_isinstance : mg "isinstance" = none
  b_int : mg "int" = none
  b_bool : mg "bool" = none
  b_str : mg "str" = none
  b_all : mg "all" = none
  b_list : mg "list" = none
  b_tuple : mg "tuple" = none
  b_range : mg "range" = none
  b_sorted : mg "sorted" = none
  b_set : mg "set" = none
  b_len : mg "len" = none
  b_dict : mg "dict" = none
  b_abs : mg "abs" = none
  b_min : mg "min" = none
  b_property : mg "property" = none
structure Cn (K : PySem.W.Frag) (mg : Str → Option Value) (a_ENDS : Addr) (a_PLACES : Addr) : Prop where
  GREATEST_SIZE : ∃ u, mg "GREATEST_SIZE" = some u ∧ RelV (.int 5) u
  GREATEST_BAD : ∃ u, mg "GREATEST_BAD" = some u ∧ RelV (.int 5) u
  GREATEST_OFFER : ∃ u, mg "GREATEST_OFFER" = some u ∧ RelV (.int 5) u
  ENDS : ∃ u, mg "ENDS" = some u ∧ RelV (.ref a_ENDS) u
  t_ENDS : SqT K NoH a_ENDS [.str "pillar", .str "sold", .str "wall"]
  PLACES : ∃ u, mg "PLACES" = some u ∧ RelV (.ref a_PLACES) u
  t_PLACES : SqT K NoH a_PLACES [.str "any", .str "side"]
def d_ENDS : D := .tup [.str "pillar", .str "sold", .str "wall"]
theorem dat_ENDS {G : Gd} {Bad : Addr → Prop} {H : Hp} {mg : Str → Option Value} {a_ENDS a_PLACES : Addr} (C : Cn G.K mg a_ENDS a_PLACES) : Dat G Bad H (.ref a_ENDS) d_ENDS := .tupK C.t_ENDS (.cons (.str _) (.cons (.str _) (.cons (.str _) (.nil))))
def d_PLACES : D := .tup [.str "any", .str "side"]
theorem dat_PLACES {G : Gd} {Bad : Addr → Prop} {H : Hp} {mg : Str → Option Value} {a_ENDS a_PLACES : Addr} (C : Cn G.K mg a_ENDS a_PLACES) : Dat G Bad H (.ref a_PLACES) d_PLACES := .tupK C.t_PLACES (.cons (.str _) (.cons (.str _) (.nil)))
noncomputable section
variable {P : Program} {w : World} {K : PySem.W.Frag} {mg : Str → Option Value} {base : Heap} {cl : Str → Option Addr}
abbrev s__law_bag : Stmt := top 35
theorem sc__law_bag : FnScope ["_law_script", "_law_cell"] ["_law_script"] (defScope s__law_bag) := ⟨rfl, rfl, rfl, by decide +kernel, rfl, by decide +kernel, by decide +kernel⟩
theorem ok__law_bag {f : Addr} {fd : FuncData} (F : Fun K "_law_bag" "_law_bag" s__law_bag f fd) (B : Bn mg) : FnG P w K mg base 1 f fd ["_law_script"] (spBag K) := by
  refine fnG_of F sc__law_bag (fun vs H Q E h => by obtain ⟨a, ns, rfl, _⟩ := h; rfl) fun cdv A outer s H vs Q E hr h => ?_
  have nd := sc__law_bag.nd
  refine ⟨_, pss_one (ps_ret (pe_lst (pa_cons pe_int (pa_cons pe_int (pa_cons pe_int (pa_cons (pe_lc rfl nd (pi_list (pe_slice (r := rSlL K) sl_list (pv 0) po_none (po_some pe_int))) (blkOk_by (N := ["_law_script", "_law_cell"]) (sc := defScope s__law_bag) (own := [("_law_cell", 1)]) (by decide +kernel)) (fun _ _ _ _ _ => pg_name (i := 1) nd rfl (by first | exact Or.inl rfl | exact Or.inr rfl)) (fun _ _ _ _ _ => pts_nil) (fun _ _ _ _ _ => pe_callB (r := rAbs) call_abs (by rfl) B.b_abs PyProof.Rows.boot_abs (pa_cons (pv 1) pa_nil))) pa_nil)))))), ?_⟩
  obtain ⟨a, ns, rfl, h'⟩ := h
  exact bag_reads (E := E) ⟨a, ns, rfl, h'⟩
abbrev s__ascending : Stmt := top 28
theorem sc__ascending : FnScope ["numbers"] ["numbers"] (defScope s__ascending) := ⟨rfl, rfl, rfl, by decide +kernel, rfl, by decide +kernel, by decide +kernel⟩
def bd__ascending : DT := sRet (eB1 tupE (eB1 sortSetE (eVar 0)))
def m__ascending : MF := mBody 1 bd__ascending
theorem ok__ascending {f : Addr} {fd : FuncData} (F : Fun K "_ascending" "_ascending" s__ascending f fd)
    (B : Bn mg) : FnG P w K mg base 1 f fd ["numbers"] (spM K cl 1 m__ascending) := by
  refine fnM (n := 1) (N := ["numbers"]) (m := bd__ascending) F sc__ascending rfl fun cdv A outer s H E hr => ⟨_, pss_one (ps_ret (pe_callTy (r := rTupOf K) call_tuple_of (by rfl) B.b_tuple bt_tuple (pa_cons (pe_callB (r := rSortedSet w) (cr_sortedSet (by rfl)) (by rfl) B.b_sorted bt_sorted (pa_cons (pe_callTy (r := rSetI K w) (call_setI (by rfl)) (by rfl) B.b_set bt_set (pa_cons (pv 0) pa_nil)) pa_nil)) pa_nil))), ?_⟩
  exact as_ret (ae_B1 (ae_sortSet (ae_var)) r1_tup)
abbrev s_is_integer : Stmt := top 9
theorem sc_is_integer : FnScope ["thing"] ["thing"] (defScope s_is_integer) := ⟨rfl, rfl, rfl, by decide +kernel, rfl, by decide +kernel, by decide +kernel⟩
def bd_is_integer : DT := sRet (eAnd (eB1 (isiE "int") (eVar 0)) (eNot (eB1 (isiE "bool") (eVar 0))))
def m_is_integer : MF := mBody 1 bd_is_integer
theorem ok_is_integer {f : Addr} {fd : FuncData} (F : Fun K "is_integer" "is_integer" s_is_integer f fd)
    (B : Bn mg) : FnG P w K mg base 1 f fd ["thing"] (spM K cl 1 m_is_integer) := by
  refine fnM (n := 1) (N := ["thing"]) (m := bd_is_integer) F sc_is_integer rfl fun cdv A outer s H E hr => ⟨_, pss_one (ps_ret (pe_and (pe_callB (r := rIsi K) call_isi (by rfl) B.b_isinstance PyProof.Rows.boot_isinstance (pa_cons (pv 0) (pa_cons (pe_bltn (v := .ty "int") (by rfl) B.b_int bt_int rfl) pa_nil))) (pe_one (pe_not (pe_callB (r := rIsi K) call_isi (by rfl) B.b_isinstance PyProof.Rows.boot_isinstance (pa_cons (pv 0) (pa_cons (pe_bltn (v := .ty "bool") (by rfl) B.b_bool bt_bool rfl) pa_nil))))))), ?_⟩
  exact as_ret (ae_and (ae_isi (ae_var)) (ae_not (ae_isi (ae_var))))
abbrev s_is_size : Stmt := top 12
theorem sc_is_size : FnScope ["thing"] ["thing"] (defScope s_is_size) := ⟨rfl, rfl, rfl, by decide +kernel, rfl, by decide +kernel, by decide +kernel⟩
def bd_is_size : DT := sRet (eAnd (eCall 1 m_is_integer (aCons (eVar 0) (aNil))) (eChain mLe mLe (eC (.int 1)) (eVar 0) (eC (.int 5))))
def m_is_size : MF := mBody 1 bd_is_size
theorem ok_is_size {a_ENDS a_PLACES : Addr} {f : Addr} {fd : FuncData} (F : Fun K "is_size" "is_size" s_is_size f fd)
    {f_is_integer : Addr} {fd_is_integer : FuncData} (D_is_integer : Df K mg "is_integer" s_is_integer ["thing"] f_is_integer fd_is_integer) (G_is_integer : FnG P w K mg base 1 f_is_integer fd_is_integer ["thing"] (spM K cl 1 m_is_integer))
    (C : Cn K mg a_ENDS a_PLACES) : FnG P w K mg base 2 f fd ["thing"] (spM K cl 1 m_is_size) := by
  refine fnM (n := 1) (N := ["thing"]) (m := bd_is_size) F sc_is_size rfl fun cdv A outer s H E hr => ⟨_, pss_one (ps_ret (pe_and (pe_callG G_is_integer (hr.mono (by decide)) (by rfl) D_is_integer.mg D_is_integer.kp D_is_integer.b (takes_of rfl rfl rfl rfl) (pa_cons (pv 0) (pa_nil))) (pe_one (pe_chain op_le op_le (pe_int) (pv 0) (pe_gC (v := .int 5) (by rfl) C.GREATEST_SIZE))))), ?_⟩
  exact as_ret (ae_and (ae_call (aa_cons (ae_var) (aa_nil))) (ae_chain (ae_c fun _ _ _ => .int _) (ae_var) (ae_c fun _ _ _ => .int _) r2_le r2_le))
abbrev s_are_sizes : Stmt := top 13
theorem sc_are_sizes : FnScope ["thing", "member"] ["thing"] (defScope s_are_sizes) := ⟨rfl, rfl, rfl, by decide +kernel, rfl, by decide +kernel, by decide +kernel⟩
def bd_are_sizes : DT := sRet (eAnd (eB1 (isi2E "list" "tuple") (eVar 0)) (eB1 allE (eLc [1] (iSeq (eVar 0)) (dName 1) (bYes) (eCall 1 m_is_size (aCons (eVar 1) (aNil))))))
def m_are_sizes : MF := mBody 2 bd_are_sizes
theorem ok_are_sizes {f : Addr} {fd : FuncData} (F : Fun K "are_sizes" "are_sizes" s_are_sizes f fd)
    {f_is_size : Addr} {fd_is_size : FuncData} (D_is_size : Df K mg "is_size" s_is_size ["thing"] f_is_size fd_is_size) (G_is_size : FnG P w K mg base 2 f_is_size fd_is_size ["thing"] (spM K cl 1 m_is_size))
    (B : Bn mg) : FnG P w K mg base 3 f fd ["thing"] (spM K cl 1 m_are_sizes) := by
  refine fnM (n := 1) (N := ["thing", "member"]) (m := bd_are_sizes) F sc_are_sizes rfl fun cdv A outer s H E hr => ⟨_, pss_one (ps_ret (pe_and (pe_callB (r := rIsiT K) call_isiT (by rfl) B.b_isinstance PyProof.Rows.boot_isinstance (pa_cons (pv 0) (pa_cons (pe_tup (pa_cons (pe_bltn (v := .ty "list") (by rfl) B.b_list bt_list rfl) (pa_cons (pe_bltn (v := .ty "tuple") (by rfl) B.b_tuple bt_tuple rfl) pa_nil))) pa_nil))) (pe_one (pe_callB (r := rAll K) (cr_all (by rfl)) (by rfl) B.b_all bt_all (pa_cons (pe_lc rfl sc_are_sizes.nd (pi_seqK (K := K) (pv 0)) (blkOk_by (N := ["thing", "member"]) (sc := defScope s_are_sizes) (own := [("member", 1)]) (by decide +kernel)) (fun _ _ _ _ _ => pg_name (i := 1) sc_are_sizes.nd rfl (by first | exact Or.inl rfl | exact Or.inr rfl)) (fun _ _ _ _ _ => pts_nil) (fun _ _ _ _ _ => pe_callG G_is_size (hr.mono (by decide)) (by rfl) D_is_size.mg D_is_size.kp D_is_size.b takes0 (pa_cons (pv 1) (pa_nil)))) pa_nil))))), ?_⟩
  exact as_ret (ae_and (ae_isi2 (ae_var)) (ae_B1 (ae_lc (ai_seq (ae_var)) (ag_name) (ab_yes) (ae_call (aa_cons (ae_var) (aa_nil))) (by decide)) r1_all))
abbrev s__are_rule_sizes : Stmt := top 29
theorem sc__are_rule_sizes : FnScope ["thing"] ["thing"] (defScope s__are_rule_sizes) := ⟨rfl, rfl, rfl, by decide +kernel, rfl, by decide +kernel, by decide +kernel⟩
def bd__are_rule_sizes : DT := sRet (eAnd (eCall 1 m_are_sizes (aCons (eVar 0) (aNil))) (e2 (mGt) (eB1 lenE (eVar 0)) (eC (.int 0))))
def m__are_rule_sizes : MF := mBody 1 bd__are_rule_sizes
theorem ok__are_rule_sizes {f : Addr} {fd : FuncData} (F : Fun K "_are_rule_sizes" "_are_rule_sizes" s__are_rule_sizes f fd)
    {f_are_sizes : Addr} {fd_are_sizes : FuncData} (D_are_sizes : Df K mg "are_sizes" s_are_sizes ["thing"] f_are_sizes fd_are_sizes) (G_are_sizes : FnG P w K mg base 3 f_are_sizes fd_are_sizes ["thing"] (spM K cl 1 m_are_sizes))
    (B : Bn mg) : FnG P w K mg base 4 f fd ["thing"] (spM K cl 1 m__are_rule_sizes) := by
  refine fnM (n := 1) (N := ["thing"]) (m := bd__are_rule_sizes) F sc__are_rule_sizes rfl fun cdv A outer s H E hr => ⟨_, pss_one (ps_ret (pe_and (pe_callG G_are_sizes (hr.mono (by decide)) (by rfl) D_are_sizes.mg D_are_sizes.kp D_are_sizes.b (takes_of rfl rfl rfl rfl) (pa_cons (pv 0) (pa_nil))) (pe_one (pe_cmpR op_gt (pe_callB (r := rLenU K) call_lenU (by rfl) B.b_len PySem.boot_len (pa_cons (pv 0) pa_nil)) (pe_int) (nomark _))))), ?_⟩
  exact as_ret (ae_and (ae_call (aa_cons (ae_var) (aa_nil))) (ae_2 (ae_B1 (ae_var) r1_len) (ae_c fun _ _ _ => .int _) r2_gt))
abbrev s_is_end : Stmt := top 11
theorem sc_is_end : FnScope ["thing"] ["thing"] (defScope s_is_end) := ⟨rfl, rfl, rfl, by decide +kernel, rfl, by decide +kernel, by decide +kernel⟩
def bd_is_end : DT := sRet (eAnd (eB1 (isiE "str") (eVar 0)) (e2 (mIn false) (eVar 0) (eC d_ENDS)))
def m_is_end : MF := mBody 1 bd_is_end
theorem ok_is_end {a_ENDS a_PLACES : Addr} {f : Addr} {fd : FuncData} (F : Fun K "is_end" "is_end" s_is_end f fd)
    (B : Bn mg)
    (C : Cn K mg a_ENDS a_PLACES) : FnG P w K mg base 1 f fd ["thing"] (spM K cl 1 m_is_end) := by
  refine fnM (n := 1) (N := ["thing"]) (m := bd_is_end) F sc_is_end rfl fun cdv A outer s H E hr => ⟨_, pss_one (ps_ret (pe_and (pe_callB (r := rIsi K) call_isi (by rfl) B.b_isinstance PyProof.Rows.boot_isinstance (pa_cons (pv 0) (pa_cons (pe_bltn (v := .ty "str") (by rfl) B.b_str bt_str rfl) pa_nil))) (pe_one (pe_cmpR (r := rIn K false) op_in_seq (pv 0) (pe_gC (v := .ref a_ENDS) (by rfl) C.ENDS) (by rfl))))), ?_⟩
  exact as_ret (ae_and (ae_isi (ae_var)) (ae_2 (ae_var) (ae_cK fun b l Bad H => dat_ENDS (G := ⟨K, cl, b, l⟩) C) r2_in))
abbrev s__are_bad_lengths : Stmt := top 30
theorem sc__are_bad_lengths : FnScope ["thing", "end", "lengths"] ["thing"] (defScope s__are_bad_lengths) := ⟨rfl, rfl, rfl, by decide +kernel, rfl, by decide +kernel, by decide +kernel⟩
def bd__are_bad_lengths : DT := sSeq (sIf (bOf (e2 (mIsN false) (eVar 0) (eC .non))) (sRet (eC (.bl true))) (sNext))
    (sSeq (sIf (bNot (bOf (eB1 (isiE "dict") (eVar 0)))) (sRet (eC (.bl false))) (sNext))
    (sRet (eB1 allE (eZ (lkVar 0) (eLc [1, 2] (iItemsD (lkVar 0)) (dTup 2 (dCons (dName 1) (dCons (dName 2) (dNil)))) (bYes) (eAnd (eCall 1 m_is_end (aCons (eVar 1) (aNil))) (eCall 1 m_are_sizes (aCons (eVar 2) (aNil)))))))))
def m__are_bad_lengths : MF := mBody 3 bd__are_bad_lengths
theorem ok__are_bad_lengths {f : Addr} {fd : FuncData} (F : Fun K "_are_bad_lengths" "_are_bad_lengths" s__are_bad_lengths f fd)
    {f_is_end : Addr} {fd_is_end : FuncData} (D_is_end : Df K mg "is_end" s_is_end ["thing"] f_is_end fd_is_end) (G_is_end : FnG P w K mg base 1 f_is_end fd_is_end ["thing"] (spM K cl 1 m_is_end))
    {f_are_sizes : Addr} {fd_are_sizes : FuncData} (D_are_sizes : Df K mg "are_sizes" s_are_sizes ["thing"] f_are_sizes fd_are_sizes) (G_are_sizes : FnG P w K mg base 3 f_are_sizes fd_are_sizes ["thing"] (spM K cl 1 m_are_sizes))
    (B : Bn mg) : FnG P w K mg base 4 f fd ["thing"] (spM K cl 1 m__are_bad_lengths) := by
  refine fnM (n := 1) (N := ["thing", "end", "lengths"]) (m := bd__are_bad_lengths) F sc__are_bad_lengths rfl fun cdv A outer s H E hr => ⟨_, pss_cons (ps_if (pt_cmpR op_isN (pv 0) (pe_non) (nomark _)) (pss_one (ps_ret (pe_bl))) (pss_nil))
    (pss_cons (ps_if (pt_not (pt_val (pe_callB (r := rIsi K) call_isi (by rfl) B.b_isinstance PyProof.Rows.boot_isinstance (pa_cons (pv 0) (pa_cons (pe_bltn (v := .ty "dict") (by rfl) B.b_dict bt_dict rfl) pa_nil))))) (pss_one (ps_ret (pe_bl))) (pss_nil))
    (pss_one (ps_ret (pe_callB (r := rAll K) (cr_all (by rfl)) (by rfl) B.b_all bt_all (pa_cons (pe_z (pe_lc rfl sc__are_bad_lengths.nd (pi_items (pv 0)) (blkOk_by (N := ["thing", "end", "lengths"]) (sc := defScope s__are_bad_lengths) (own := [("end", 1), ("lengths", 2)]) (by decide +kernel)) (fun _ _ _ _ _ => pg_tupK (K := K) (n := 2) rfl (pgs_cons (pg_name (i := 1) sc__are_bad_lengths.nd rfl (by first | exact Or.inl rfl | exact Or.inr rfl)) (pgs_cons (pg_name (i := 2) sc__are_bad_lengths.nd rfl (by first | exact Or.inl rfl | exact Or.inr rfl)) (pgs_nil)))) (fun _ _ _ _ _ => pts_nil) (fun _ _ _ _ _ => pe_and (pe_callG G_is_end (hr.mono (by decide)) (by rfl) D_is_end.mg D_is_end.kp D_is_end.b takes0 (pa_cons (pv 1) (pa_nil))) (pe_one (pe_callG G_are_sizes (hr.mono (by decide)) (by rfl) D_are_sizes.mg D_are_sizes.kp D_are_sizes.b takes0 (pa_cons (pv 2) (pa_nil))))))) pa_nil))))), ?_⟩
  exact as_seq (as_if (ab_of (ae_2 (ae_var) (ae_c fun _ _ _ => .non) r2_isN)) (as_ret (ae_c fun _ _ _ => .bl _)) (as_next))
    (as_seq (as_if (ab_not (ab_ofB (ae_isi (ae_var)))) (as_ret (ae_c fun _ _ _ => .bl _)) (as_next))
    (as_ret (ae_B1 (ae_lcz lk_var (aiz_items) (ag_tup (ags_cons (ag_name) (ags_cons (ag_name) (ags_nil)))) (ab_yes) (ae_and (ae_call (aa_cons (ae_var) (aa_nil))) (ae_call (aa_cons (ae_var) (aa_nil)))) (by decide)) r1_all)))
abbrev s__is_place : Stmt := top 31
theorem sc__is_place : FnScope ["thing"] ["thing"] (defScope s__is_place) := ⟨rfl, rfl, rfl, by decide +kernel, rfl, by decide +kernel, by decide +kernel⟩
def bd__is_place : DT := sRet (eAnd (eB1 (isiE "str") (eVar 0)) (e2 (mIn false) (eVar 0) (eC d_PLACES)))
def m__is_place : MF := mBody 1 bd__is_place
theorem ok__is_place {a_ENDS a_PLACES : Addr} {f : Addr} {fd : FuncData} (F : Fun K "_is_place" "_is_place" s__is_place f fd)
    (B : Bn mg)
    (C : Cn K mg a_ENDS a_PLACES) : FnG P w K mg base 1 f fd ["thing"] (spM K cl 1 m__is_place) := by
  refine fnM (n := 1) (N := ["thing"]) (m := bd__is_place) F sc__is_place rfl fun cdv A outer s H E hr => ⟨_, pss_one (ps_ret (pe_and (pe_callB (r := rIsi K) call_isi (by rfl) B.b_isinstance PyProof.Rows.boot_isinstance (pa_cons (pv 0) (pa_cons (pe_bltn (v := .ty "str") (by rfl) B.b_str bt_str rfl) pa_nil))) (pe_one (pe_cmpR (r := rIn K false) op_in_seq (pv 0) (pe_gC (v := .ref a_PLACES) (by rfl) C.PLACES) (by rfl))))), ?_⟩
  exact as_ret (ae_and (ae_isi (ae_var)) (ae_2 (ae_var) (ae_cK fun b l Bad H => dat_PLACES (G := ⟨K, cl, b, l⟩) C) r2_in))
abbrev s_is_number : Stmt := top 10
theorem sc_is_number : FnScope ["thing"] ["thing"] (defScope s_is_number) := ⟨rfl, rfl, rfl, by decide +kernel, rfl, by decide +kernel, by decide +kernel⟩
def bd_is_number : DT := sRet (eAnd (eCall 1 m_is_integer (aCons (eVar 0) (aNil))) (e2 (mGe) (eVar 0) (eC (.int 0))))
def m_is_number : MF := mBody 1 bd_is_number
theorem ok_is_number {f : Addr} {fd : FuncData} (F : Fun K "is_number" "is_number" s_is_number f fd)
    {f_is_integer : Addr} {fd_is_integer : FuncData} (D_is_integer : Df K mg "is_integer" s_is_integer ["thing"] f_is_integer fd_is_integer) (G_is_integer : FnG P w K mg base 1 f_is_integer fd_is_integer ["thing"] (spM K cl 1 m_is_integer)) : FnG P w K mg base 2 f fd ["thing"] (spM K cl 1 m_is_number) := by
  refine fnM (n := 1) (N := ["thing"]) (m := bd_is_number) F sc_is_number rfl fun cdv A outer s H E hr => ⟨_, pss_one (ps_ret (pe_and (pe_callG G_is_integer (hr.mono (by decide)) (by rfl) D_is_integer.mg D_is_integer.kp D_is_integer.b (takes_of rfl rfl rfl rfl) (pa_cons (pv 0) (pa_nil))) (pe_one (pe_cmpR op_ge (pv 0) (pe_int) (nomark _))))), ?_⟩
  exact as_ret (ae_and (ae_call (aa_cons (ae_var) (aa_nil))) (ae_2 (ae_var) (ae_c fun _ _ _ => .int _) r2_ge))
abbrev s__is_offer : Stmt := top 32
theorem sc__is_offer : FnScope ["thing"] ["thing"] (defScope s__is_offer) := ⟨rfl, rfl, rfl, by decide +kernel, rfl, by decide +kernel, by decide +kernel⟩
def bd__is_offer : DT := sRet (eAnd (eCall 1 m_is_number (aCons (eVar 0) (aNil))) (e2 (mLe) (eVar 0) (eC (.int 5))))
def m__is_offer : MF := mBody 1 bd__is_offer
theorem ok__is_offer {a_ENDS a_PLACES : Addr} {f : Addr} {fd : FuncData} (F : Fun K "_is_offer" "_is_offer" s__is_offer f fd)
    {f_is_number : Addr} {fd_is_number : FuncData} (D_is_number : Df K mg "is_number" s_is_number ["thing"] f_is_number fd_is_number) (G_is_number : FnG P w K mg base 2 f_is_number fd_is_number ["thing"] (spM K cl 1 m_is_number))
    (C : Cn K mg a_ENDS a_PLACES) : FnG P w K mg base 3 f fd ["thing"] (spM K cl 1 m__is_offer) := by
  refine fnM (n := 1) (N := ["thing"]) (m := bd__is_offer) F sc__is_offer rfl fun cdv A outer s H E hr => ⟨_, pss_one (ps_ret (pe_and (pe_callG G_is_number (hr.mono (by decide)) (by rfl) D_is_number.mg D_is_number.kp D_is_number.b (takes_of rfl rfl rfl rfl) (pa_cons (pv 0) (pa_nil))) (pe_one (pe_cmpR op_le (pv 0) (pe_gC (v := .int 5) (by rfl) C.GREATEST_OFFER) (nomark _))))), ?_⟩
  exact as_ret (ae_and (ae_call (aa_cons (ae_var) (aa_nil))) (ae_2 (ae_var) (ae_c fun _ _ _ => .int _) r2_le))
abbrev s_Rule__init : Stmt := meth 33 0
theorem sc_Rule__init : FnScope ["self", "sizes", "bad", "soft", "where", "offer", "told", "end"] ["self", "sizes", "bad", "soft", "where", "offer"] (defScope s_Rule__init) := ⟨rfl, rfl, rfl, by decide +kernel, rfl, by decide +kernel, by decide +kernel⟩
def bd_Rule__init : DF := fSeq (fSt (sIf (bNot (bOf (eCall 1 m__are_rule_sizes (aCons (eVar 1) (aNil))))) (sNo) (sNext)))
    (fSeq (fSt (sIf (bNot (bOf (eCall 1 m__are_bad_lengths (aCons (eVar 2) (aNil))))) (sNo) (sNext)))
    (fSeq (fSt (sIf (bNot (bOf (eB1 (isiE "bool") (eVar 3)))) (sNo) (sNext)))
    (fSeq (fSt (sIf (bNot (bOf (eCall 1 m__is_place (aCons (eVar 4) (aNil))))) (sNo) (sNext)))
    (fSeq (fSt (sIf (bNot (bOf (eCall 1 m__is_offer (aCons (eVar 5) (aNil))))) (sNo) (sNext)))
    (fSeq (fSt (sSet 6 (eIf (bOf (e2 (mIsN false) (eVar 2) (eC .non))) (eD0) (eVar 2))))
    (fSeq (fSet "_sizes" (eCall 1 m__ascending (aCons (eVar 1) (aNil))))
    (fSeq (fSet "_bad" (eDc [7] (iSeq (eC d_ENDS)) (dName 7) (bYes) (eVar 7) (eCall 1 m__ascending (aCons (eDGet2 (eVar 6) (eVar 7) (eTup (aNil))) (aNil)))))
    (fSeq (fSet "_soft" (eVar 3))
    (fSeq (fSet "_where" (eVar 4))
    (fSet "_offer" (eVar 5)))))))))))
theorem ok_Rule__init {c_Rule : Addr} {a_ENDS a_PLACES : Addr} {f : Addr} {fd : FuncData} (F : FunA K "__init__" "Rule.__init__" s_Rule__init f fd)
    {f__ascending : Addr} {fd__ascending : FuncData} (D__ascending : Df K mg "_ascending" s__ascending ["numbers"] f__ascending fd__ascending) (G__ascending : FnG P w K mg base 1 f__ascending fd__ascending ["numbers"] (spM K cl 1 m__ascending))
    {f__are_rule_sizes : Addr} {fd__are_rule_sizes : FuncData} (D__are_rule_sizes : Df K mg "_are_rule_sizes" s__are_rule_sizes ["thing"] f__are_rule_sizes fd__are_rule_sizes) (G__are_rule_sizes : FnG P w K mg base 4 f__are_rule_sizes fd__are_rule_sizes ["thing"] (spM K cl 1 m__are_rule_sizes))
    {f__are_bad_lengths : Addr} {fd__are_bad_lengths : FuncData} (D__are_bad_lengths : Df K mg "_are_bad_lengths" s__are_bad_lengths ["thing"] f__are_bad_lengths fd__are_bad_lengths) (G__are_bad_lengths : FnG P w K mg base 4 f__are_bad_lengths fd__are_bad_lengths ["thing"] (spM K cl 1 m__are_bad_lengths))
    {f__is_place : Addr} {fd__is_place : FuncData} (D__is_place : Df K mg "_is_place" s__is_place ["thing"] f__is_place fd__is_place) (G__is_place : FnG P w K mg base 1 f__is_place fd__is_place ["thing"] (spM K cl 1 m__is_place))
    {f__is_offer : Addr} {fd__is_offer : FuncData} (D__is_offer : Df K mg "_is_offer" s__is_offer ["thing"] f__is_offer fd__is_offer) (G__is_offer : FnG P w K mg base 3 f__is_offer fd__is_offer ["thing"] (spM K cl 1 m__is_offer))
    (KC_Rule : Kc K mg cl "Rule" c_Rule)
    (N_Rule__sizes : NoAttr K c_Rule "_sizes")
    (N_Rule__bad : NoAttr K c_Rule "_bad")
    (N_Rule__soft : NoAttr K c_Rule "_soft")
    (N_Rule__where : NoAttr K c_Rule "_where")
    (N_Rule__offer : NoAttr K c_Rule "_offer")
    (B : Bn mg)
    (C : Cn K mg a_ENDS a_PLACES)
    (hm : ∀ (x : Addr) (as : List AV) (g g' : Bag) (fs : List (Str × D)), F_Rule as g = some (.ok fs, g') → ∃ δ', bd_Rule__init (startD 8 (.slf x :: as)) [] g = some (δ', fs, g')) : FnG P w K mg base 5 f fd ["self", "sizes", "bad", "soft", "where", "offer"] (spI K cl "Rule" c_Rule 5 F_Rule) := by
  refine fnIA (n := 5) (N := ["self", "sizes", "bad", "soft", "where", "offer", "told", "end"]) (m := bd_Rule__init) F sc_Rule__init rfl KC_Rule.cc (fun cdv A outer s H E hr => ⟨_, pss_cons (ps_if (pt_not (pt_val (pe_callG G__are_rule_sizes (hr.mono (by decide)) (by rfl) D__are_rule_sizes.mg D__are_rule_sizes.kp D__are_rule_sizes.b (takes_of rfl rfl rfl rfl) (pa_cons (pv 1) (pa_nil))))) (pss_one (ps_never)) (pss_nil))
    (pss_cons (ps_if (pt_not (pt_val (pe_callG G__are_bad_lengths (hr.mono (by decide)) (by rfl) D__are_bad_lengths.mg D__are_bad_lengths.kp D__are_bad_lengths.b (takes_of rfl rfl rfl rfl) (pa_cons (pv 2) (pa_nil))))) (pss_one (ps_never)) (pss_nil))
    (pss_cons (ps_if (pt_not (pt_val (pe_callB (r := rIsi K) call_isi (by rfl) B.b_isinstance PyProof.Rows.boot_isinstance (pa_cons (pv 3) (pa_cons (pe_bltn (v := .ty "bool") (by rfl) B.b_bool bt_bool rfl) pa_nil))))) (pss_one (ps_never)) (pss_nil))
    (pss_cons (ps_if (pt_not (pt_val (pe_callG G__is_place (hr.mono (by decide)) (by rfl) D__is_place.mg D__is_place.kp D__is_place.b (takes_of rfl rfl rfl rfl) (pa_cons (pv 4) (pa_nil))))) (pss_one (ps_never)) (pss_nil))
    (pss_cons (ps_if (pt_not (pt_val (pe_callG G__is_offer (hr.mono (by decide)) (by rfl) D__is_offer.mg D__is_offer.kp D__is_offer.b (takes_of rfl rfl rfl rfl) (pa_cons (pv 5) (pa_nil))))) (pss_one (ps_never)) (pss_nil))
    (pss_cons (ps_set (i := 6) sc_Rule__init.nd rfl (by first | exact Or.inl rfl | exact Or.inr rfl) (pe_ifExp (pt_cmpR op_isN (pv 2) (pe_non) (nomark _)) (pe_dnewK) (pv 2)))
    (pss_cons (ps_fld (pv 0) (pe_callG G__ascending (hr.mono (by decide)) (by rfl) D__ascending.mg D__ascending.kp D__ascending.b (takes_of rfl rfl rfl rfl) (pa_cons (pv 1) (pa_nil))) (by rfl))
    (pss_cons (ps_fld (pv 0) (pe_dc rfl sc_Rule__init.nd (pi_seqK (K := K) (pe_gC (v := .ref a_ENDS) (by rfl) C.ENDS)) (blkOk_by (N := ["self", "sizes", "bad", "soft", "where", "offer", "told", "end"]) (sc := defScope s_Rule__init) (own := [("end", 7)]) (by decide +kernel)) (fun _ _ _ _ _ => pg_name (i := 7) sc_Rule__init.nd rfl (by first | exact Or.inl rfl | exact Or.inr rfl)) (fun _ _ _ _ _ => pts_nil) (fun _ _ _ _ _ => pv 7) (fun _ _ _ _ _ => pe_callG G__ascending (hr.mono (by decide)) (by rfl) D__ascending.mg D__ascending.kp D__ascending.b takes0 (pa_cons (pe_dget2 (Nat.lt_of_le_of_lt (Nat.add_le_add_left (by decide) _) hr.r.units) (pv 6) (pv 7) (pe_tup (pa_nil)) ⟨by rfl, by rfl, by rfl, by rfl⟩) (pa_nil)))) (by rfl))
    (pss_cons (ps_fld (pv 0) (pv 3) (by rfl))
    (pss_cons (ps_fld (pv 0) (pv 4) (by rfl))
    (pss_one (ps_fld (pv 0) (pv 5) (by rfl)))))))))))), ?_⟩) hm
  exact af_seq (af_st (as_if (ab_not (ab_ofB (ae_call (aa_cons (ae_var) (aa_nil))))) (as_no) (as_next)))
    (af_seq (af_st (as_if (ab_not (ab_ofB (ae_call (aa_cons (ae_var) (aa_nil))))) (as_no) (as_next)))
    (af_seq (af_st (W := WF) (as_if (ab_not (ab_ofB (ae_isi (ae_var)))) (as_no) (as_next)))
    (af_seq (af_st (as_if (ab_not (ab_ofB (ae_call (aa_cons (ae_var) (aa_nil))))) (as_no) (as_next)))
    (af_seq (af_st (as_if (ab_not (ab_ofB (ae_call (aa_cons (ae_var) (aa_nil))))) (as_no) (as_next)))
    (af_seq (af_st (W := WF) (as_set (ae_if (ab_of (ae_2 (ae_var) (ae_c fun _ _ _ => .non) r2_isN)) (ae_d0) (ae_var))))
    (af_seq (af_set (ae_call (aa_cons (ae_var) (aa_nil))) KC_Rule.kc N_Rule__sizes)
    (af_seq (af_set (W := WF) (ae_dc (ai_seq (ae_cK fun b l Bad H => dat_ENDS (G := ⟨K, cl, b, l⟩) C)) (ag_name) (ab_yes) (ae_var) (ae_call (aa_cons (ae_dget2 (ae_var) (ae_var) (ae_tup (aa_nil))) (aa_nil))) (by decide)) KC_Rule.kc N_Rule__bad)
    (af_seq (af_set (W := WF) (ae_var) KC_Rule.kc N_Rule__soft)
    (af_seq (af_set (W := WF) (ae_var) KC_Rule.kc N_Rule__where)
    (af_set (W := WF) (ae_var) KC_Rule.kc N_Rule__offer))))))))))
abbrev s__law_made : Stmt := top 43
theorem sc__law_made : FnScope ["_law_told"] ["_law_told"] (defScope s__law_made) := ⟨rfl, rfl, rfl, by decide +kernel, rfl, by decide +kernel, by decide +kernel⟩
def bd__law_made : DT := sRet (eMakeK "Rule" 2 3 (fun as bs => as ++ bs) F_Rule (aCons (eDGet (eVar 0) (eC (.str "sizes"))) (aCons (eDGet (eVar 0) (eC (.str "bad"))) (aNil))) (aCons (eDGet (eVar 0) (eC (.str "soft"))) (aCons (eDGet (eVar 0) (eC (.str "where"))) (aCons (eDGet (eVar 0) (eC (.str "offer"))) (aNil)))))
def m__law_made : MF := mBody 1 bd__law_made
theorem ok__law_made {c_Rule : Addr} {f : Addr} {fd : FuncData} (F : Fun K "_law_made" "_law_made" s__law_made f fd)
    (KC_Rule : Kc K mg cl "Rule" c_Rule)
    (J_Rule : Jc P w K mg base cl 5 "Rule" c_Rule ["self", "sizes", "bad", "soft", "where", "offer"] 2 ["soft", "where", "offer"] F_Rule) : FnG P w K mg base 7 f fd ["_law_told"] (spM K cl 1 m__law_made) := by
  refine fnM (n := 1) (N := ["_law_told"]) (m := bd__law_made) F sc__law_made rfl fun cdv A outer s H E hr => ⟨_, pss_one (ps_ret (pe_makeC KC_Rule J_Rule hr (by decide) (by rfl) (takes_of rfl rfl rfl rfl) (pa_cons (pe_dget (Nat.lt_of_le_of_lt (Nat.add_le_add_left (by decide) _) hr.r.units) (pv 0) (pe_str) (fun _ _ => rfl)) (pa_cons (pe_dget (Nat.lt_of_le_of_lt (Nat.add_le_add_left (by decide) _) hr.r.units) (pv 0) (pe_str) (fun _ _ => rfl)) (pa_nil))) (pk_cons (pe_dget (Nat.lt_of_le_of_lt (Nat.add_le_add_left (by decide) _) hr.r.units) (pv 0) (pe_str) (fun _ _ => rfl)) (pk_cons (pe_dget (Nat.lt_of_le_of_lt (Nat.add_le_add_left (by decide) _) hr.r.units) (pv 0) (pe_str) (fun _ _ => rfl)) (pk_cons (pe_dget (Nat.lt_of_le_of_lt (Nat.add_le_add_left (by decide) _) hr.r.units) (pv 0) (pe_str) (fun _ _ => rfl)) (pk_nil)))))), ?_⟩
  exact as_ret (ae_makeC (aa_cons (ae_dget (ae_var) (ae_c fun _ _ _ => .str _)) (aa_cons (ae_dget (ae_var) (ae_c fun _ _ _ => .str _)) (aa_nil))) (aa_cons (ae_dget (ae_var) (ae_c fun _ _ _ => .str _)) (aa_cons (ae_dget (ae_var) (ae_c fun _ _ _ => .str _)) (aa_cons (ae_dget (ae_var) (ae_c fun _ _ _ => .str _)) (aa_nil)))) KC_Rule.cc)
abbrev s__law_take : Stmt := top 36
theorem sc__law_take : FnScope ["_law_bag_here", "_law_many", "_law_cell", "_law_mixed", "_law_drawn", "_law_begin", "_law_second"] ["_law_bag_here", "_law_many"] (defScope s__law_take) := ⟨rfl, rfl, rfl, by decide +kernel, rfl, by decide +kernel, by decide +kernel⟩
def m__law_take : MF := mTake
theorem ok__law_take {f : Addr} {fd : FuncData} (F : Fun K "_law_take" "_law_take" s__law_take f fd) (B : Bn mg) : FnG P w K mg base 1 f fd ["_law_bag_here", "_law_many"] (spM K cl 2 m__law_take) := by
  refine fnG_of F sc__law_take (fun vs H Q E h => by rw [spM_len vs H Q E h]; rfl) fun cdv A outer s H vs Q E hr h => ?_
  have nd := sc__law_take.nd
  refine ⟨_, Evl.pss_cut (ps_if (pt_cmpR op_eq (pe_ix (r := rIxL K) ix_list (pv 0) pe_int (fun _ _ => rfl)) pe_int (nomark _)) (pss_cons (ps_set (i := 2) nd rfl (by first | exact Or.inl rfl | exact Or.inr rfl) (pe_int))
      (Evl.pss_cut (ps_if (pt_cmpR op_lt (pe_ix (r := rIxL K) ix_list (pv 0) pe_int (fun _ _ => rfl)) (pe_callB call_len_seq (by rfl) B.b_len PySem.boot_len (pa_cons (pe_ix (r := rIxL K) ix_list (pv 0) pe_int (fun _ _ => rfl)) pa_nil)) (nomark _)) (pss_one (ps_set (i := 2) nd rfl (by first | exact Or.inl rfl | exact Or.inr rfl) (pe_ix (r := rIxL K) ix_list (pe_ix (r := rIxL K) ix_list (pv 0) pe_int (fun _ _ => rfl)) (pe_ix (r := rIxL K) ix_list (pv 0) pe_int (fun _ _ => rfl)) (fun _ _ => rfl)))) pss_nil)
      (pss_cons (ps_augS (pv 0) pe_int (tget := rGetL K) pget_L pe_int ip_add set_list)
      (Evl.pss_cut (ps_if (pt_cmpR op_ge (pv 2) (pe_op op_pow pe_int pe_int) (nomark _)) (pss_one (ps_asg (pv 2) (pg_sub (pv 0) pe_int set_list))) pss_nil)
      (pss_cons (ps_set (i := 3) nd rfl (by first | exact Or.inl rfl | exact Or.inr rfl) (pe_op op_add (pe_op op_add (pe_op op_mul (pe_ix (r := rIxL K) ix_list (pv 0) pe_int (fun _ _ => rfl)) pe_int) (pe_op op_mod (pe_callTy call_int1 (by rfl) B.b_int bt_int (pa_cons (pv 2) pa_nil)) pe_int)) (pe_op op_mul pe_int (pe_ix (r := rIxL K) ix_list (pv 0) pe_int (fun _ _ => rfl)))))
      (pss_one (ps_asg (pe_op op_mod (pe_callTy call_int1 (by rfl) B.b_int bt_int (pa_cons (pv 3) pa_nil)) pe_int) (pg_sub (pv 0) pe_int set_list)))))))) pss_nil)
    (pss_cons (ps_if (pt_cmpR op_gt (pe_ix (r := rIxL K) ix_list (pv 0) pe_int (fun _ _ => rfl)) pe_int (nomark _)) (pss_cons (ps_set (i := 4) nd rfl (by first | exact Or.inl rfl | exact Or.inr rfl) (pe_op op_mod (pe_callTy call_int1 (by rfl) B.b_int bt_int (pa_cons ((pe_ix (r := rIxL K) ix_list (pv 0) pe_int (fun _ _ => rfl))) pa_nil)) (pv 1))) (pss_cons (ps_asg (pe_op op_fdiv (pe_ix (r := rIxL K) ix_list (pv 0) pe_int (fun _ _ => rfl)) (pv 1)) (pg_sub (pv 0) pe_int set_list)) (pss_one (ps_ret (pv 4))))) pss_nil)
    (pss_cons (ps_set (i := 5) nd rfl (by first | exact Or.inl rfl | exact Or.inr rfl) (pe_op op_mod (pe_callTy call_int1 (by rfl) B.b_int bt_int (pa_cons (pe_op op_mul (pe_op op_add (pe_ix (r := rIxL K) ix_list (pv 0) pe_int (fun _ _ => rfl)) pe_int) pe_int) pa_nil)) pe_int)) (pss_cons (ps_set (i := 6) nd rfl (by first | exact Or.inl rfl | exact Or.inr rfl) (pe_op op_mod (pe_callTy call_int1 (by rfl) B.b_int bt_int (pa_cons (pe_op op_mul (pe_op op_mod (pe_callTy call_int1 (by rfl) B.b_int bt_int (pa_cons (pe_op op_mul (pv 5) (pv 5)) pa_nil)) pe_int) pe_int) pa_nil)) pe_int)) (pss_one (ps_ret (pe_op op_mod (pe_callTy call_int1 (by rfl) B.b_int bt_int (pa_cons (pe_op op_fdiv (pv 6) pe_int) pa_nil)) (pv 1))))))), ?_⟩
  have hl := spM_len vs H Q E h
  obtain ⟨v1, v2, rfl⟩ : ∃ v1 v2, vs = [v1, v2] := by match vs, hl with | [a, b], _ => exact ⟨a, b, rfl⟩
  exact take_reads h
abbrev s__law_one : Stmt := top 37
theorem sc__law_one : FnScope ["_law_bag_here", "_law_things"] ["_law_bag_here", "_law_things"] (defScope s__law_one) := ⟨rfl, rfl, rfl, by decide +kernel, rfl, by decide +kernel, by decide +kernel⟩
def bd__law_one : DT := sRet (e2 mIx (eVar 1) (eCall 2 m__law_take (aCons (eVar 0) (aCons (eB1 lenE (eVar 1)) (aNil)))))
def m__law_one : MF := mBody 2 bd__law_one
theorem ok__law_one {f : Addr} {fd : FuncData} (F : Fun K "_law_one" "_law_one" s__law_one f fd)
    {f__law_take : Addr} {fd__law_take : FuncData} (D__law_take : Df K mg "_law_take" s__law_take ["_law_bag_here", "_law_many"] f__law_take fd__law_take) (G__law_take : FnG P w K mg base 1 f__law_take fd__law_take ["_law_bag_here", "_law_many"] (spM K cl 2 m__law_take))
    (B : Bn mg) : FnG P w K mg base 2 f fd ["_law_bag_here", "_law_things"] (spM K cl 2 m__law_one) := by
  refine fnM (n := 2) (N := ["_law_bag_here", "_law_things"]) (m := bd__law_one) F sc__law_one rfl fun cdv A outer s H E hr => ⟨_, pss_one (ps_ret (pe_ix (r := rIx K) ix_seq (pv 1) (pe_callG G__law_take (hr.mono (by decide)) (by rfl) D__law_take.mg D__law_take.kp D__law_take.b (takes_of rfl rfl rfl rfl) (pa_cons (pv 0) (pa_cons (pe_callB (r := rLenU K) call_lenU (by rfl) B.b_len PySem.boot_len (pa_cons (pv 1) pa_nil)) (pa_nil)))) (fun _ _ => rfl))), ?_⟩
  exact as_ret (ae_2 (ae_var) (ae_call (aa_cons (ae_var) (aa_cons (ae_B1 (ae_var) r1_len) (aa_nil)))) r2_ix)
abbrev s__law_ends : Stmt := top 38
theorem sc__law_ends : FnScope [] [] (defScope s__law_ends) := ⟨rfl, rfl, rfl, by decide +kernel, rfl, by decide +kernel, by decide +kernel⟩
def bd__law_ends : DT := sRet (eLst (aCons (eC (.str "pillar")) (aCons (eC (.str "sold")) (aCons (eC (.str "wall")) (aNil)))))
def m__law_ends : MF := mBody 0 bd__law_ends
theorem ok__law_ends {f : Addr} {fd : FuncData} (F : Fun K "_law_ends" "_law_ends" s__law_ends f fd)
     : FnG P w K mg base 1 f fd [] (spM K cl 0 m__law_ends) := by
  refine fnM (n := 0) (N := []) (m := bd__law_ends) F sc__law_ends rfl fun cdv A outer s H E hr => ⟨_, pss_one (ps_ret (pe_lst (pa_cons (pe_str) (pa_cons (pe_str) (pa_cons (pe_str) (pa_nil)))))), ?_⟩
  exact as_ret (ae_lst (aa_cons (ae_c fun _ _ _ => .str _) (aa_cons (ae_c fun _ _ _ => .str _) (aa_cons (ae_c fun _ _ _ => .str _) (aa_nil)))))
abbrev s__law_end : Stmt := top 39
theorem sc__law_end : FnScope ["_law_bag_here"] ["_law_bag_here"] (defScope s__law_end) := ⟨rfl, rfl, rfl, by decide +kernel, rfl, by decide +kernel, by decide +kernel⟩
def bd__law_end : DT := sRet (eCall 2 m__law_one (aCons (eVar 0) (aCons (eCall 0 m__law_ends aNil) (aNil))))
def m__law_end : MF := mBody 1 bd__law_end
theorem ok__law_end {f : Addr} {fd : FuncData} (F : Fun K "_law_end" "_law_end" s__law_end f fd)
    {f__law_one : Addr} {fd__law_one : FuncData} (D__law_one : Df K mg "_law_one" s__law_one ["_law_bag_here", "_law_things"] f__law_one fd__law_one) (G__law_one : FnG P w K mg base 2 f__law_one fd__law_one ["_law_bag_here", "_law_things"] (spM K cl 2 m__law_one))
    {f__law_ends : Addr} {fd__law_ends : FuncData} (D__law_ends : Df K mg "_law_ends" s__law_ends [] f__law_ends fd__law_ends) (G__law_ends : FnG P w K mg base 1 f__law_ends fd__law_ends [] (spM K cl 0 m__law_ends)) : FnG P w K mg base 3 f fd ["_law_bag_here"] (spM K cl 1 m__law_end) := by
  refine fnM (n := 1) (N := ["_law_bag_here"]) (m := bd__law_end) F sc__law_end rfl fun cdv A outer s H E hr => ⟨_, pss_one (ps_ret (pe_callG G__law_one (hr.mono (by decide)) (by rfl) D__law_one.mg D__law_one.kp D__law_one.b (takes_of rfl rfl rfl rfl) (pa_cons (pv 0) (pa_cons (pe_callG0 G__law_ends (hr.mono (by decide)) (by rfl) D__law_ends.mg D__law_ends.kp D__law_ends.b (takes_of rfl rfl rfl rfl)) (pa_nil))))), ?_⟩
  exact as_ret (ae_call (aa_cons (ae_var) (aa_cons (ae_call aa_nil) (aa_nil))))
abbrev s__law_stretch : Stmt := top 44
theorem sc__law_stretch : FnScope ["_law_bag_here", "_law_upto"] ["_law_bag_here", "_law_upto"] (defScope s__law_stretch) := ⟨rfl, rfl, rfl, by decide +kernel, rfl, by decide +kernel, by decide +kernel⟩
def bd__law_stretch : DT := sRet (eTup (aCons (eCall 1 m__law_end (aCons (eVar 0) (aNil))) (aCons (eCall 2 m__law_take (aCons (eVar 0) (aCons (e2 mAdd (eVar 1) (eC (.int 1))) (aNil)))) (aCons (eCall 1 m__law_end (aCons (eVar 0) (aNil))) (aNil)))))
def m__law_stretch : MF := mBody 2 bd__law_stretch
theorem ok__law_stretch {f : Addr} {fd : FuncData} (F : Fun K "_law_stretch" "_law_stretch" s__law_stretch f fd)
    {f__law_end : Addr} {fd__law_end : FuncData} (D__law_end : Df K mg "_law_end" s__law_end ["_law_bag_here"] f__law_end fd__law_end) (G__law_end : FnG P w K mg base 3 f__law_end fd__law_end ["_law_bag_here"] (spM K cl 1 m__law_end))
    {f__law_take : Addr} {fd__law_take : FuncData} (D__law_take : Df K mg "_law_take" s__law_take ["_law_bag_here", "_law_many"] f__law_take fd__law_take) (G__law_take : FnG P w K mg base 1 f__law_take fd__law_take ["_law_bag_here", "_law_many"] (spM K cl 2 m__law_take)) : FnG P w K mg base 4 f fd ["_law_bag_here", "_law_upto"] (spM K cl 2 m__law_stretch) := by
  refine fnM (n := 2) (N := ["_law_bag_here", "_law_upto"]) (m := bd__law_stretch) F sc__law_stretch rfl fun cdv A outer s H E hr => ⟨_, pss_one (ps_ret (pe_tup (pa_cons (pe_callG G__law_end (hr.mono (by decide)) (by rfl) D__law_end.mg D__law_end.kp D__law_end.b (takes_of rfl rfl rfl rfl) (pa_cons (pv 0) (pa_nil))) (pa_cons (pe_callG G__law_take (hr.mono (by decide)) (by rfl) D__law_take.mg D__law_take.kp D__law_take.b (takes_of rfl rfl rfl rfl) (pa_cons (pv 0) (pa_cons (pe_op (r := rAddU K) op_addU (pv 1) (pe_int)) (pa_nil)))) (pa_cons (pe_callG G__law_end (hr.mono (by decide)) (by rfl) D__law_end.mg D__law_end.kp D__law_end.b (takes_of rfl rfl rfl rfl) (pa_cons (pv 0) (pa_nil))) (pa_nil)))))), ?_⟩
  exact as_ret (ae_tup (aa_cons (ae_call (aa_cons (ae_var) (aa_nil))) (aa_cons (ae_call (aa_cons (ae_var) (aa_cons (ae_2 (ae_var) (ae_c fun _ _ _ => .int _) r2_add) (aa_nil)))) (aa_cons (ae_call (aa_cons (ae_var) (aa_nil))) (aa_nil)))))
abbrev s__law_sizes : Stmt := top 41
theorem sc__law_sizes : FnScope ["_law_bag_here", "_law_way", "_law_k"] ["_law_bag_here"] (defScope s__law_sizes) := ⟨rfl, rfl, rfl, by decide +kernel, rfl, by decide +kernel, by decide +kernel⟩
def bd__law_sizes : DT := sSeq (sSet 1 (eCall 2 m__law_take (aCons (eVar 0) (aCons (eC (.int 6)) (aNil)))))
    (sSeq (sIf (bOf (e2 (mLt) (eVar 1) (eC (.int 4)))) (sRet (e2 mIx (eLst (aCons (eLst (aCons (eC (.int 2)) (aNil))) (aCons (eLst (aCons (eC (.int 1)) (aCons (eC (.int 2)) (aNil)))) (aCons (eLst (aCons (eC (.int 2)) (aCons (eC (.int 3)) (aNil)))) (aCons (eLst (aCons (eC (.int 2)) (aCons (eC (.int 3)) (aCons (eC (.int 4)) (aNil))))) (aNil)))))) (eVar 1))) (sNext))
    (sRet (eOrT (eLc [2] (iRange2 (eC (.int 1)) (eC (.int 6))) (dName 2) (bOf (e2 (mEq) (eCall 2 m__law_take (aCons (eVar 0) (aCons (eC (.int 2)) (aNil)))) (eC (.int 0)))) (eVar 2)) (eLst (aCons (e2 mAdd (eC (.int 1)) (eCall 2 m__law_take (aCons (eVar 0) (aCons (eC (.int 5)) (aNil))))) (aNil))))))
def m__law_sizes : MF := mBody 3 bd__law_sizes
theorem ok__law_sizes {f : Addr} {fd : FuncData} (F : Fun K "_law_sizes" "_law_sizes" s__law_sizes f fd)
    {f__law_take : Addr} {fd__law_take : FuncData} (D__law_take : Df K mg "_law_take" s__law_take ["_law_bag_here", "_law_many"] f__law_take fd__law_take) (G__law_take : FnG P w K mg base 1 f__law_take fd__law_take ["_law_bag_here", "_law_many"] (spM K cl 2 m__law_take))
    (B : Bn mg) : FnG P w K mg base 2 f fd ["_law_bag_here"] (spM K cl 1 m__law_sizes) := by
  refine fnM (n := 1) (N := ["_law_bag_here", "_law_way", "_law_k"]) (m := bd__law_sizes) F sc__law_sizes rfl fun cdv A outer s H E hr => ⟨_, pss_cons (ps_set (i := 1) sc__law_sizes.nd rfl (by first | exact Or.inl rfl | exact Or.inr rfl) (pe_callG G__law_take (hr.mono (by decide)) (by rfl) D__law_take.mg D__law_take.kp D__law_take.b (takes_of rfl rfl rfl rfl) (pa_cons (pv 0) (pa_cons (pe_int) (pa_nil)))))
    (pss_cons (ps_if (pt_cmpR op_lt (pv 1) (pe_int) (nomark _)) (pss_one (ps_ret (pe_ix (r := rIx K) ix_seq (pe_lst (pa_cons (pe_lst (pa_cons (pe_int) (pa_nil))) (pa_cons (pe_lst (pa_cons (pe_int) (pa_cons (pe_int) (pa_nil)))) (pa_cons (pe_lst (pa_cons (pe_int) (pa_cons (pe_int) (pa_nil)))) (pa_cons (pe_lst (pa_cons (pe_int) (pa_cons (pe_int) (pa_cons (pe_int) (pa_nil))))) (pa_nil)))))) (pv 1) (fun _ _ => rfl)))) (pss_nil))
    (pss_one (ps_ret (pe_orT (pe_lc rfl sc__law_sizes.nd (pi_range2 (by rfl) B.b_range (pa_cons (pe_int) (pa_cons (pe_int) pa_nil))) (blkOk_by (N := ["_law_bag_here", "_law_way", "_law_k"]) (sc := defScope s__law_sizes) (own := [("_law_k", 2)]) (by decide +kernel)) (fun _ _ _ _ _ => pg_name (i := 2) sc__law_sizes.nd rfl (by first | exact Or.inl rfl | exact Or.inr rfl)) (fun _ _ _ _ _ => pts_one (pt_cmpR (r := rEqU K) (op_eqU hr.r.units) (pe_callG G__law_take (hr.mono (by decide)) (by rfl) D__law_take.mg D__law_take.kp D__law_take.b takes0 (pa_cons (pv 0) (pa_cons (pe_int) (pa_nil)))) (pe_int) (nomark _))) (fun _ _ _ _ _ => pv 2)) (pe_one (pe_lst (pa_cons (pe_op (r := rAddU K) op_addU (pe_int) (pe_callG G__law_take (hr.mono (by decide)) (by rfl) D__law_take.mg D__law_take.kp D__law_take.b (takes_of rfl rfl rfl rfl) (pa_cons (pv 0) (pa_cons (pe_int) (pa_nil))))) (pa_nil)))))))), ?_⟩
  exact as_seq (as_set (ae_call (aa_cons (ae_var) (aa_cons (ae_c fun _ _ _ => .int _) (aa_nil)))))
    (as_seq (as_if (ab_of (ae_2 (ae_var) (ae_c fun _ _ _ => .int _) r2_lt)) (as_ret (ae_2 (ae_lst (aa_cons (ae_lst (aa_cons (ae_c fun _ _ _ => .int _) (aa_nil))) (aa_cons (ae_lst (aa_cons (ae_c fun _ _ _ => .int _) (aa_cons (ae_c fun _ _ _ => .int _) (aa_nil)))) (aa_cons (ae_lst (aa_cons (ae_c fun _ _ _ => .int _) (aa_cons (ae_c fun _ _ _ => .int _) (aa_nil)))) (aa_cons (ae_lst (aa_cons (ae_c fun _ _ _ => .int _) (aa_cons (ae_c fun _ _ _ => .int _) (aa_cons (ae_c fun _ _ _ => .int _) (aa_nil))))) (aa_nil)))))) (ae_var) r2_ix)) (as_next))
    (as_ret (ae_orT (ae_lc (ai_range2 (ae_c fun _ _ _ => .int _) (ae_c fun _ _ _ => .int _)) (ag_name) (ab_of (ae_2 (ae_call (aa_cons (ae_var) (aa_cons (ae_c fun _ _ _ => .int _) (aa_nil)))) (ae_c fun _ _ _ => .int _) r2_eq)) (ae_var) (by decide)) (ae_lst (aa_cons (ae_2 (ae_c fun _ _ _ => .int _) (ae_call (aa_cons (ae_var) (aa_cons (ae_c fun _ _ _ => .int _) (aa_nil)))) r2_add) (aa_nil))))))
abbrev s__law_lengths : Stmt := top 40
theorem sc__law_lengths : FnScope ["_law_bag_here", "_law_way", "_law_k"] ["_law_bag_here"] (defScope s__law_lengths) := ⟨rfl, rfl, rfl, by decide +kernel, rfl, by decide +kernel, by decide +kernel⟩
def bd__law_lengths : DT := sSeq (sSet 1 (eCall 2 m__law_take (aCons (eVar 0) (aCons (eC (.int 6)) (aNil)))))
    (sSeq (sIf (bOf (e2 (mLt) (eVar 1) (eC (.int 3)))) (sRet (e2 mIx (eLst (aCons (eLst (aNil)) (aCons (eLst (aCons (eC (.int 1)) (aNil))) (aCons (eLst (aCons (eC (.int 1)) (aCons (eC (.int 2)) (aNil)))) (aNil))))) (eVar 1))) (sNext))
    (sRet (eLc [2] (iRange2 (eC (.int 1)) (eC (.int 6))) (dName 2) (bOf (e2 (mEq) (eCall 2 m__law_take (aCons (eVar 0) (aCons (eC (.int 3)) (aNil)))) (eC (.int 0)))) (eVar 2))))
def m__law_lengths : MF := mBody 3 bd__law_lengths
theorem ok__law_lengths {f : Addr} {fd : FuncData} (F : Fun K "_law_lengths" "_law_lengths" s__law_lengths f fd)
    {f__law_take : Addr} {fd__law_take : FuncData} (D__law_take : Df K mg "_law_take" s__law_take ["_law_bag_here", "_law_many"] f__law_take fd__law_take) (G__law_take : FnG P w K mg base 1 f__law_take fd__law_take ["_law_bag_here", "_law_many"] (spM K cl 2 m__law_take))
    (B : Bn mg) : FnG P w K mg base 2 f fd ["_law_bag_here"] (spM K cl 1 m__law_lengths) := by
  refine fnM (n := 1) (N := ["_law_bag_here", "_law_way", "_law_k"]) (m := bd__law_lengths) F sc__law_lengths rfl fun cdv A outer s H E hr => ⟨_, pss_cons (ps_set (i := 1) sc__law_lengths.nd rfl (by first | exact Or.inl rfl | exact Or.inr rfl) (pe_callG G__law_take (hr.mono (by decide)) (by rfl) D__law_take.mg D__law_take.kp D__law_take.b (takes_of rfl rfl rfl rfl) (pa_cons (pv 0) (pa_cons (pe_int) (pa_nil)))))
    (pss_cons (ps_if (pt_cmpR op_lt (pv 1) (pe_int) (nomark _)) (pss_one (ps_ret (pe_ix (r := rIx K) ix_seq (pe_lst (pa_cons (pe_lst (pa_nil)) (pa_cons (pe_lst (pa_cons (pe_int) (pa_nil))) (pa_cons (pe_lst (pa_cons (pe_int) (pa_cons (pe_int) (pa_nil)))) (pa_nil))))) (pv 1) (fun _ _ => rfl)))) (pss_nil))
    (pss_one (ps_ret (pe_lc rfl sc__law_lengths.nd (pi_range2 (by rfl) B.b_range (pa_cons (pe_int) (pa_cons (pe_int) pa_nil))) (blkOk_by (N := ["_law_bag_here", "_law_way", "_law_k"]) (sc := defScope s__law_lengths) (own := [("_law_k", 2)]) (by decide +kernel)) (fun _ _ _ _ _ => pg_name (i := 2) sc__law_lengths.nd rfl (by first | exact Or.inl rfl | exact Or.inr rfl)) (fun _ _ _ _ _ => pts_one (pt_cmpR (r := rEqU K) (op_eqU hr.r.units) (pe_callG G__law_take (hr.mono (by decide)) (by rfl) D__law_take.mg D__law_take.kp D__law_take.b takes0 (pa_cons (pv 0) (pa_cons (pe_int) (pa_nil)))) (pe_int) (nomark _))) (fun _ _ _ _ _ => pv 2))))), ?_⟩
  exact as_seq (as_set (ae_call (aa_cons (ae_var) (aa_cons (ae_c fun _ _ _ => .int _) (aa_nil)))))
    (as_seq (as_if (ab_of (ae_2 (ae_var) (ae_c fun _ _ _ => .int _) r2_lt)) (as_ret (ae_2 (ae_lst (aa_cons (ae_lst (aa_nil)) (aa_cons (ae_lst (aa_cons (ae_c fun _ _ _ => .int _) (aa_nil))) (aa_cons (ae_lst (aa_cons (ae_c fun _ _ _ => .int _) (aa_cons (ae_c fun _ _ _ => .int _) (aa_nil)))) (aa_nil))))) (ae_var) r2_ix)) (as_next))
    (as_ret (ae_lc (ai_range2 (ae_c fun _ _ _ => .int _) (ae_c fun _ _ _ => .int _)) (ag_name) (ab_of (ae_2 (ae_call (aa_cons (ae_var) (aa_cons (ae_c fun _ _ _ => .int _) (aa_nil)))) (ae_c fun _ _ _ => .int _) r2_eq)) (ae_var) (by decide))))
abbrev s__law_rule : Stmt := top 42
theorem sc__law_rule : FnScope ["_law_bag_here", "_law_found", "_law_end_here"] ["_law_bag_here"] (defScope s__law_rule) := ⟨rfl, rfl, rfl, by decide +kernel, rfl, by decide +kernel, by decide +kernel⟩
def bd__law_rule : DT := sSeq (sSetO 1 (eDn [(eC (.str "sizes"), eCall 1 m__law_sizes (aCons (eVar 0) (aNil))), (eC (.str "bad"), eB1 dictE (eLc [2] (iSeq (eCall 0 m__law_ends aNil)) (dName 2) (bYes) (eTup (aCons (eVar 2) (aCons (eCall 1 m__law_lengths (aCons (eVar 0) (aNil))) (aNil))))))]))
    (sSeq (sAsg (eTup (aCons (e2 (mEq) (eCall 2 m__law_take (aCons (eVar 0) (aCons (eC (.int 3)) (aNil)))) (eC (.int 0))) (aCons (e2 mIx (eLst (aCons (eC (.str "any")) (aCons (eC (.str "any")) (aCons (eC (.str "side")) (aNil))))) (eCall 2 m__law_take (aCons (eVar 0) (aCons (eC (.int 3)) (aNil))))) (aNil)))) (dTup 2 (dCons (dPutC 1 (.str "soft")) (dCons (dPutC 1 (.str "where")) (dNil)))))
    (sSeq (sPut 1 (eC (.str "offer")) (e2 mIx (eLst (aCons (eC (.int 0)) (aCons (eC (.int 0)) (aCons (eC (.int 0)) (aCons (eC (.int 1)) (aCons (eC (.int 2)) (aCons (e2 mAdd (eC (.int 1)) (eCall 2 m__law_take (aCons (eVar 0) (aCons (eC (.int 5)) (aNil))))) (aNil)))))))) (eCall 2 m__law_take (aCons (eVar 0) (aCons (eC (.int 6)) (aNil))))))
    (sRetO 1)))
def m__law_rule : MF := mBody 3 bd__law_rule
theorem ok__law_rule {f : Addr} {fd : FuncData} (F : Fun K "_law_rule" "_law_rule" s__law_rule f fd)
    {f__law_sizes : Addr} {fd__law_sizes : FuncData} (D__law_sizes : Df K mg "_law_sizes" s__law_sizes ["_law_bag_here"] f__law_sizes fd__law_sizes) (G__law_sizes : FnG P w K mg base 2 f__law_sizes fd__law_sizes ["_law_bag_here"] (spM K cl 1 m__law_sizes))
    {f__law_take : Addr} {fd__law_take : FuncData} (D__law_take : Df K mg "_law_take" s__law_take ["_law_bag_here", "_law_many"] f__law_take fd__law_take) (G__law_take : FnG P w K mg base 1 f__law_take fd__law_take ["_law_bag_here", "_law_many"] (spM K cl 2 m__law_take))
    {f__law_lengths : Addr} {fd__law_lengths : FuncData} (D__law_lengths : Df K mg "_law_lengths" s__law_lengths ["_law_bag_here"] f__law_lengths fd__law_lengths) (G__law_lengths : FnG P w K mg base 2 f__law_lengths fd__law_lengths ["_law_bag_here"] (spM K cl 1 m__law_lengths))
    {f__law_ends : Addr} {fd__law_ends : FuncData} (D__law_ends : Df K mg "_law_ends" s__law_ends [] f__law_ends fd__law_ends) (G__law_ends : FnG P w K mg base 1 f__law_ends fd__law_ends [] (spM K cl 0 m__law_ends))
    (B : Bn mg) : FnG P w K mg base 3 f fd ["_law_bag_here"] (spM K cl 1 m__law_rule) := by
  refine fnM (n := 1) (N := ["_law_bag_here", "_law_found", "_law_end_here"]) (m := bd__law_rule) F sc__law_rule rfl fun cdv A outer s H E hr => ⟨_, pss_cons (ps_set (i := 1) sc__law_rule.nd rfl (by first | exact Or.inl rfl | exact Or.inr rfl) (pe_disp (pps_cons (pe_str) (pe_callG G__law_sizes (hr.mono (by decide)) (by rfl) D__law_sizes.mg D__law_sizes.kp D__law_sizes.b (takes_of rfl rfl rfl rfl) (pa_cons (pv 0) (pa_nil))) (pps_cons (pe_str) (pe_callTy (r := rDictP K) (call_dictP (by rfl)) (by rfl) B.b_dict bt_dict (pa_cons (pe_lc rfl sc__law_rule.nd (pi_seqK (K := K) (pe_callG0 G__law_ends (hr.mono (by decide)) (by rfl) D__law_ends.mg D__law_ends.kp D__law_ends.b (takes_of rfl rfl rfl rfl))) (blkOk_by (N := ["_law_bag_here", "_law_found", "_law_end_here"]) (sc := defScope s__law_rule) (own := [("_law_end_here", 2)]) (by decide +kernel)) (fun _ _ _ _ _ => pg_name (i := 2) sc__law_rule.nd rfl (by first | exact Or.inl rfl | exact Or.inr rfl)) (fun _ _ _ _ _ => pts_nil) (fun _ _ _ _ _ => pe_tup (pa_cons (pv 2) (pa_cons (pe_callG G__law_lengths (hr.mono (by decide)) (by rfl) D__law_lengths.mg D__law_lengths.kp D__law_lengths.b takes0 (pa_cons (pv 0) (pa_nil))) (pa_nil))))) pa_nil)) (pps_nil))) rfl rfl (by simp) (by show 2 ≤ 15; decide)))
    (pss_cons (ps_asg (pe_tup (pa_cons (pe_cmpR (r := rEqU K) (op_eqU hr.r.units) (pe_callG G__law_take (hr.mono (by decide)) (by rfl) D__law_take.mg D__law_take.kp D__law_take.b (takes_of rfl rfl rfl rfl) (pa_cons (pv 0) (pa_cons (pe_int) (pa_nil)))) (pe_int) (nomark _)) (pa_cons (pe_ix (r := rIx K) ix_seq (pe_lst (pa_cons (pe_str) (pa_cons (pe_str) (pa_cons (pe_str) (pa_nil))))) (pe_callG G__law_take (hr.mono (by decide)) (by rfl) D__law_take.mg D__law_take.kp D__law_take.b (takes_of rfl rfl rfl rfl) (pa_cons (pv 0) (pa_cons (pe_int) (pa_nil)))) (fun _ _ => rfl)) (pa_nil)))) (pg_tupK (K := K) (n := 2) rfl (pgs_cons (pg_sub (pv 1) (pe_str) (set_U hr.r.units)) (pgs_cons (pg_sub (pv 1) (pe_str) (set_U hr.r.units)) (pgs_nil)))))
    (pss_cons (ps_asg (pe_ix (r := rIx K) ix_seq (pe_lst (pa_cons (pe_int) (pa_cons (pe_int) (pa_cons (pe_int) (pa_cons (pe_int) (pa_cons (pe_int) (pa_cons (pe_op (r := rAddU K) op_addU (pe_int) (pe_callG G__law_take (hr.mono (by decide)) (by rfl) D__law_take.mg D__law_take.kp D__law_take.b (takes_of rfl rfl rfl rfl) (pa_cons (pv 0) (pa_cons (pe_int) (pa_nil))))) (pa_nil)))))))) (pe_callG G__law_take (hr.mono (by decide)) (by rfl) D__law_take.mg D__law_take.kp D__law_take.b (takes_of rfl rfl rfl rfl) (pa_cons (pv 0) (pa_cons (pe_int) (pa_nil)))) (fun _ _ => rfl)) (pg_sub (pv 1) (pe_str) (set_U hr.r.units)))
    (pss_one (ps_ret (pv 1))))), ?_⟩
  exact as_seq (as_setO (ae_dn (.cons (ae_c fun _ _ _ => .str _) (ae_call (aa_cons (ae_var) (aa_nil))) (.cons (ae_c fun _ _ _ => .str _) (ae_B1 (ae_lc (ai_seq (ae_call aa_nil)) (ag_name) (ab_yes) (ae_tup (aa_cons (ae_var) (aa_cons (ae_call (aa_cons (ae_var) (aa_nil))) (aa_nil)))) (by decide)) r1_dict) (.nil)))))
    (as_seq (as_asgM (ae_tup (aa_cons (ae_2 (ae_call (aa_cons (ae_var) (aa_cons (ae_c fun _ _ _ => .int _) (aa_nil)))) (ae_c fun _ _ _ => .int _) r2_eq) (aa_cons (ae_2 (ae_lst (aa_cons (ae_c fun _ _ _ => .str _) (aa_cons (ae_c fun _ _ _ => .str _) (aa_cons (ae_c fun _ _ _ => .str _) (aa_nil))))) (ae_call (aa_cons (ae_var) (aa_cons (ae_c fun _ _ _ => .int _) (aa_nil)))) r2_ix) (aa_nil)))) (am_tup (ams_cons (am_sub fun _ _ _ => .str _) (ams_cons (am_sub fun _ _ _ => .str _) (ams_nil)))))
    (as_seq (as_put (ae_c fun _ _ _ => .str _) (ae_2 (ae_lst (aa_cons (ae_c fun _ _ _ => .int _) (aa_cons (ae_c fun _ _ _ => .int _) (aa_cons (ae_c fun _ _ _ => .int _) (aa_cons (ae_c fun _ _ _ => .int _) (aa_cons (ae_c fun _ _ _ => .int _) (aa_cons (ae_2 (ae_c fun _ _ _ => .int _) (ae_call (aa_cons (ae_var) (aa_cons (ae_c fun _ _ _ => .int _) (aa_nil)))) r2_add) (aa_nil)))))))) (ae_call (aa_cons (ae_var) (aa_cons (ae_c fun _ _ _ => .int _) (aa_nil)))) r2_ix))
    (as_retO)))
abbrev s_Rule__sizes : Stmt := meth 33 1
theorem sc_Rule__sizes : FnScope ["self"] ["self"] (defScope s_Rule__sizes) := ⟨rfl, rfl, rfl, by decide +kernel, rfl, by decide +kernel, by decide +kernel⟩
def bd_Rule__sizes : DT := sRet (eB1 (fldE "Rule" "_sizes") (eVar 0))
def m_Rule__sizes : MF := mBody 1 bd_Rule__sizes
theorem ok_Rule__sizes {c_Rule : Addr} {f : Addr} {fd : FuncData} (F : Fun K "sizes" "Rule.sizes" s_Rule__sizes f fd)
    (KC_Rule : Kc K mg cl "Rule" c_Rule)
    (N_Rule__sizes : NoAttr K c_Rule "_sizes")
    (B : Bn mg) : FnG P w K mg base 1 f fd ["self"] (spM K cl 1 m_Rule__sizes) := by
  refine fnM (n := 1) (N := ["self"]) (m := bd_Rule__sizes) F sc_Rule__sizes rfl fun cdv A outer s H E hr => ⟨_, pss_one (ps_ret (pe_fldC KC_Rule (pv 0))), ?_⟩
  exact as_ret (ae_fld (ae_var) KC_Rule.cc KC_Rule.kc N_Rule__sizes)
abbrev s_has_size : Stmt := top 19
theorem sc_has_size : FnScope ["rule", "thing"] ["rule", "thing"] (defScope s_has_size) := ⟨rfl, rfl, rfl, by decide +kernel, rfl, by decide +kernel, by decide +kernel⟩
def bd_has_size : DT := sRet (eAnd (eCall 1 m_is_size (aCons (eVar 1) (aNil))) (e2 (mIn false) (eVar 1) (eProp "Rule" m_Rule__sizes (eVar 0))))
def m_has_size : MF := mBody 2 bd_has_size
theorem ok_has_size {c_Rule : Addr} {f : Addr} {fd : FuncData} (F : Fun K "has_size" "has_size" s_has_size f fd)
    {f_is_size : Addr} {fd_is_size : FuncData} (D_is_size : Df K mg "is_size" s_is_size ["thing"] f_is_size fd_is_size) (G_is_size : FnG P w K mg base 2 f_is_size fd_is_size ["thing"] (spM K cl 1 m_is_size))
    (KC_Rule : Kc K mg cl "Rule" c_Rule)
    (P_Rule__sizes : Pc P w K mg base cl 1 c_Rule "sizes" m_Rule__sizes) : FnG P w K mg base 3 f fd ["rule", "thing"] (spM K cl 2 m_has_size) := by
  refine fnM (n := 2) (N := ["rule", "thing"]) (m := bd_has_size) F sc_has_size rfl fun cdv A outer s H E hr => ⟨_, pss_one (ps_ret (pe_and (pe_callG G_is_size (hr.mono (by decide)) (by rfl) D_is_size.mg D_is_size.kp D_is_size.b (takes_of rfl rfl rfl rfl) (pa_cons (pv 1) (pa_nil))) (pe_one (pe_cmpR (r := rIn K false) op_in_seq (pv 1) (pe_propC KC_Rule P_Rule__sizes hr (by decide) (pv 0)) (by rfl))))), ?_⟩
  exact as_ret (ae_and (ae_call (aa_cons (ae_var) (aa_nil))) (ae_2 (ae_var) (ae_prop (ae_var) KC_Rule.cc) r2_in))
abbrev s_check_size : Stmt := top 20
theorem sc_check_size : FnScope ["rule", "size"] ["rule", "size"] (defScope s_check_size) := ⟨rfl, rfl, rfl, by decide +kernel, rfl, by decide +kernel, by decide +kernel⟩
def bd_check_size : DT := sIf (bNot (bOf (eCall 2 m_has_size (aCons (eVar 0) (aCons (eVar 1) (aNil)))))) (sNo) (sNext)
def m_check_size : MF := mBody 2 bd_check_size
theorem ok_check_size {f : Addr} {fd : FuncData} (F : Fun K "check_size" "check_size" s_check_size f fd)
    {f_has_size : Addr} {fd_has_size : FuncData} (D_has_size : Df K mg "has_size" s_has_size ["rule", "thing"] f_has_size fd_has_size) (G_has_size : FnG P w K mg base 3 f_has_size fd_has_size ["rule", "thing"] (spM K cl 2 m_has_size)) : FnG P w K mg base 4 f fd ["rule", "size"] (spM K cl 2 m_check_size) := by
  refine fnM (n := 2) (N := ["rule", "size"]) (m := bd_check_size) F sc_check_size rfl fun cdv A outer s H E hr => ⟨_, pss_one (ps_if (pt_not (pt_val (pe_callG G_has_size (hr.mono (by decide)) (by rfl) D_has_size.mg D_has_size.kp D_has_size.b (takes_of rfl rfl rfl rfl) (pa_cons (pv 0) (pa_cons (pv 1) (pa_nil)))))) (pss_one (ps_never)) (pss_nil)), ?_⟩
  exact as_if (ab_not (ab_ofB (ae_call (aa_cons (ae_var) (aa_cons (ae_var) (aa_nil)))))) (as_no) (as_next)
abbrev s_possible_befores : Stmt := top 16
theorem sc_possible_befores : FnScope ["is_beside", "rest"] ["is_beside", "rest"] (defScope s_possible_befores) := ⟨rfl, rfl, rfl, by decide +kernel, rfl, by decide +kernel, by decide +kernel⟩
def bd_possible_befores : DT := sSeq (sIf (bAnd (bTru (eVar 0)) (bOf (e2 (mGt) (eVar 1) (eC (.int 0))))) (sRet (eLst (aCons (eC (.int 0)) (aCons (eVar 1) (aNil))))) (sNext))
    (sRet (eB1 lrgE (e2 mAdd (eVar 1) (eC (.int 1)))))
def m_possible_befores : MF := mBody 2 bd_possible_befores
theorem ok_possible_befores {f : Addr} {fd : FuncData} (F : Fun K "possible_befores" "possible_befores" s_possible_befores f fd)
    (B : Bn mg) : FnG P w K mg base 1 f fd ["is_beside", "rest"] (spM K cl 2 m_possible_befores) := by
  refine fnM (n := 2) (N := ["is_beside", "rest"]) (m := bd_possible_befores) F sc_possible_befores rfl fun cdv A outer s H E hr => ⟨_, pss_cons (ps_if (PW.pt (pw_and (pt_truth (pv 0) (fun _ => rfl)) (pw_and1 (pt_cmpR op_gt (pv 1) (pe_int) (nomark _))))) (pss_one (ps_ret (pe_lst (pa_cons (pe_int) (pa_cons (pv 1) (pa_nil)))))) (pss_nil))
    (pss_one (ps_ret (pe_listRg (by rfl) (by rfl) B.b_list (prg_1 (by rfl) B.b_range (pe_op (r := rAddU K) op_addU (pv 1) (pe_int)))))), ?_⟩
  exact as_seq (as_if (ab_and (ab_tru (ae_var)) (ab_of (ae_2 (ae_var) (ae_c fun _ _ _ => .int _) r2_gt))) (as_ret (ae_lst (aa_cons (ae_c fun _ _ _ => .int _) (aa_cons (ae_var) (aa_nil))))) (as_next))
    (as_ret (ae_lrg (ae_2 (ae_var) (ae_c fun _ _ _ => .int _) r2_add)))
abbrev s_Splits___let_of : Stmt := meth 17 2
theorem sc_Splits___let_of : FnScope ["self", "rest", "found", "good", "near", "far", "before"] ["self", "rest", "found"] (defScope s_Splits___let_of) := ⟨rfl, rfl, rfl, by decide +kernel, rfl, by decide +kernel, by decide +kernel⟩
def bd_Splits___let_of : DT := sSeq (sAsg (eTup (aCons (eB1 (fldE "Splits" "_near") (eVar 0)) (aCons (eB1 (fldE "Splits" "_far") (eVar 0)) (aNil)))) (dTup 2 (dCons (dName 4) (dCons (dName 5) (dNil)))))
    (sSeq (sIf (bAnd (bNot (bTru (eVar 4))) (bNot (bTru (eVar 5)))) (sRet (eVar 2)) (sNext))
    (sSeq (sSet 3 (eLc [6] (iSeq (eVar 2)) (dName 6) (bAnd (bOf (e2 (mIn true) (eVar 6) (eVar 4))) (bOf (e2 (mIn true) (e2 mSub (eVar 1) (eVar 6)) (eVar 5)))) (eVar 6)))
    (sRet (eIf (bAnd (bTru (eB1 (fldE "Splits" "_is_soft") (eVar 0))) (bNot (bTru (eVar 3)))) (eVar 2) (eVar 3)))))
def m_Splits___let_of : MF := mBody 7 bd_Splits___let_of
theorem ok_Splits___let_of {c_Splits : Addr} {f : Addr} {fd : FuncData} (F : Fun K "_let_of" "Splits._let_of" s_Splits___let_of f fd)
    (KC_Splits : Kc K mg cl "Splits" c_Splits)
    (N_Splits__near : NoAttr K c_Splits "_near")
    (N_Splits__far : NoAttr K c_Splits "_far")
    (N_Splits__is_soft : NoAttr K c_Splits "_is_soft") : FnG P w K mg base 1 f fd ["self", "rest", "found"] (spM K cl 3 m_Splits___let_of) := by
  refine fnM (n := 3) (N := ["self", "rest", "found", "good", "near", "far", "before"]) (m := bd_Splits___let_of) F sc_Splits___let_of rfl fun cdv A outer s H E hr => ⟨_, pss_cons (ps_asg (pe_tup (pa_cons (pe_fldC KC_Splits (pv 0)) (pa_cons (pe_fldC KC_Splits (pv 0)) (pa_nil)))) (pg_tupK (K := K) (n := 2) rfl (pgs_cons (pg_name (i := 4) sc_Splits___let_of.nd rfl (by first | exact Or.inl rfl | exact Or.inr rfl)) (pgs_cons (pg_name (i := 5) sc_Splits___let_of.nd rfl (by first | exact Or.inl rfl | exact Or.inr rfl)) (pgs_nil)))))
    (pss_cons (ps_if (PW.pt (pw_and (pt_not (pt_truth (pv 4) (fun _ => rfl))) (pw_and1 (pt_not (pt_truth (pv 5) (fun _ => rfl)))))) (pss_one (ps_ret (pv 2))) (pss_nil))
    (pss_cons (ps_setLc (i := 3) rfl sc_Splits___let_of.nd rfl rfl (sw_true rfl rfl rfl (by decide +kernel)) (pi_seqK (K := K) (pv 2)) (blkOk_by (N := ["self", "rest", "found", "good", "near", "far", "before"]) (sc := defScope s_Splits___let_of) (own := [("before", 6)]) (by decide +kernel)) (fun _ _ _ _ _ => pg_name (i := 6) sc_Splits___let_of.nd rfl (by first | exact Or.inl rfl | exact Or.inr rfl)) (fun _ _ _ _ _ => pts_one (PW.pt (pw_and (pt_cmpR (r := rIn K true) op_notIn_seq (pv 6) (pv 4) (by rfl)) (pw_and1 (pt_cmpR (r := rIn K true) op_notIn_seq (pe_op op_sub (pv 1) (pv 6)) (pv 5) (by rfl)))))) (fun _ _ _ _ _ => pv 6))
    (pss_one (ps_ret (pe_ifExp (PW.pt (pw_and (pt_truth (pe_fldC KC_Splits (pv 0)) (fun _ => rfl)) (pw_and1 (pt_not (pt_truth (pv 3) (fun _ => rfl)))))) (pv 2) (pv 3)))))), ?_⟩
  exact as_seq (as_asg (ae_tup (aa_cons (ae_fld (ae_var) KC_Splits.cc KC_Splits.kc N_Splits__near) (aa_cons (ae_fld (ae_var) KC_Splits.cc KC_Splits.kc N_Splits__far) (aa_nil)))) (ag_tup (ags_cons (ag_name) (ags_cons (ag_name) (ags_nil)))))
    (as_seq (as_if (ab_and (ab_not (ab_tru (ae_var))) (ab_not (ab_tru (ae_var)))) (as_ret (ae_var)) (as_next))
    (as_seq (as_set (ae_lc (ai_seq (ae_var)) (ag_name) (ab_and (ab_of (ae_2 (ae_var) (ae_var) r2_in)) (ab_of (ae_2 (ae_2 (ae_var) (ae_var) r2_sub) (ae_var) r2_in))) (ae_var) (by decide)))
    (as_ret (ae_if (ab_and (ab_tru (ae_fld (ae_var) KC_Splits.cc KC_Splits.kc N_Splits__is_soft)) (ab_not (ab_tru (ae_var)))) (ae_var) (ae_var)))))
abbrev s_Splits__let : Stmt := meth 17 3
theorem sc_Splits__let : FnScope ["self", "rest"] ["self", "rest"] (defScope s_Splits__let) := ⟨rfl, rfl, rfl, by decide +kernel, rfl, by decide +kernel, by decide +kernel⟩
def bd_Splits__let : DT := sRet (eMeth "Splits" "_let_of" 3 m_Splits___let_of (eVar 0) (aCons (eVar 1) (aCons (eCall 2 m_possible_befores (aCons (eB1 (fldE "Splits" "_is_beside") (eVar 0)) (aCons (eVar 1) (aNil)))) (aNil))))
def m_Splits__let : MF := mBody 2 bd_Splits__let
theorem ok_Splits__let {c_Splits : Addr} {f : Addr} {fd : FuncData} (F : Fun K "let" "Splits.let" s_Splits__let f fd)
    {f_possible_befores : Addr} {fd_possible_befores : FuncData} (D_possible_befores : Df K mg "possible_befores" s_possible_befores ["is_beside", "rest"] f_possible_befores fd_possible_befores) (G_possible_befores : FnG P w K mg base 1 f_possible_befores fd_possible_befores ["is_beside", "rest"] (spM K cl 2 m_possible_befores))
    (KC_Splits : Kc K mg cl "Splits" c_Splits)
    (N_Splits__is_beside : NoAttr K c_Splits "_is_beside")
    (M_Splits___let_of : Mc P w K mg base cl 1 c_Splits "_let_of" ["self", "rest", "found"] m_Splits___let_of) : FnG P w K mg base 2 f fd ["self", "rest"] (spM K cl 2 m_Splits__let) := by
  refine fnM (n := 2) (N := ["self", "rest"]) (m := bd_Splits__let) F sc_Splits__let rfl fun cdv A outer s H E hr => ⟨_, pss_one (ps_ret (pe_methC KC_Splits M_Splits___let_of hr (by decide) (takes_of rfl rfl rfl rfl) (pv 0) (pa_cons (pv 1) (pa_cons (pe_callG G_possible_befores (hr.mono (by decide)) (by rfl) D_possible_befores.mg D_possible_befores.kp D_possible_befores.b (takes_of rfl rfl rfl rfl) (pa_cons (pe_fldC KC_Splits (pv 0)) (pa_cons (pv 1) (pa_nil)))) (pa_nil))))), ?_⟩
  exact as_ret (ae_meth (ae_var) (aa_cons (ae_var) (aa_cons (ae_call (aa_cons (ae_fld (ae_var) KC_Splits.cc KC_Splits.kc N_Splits__is_beside) (aa_cons (ae_var) (aa_nil)))) (aa_nil))) KC_Splits.cc)
abbrev s_Rule__soft : Stmt := meth 33 2
theorem sc_Rule__soft : FnScope ["self"] ["self"] (defScope s_Rule__soft) := ⟨rfl, rfl, rfl, by decide +kernel, rfl, by decide +kernel, by decide +kernel⟩
def bd_Rule__soft : DT := sRet (eB1 (fldE "Rule" "_soft") (eVar 0))
def m_Rule__soft : MF := mBody 1 bd_Rule__soft
theorem ok_Rule__soft {c_Rule : Addr} {f : Addr} {fd : FuncData} (F : Fun K "soft" "Rule.soft" s_Rule__soft f fd)
    (KC_Rule : Kc K mg cl "Rule" c_Rule)
    (N_Rule__soft : NoAttr K c_Rule "_soft")
    (B : Bn mg) : FnG P w K mg base 1 f fd ["self"] (spM K cl 1 m_Rule__soft) := by
  refine fnM (n := 1) (N := ["self"]) (m := bd_Rule__soft) F sc_Rule__soft rfl fun cdv A outer s H E hr => ⟨_, pss_one (ps_ret (pe_fldC KC_Rule (pv 0))), ?_⟩
  exact as_ret (ae_fld (ae_var) KC_Rule.cc KC_Rule.kc N_Rule__soft)
abbrev s_Rule__offer : Stmt := meth 33 4
theorem sc_Rule__offer : FnScope ["self"] ["self"] (defScope s_Rule__offer) := ⟨rfl, rfl, rfl, by decide +kernel, rfl, by decide +kernel, by decide +kernel⟩
def bd_Rule__offer : DT := sRet (eB1 (fldE "Rule" "_offer") (eVar 0))
def m_Rule__offer : MF := mBody 1 bd_Rule__offer
theorem ok_Rule__offer {c_Rule : Addr} {f : Addr} {fd : FuncData} (F : Fun K "offer" "Rule.offer" s_Rule__offer f fd)
    (KC_Rule : Kc K mg cl "Rule" c_Rule)
    (N_Rule__offer : NoAttr K c_Rule "_offer")
    (B : Bn mg) : FnG P w K mg base 1 f fd ["self"] (spM K cl 1 m_Rule__offer) := by
  refine fnM (n := 1) (N := ["self"]) (m := bd_Rule__offer) F sc_Rule__offer rfl fun cdv A outer s H E hr => ⟨_, pss_one (ps_ret (pe_fldC KC_Rule (pv 0))), ?_⟩
  exact as_ret (ae_fld (ae_var) KC_Rule.cc KC_Rule.kc N_Rule__offer)
abbrev s_Rule__where : Stmt := meth 33 3
theorem sc_Rule__where : FnScope ["self"] ["self"] (defScope s_Rule__where) := ⟨rfl, rfl, rfl, by decide +kernel, rfl, by decide +kernel, by decide +kernel⟩
def bd_Rule__where : DT := sRet (eB1 (fldE "Rule" "_where") (eVar 0))
def m_Rule__where : MF := mBody 1 bd_Rule__where
theorem ok_Rule__where {c_Rule : Addr} {f : Addr} {fd : FuncData} (F : Fun K "where" "Rule.where" s_Rule__where f fd)
    (KC_Rule : Kc K mg cl "Rule" c_Rule)
    (N_Rule__where : NoAttr K c_Rule "_where")
    (B : Bn mg) : FnG P w K mg base 1 f fd ["self"] (spM K cl 1 m_Rule__where) := by
  refine fnM (n := 1) (N := ["self"]) (m := bd_Rule__where) F sc_Rule__where rfl fun cdv A outer s H E hr => ⟨_, pss_one (ps_ret (pe_fldC KC_Rule (pv 0))), ?_⟩
  exact as_ret (ae_fld (ae_var) KC_Rule.cc KC_Rule.kc N_Rule__where)
abbrev s_Rule__bad_at : Stmt := meth 33 6
theorem sc_Rule__bad_at : FnScope ["self", "end"] ["self", "end"] (defScope s_Rule__bad_at) := ⟨rfl, rfl, rfl, by decide +kernel, rfl, by decide +kernel, by decide +kernel⟩
def bd_Rule__bad_at : DT := sSeq (sIf (bNot (bOf (eCall 1 m_is_end (aCons (eVar 1) (aNil))))) (sNo) (sNext))
    (sRet (eB1 lstE (eDGet (eB1 (fldE "Rule" "_bad") (eVar 0)) (eVar 1))))
def m_Rule__bad_at : MF := mBody 2 bd_Rule__bad_at
theorem ok_Rule__bad_at {c_Rule : Addr} {f : Addr} {fd : FuncData} (F : Fun K "bad_at" "Rule.bad_at" s_Rule__bad_at f fd)
    {f_is_end : Addr} {fd_is_end : FuncData} (D_is_end : Df K mg "is_end" s_is_end ["thing"] f_is_end fd_is_end) (G_is_end : FnG P w K mg base 1 f_is_end fd_is_end ["thing"] (spM K cl 1 m_is_end))
    (KC_Rule : Kc K mg cl "Rule" c_Rule)
    (N_Rule__bad : NoAttr K c_Rule "_bad")
    (B : Bn mg) : FnG P w K mg base 3 f fd ["self", "end"] (spM K cl 2 m_Rule__bad_at) := by
  refine fnM (n := 2) (N := ["self", "end"]) (m := bd_Rule__bad_at) F sc_Rule__bad_at rfl fun cdv A outer s H E hr => ⟨_, pss_cons (ps_if (pt_not (pt_val (pe_callG G_is_end (hr.mono (by decide)) (by rfl) D_is_end.mg D_is_end.kp D_is_end.b (takes_of rfl rfl rfl rfl) (pa_cons (pv 1) (pa_nil))))) (pss_one (ps_never)) (pss_nil))
    (pss_one (ps_ret (pe_callTy (r := rLstOf K) call_list_of (by rfl) B.b_list bt_list (pa_cons (pe_dget (Nat.lt_of_le_of_lt (Nat.add_le_add_left (by decide) _) hr.r.units) (pe_fldC KC_Rule (pv 0)) (pv 1) (fun _ _ => rfl)) pa_nil)))), ?_⟩
  exact as_seq (as_if (ab_not (ab_ofB (ae_call (aa_cons (ae_var) (aa_nil))))) (as_no) (as_next))
    (as_ret (ae_B1 (ae_dget (ae_fld (ae_var) KC_Rule.cc KC_Rule.kc N_Rule__bad) (ae_var)) r1_lst))
abbrev s_Splits__init : Stmt := meth 17 0
theorem sc_Splits__init : FnScope ["self", "rule", "left", "right"] ["self", "rule", "left", "right"] (defScope s_Splits__init) := ⟨rfl, rfl, rfl, by decide +kernel, rfl, by decide +kernel, by decide +kernel⟩
def bd_Splits__init : DF := fSeq (fSet "_near" (eMeth "Rule" "bad_at" 2 m_Rule__bad_at (eVar 1) (aCons (eVar 2) (aNil))))
    (fSeq (fSet "_far" (eMeth "Rule" "bad_at" 2 m_Rule__bad_at (eVar 1) (aCons (eVar 3) (aNil))))
    (fSeq (fSet "_is_soft" (eProp "Rule" m_Rule__soft (eVar 1)))
    (fSeq (fSet "_is_beside" (e2 (mEq) (eProp "Rule" m_Rule__where (eVar 1)) (eC (.str "side"))))
    (fSet "_many" (eProp "Rule" m_Rule__offer (eVar 1))))))
theorem ok_Splits__init {c_Splits : Addr} {c_Rule : Addr} {f : Addr} {fd : FuncData} (F : FunA K "__init__" "Splits.__init__" s_Splits__init f fd)
    (KC_Splits : Kc K mg cl "Splits" c_Splits)
    (KC_Rule : Kc K mg cl "Rule" c_Rule)
    (P_Rule__soft : Pc P w K mg base cl 1 c_Rule "soft" m_Rule__soft)
    (P_Rule__offer : Pc P w K mg base cl 1 c_Rule "offer" m_Rule__offer)
    (P_Rule__where : Pc P w K mg base cl 1 c_Rule "where" m_Rule__where)
    (M_Rule__bad_at : Mc P w K mg base cl 3 c_Rule "bad_at" ["self", "end"] m_Rule__bad_at)
    (N_Splits__near : NoAttr K c_Splits "_near")
    (N_Splits__far : NoAttr K c_Splits "_far")
    (N_Splits__is_soft : NoAttr K c_Splits "_is_soft")
    (N_Splits__is_beside : NoAttr K c_Splits "_is_beside")
    (N_Splits__many : NoAttr K c_Splits "_many")
    (hm : ∀ (x : Addr) (as : List AV) (g g' : Bag) (fs : List (Str × D)), F_Splits as g = some (.ok fs, g') → ∃ δ', bd_Splits__init (startD 4 (.slf x :: as)) [] g = some (δ', fs, g')) : FnG P w K mg base 4 f fd ["self", "rule", "left", "right"] (spI K cl "Splits" c_Splits 3 F_Splits) := by
  refine fnIA (n := 3) (N := ["self", "rule", "left", "right"]) (m := bd_Splits__init) F sc_Splits__init rfl KC_Splits.cc (fun cdv A outer s H E hr => ⟨_, pss_cons (ps_fld (pv 0) (pe_methC KC_Rule M_Rule__bad_at hr (by decide) (takes_of rfl rfl rfl rfl) (pv 1) (pa_cons (pv 2) (pa_nil))) (by rfl))
    (pss_cons (ps_fld (pv 0) (pe_methC KC_Rule M_Rule__bad_at hr (by decide) (takes_of rfl rfl rfl rfl) (pv 1) (pa_cons (pv 3) (pa_nil))) (by rfl))
    (pss_cons (ps_fld (pv 0) (pe_propC KC_Rule P_Rule__soft hr (by decide) (pv 1)) (by rfl))
    (pss_cons (ps_fld (pv 0) (pe_cmpR (r := rEqU K) (op_eqU hr.r.units) (pe_propC KC_Rule P_Rule__where hr (by decide) (pv 1)) (pe_str) (nomark _)) (by rfl))
    (pss_one (ps_fld (pv 0) (pe_propC KC_Rule P_Rule__offer hr (by decide) (pv 1)) (by rfl)))))), ?_⟩) hm
  exact af_seq (af_set (ae_meth (ae_var) (aa_cons (ae_var) (aa_nil)) KC_Rule.cc) KC_Splits.kc N_Splits__near)
    (af_seq (af_set (ae_meth (ae_var) (aa_cons (ae_var) (aa_nil)) KC_Rule.cc) KC_Splits.kc N_Splits__far)
    (af_seq (af_set (W := WF) (ae_prop (ae_var) KC_Rule.cc) KC_Splits.kc N_Splits__is_soft)
    (af_seq (af_set (W := WF) (ae_2 (ae_prop (ae_var) KC_Rule.cc) (ae_c fun _ _ _ => .str _) r2_eq) KC_Splits.kc N_Splits__is_beside)
    (af_set (W := WF) (ae_prop (ae_var) KC_Rule.cc) KC_Splits.kc N_Splits__many))))
abbrev s_let : Stmt := top 22
theorem sc_let : FnScope ["rule", "stretch", "size", "left", "length", "right"] ["rule", "stretch", "size"] (defScope s_let) := ⟨rfl, rfl, rfl, by decide +kernel, rfl, by decide +kernel, by decide +kernel⟩
def bd_let : DT := sSeq (sDrop (eCall 2 m_check_size (aCons (eVar 0) (aCons (eVar 2) (aNil)))))
    (sSeq (sAsg (eVar 1) (dTup 3 (dCons (dName 3) (dCons (dName 4) (dCons (dName 5) (dNil))))))
    (sRet (eMeth "Splits" "let" 2 m_Splits__let (eMakeK "Splits" 3 0 (fun as bs => as ++ bs) F_Splits (aCons (eVar 0) (aCons (eVar 3) (aCons (eVar 5) (aNil)))) (aNil)) (aCons (e2 mSub (eVar 4) (eVar 2)) (aNil)))))
def m_let : MF := mBody 6 bd_let
theorem ok_let {c_Splits : Addr} {f : Addr} {fd : FuncData} (F : Fun K "let" "let" s_let f fd)
    {f_check_size : Addr} {fd_check_size : FuncData} (D_check_size : Df K mg "check_size" s_check_size ["rule", "size"] f_check_size fd_check_size) (G_check_size : FnG P w K mg base 4 f_check_size fd_check_size ["rule", "size"] (spM K cl 2 m_check_size))
    (KC_Splits : Kc K mg cl "Splits" c_Splits)
    (M_Splits__let : Mc P w K mg base cl 2 c_Splits "let" ["self", "rest"] m_Splits__let)
    (J_Splits : Jc P w K mg base cl 4 "Splits" c_Splits ["self", "rule", "left", "right"] 3 [] F_Splits) : FnG P w K mg base 6 f fd ["rule", "stretch", "size"] (spM K cl 3 m_let) := by
  refine fnM (n := 3) (N := ["rule", "stretch", "size", "left", "length", "right"]) (m := bd_let) F sc_let rfl fun cdv A outer s H E hr => ⟨_, pss_cons (ps_expr (pe_callG G_check_size (hr.mono (by decide)) (by rfl) D_check_size.mg D_check_size.kp D_check_size.b (takes_of rfl rfl rfl rfl) (pa_cons (pv 0) (pa_cons (pv 2) (pa_nil)))))
    (pss_cons (ps_asg (pv 1) (pg_tupK (K := K) (n := 3) rfl (pgs_cons (pg_name (i := 3) sc_let.nd rfl (by first | exact Or.inl rfl | exact Or.inr rfl)) (pgs_cons (pg_name (i := 4) sc_let.nd rfl (by first | exact Or.inl rfl | exact Or.inr rfl)) (pgs_cons (pg_name (i := 5) sc_let.nd rfl (by first | exact Or.inl rfl | exact Or.inr rfl)) (pgs_nil))))))
    (pss_one (ps_ret (pe_methC KC_Splits M_Splits__let hr (by decide) (takes_of rfl rfl rfl rfl) (pe_makeC KC_Splits J_Splits hr (by decide) (by rfl) (takes_of rfl rfl rfl rfl) (pa_cons (pv 0) (pa_cons (pv 3) (pa_cons (pv 5) (pa_nil)))) (pk_nil)) (pa_cons (pe_op op_sub (pv 4) (pv 2)) (pa_nil)))))), ?_⟩
  exact as_seq (as_drop (ae_call (aa_cons (ae_var) (aa_cons (ae_var) (aa_nil)))))
    (as_seq (as_asg (ae_var) (ag_tup (ags_cons (ag_name) (ags_cons (ag_name) (ags_cons (ag_name) (ags_nil))))))
    (as_ret (ae_meth (ae_makeC (aa_cons (ae_var) (aa_cons (ae_var) (aa_cons (ae_var) (aa_nil)))) (aa_nil) KC_Splits.cc) (aa_cons (ae_2 (ae_var) (ae_var) r2_sub) (aa_nil)) KC_Splits.cc)))
abbrev s_possible : Stmt := top 21
theorem sc_possible : FnScope ["rule", "stretch", "size"] ["rule", "stretch", "size"] (defScope s_possible) := ⟨rfl, rfl, rfl, by decide +kernel, rfl, by decide +kernel, by decide +kernel⟩
def bd_possible : DT := sSeq (sDrop (eCall 2 m_check_size (aCons (eVar 0) (aCons (eVar 2) (aNil)))))
    (sRet (eCall 2 m_possible_befores (aCons (e2 (mEq) (eProp "Rule" m_Rule__where (eVar 0)) (eC (.str "side"))) (aCons (e2 mSub (e2 mIx (eVar 1) (eC (.int 1))) (eVar 2)) (aNil)))))
def m_possible : MF := mBody 3 bd_possible
theorem ok_possible {c_Rule : Addr} {f : Addr} {fd : FuncData} (F : Fun K "possible" "possible" s_possible f fd)
    {f_check_size : Addr} {fd_check_size : FuncData} (D_check_size : Df K mg "check_size" s_check_size ["rule", "size"] f_check_size fd_check_size) (G_check_size : FnG P w K mg base 4 f_check_size fd_check_size ["rule", "size"] (spM K cl 2 m_check_size))
    {f_possible_befores : Addr} {fd_possible_befores : FuncData} (D_possible_befores : Df K mg "possible_befores" s_possible_befores ["is_beside", "rest"] f_possible_befores fd_possible_befores) (G_possible_befores : FnG P w K mg base 1 f_possible_befores fd_possible_befores ["is_beside", "rest"] (spM K cl 2 m_possible_befores))
    (KC_Rule : Kc K mg cl "Rule" c_Rule)
    (P_Rule__where : Pc P w K mg base cl 1 c_Rule "where" m_Rule__where) : FnG P w K mg base 5 f fd ["rule", "stretch", "size"] (spM K cl 3 m_possible) := by
  refine fnM (n := 3) (N := ["rule", "stretch", "size"]) (m := bd_possible) F sc_possible rfl fun cdv A outer s H E hr => ⟨_, pss_cons (ps_expr (pe_callG G_check_size (hr.mono (by decide)) (by rfl) D_check_size.mg D_check_size.kp D_check_size.b (takes_of rfl rfl rfl rfl) (pa_cons (pv 0) (pa_cons (pv 2) (pa_nil)))))
    (pss_one (ps_ret (pe_callG G_possible_befores (hr.mono (by decide)) (by rfl) D_possible_befores.mg D_possible_befores.kp D_possible_befores.b (takes_of rfl rfl rfl rfl) (pa_cons (pe_cmpR (r := rEqU K) (op_eqU hr.r.units) (pe_propC KC_Rule P_Rule__where hr (by decide) (pv 0)) (pe_str) (nomark _)) (pa_cons (pe_op op_sub (pe_ix (r := rIx K) ix_seq (pv 1) (pe_int) (fun _ _ => rfl)) (pv 2)) (pa_nil)))))), ?_⟩
  exact as_seq (as_drop (ae_call (aa_cons (ae_var) (aa_cons (ae_var) (aa_nil)))))
    (as_ret (ae_call (aa_cons (ae_2 (ae_prop (ae_var) KC_Rule.cc) (ae_c fun _ _ _ => .str _) r2_eq) (aa_cons (ae_2 (ae_2 (ae_var) (ae_c fun _ _ _ => .int _) r2_ix) (ae_var) r2_sub) (aa_nil)))))
abbrev s_Splits__offered : Stmt := meth 17 4
theorem sc_Splits__offered : FnScope ["self", "rest", "enough", "found"] ["self", "rest"] (defScope s_Splits__offered) := ⟨rfl, rfl, rfl, by decide +kernel, rfl, by decide +kernel, by decide +kernel⟩
def bd_Splits__offered : DT := sSeq (sIf (bOf (e2 (mEq) (eB1 (fldE "Splits" "_many") (eVar 0)) (eC (.int 0)))) (sRet (eMeth "Splits" "let" 2 m_Splits__let (eVar 0) (aCons (eVar 1) (aNil)))) (sNext))
    (sSeq (sSet 2 (e2 mAdd (eB1 (fldE "Splits" "_many") (eVar 0)) (e2 mMul (eC (.int 2)) (eC (.int 5)))))
    (sSeq (sSet 3 (eCall 2 m_possible_befores (aCons (eB1 (fldE "Splits" "_is_beside") (eVar 0)) (aCons (eIf (bTru (eB1 (fldE "Splits" "_is_beside") (eVar 0))) (eVar 1) (eBA min2E (aCons (eVar 1) (aCons (e2 mSub (eVar 2) (eC (.int 1))) (aNil))))) (aNil)))))
    (sRet (eSl (eMeth "Splits" "_let_of" 3 m_Splits___let_of (eVar 0) (aCons (eVar 1) (aCons (eVar 3) (aNil)))) (oNo) (oSo (eB1 (fldE "Splits" "_many") (eVar 0)))))))
def m_Splits__offered : MF := mBody 4 bd_Splits__offered
theorem ok_Splits__offered {c_Splits : Addr} {a_ENDS a_PLACES : Addr} {f : Addr} {fd : FuncData} (F : Fun K "offered" "Splits.offered" s_Splits__offered f fd)
    {f_possible_befores : Addr} {fd_possible_befores : FuncData} (D_possible_befores : Df K mg "possible_befores" s_possible_befores ["is_beside", "rest"] f_possible_befores fd_possible_befores) (G_possible_befores : FnG P w K mg base 1 f_possible_befores fd_possible_befores ["is_beside", "rest"] (spM K cl 2 m_possible_befores))
    (KC_Splits : Kc K mg cl "Splits" c_Splits)
    (N_Splits__many : NoAttr K c_Splits "_many")
    (N_Splits__is_beside : NoAttr K c_Splits "_is_beside")
    (M_Splits__let : Mc P w K mg base cl 2 c_Splits "let" ["self", "rest"] m_Splits__let)
    (M_Splits___let_of : Mc P w K mg base cl 1 c_Splits "_let_of" ["self", "rest", "found"] m_Splits___let_of)
    (B : Bn mg)
    (C : Cn K mg a_ENDS a_PLACES) : FnG P w K mg base 3 f fd ["self", "rest"] (spM K cl 2 m_Splits__offered) := by
  refine fnM (n := 2) (N := ["self", "rest", "enough", "found"]) (m := bd_Splits__offered) F sc_Splits__offered rfl fun cdv A outer s H E hr => ⟨_, pss_cons (ps_if (pt_cmpR (r := rEqU K) (op_eqU hr.r.units) (pe_fldC KC_Splits (pv 0)) (pe_int) (nomark _)) (pss_one (ps_ret (pe_methC KC_Splits M_Splits__let hr (by decide) (takes_of rfl rfl rfl rfl) (pv 0) (pa_cons (pv 1) (pa_nil))))) (pss_nil))
    (pss_cons (ps_set (i := 2) sc_Splits__offered.nd rfl (by first | exact Or.inl rfl | exact Or.inr rfl) (pe_op (r := rAddU K) op_addU (pe_fldC KC_Splits (pv 0)) (pe_op op_mulU (pe_int) (pe_gC (v := .int 5) (by rfl) C.GREATEST_BAD))))
    (pss_cons (ps_set (i := 3) sc_Splits__offered.nd rfl (by first | exact Or.inl rfl | exact Or.inr rfl) (pe_callG G_possible_befores (hr.mono (by decide)) (by rfl) D_possible_befores.mg D_possible_befores.kp D_possible_befores.b (takes_of rfl rfl rfl rfl) (pa_cons (pe_fldC KC_Splits (pv 0)) (pa_cons (pe_ifExp (pt_truth (pe_fldC KC_Splits (pv 0)) (fun _ => rfl)) (pv 1) (pe_callB (r := rMin2) (call_min2 (by rfl)) (by rfl) B.b_min bt_min (pa_cons (pv 1) (pa_cons (pe_op op_sub (pv 2) (pe_int)) (pa_nil))))) (pa_nil)))))
    (pss_one (ps_ret (pe_slice (r := rSlU K) sl_U (pe_methC KC_Splits M_Splits___let_of hr (by decide) (takes_of rfl rfl rfl rfl) (pv 0) (pa_cons (pv 1) (pa_cons (pv 3) (pa_nil)))) (po_none) (po_some (pe_fldC KC_Splits (pv 0)))))))), ?_⟩
  exact as_seq (as_if (ab_of (ae_2 (ae_fld (ae_var) KC_Splits.cc KC_Splits.kc N_Splits__many) (ae_c fun _ _ _ => .int _) r2_eq)) (as_ret (ae_meth (ae_var) (aa_cons (ae_var) (aa_nil)) KC_Splits.cc)) (as_next))
    (as_seq (as_set (ae_2 (ae_fld (ae_var) KC_Splits.cc KC_Splits.kc N_Splits__many) (ae_2 (ae_c fun _ _ _ => .int _) (ae_c fun _ _ _ => .int _) r2_mul) r2_add))
    (as_seq (as_set (ae_call (aa_cons (ae_fld (ae_var) KC_Splits.cc KC_Splits.kc N_Splits__is_beside) (aa_cons (ae_if (ab_tru (ae_fld (ae_var) KC_Splits.cc KC_Splits.kc N_Splits__is_beside)) (ae_var) (ae_min2 (aa_cons (ae_var) (aa_cons (ae_2 (ae_var) (ae_c fun _ _ _ => .int _) r2_sub) (aa_nil))))) (aa_nil)))))
    (as_ret (ae_sl (ae_meth (ae_var) (aa_cons (ae_var) (aa_cons (ae_var) (aa_nil))) KC_Splits.cc) (ao_no) (ao_so (ae_fld (ae_var) KC_Splits.cc KC_Splits.kc N_Splits__many))))))
abbrev s_offered : Stmt := top 23
theorem sc_offered : FnScope ["rule", "stretch", "size", "left", "length", "right"] ["rule", "stretch", "size"] (defScope s_offered) := ⟨rfl, rfl, rfl, by decide +kernel, rfl, by decide +kernel, by decide +kernel⟩
def bd_offered : DT := sSeq (sDrop (eCall 2 m_check_size (aCons (eVar 0) (aCons (eVar 2) (aNil)))))
    (sSeq (sAsg (eVar 1) (dTup 3 (dCons (dName 3) (dCons (dName 4) (dCons (dName 5) (dNil))))))
    (sRet (eMeth "Splits" "offered" 2 m_Splits__offered (eMakeK "Splits" 3 0 (fun as bs => as ++ bs) F_Splits (aCons (eVar 0) (aCons (eVar 3) (aCons (eVar 5) (aNil)))) (aNil)) (aCons (e2 mSub (eVar 4) (eVar 2)) (aNil)))))
def m_offered : MF := mBody 6 bd_offered
theorem ok_offered {c_Splits : Addr} {f : Addr} {fd : FuncData} (F : Fun K "offered" "offered" s_offered f fd)
    {f_check_size : Addr} {fd_check_size : FuncData} (D_check_size : Df K mg "check_size" s_check_size ["rule", "size"] f_check_size fd_check_size) (G_check_size : FnG P w K mg base 4 f_check_size fd_check_size ["rule", "size"] (spM K cl 2 m_check_size))
    (KC_Splits : Kc K mg cl "Splits" c_Splits)
    (M_Splits__offered : Mc P w K mg base cl 3 c_Splits "offered" ["self", "rest"] m_Splits__offered)
    (J_Splits : Jc P w K mg base cl 4 "Splits" c_Splits ["self", "rule", "left", "right"] 3 [] F_Splits) : FnG P w K mg base 6 f fd ["rule", "stretch", "size"] (spM K cl 3 m_offered) := by
  refine fnM (n := 3) (N := ["rule", "stretch", "size", "left", "length", "right"]) (m := bd_offered) F sc_offered rfl fun cdv A outer s H E hr => ⟨_, pss_cons (ps_expr (pe_callG G_check_size (hr.mono (by decide)) (by rfl) D_check_size.mg D_check_size.kp D_check_size.b (takes_of rfl rfl rfl rfl) (pa_cons (pv 0) (pa_cons (pv 2) (pa_nil)))))
    (pss_cons (ps_asg (pv 1) (pg_tupK (K := K) (n := 3) rfl (pgs_cons (pg_name (i := 3) sc_offered.nd rfl (by first | exact Or.inl rfl | exact Or.inr rfl)) (pgs_cons (pg_name (i := 4) sc_offered.nd rfl (by first | exact Or.inl rfl | exact Or.inr rfl)) (pgs_cons (pg_name (i := 5) sc_offered.nd rfl (by first | exact Or.inl rfl | exact Or.inr rfl)) (pgs_nil))))))
    (pss_one (ps_ret (pe_methC KC_Splits M_Splits__offered hr (by decide) (takes_of rfl rfl rfl rfl) (pe_makeC KC_Splits J_Splits hr (by decide) (by rfl) (takes_of rfl rfl rfl rfl) (pa_cons (pv 0) (pa_cons (pv 3) (pa_cons (pv 5) (pa_nil)))) (pk_nil)) (pa_cons (pe_op op_sub (pv 4) (pv 2)) (pa_nil)))))), ?_⟩
  exact as_seq (as_drop (ae_call (aa_cons (ae_var) (aa_cons (ae_var) (aa_nil)))))
    (as_seq (as_asg (ae_var) (ag_tup (ags_cons (ag_name) (ags_cons (ag_name) (ags_cons (ag_name) (ags_nil))))))
    (as_ret (ae_meth (ae_makeC (aa_cons (ae_var) (aa_cons (ae_var) (aa_cons (ae_var) (aa_nil)))) (aa_nil) KC_Splits.cc) (aa_cons (ae_2 (ae_var) (ae_var) r2_sub) (aa_nil)) KC_Splits.cc)))
abbrev s_Rule__with_soft : Stmt := meth 33 11
theorem sc_Rule__with_soft : FnScope ["self", "soft"] ["self", "soft"] (defScope s_Rule__with_soft) := ⟨rfl, rfl, rfl, by decide +kernel, rfl, by decide +kernel, by decide +kernel⟩
def bd_Rule__with_soft : DT := sSeq (sIf (bNot (bOf (eB1 (isiE "bool") (eVar 1)))) (sNo) (sNext))
    (sRet (eMakeK "Rule" 2 3 (fun as bs => as ++ bs) F_Rule (aCons (eB1 (fldE "Rule" "_sizes") (eVar 0)) (aCons (eB1 (fldE "Rule" "_bad") (eVar 0)) (aNil))) (aCons (eVar 1) (aCons (eB1 (fldE "Rule" "_where") (eVar 0)) (aCons (eB1 (fldE "Rule" "_offer") (eVar 0)) (aNil))))))
def m_Rule__with_soft : MF := mBody 2 bd_Rule__with_soft
theorem ok_Rule__with_soft {c_Rule : Addr} {f : Addr} {fd : FuncData} (F : Fun K "with_soft" "Rule.with_soft" s_Rule__with_soft f fd)
    (KC_Rule : Kc K mg cl "Rule" c_Rule)
    (N_Rule__sizes : NoAttr K c_Rule "_sizes")
    (N_Rule__bad : NoAttr K c_Rule "_bad")
    (N_Rule__where : NoAttr K c_Rule "_where")
    (N_Rule__offer : NoAttr K c_Rule "_offer")
    (J_Rule : Jc P w K mg base cl 5 "Rule" c_Rule ["self", "sizes", "bad", "soft", "where", "offer"] 2 ["soft", "where", "offer"] F_Rule)
    (B : Bn mg) : FnG P w K mg base 7 f fd ["self", "soft"] (spM K cl 2 m_Rule__with_soft) := by
  refine fnM (n := 2) (N := ["self", "soft"]) (m := bd_Rule__with_soft) F sc_Rule__with_soft rfl fun cdv A outer s H E hr => ⟨_, pss_cons (ps_if (pt_not (pt_val (pe_callB (r := rIsi K) call_isi (by rfl) B.b_isinstance PyProof.Rows.boot_isinstance (pa_cons (pv 1) (pa_cons (pe_bltn (v := .ty "bool") (by rfl) B.b_bool bt_bool rfl) pa_nil))))) (pss_one (ps_never)) (pss_nil))
    (pss_one (ps_ret (pe_makeC KC_Rule J_Rule hr (by decide) (by rfl) (takes_of rfl rfl rfl rfl) (pa_cons (pe_fldC KC_Rule (pv 0)) (pa_cons (pe_fldC KC_Rule (pv 0)) (pa_nil))) (pk_cons (pv 1) (pk_cons (pe_fldC KC_Rule (pv 0)) (pk_cons (pe_fldC KC_Rule (pv 0)) (pk_nil))))))), ?_⟩
  exact as_seq (as_if (ab_not (ab_ofB (ae_isi (ae_var)))) (as_no) (as_next))
    (as_ret (ae_makeC (aa_cons (ae_fld (ae_var) KC_Rule.cc KC_Rule.kc N_Rule__sizes) (aa_cons (ae_fld (ae_var) KC_Rule.cc KC_Rule.kc N_Rule__bad) (aa_nil))) (aa_cons (ae_var) (aa_cons (ae_fld (ae_var) KC_Rule.cc KC_Rule.kc N_Rule__where) (aa_cons (ae_fld (ae_var) KC_Rule.cc KC_Rule.kc N_Rule__offer) (aa_nil)))) KC_Rule.cc))
abbrev s_Rule__with_bad : Stmt := meth 33 9
theorem sc_Rule__with_bad : FnScope ["self", "end", "lengths", "bad", "other"] ["self", "end", "lengths"] (defScope s_Rule__with_bad) := ⟨rfl, rfl, rfl, by decide +kernel, rfl, by decide +kernel, by decide +kernel⟩
def bd_Rule__with_bad : DT := sSeq (sIf (bNot (bOf (eCall 1 m_is_end (aCons (eVar 1) (aNil))))) (sNo) (sNext))
    (sSeq (sIf (bNot (bOf (eCall 1 m_are_sizes (aCons (eVar 2) (aNil))))) (sNo) (sNext))
    (sSeq (sSetO 3 (eDc [4] (iSeq (eC d_ENDS)) (dName 4) (bYes) (eVar 4) (eDGet (eB1 (fldE "Rule" "_bad") (eVar 0)) (eVar 4))))
    (sSeq (sRel 3 (sPut 3 (eVar 1) (eVar 2)))
    (sRet (eMakeK "Rule" 2 3 (fun as bs => as ++ bs) F_Rule (aCons (eB1 (fldE "Rule" "_sizes") (eVar 0)) (aCons (eVar 3) (aNil))) (aCons (eB1 (fldE "Rule" "_soft") (eVar 0)) (aCons (eB1 (fldE "Rule" "_where") (eVar 0)) (aCons (eB1 (fldE "Rule" "_offer") (eVar 0)) (aNil)))))))))
def m_Rule__with_bad : MF := mBody 5 bd_Rule__with_bad
theorem ok_Rule__with_bad {c_Rule : Addr} {a_ENDS a_PLACES : Addr} {f : Addr} {fd : FuncData} (F : Fun K "with_bad" "Rule.with_bad" s_Rule__with_bad f fd)
    {f_is_end : Addr} {fd_is_end : FuncData} (D_is_end : Df K mg "is_end" s_is_end ["thing"] f_is_end fd_is_end) (G_is_end : FnG P w K mg base 1 f_is_end fd_is_end ["thing"] (spM K cl 1 m_is_end))
    {f_are_sizes : Addr} {fd_are_sizes : FuncData} (D_are_sizes : Df K mg "are_sizes" s_are_sizes ["thing"] f_are_sizes fd_are_sizes) (G_are_sizes : FnG P w K mg base 3 f_are_sizes fd_are_sizes ["thing"] (spM K cl 1 m_are_sizes))
    (KC_Rule : Kc K mg cl "Rule" c_Rule)
    (N_Rule__sizes : NoAttr K c_Rule "_sizes")
    (N_Rule__bad : NoAttr K c_Rule "_bad")
    (N_Rule__soft : NoAttr K c_Rule "_soft")
    (N_Rule__where : NoAttr K c_Rule "_where")
    (N_Rule__offer : NoAttr K c_Rule "_offer")
    (J_Rule : Jc P w K mg base cl 5 "Rule" c_Rule ["self", "sizes", "bad", "soft", "where", "offer"] 2 ["soft", "where", "offer"] F_Rule)
    (C : Cn K mg a_ENDS a_PLACES) : FnG P w K mg base 7 f fd ["self", "end", "lengths"] (spM K cl 3 m_Rule__with_bad) := by
  refine fnM (n := 3) (N := ["self", "end", "lengths", "bad", "other"]) (m := bd_Rule__with_bad) F sc_Rule__with_bad rfl fun cdv A outer s H E hr => ⟨_, pss_cons (ps_if (pt_not (pt_val (pe_callG G_is_end (hr.mono (by decide)) (by rfl) D_is_end.mg D_is_end.kp D_is_end.b (takes_of rfl rfl rfl rfl) (pa_cons (pv 1) (pa_nil))))) (pss_one (ps_never)) (pss_nil))
    (pss_cons (ps_if (pt_not (pt_val (pe_callG G_are_sizes (hr.mono (by decide)) (by rfl) D_are_sizes.mg D_are_sizes.kp D_are_sizes.b (takes_of rfl rfl rfl rfl) (pa_cons (pv 2) (pa_nil))))) (pss_one (ps_never)) (pss_nil))
    (pss_cons (ps_setDc (i := 3) rfl sc_Rule__with_bad.nd rfl rfl (sw_trueD rfl rfl rfl (by decide +kernel)) (pi_seqK (K := K) (pe_gC (v := .ref a_ENDS) (by rfl) C.ENDS)) (blkOk_by (N := ["self", "end", "lengths", "bad", "other"]) (sc := defScope s_Rule__with_bad) (own := [("other", 4)]) (by decide +kernel)) (fun _ _ _ _ _ => pg_name (i := 4) sc_Rule__with_bad.nd rfl (by first | exact Or.inl rfl | exact Or.inr rfl)) (fun _ _ _ _ _ => pts_nil) (fun _ _ _ _ _ => pv 4) (fun _ _ _ _ _ => pe_dget (Nat.lt_of_le_of_lt (Nat.add_le_add_left (by decide) _) hr.r.units) (pe_fldCK (K := K) KC_Rule (pv 0)) (pv 4) (fun _ _ => rfl)))
    (pss_cons (ps_asg (pv 2) (pg_sub (pv 3) (pv 1) (set_U hr.r.units)))
    (pss_one (ps_ret (pe_makeC KC_Rule J_Rule hr (by decide) (by rfl) (takes_of rfl rfl rfl rfl) (pa_cons (pe_fldC KC_Rule (pv 0)) (pa_cons (pv 3) (pa_nil))) (pk_cons (pe_fldC KC_Rule (pv 0)) (pk_cons (pe_fldC KC_Rule (pv 0)) (pk_cons (pe_fldC KC_Rule (pv 0)) (pk_nil)))))))))), ?_⟩
  exact as_seq (as_if (ab_not (ab_ofB (ae_call (aa_cons (ae_var) (aa_nil))))) (as_no) (as_next))
    (as_seq (as_if (ab_not (ab_ofB (ae_call (aa_cons (ae_var) (aa_nil))))) (as_no) (as_next))
    (as_seq (as_setO (ae_dc (ai_seq (ae_cK fun b l Bad H => dat_ENDS (G := ⟨K, cl, b, l⟩) C)) (ag_name) (ab_yes) (ae_var) (ae_dget (ae_fld (ae_var) KC_Rule.cc KC_Rule.kc N_Rule__bad) (ae_var)) (by decide)))
    (as_seq (as_rel (as_put (ae_var) (ae_var)))
    (as_ret (ae_makeC (aa_cons (ae_fld (ae_var) KC_Rule.cc KC_Rule.kc N_Rule__sizes) (aa_cons (ae_var) (aa_nil))) (aa_cons (ae_fld (ae_var) KC_Rule.cc KC_Rule.kc N_Rule__soft) (aa_cons (ae_fld (ae_var) KC_Rule.cc KC_Rule.kc N_Rule__where) (aa_cons (ae_fld (ae_var) KC_Rule.cc KC_Rule.kc N_Rule__offer) (aa_nil)))) KC_Rule.cc)))))
abbrev s_Rule__with_sizes : Stmt := meth 33 10
theorem sc_Rule__with_sizes : FnScope ["self", "sizes"] ["self", "sizes"] (defScope s_Rule__with_sizes) := ⟨rfl, rfl, rfl, by decide +kernel, rfl, by decide +kernel, by decide +kernel⟩
def bd_Rule__with_sizes : DT := sSeq (sIf (bNot (bOf (eCall 1 m__are_rule_sizes (aCons (eVar 1) (aNil))))) (sNo) (sNext))
    (sRet (eMakeK "Rule" 2 3 (fun as bs => as ++ bs) F_Rule (aCons (eVar 1) (aCons (eB1 (fldE "Rule" "_bad") (eVar 0)) (aNil))) (aCons (eB1 (fldE "Rule" "_soft") (eVar 0)) (aCons (eB1 (fldE "Rule" "_where") (eVar 0)) (aCons (eB1 (fldE "Rule" "_offer") (eVar 0)) (aNil))))))
def m_Rule__with_sizes : MF := mBody 2 bd_Rule__with_sizes
theorem ok_Rule__with_sizes {c_Rule : Addr} {f : Addr} {fd : FuncData} (F : Fun K "with_sizes" "Rule.with_sizes" s_Rule__with_sizes f fd)
    {f__are_rule_sizes : Addr} {fd__are_rule_sizes : FuncData} (D__are_rule_sizes : Df K mg "_are_rule_sizes" s__are_rule_sizes ["thing"] f__are_rule_sizes fd__are_rule_sizes) (G__are_rule_sizes : FnG P w K mg base 4 f__are_rule_sizes fd__are_rule_sizes ["thing"] (spM K cl 1 m__are_rule_sizes))
    (KC_Rule : Kc K mg cl "Rule" c_Rule)
    (N_Rule__bad : NoAttr K c_Rule "_bad")
    (N_Rule__soft : NoAttr K c_Rule "_soft")
    (N_Rule__where : NoAttr K c_Rule "_where")
    (N_Rule__offer : NoAttr K c_Rule "_offer")
    (J_Rule : Jc P w K mg base cl 5 "Rule" c_Rule ["self", "sizes", "bad", "soft", "where", "offer"] 2 ["soft", "where", "offer"] F_Rule) : FnG P w K mg base 7 f fd ["self", "sizes"] (spM K cl 2 m_Rule__with_sizes) := by
  refine fnM (n := 2) (N := ["self", "sizes"]) (m := bd_Rule__with_sizes) F sc_Rule__with_sizes rfl fun cdv A outer s H E hr => ⟨_, pss_cons (ps_if (pt_not (pt_val (pe_callG G__are_rule_sizes (hr.mono (by decide)) (by rfl) D__are_rule_sizes.mg D__are_rule_sizes.kp D__are_rule_sizes.b (takes_of rfl rfl rfl rfl) (pa_cons (pv 1) (pa_nil))))) (pss_one (ps_never)) (pss_nil))
    (pss_one (ps_ret (pe_makeC KC_Rule J_Rule hr (by decide) (by rfl) (takes_of rfl rfl rfl rfl) (pa_cons (pv 1) (pa_cons (pe_fldC KC_Rule (pv 0)) (pa_nil))) (pk_cons (pe_fldC KC_Rule (pv 0)) (pk_cons (pe_fldC KC_Rule (pv 0)) (pk_cons (pe_fldC KC_Rule (pv 0)) (pk_nil))))))), ?_⟩
  exact as_seq (as_if (ab_not (ab_ofB (ae_call (aa_cons (ae_var) (aa_nil))))) (as_no) (as_next))
    (as_ret (ae_makeC (aa_cons (ae_var) (aa_cons (ae_fld (ae_var) KC_Rule.cc KC_Rule.kc N_Rule__bad) (aa_nil))) (aa_cons (ae_fld (ae_var) KC_Rule.cc KC_Rule.kc N_Rule__soft) (aa_cons (ae_fld (ae_var) KC_Rule.cc KC_Rule.kc N_Rule__where) (aa_cons (ae_fld (ae_var) KC_Rule.cc KC_Rule.kc N_Rule__offer) (aa_nil)))) KC_Rule.cc))
abbrev s_Rule__bare : Stmt := meth 33 14
theorem sc_Rule__bare : FnScope ["self"] ["self"] (defScope s_Rule__bare) := ⟨rfl, rfl, rfl, by decide +kernel, rfl, by decide +kernel, by decide +kernel⟩
def bd_Rule__bare : DT := sRet (eMakeK "Rule" 1 3 (fun as bs => as ++ [.val .non] ++ bs) F_Rule (aCons (eB1 (fldE "Rule" "_sizes") (eVar 0)) (aNil)) (aCons (eB1 (fldE "Rule" "_soft") (eVar 0)) (aCons (eB1 (fldE "Rule" "_where") (eVar 0)) (aCons (eB1 (fldE "Rule" "_offer") (eVar 0)) (aNil)))))
def m_Rule__bare : MF := mBody 1 bd_Rule__bare
theorem ok_Rule__bare {c_Rule : Addr} {f : Addr} {fd : FuncData} (F : Fun K "bare" "Rule.bare" s_Rule__bare f fd)
    (KC_Rule : Kc K mg cl "Rule" c_Rule)
    (N_Rule__sizes : NoAttr K c_Rule "_sizes")
    (N_Rule__soft : NoAttr K c_Rule "_soft")
    (N_Rule__where : NoAttr K c_Rule "_where")
    (N_Rule__offer : NoAttr K c_Rule "_offer")
    (J_Rule : Jc P w K mg base cl 5 "Rule" c_Rule ["self", "sizes", "bad", "soft", "where", "offer"] 2 ["soft", "where", "offer"] F_Rule)
    (JD_Rule : JcD P w K mg base cl 5 "Rule" c_Rule ["self", "sizes", "bad", "soft", "where", "offer"] 1 ["soft", "where", "offer"] 5 (fun vs zs => vs ++ [V.non] ++ zs) F_Rule) : FnG P w K mg base 7 f fd ["self"] (spM K cl 1 m_Rule__bare) := by
  refine fnM (n := 1) (N := ["self"]) (m := bd_Rule__bare) F sc_Rule__bare rfl fun cdv A outer s H E hr => ⟨_, pss_one (ps_ret (pe_makeD KC_Rule JD_Rule hr (by decide) (by rfl) (takes_of rfl rfl rfl rfl) (pa_cons (pe_fldC KC_Rule (pv 0)) (pa_nil)) (pk_cons (pe_fldC KC_Rule (pv 0)) (pk_cons (pe_fldC KC_Rule (pv 0)) (pk_cons (pe_fldC KC_Rule (pv 0)) (pk_nil)))))), ?_⟩
  exact as_ret (ae_makeD (aa_cons (ae_fld (ae_var) KC_Rule.cc KC_Rule.kc N_Rule__sizes) (aa_nil)) (aa_cons (ae_fld (ae_var) KC_Rule.cc KC_Rule.kc N_Rule__soft) (aa_cons (ae_fld (ae_var) KC_Rule.cc KC_Rule.kc N_Rule__where) (aa_cons (ae_fld (ae_var) KC_Rule.cc KC_Rule.kc N_Rule__offer) (aa_nil)))) KC_Rule.cc)
abbrev s_Rule__with_offer : Stmt := meth 33 13
theorem sc_Rule__with_offer : FnScope ["self", "offer"] ["self", "offer"] (defScope s_Rule__with_offer) := ⟨rfl, rfl, rfl, by decide +kernel, rfl, by decide +kernel, by decide +kernel⟩
def bd_Rule__with_offer : DT := sSeq (sIf (bNot (bOf (eCall 1 m__is_offer (aCons (eVar 1) (aNil))))) (sNo) (sNext))
    (sRet (eMakeK "Rule" 2 3 (fun as bs => as ++ bs) F_Rule (aCons (eB1 (fldE "Rule" "_sizes") (eVar 0)) (aCons (eB1 (fldE "Rule" "_bad") (eVar 0)) (aNil))) (aCons (eB1 (fldE "Rule" "_soft") (eVar 0)) (aCons (eB1 (fldE "Rule" "_where") (eVar 0)) (aCons (eVar 1) (aNil))))))
def m_Rule__with_offer : MF := mBody 2 bd_Rule__with_offer
theorem ok_Rule__with_offer {c_Rule : Addr} {f : Addr} {fd : FuncData} (F : Fun K "with_offer" "Rule.with_offer" s_Rule__with_offer f fd)
    {f__is_offer : Addr} {fd__is_offer : FuncData} (D__is_offer : Df K mg "_is_offer" s__is_offer ["thing"] f__is_offer fd__is_offer) (G__is_offer : FnG P w K mg base 3 f__is_offer fd__is_offer ["thing"] (spM K cl 1 m__is_offer))
    (KC_Rule : Kc K mg cl "Rule" c_Rule)
    (N_Rule__sizes : NoAttr K c_Rule "_sizes")
    (N_Rule__bad : NoAttr K c_Rule "_bad")
    (N_Rule__soft : NoAttr K c_Rule "_soft")
    (N_Rule__where : NoAttr K c_Rule "_where")
    (J_Rule : Jc P w K mg base cl 5 "Rule" c_Rule ["self", "sizes", "bad", "soft", "where", "offer"] 2 ["soft", "where", "offer"] F_Rule) : FnG P w K mg base 7 f fd ["self", "offer"] (spM K cl 2 m_Rule__with_offer) := by
  refine fnM (n := 2) (N := ["self", "offer"]) (m := bd_Rule__with_offer) F sc_Rule__with_offer rfl fun cdv A outer s H E hr => ⟨_, pss_cons (ps_if (pt_not (pt_val (pe_callG G__is_offer (hr.mono (by decide)) (by rfl) D__is_offer.mg D__is_offer.kp D__is_offer.b (takes_of rfl rfl rfl rfl) (pa_cons (pv 1) (pa_nil))))) (pss_one (ps_never)) (pss_nil))
    (pss_one (ps_ret (pe_makeC KC_Rule J_Rule hr (by decide) (by rfl) (takes_of rfl rfl rfl rfl) (pa_cons (pe_fldC KC_Rule (pv 0)) (pa_cons (pe_fldC KC_Rule (pv 0)) (pa_nil))) (pk_cons (pe_fldC KC_Rule (pv 0)) (pk_cons (pe_fldC KC_Rule (pv 0)) (pk_cons (pv 1) (pk_nil))))))), ?_⟩
  exact as_seq (as_if (ab_not (ab_ofB (ae_call (aa_cons (ae_var) (aa_nil))))) (as_no) (as_next))
    (as_ret (ae_makeC (aa_cons (ae_fld (ae_var) KC_Rule.cc KC_Rule.kc N_Rule__sizes) (aa_cons (ae_fld (ae_var) KC_Rule.cc KC_Rule.kc N_Rule__bad) (aa_nil))) (aa_cons (ae_fld (ae_var) KC_Rule.cc KC_Rule.kc N_Rule__soft) (aa_cons (ae_fld (ae_var) KC_Rule.cc KC_Rule.kc N_Rule__where) (aa_cons (ae_var) (aa_nil)))) KC_Rule.cc))
abbrev s_Rule__with_where : Stmt := meth 33 12
theorem sc_Rule__with_where : FnScope ["self", "where"] ["self", "where"] (defScope s_Rule__with_where) := ⟨rfl, rfl, rfl, by decide +kernel, rfl, by decide +kernel, by decide +kernel⟩
def bd_Rule__with_where : DT := sSeq (sIf (bNot (bOf (eCall 1 m__is_place (aCons (eVar 1) (aNil))))) (sNo) (sNext))
    (sRet (eMakeK "Rule" 2 3 (fun as bs => as ++ bs) F_Rule (aCons (eB1 (fldE "Rule" "_sizes") (eVar 0)) (aCons (eB1 (fldE "Rule" "_bad") (eVar 0)) (aNil))) (aCons (eB1 (fldE "Rule" "_soft") (eVar 0)) (aCons (eVar 1) (aCons (eB1 (fldE "Rule" "_offer") (eVar 0)) (aNil))))))
def m_Rule__with_where : MF := mBody 2 bd_Rule__with_where
theorem ok_Rule__with_where {c_Rule : Addr} {f : Addr} {fd : FuncData} (F : Fun K "with_where" "Rule.with_where" s_Rule__with_where f fd)
    {f__is_place : Addr} {fd__is_place : FuncData} (D__is_place : Df K mg "_is_place" s__is_place ["thing"] f__is_place fd__is_place) (G__is_place : FnG P w K mg base 1 f__is_place fd__is_place ["thing"] (spM K cl 1 m__is_place))
    (KC_Rule : Kc K mg cl "Rule" c_Rule)
    (N_Rule__sizes : NoAttr K c_Rule "_sizes")
    (N_Rule__bad : NoAttr K c_Rule "_bad")
    (N_Rule__soft : NoAttr K c_Rule "_soft")
    (N_Rule__offer : NoAttr K c_Rule "_offer")
    (J_Rule : Jc P w K mg base cl 5 "Rule" c_Rule ["self", "sizes", "bad", "soft", "where", "offer"] 2 ["soft", "where", "offer"] F_Rule) : FnG P w K mg base 7 f fd ["self", "where"] (spM K cl 2 m_Rule__with_where) := by
  refine fnM (n := 2) (N := ["self", "where"]) (m := bd_Rule__with_where) F sc_Rule__with_where rfl fun cdv A outer s H E hr => ⟨_, pss_cons (ps_if (pt_not (pt_val (pe_callG G__is_place (hr.mono (by decide)) (by rfl) D__is_place.mg D__is_place.kp D__is_place.b (takes_of rfl rfl rfl rfl) (pa_cons (pv 1) (pa_nil))))) (pss_one (ps_never)) (pss_nil))
    (pss_one (ps_ret (pe_makeC KC_Rule J_Rule hr (by decide) (by rfl) (takes_of rfl rfl rfl rfl) (pa_cons (pe_fldC KC_Rule (pv 0)) (pa_cons (pe_fldC KC_Rule (pv 0)) (pa_nil))) (pk_cons (pe_fldC KC_Rule (pv 0)) (pk_cons (pv 1) (pk_cons (pe_fldC KC_Rule (pv 0)) (pk_nil))))))), ?_⟩
  exact as_seq (as_if (ab_not (ab_ofB (ae_call (aa_cons (ae_var) (aa_nil))))) (as_no) (as_next))
    (as_ret (ae_makeC (aa_cons (ae_fld (ae_var) KC_Rule.cc KC_Rule.kc N_Rule__sizes) (aa_cons (ae_fld (ae_var) KC_Rule.cc KC_Rule.kc N_Rule__bad) (aa_nil))) (aa_cons (ae_fld (ae_var) KC_Rule.cc KC_Rule.kc N_Rule__soft) (aa_cons (ae_var) (aa_cons (ae_fld (ae_var) KC_Rule.cc KC_Rule.kc N_Rule__offer) (aa_nil)))) KC_Rule.cc))
abbrev s__law_right : Stmt := top 45
theorem sc__law_right : FnScope ["_law_bag_here", "_law_rule_here", "_law_stretch_here", "_law_size", "_law_good", "_law_less", "_law_lost", "_law_before", "_law_many", "_law_some", "_law_hard", "_law_mild", "_law_end_here", "_law_length", "_law_after", "_law_ahead", "_law_its", "_law_one_here"] ["_law_bag_here", "_law_rule_here", "_law_stretch_here", "_law_size"] (defScope s__law_right) := ⟨rfl, rfl, rfl, by decide +kernel, rfl, by decide +kernel, by decide +kernel⟩
def bd__law_right : DT := sSeq (sAsg (eTup (aCons (eCall 3 m_possible (aCons (eVar 1) (aCons (eVar 2) (aCons (eVar 3) (aNil))))) (aCons (eMeth "Rule" "with_soft" 2 m_Rule__with_soft (eVar 1) (aCons (eC (.bl false)) (aNil))) (aCons (eMeth "Rule" "with_soft" 2 m_Rule__with_soft (eVar 1) (aCons (eC (.bl true)) (aNil))) (aNil))))) (dTup 3 (dCons (dName 9) (dCons (dName 10) (dCons (dName 11) (dNil))))))
    (sSeq (sIf (bOf (e2 (mNe) (eCall 3 m_offered (aCons (eMeth "Rule" "with_sizes" 2 m_Rule__with_sizes (eVar 1) (aCons (eLst (aCons (eVar 3) (aNil))) (aNil))) (aCons (eVar 2) (aCons (eVar 3) (aNil))))) (eCall 3 m_offered (aCons (eVar 1) (aCons (eVar 2) (aCons (eVar 3) (aNil))))))) (sRet (eC (.bl false))) (sNext))
    (sSeq (sIf (bOf (e2 (mNe) (eCall 3 m_let (aCons (eMeth "Rule" "bare" 1 m_Rule__bare (eVar 1) aNil) (aCons (eVar 2) (aCons (eVar 3) (aNil))))) (eVar 9))) (sRet (eC (.bl false))) (sNext))
    (sSeq (sSet 4 (eCall 3 m_let (aCons (eVar 10) (aCons (eVar 2) (aCons (eVar 3) (aNil))))))
    (sSeq (sIf (bOr (bOf (e2 (mNe) (eCall 3 m_let (aCons (eVar 11) (aCons (eVar 2) (aCons (eVar 3) (aNil))))) (eIf (bOf (e2 (mNe) (eVar 4) (eLst (aNil)))) (eVar 4) (eVar 9)))) (bOf (e2 (mNe) (eLc [17] (iSeq (eVar 4)) (dName 17) (bOf (e2 (mIn true) (eVar 17) (eVar 9))) (eVar 17)) (eLst (aNil))))) (sRet (eC (.bl false))) (sNext))
    (sSeq (sPar 12 13 (aCons (eCall 1 m__law_end (aCons (eVar 0) (aNil))) (aCons (e2 mAdd (eC (.int 1)) (eCall 2 m__law_take (aCons (eVar 0) (aCons (eC (.int 5)) (aNil))))) (aNil))))
    (sSeq (sSet 5 (eCall 3 m_let (aCons (eMeth "Rule" "with_bad" 3 m_Rule__with_bad (eVar 10) (aCons (eVar 12) (aCons (e2 mAdd (eMeth "Rule" "bad_at" 2 m_Rule__bad_at (eVar 1) (aCons (eVar 12) (aNil))) (eLst (aCons (eVar 13) (aNil)))) (aNil)))) (aCons (eVar 2) (aCons (eVar 3) (aNil))))))
    (sSeq (sIf (bOf (e2 (mNe) (eLc [17] (iSeq (eVar 5)) (dName 17) (bOf (e2 (mIn true) (eVar 17) (eVar 4))) (eVar 17)) (eLst (aNil)))) (sRet (eC (.bl false))) (sNext))
    (sSeq (sSet 6 (eLc [17] (iSeq (eVar 4)) (dName 17) (bOf (e2 (mIn true) (eVar 17) (eVar 5))) (eVar 17)))
    (sSeq (sFor (iSeq (eVar 6)) (dName 7) (sSeq (sSet 14 (e2 mSub (e2 mSub (e2 mIx (eVar 2) (eC (.int 1))) (eVar 3)) (eVar 7)))
    (sSeq (sSet 15 (eAnd (e2 (mEq) (e2 mIx (eVar 2) (eC (.int 0))) (eVar 12)) (e2 (mEq) (eVar 7) (eVar 13))))
    (sIf (bAnd (bNot (bTru (eVar 15))) (bOr (bOf (e2 (mNe) (e2 mIx (eVar 2) (eC (.int 2))) (eVar 12))) (bOf (e2 (mNe) (eVar 14) (eVar 13))))) (sRet (eC (.bl false))) (sNext)))))
    (sSeq (sFor (iRange1 (eC (.int 6))) (dName 8) (sSeq (sSet 16 (eCall 3 m_let (aCons (eVar 1) (aCons (eVar 2) (aCons (eVar 3) (aNil))))))
    (sIf (bOf (e2 (mNe) (eCall 3 m_offered (aCons (eMeth "Rule" "with_offer" 2 m_Rule__with_offer (eVar 1) (aCons (eVar 8) (aNil))) (aCons (eVar 2) (aCons (eVar 3) (aNil))))) (eIf (bOf (e2 (mGt) (eVar 8) (eC (.int 0)))) (eSl (eVar 16) (oNo) (oSo (eVar 8))) (eVar 16)))) (sRet (eC (.bl false))) (sNext))))
    (sRet (e2 (mEq) (eLc [17] (iSeq (eCall 3 m_possible (aCons (eMeth "Rule" "with_where" 2 m_Rule__with_where (eVar 1) (aCons (eC (.str "side")) (aNil))) (aCons (eVar 2) (aCons (eVar 3) (aNil)))))) (dName 17) (bOf (e2 (mIn true) (eVar 17) (eVar 9))) (eVar 17)) (eLst (aNil))))))))))))))
def m__law_right : MF := mBody 18 bd__law_right
theorem ok__law_right {c_Rule : Addr} {f : Addr} {fd : FuncData} (F : Fun K "_law_right" "_law_right" s__law_right f fd)
    {f_let : Addr} {fd_let : FuncData} (D_let : Df K mg "let" s_let ["rule", "stretch", "size"] f_let fd_let) (G_let : FnG P w K mg base 6 f_let fd_let ["rule", "stretch", "size"] (spM K cl 3 m_let))
    {f_possible : Addr} {fd_possible : FuncData} (D_possible : Df K mg "possible" s_possible ["rule", "stretch", "size"] f_possible fd_possible) (G_possible : FnG P w K mg base 5 f_possible fd_possible ["rule", "stretch", "size"] (spM K cl 3 m_possible))
    {f_offered : Addr} {fd_offered : FuncData} (D_offered : Df K mg "offered" s_offered ["rule", "stretch", "size"] f_offered fd_offered) (G_offered : FnG P w K mg base 6 f_offered fd_offered ["rule", "stretch", "size"] (spM K cl 3 m_offered))
    {f__law_end : Addr} {fd__law_end : FuncData} (D__law_end : Df K mg "_law_end" s__law_end ["_law_bag_here"] f__law_end fd__law_end) (G__law_end : FnG P w K mg base 3 f__law_end fd__law_end ["_law_bag_here"] (spM K cl 1 m__law_end))
    {f__law_take : Addr} {fd__law_take : FuncData} (D__law_take : Df K mg "_law_take" s__law_take ["_law_bag_here", "_law_many"] f__law_take fd__law_take) (G__law_take : FnG P w K mg base 1 f__law_take fd__law_take ["_law_bag_here", "_law_many"] (spM K cl 2 m__law_take))
    (KC_Rule : Kc K mg cl "Rule" c_Rule)
    (M_Rule__with_soft : Mc P w K mg base cl 7 c_Rule "with_soft" ["self", "soft"] m_Rule__with_soft)
    (M_Rule__with_bad : Mc P w K mg base cl 7 c_Rule "with_bad" ["self", "end", "lengths"] m_Rule__with_bad)
    (M_Rule__with_sizes : Mc P w K mg base cl 7 c_Rule "with_sizes" ["self", "sizes"] m_Rule__with_sizes)
    (M_Rule__bare : Mc P w K mg base cl 7 c_Rule "bare" ["self"] m_Rule__bare)
    (M_Rule__bad_at : Mc P w K mg base cl 3 c_Rule "bad_at" ["self", "end"] m_Rule__bad_at)
    (M_Rule__with_offer : Mc P w K mg base cl 7 c_Rule "with_offer" ["self", "offer"] m_Rule__with_offer)
    (M_Rule__with_where : Mc P w K mg base cl 7 c_Rule "with_where" ["self", "where"] m_Rule__with_where)
    (B : Bn mg) : FnG P w K mg base 8 f fd ["_law_bag_here", "_law_rule_here", "_law_stretch_here", "_law_size"] (spM K cl 4 m__law_right) := by
  refine fnM (n := 4) (N := ["_law_bag_here", "_law_rule_here", "_law_stretch_here", "_law_size", "_law_good", "_law_less", "_law_lost", "_law_before", "_law_many", "_law_some", "_law_hard", "_law_mild", "_law_end_here", "_law_length", "_law_after", "_law_ahead", "_law_its", "_law_one_here"]) (m := bd__law_right) F sc__law_right rfl fun cdv A outer s H E hr => ⟨_, pss_cons (ps_asg (pe_tup (pa_cons (pe_callG G_possible (hr.mono (by decide)) (by rfl) D_possible.mg D_possible.kp D_possible.b (takes_of rfl rfl rfl rfl) (pa_cons (pv 1) (pa_cons (pv 2) (pa_cons (pv 3) (pa_nil))))) (pa_cons (pe_methC KC_Rule M_Rule__with_soft hr (by decide) (takes_of rfl rfl rfl rfl) (pv 1) (pa_cons (pe_bl) (pa_nil))) (pa_cons (pe_methC KC_Rule M_Rule__with_soft hr (by decide) (takes_of rfl rfl rfl rfl) (pv 1) (pa_cons (pe_bl) (pa_nil))) (pa_nil))))) (pg_tupK (K := K) (n := 3) rfl (pgs_cons (pg_name (i := 9) sc__law_right.nd rfl (by first | exact Or.inl rfl | exact Or.inr rfl)) (pgs_cons (pg_name (i := 10) sc__law_right.nd rfl (by first | exact Or.inl rfl | exact Or.inr rfl)) (pgs_cons (pg_name (i := 11) sc__law_right.nd rfl (by first | exact Or.inl rfl | exact Or.inr rfl)) (pgs_nil))))))
    (pss_cons (ps_if (pt_cmpR (r := rNeU K) (op_neU hr.r.units) (pe_callG G_offered (hr.mono (by decide)) (by rfl) D_offered.mg D_offered.kp D_offered.b (takes_of rfl rfl rfl rfl) (pa_cons (pe_methC KC_Rule M_Rule__with_sizes hr (by decide) (takes_of rfl rfl rfl rfl) (pv 1) (pa_cons (pe_lst (pa_cons (pv 3) (pa_nil))) (pa_nil))) (pa_cons (pv 2) (pa_cons (pv 3) (pa_nil))))) (pe_callG G_offered (hr.mono (by decide)) (by rfl) D_offered.mg D_offered.kp D_offered.b (takes_of rfl rfl rfl rfl) (pa_cons (pv 1) (pa_cons (pv 2) (pa_cons (pv 3) (pa_nil))))) (nomark _)) (pss_one (ps_ret (pe_bl))) (pss_nil))
    (pss_cons (ps_if (pt_cmpR (r := rNeU K) (op_neU hr.r.units) (pe_callG G_let (hr.mono (by decide)) (by rfl) D_let.mg D_let.kp D_let.b (takes_of rfl rfl rfl rfl) (pa_cons (pe_methC0 KC_Rule M_Rule__bare hr (by decide) (takes_of rfl rfl rfl rfl) (pv 1)) (pa_cons (pv 2) (pa_cons (pv 3) (pa_nil))))) (pv 9) (nomark _)) (pss_one (ps_ret (pe_bl))) (pss_nil))
    (pss_cons (ps_set (i := 4) sc__law_right.nd rfl (by first | exact Or.inl rfl | exact Or.inr rfl) (pe_callG G_let (hr.mono (by decide)) (by rfl) D_let.mg D_let.kp D_let.b (takes_of rfl rfl rfl rfl) (pa_cons (pv 10) (pa_cons (pv 2) (pa_cons (pv 3) (pa_nil))))))
    (pss_cons (ps_if (PW.pt (pw_or (pt_cmpR (r := rNeU K) (op_neU hr.r.units) (pe_callG G_let (hr.mono (by decide)) (by rfl) D_let.mg D_let.kp D_let.b (takes_of rfl rfl rfl rfl) (pa_cons (pv 11) (pa_cons (pv 2) (pa_cons (pv 3) (pa_nil))))) (pe_ifExp (pt_cmpR (r := rNeU K) (op_neU hr.r.units) (pv 4) (pe_lst (pa_nil)) (nomark _)) (pv 4) (pv 9)) (nomark _)) (pw_or1 (pt_cmpR (r := rNeU K) (op_neU hr.r.units) (pe_lc rfl sc__law_right.nd (pi_seqK (K := K) (pv 4)) (blkOk_by (N := ["_law_bag_here", "_law_rule_here", "_law_stretch_here", "_law_size", "_law_good", "_law_less", "_law_lost", "_law_before", "_law_many", "_law_some", "_law_hard", "_law_mild", "_law_end_here", "_law_length", "_law_after", "_law_ahead", "_law_its", "_law_one_here"]) (sc := defScope s__law_right) (own := [("_law_one_here", 17)]) (by decide +kernel)) (fun _ _ _ _ _ => pg_name (i := 17) sc__law_right.nd rfl (by first | exact Or.inl rfl | exact Or.inr rfl)) (fun _ _ _ _ _ => pts_one (pt_cmpR (r := rIn K true) op_notIn_seq (pv 17) (pv 9) (by rfl))) (fun _ _ _ _ _ => pv 17)) (pe_lst (pa_nil)) (nomark _))))) (pss_one (ps_ret (pe_bl))) (pss_nil))
    (pss_cons (ps_par (i := 12) (j := 13) (by rfl) sc__law_right.nd rfl rfl (by decide) rfl rfl (pa_cons (pe_callG G__law_end (hr.mono (by decide)) (by rfl) D__law_end.mg D__law_end.kp D__law_end.b (takes_of rfl rfl rfl rfl) (pa_cons (pv 0) (pa_nil))) (pa_cons (pe_op (r := rAddU K) op_addU (pe_int) (pe_callG G__law_take (hr.mono (by decide)) (by rfl) D__law_take.mg D__law_take.kp D__law_take.b (takes_of rfl rfl rfl rfl) (pa_cons (pv 0) (pa_cons (pe_int) (pa_nil))))) (pa_nil))) (by rfl))
    (pss_cons (ps_set (i := 5) sc__law_right.nd rfl (by first | exact Or.inl rfl | exact Or.inr rfl) (pe_callG G_let (hr.mono (by decide)) (by rfl) D_let.mg D_let.kp D_let.b (takes_of rfl rfl rfl rfl) (pa_cons (pe_methC KC_Rule M_Rule__with_bad hr (by decide) (takes_of rfl rfl rfl rfl) (pv 10) (pa_cons (pv 12) (pa_cons (pe_op (r := rAddU K) op_addU (pe_methC KC_Rule M_Rule__bad_at hr (by decide) (takes_of rfl rfl rfl rfl) (pv 1) (pa_cons (pv 12) (pa_nil))) (pe_lst (pa_cons (pv 13) (pa_nil)))) (pa_nil)))) (pa_cons (pv 2) (pa_cons (pv 3) (pa_nil))))))
    (pss_cons (ps_if (pt_cmpR (r := rNeU K) (op_neU hr.r.units) (pe_lc rfl sc__law_right.nd (pi_seqK (K := K) (pv 5)) (blkOk_by (N := ["_law_bag_here", "_law_rule_here", "_law_stretch_here", "_law_size", "_law_good", "_law_less", "_law_lost", "_law_before", "_law_many", "_law_some", "_law_hard", "_law_mild", "_law_end_here", "_law_length", "_law_after", "_law_ahead", "_law_its", "_law_one_here"]) (sc := defScope s__law_right) (own := [("_law_one_here", 17)]) (by decide +kernel)) (fun _ _ _ _ _ => pg_name (i := 17) sc__law_right.nd rfl (by first | exact Or.inl rfl | exact Or.inr rfl)) (fun _ _ _ _ _ => pts_one (pt_cmpR (r := rIn K true) op_notIn_seq (pv 17) (pv 4) (by rfl))) (fun _ _ _ _ _ => pv 17)) (pe_lst (pa_nil)) (nomark _)) (pss_one (ps_ret (pe_bl))) (pss_nil))
    (pss_cons (ps_setLc (i := 6) rfl sc__law_right.nd rfl rfl (sw_true rfl rfl rfl (by decide +kernel)) (pi_seqK (K := K) (pv 4)) (blkOk_by (N := ["_law_bag_here", "_law_rule_here", "_law_stretch_here", "_law_size", "_law_good", "_law_less", "_law_lost", "_law_before", "_law_many", "_law_some", "_law_hard", "_law_mild", "_law_end_here", "_law_length", "_law_after", "_law_ahead", "_law_its", "_law_one_here"]) (sc := defScope s__law_right) (own := [("_law_one_here", 17)]) (by decide +kernel)) (fun _ _ _ _ _ => pg_name (i := 17) sc__law_right.nd rfl (by first | exact Or.inl rfl | exact Or.inr rfl)) (fun _ _ _ _ _ => pts_one (pt_cmpR (r := rIn K true) op_notIn_seq (pv 17) (pv 5) (by rfl))) (fun _ _ _ _ _ => pv 17))
    (pss_cons (ps_for (passes_of rfl) rfl (pi_seqK (K := K) (pv 6)) (pg_name (i := 7) sc__law_right.nd rfl (by first | exact Or.inl rfl | exact Or.inr rfl)) (pss_cons (ps_set (i := 14) sc__law_right.nd rfl (by first | exact Or.inl rfl | exact Or.inr rfl) (pe_op op_sub (pe_op op_sub (pe_ix (r := rIx K) ix_seq (pv 2) (pe_int) (fun _ _ => rfl)) (pv 3)) (pv 7)))
    (pss_cons (ps_set (i := 15) sc__law_right.nd rfl (by first | exact Or.inl rfl | exact Or.inr rfl) (pe_and (pe_cmpR (r := rEqU K) (op_eqU hr.r.units) (pe_ix (r := rIx K) ix_seq (pv 2) (pe_int) (fun _ _ => rfl)) (pv 12) (nomark _)) (pe_one (pe_cmpR (r := rEqU K) (op_eqU hr.r.units) (pv 7) (pv 13) (nomark _)))))
    (pss_one (ps_if (PW.pt (pw_and (pt_not (pt_truth (pv 15) (fun _ => rfl))) (pw_and1 (PW.pt (pw_or (pt_cmpR (r := rNeU K) (op_neU hr.r.units) (pe_ix (r := rIx K) ix_seq (pv 2) (pe_int) (fun _ _ => rfl)) (pv 12) (nomark _)) (pw_or1 (pt_cmpR (r := rNeU K) (op_neU hr.r.units) (pv 14) (pv 13) (nomark _)))))))) (pss_one (ps_ret (pe_bl))) (pss_nil))))))
    (pss_cons (ps_for (passes_of rfl) rfl (pi_range1 (by rfl) B.b_range (pa_cons (pe_int) pa_nil)) (pg_name (i := 8) sc__law_right.nd rfl (by first | exact Or.inl rfl | exact Or.inr rfl)) (pss_cons (ps_set (i := 16) sc__law_right.nd rfl (by first | exact Or.inl rfl | exact Or.inr rfl) (pe_callG G_let (hr.mono (by decide)) (by rfl) D_let.mg D_let.kp D_let.b (takes_of rfl rfl rfl rfl) (pa_cons (pv 1) (pa_cons (pv 2) (pa_cons (pv 3) (pa_nil))))))
    (pss_one (ps_if (pt_cmpR (r := rNeU K) (op_neU hr.r.units) (pe_callG G_offered (hr.mono (by decide)) (by rfl) D_offered.mg D_offered.kp D_offered.b (takes_of rfl rfl rfl rfl) (pa_cons (pe_methC KC_Rule M_Rule__with_offer hr (by decide) (takes_of rfl rfl rfl rfl) (pv 1) (pa_cons (pv 8) (pa_nil))) (pa_cons (pv 2) (pa_cons (pv 3) (pa_nil))))) (pe_ifExp (pt_cmpR op_gt (pv 8) (pe_int) (nomark _)) (pe_slice (r := rSlU K) sl_U (pv 16) (po_none) (po_some (pv 8))) (pv 16)) (nomark _)) (pss_one (ps_ret (pe_bl))) (pss_nil)))))
    (pss_one (ps_ret (pe_cmpR (r := rEqU K) (op_eqU hr.r.units) (pe_lc rfl sc__law_right.nd (pi_seqK (K := K) (pe_callG G_possible (hr.mono (by decide)) (by rfl) D_possible.mg D_possible.kp D_possible.b (takes_of rfl rfl rfl rfl) (pa_cons (pe_methC KC_Rule M_Rule__with_where hr (by decide) (takes_of rfl rfl rfl rfl) (pv 1) (pa_cons (pe_str) (pa_nil))) (pa_cons (pv 2) (pa_cons (pv 3) (pa_nil)))))) (blkOk_by (N := ["_law_bag_here", "_law_rule_here", "_law_stretch_here", "_law_size", "_law_good", "_law_less", "_law_lost", "_law_before", "_law_many", "_law_some", "_law_hard", "_law_mild", "_law_end_here", "_law_length", "_law_after", "_law_ahead", "_law_its", "_law_one_here"]) (sc := defScope s__law_right) (own := [("_law_one_here", 17)]) (by decide +kernel)) (fun _ _ _ _ _ => pg_name (i := 17) sc__law_right.nd rfl (by first | exact Or.inl rfl | exact Or.inr rfl)) (fun _ _ _ _ _ => pts_one (pt_cmpR (r := rIn K true) op_notIn_seq (pv 17) (pv 9) (by rfl))) (fun _ _ _ _ _ => pv 17)) (pe_lst (pa_nil)) (nomark _)))))))))))))), ?_⟩
  exact as_seq (as_asg (ae_tup (aa_cons (ae_call (aa_cons (ae_var) (aa_cons (ae_var) (aa_cons (ae_var) (aa_nil))))) (aa_cons (ae_meth (ae_var) (aa_cons (ae_c fun _ _ _ => .bl _) (aa_nil)) KC_Rule.cc) (aa_cons (ae_meth (ae_var) (aa_cons (ae_c fun _ _ _ => .bl _) (aa_nil)) KC_Rule.cc) (aa_nil))))) (ag_tup (ags_cons (ag_name) (ags_cons (ag_name) (ags_cons (ag_name) (ags_nil))))))
    (as_seq (as_if (ab_of (ae_2 (ae_call (aa_cons (ae_meth (ae_var) (aa_cons (ae_lst (aa_cons (ae_var) (aa_nil))) (aa_nil)) KC_Rule.cc) (aa_cons (ae_var) (aa_cons (ae_var) (aa_nil))))) (ae_call (aa_cons (ae_var) (aa_cons (ae_var) (aa_cons (ae_var) (aa_nil))))) r2_ne)) (as_ret (ae_c fun _ _ _ => .bl _)) (as_next))
    (as_seq (as_if (ab_of (ae_2 (ae_call (aa_cons (ae_meth (ae_var) aa_nil KC_Rule.cc) (aa_cons (ae_var) (aa_cons (ae_var) (aa_nil))))) (ae_var) r2_ne)) (as_ret (ae_c fun _ _ _ => .bl _)) (as_next))
    (as_seq (as_set (ae_call (aa_cons (ae_var) (aa_cons (ae_var) (aa_cons (ae_var) (aa_nil))))))
    (as_seq (as_if (ab_or (ab_of (ae_2 (ae_call (aa_cons (ae_var) (aa_cons (ae_var) (aa_cons (ae_var) (aa_nil))))) (ae_if (ab_of (ae_2 (ae_var) (ae_lst (aa_nil)) r2_ne)) (ae_var) (ae_var)) r2_ne)) (ab_of (ae_2 (ae_lc (ai_seq (ae_var)) (ag_name) (ab_of (ae_2 (ae_var) (ae_var) r2_in)) (ae_var) (by decide)) (ae_lst (aa_nil)) r2_ne))) (as_ret (ae_c fun _ _ _ => .bl _)) (as_next))
    (as_seq (as_par (aa_cons (ae_call (aa_cons (ae_var) (aa_nil))) (aa_cons (ae_2 (ae_c fun _ _ _ => .int _) (ae_call (aa_cons (ae_var) (aa_cons (ae_c fun _ _ _ => .int _) (aa_nil)))) r2_add) (aa_nil))))
    (as_seq (as_set (ae_call (aa_cons (ae_meth (ae_var) (aa_cons (ae_var) (aa_cons (ae_2 (ae_meth (ae_var) (aa_cons (ae_var) (aa_nil)) KC_Rule.cc) (ae_lst (aa_cons (ae_var) (aa_nil))) r2_add) (aa_nil))) KC_Rule.cc) (aa_cons (ae_var) (aa_cons (ae_var) (aa_nil))))))
    (as_seq (as_if (ab_of (ae_2 (ae_lc (ai_seq (ae_var)) (ag_name) (ab_of (ae_2 (ae_var) (ae_var) r2_in)) (ae_var) (by decide)) (ae_lst (aa_nil)) r2_ne)) (as_ret (ae_c fun _ _ _ => .bl _)) (as_next))
    (as_seq (as_set (ae_lc (ai_seq (ae_var)) (ag_name) (ab_of (ae_2 (ae_var) (ae_var) r2_in)) (ae_var) (by decide)))
    (as_seq (as_for (ai_seq (ae_var)) (ag_name) (as_seq (as_set (ae_2 (ae_2 (ae_2 (ae_var) (ae_c fun _ _ _ => .int _) r2_ix) (ae_var) r2_sub) (ae_var) r2_sub))
    (as_seq (as_set (ae_and (ae_2 (ae_2 (ae_var) (ae_c fun _ _ _ => .int _) r2_ix) (ae_var) r2_eq) (ae_2 (ae_var) (ae_var) r2_eq)))
    (as_if (ab_and (ab_not (ab_tru (ae_var))) (ab_or (ab_of (ae_2 (ae_2 (ae_var) (ae_c fun _ _ _ => .int _) r2_ix) (ae_var) r2_ne)) (ab_of (ae_2 (ae_var) (ae_var) r2_ne)))) (as_ret (ae_c fun _ _ _ => .bl _)) (as_next)))))
    (as_seq (as_for (ai_range1 (ae_c fun _ _ _ => .int _)) (ag_name) (as_seq (as_set (ae_call (aa_cons (ae_var) (aa_cons (ae_var) (aa_cons (ae_var) (aa_nil))))))
    (as_if (ab_of (ae_2 (ae_call (aa_cons (ae_meth (ae_var) (aa_cons (ae_var) (aa_nil)) KC_Rule.cc) (aa_cons (ae_var) (aa_cons (ae_var) (aa_nil))))) (ae_if (ab_of (ae_2 (ae_var) (ae_c fun _ _ _ => .int _) r2_gt)) (ae_sl (ae_var) (ao_no) (ao_so (ae_var))) (ae_var)) r2_ne)) (as_ret (ae_c fun _ _ _ => .bl _)) (as_next))))
    (as_ret (ae_2 (ae_lc (ai_seq (ae_call (aa_cons (ae_meth (ae_var) (aa_cons (ae_c fun _ _ _ => .str _) (aa_nil)) KC_Rule.cc) (aa_cons (ae_var) (aa_cons (ae_var) (aa_nil)))))) (ag_name) (ab_of (ae_2 (ae_var) (ae_var) r2_in)) (ae_var) (by decide)) (ae_lst (aa_nil)) r2_eq))))))))))))
abbrev s_refuses : Stmt := top 24
theorem sc_refuses : FnScope ["rule", "stretch", "size"] ["rule", "stretch", "size"] (defScope s_refuses) := ⟨rfl, rfl, rfl, by decide +kernel, rfl, by decide +kernel, by decide +kernel⟩
def bd_refuses : DT := sRet (eNotT (eCall 3 m_offered (aCons (eVar 0) (aCons (eVar 1) (aCons (eVar 2) (aNil))))))
def m_refuses : MF := mBody 3 bd_refuses
theorem ok_refuses {f : Addr} {fd : FuncData} (F : Fun K "refuses" "refuses" s_refuses f fd)
    {f_offered : Addr} {fd_offered : FuncData} (D_offered : Df K mg "offered" s_offered ["rule", "stretch", "size"] f_offered fd_offered) (G_offered : FnG P w K mg base 6 f_offered fd_offered ["rule", "stretch", "size"] (spM K cl 3 m_offered)) : FnG P w K mg base 7 f fd ["rule", "stretch", "size"] (spM K cl 3 m_refuses) := by
  refine fnM (n := 3) (N := ["rule", "stretch", "size"]) (m := bd_refuses) F sc_refuses rfl fun cdv A outer s H E hr => ⟨_, pss_one (ps_ret (pe_notT (pe_callG G_offered (hr.mono (by decide)) (by rfl) D_offered.mg D_offered.kp D_offered.b (takes_of rfl rfl rfl rfl) (pa_cons (pv 0) (pa_cons (pv 1) (pa_cons (pv 2) (pa_nil))))))), ?_⟩
  exact as_ret (ae_notT (ae_call (aa_cons (ae_var) (aa_cons (ae_var) (aa_cons (ae_var) (aa_nil))))))
abbrev s_law : Stmt := top 46
theorem sc_law : FnScope ["_law_script", "_law_bag_here", "_law_turn", "_law_size", "_law_rule_here", "_law_stretch_here"] ["_law_script"] (defScope s_law) := ⟨rfl, rfl, rfl, by decide +kernel, rfl, by decide +kernel, by decide +kernel⟩
def bd_law : DT := sSeq (sFor (iRange1 (eC (.int 10))) (dName 2) (sSeq (sPar 4 5 (aCons (eCall 1 m__law_made (aCons (eCall 1 m__law_rule (aCons (eVar 1) (aNil))) (aNil))) (aCons (eCall 2 m__law_stretch (aCons (eVar 1) (aCons (eC (.int 16)) (aNil)))) (aNil))))
    (sFor (iSeq (eProp "Rule" m_Rule__sizes (eVar 4))) (dName 3) (sSeq (sIf (bNot (bOf (eCall 4 m__law_right (aCons (eVar 1) (aCons (eVar 4) (aCons (eVar 5) (aCons (eVar 3) (aNil)))))))) (sRet (eC (.bl false))) (sNext))
    (sIf (bOf (e2 (mNe) (eCall 3 m_refuses (aCons (eMeth "Rule" "bare" 1 m_Rule__bare (eVar 4) aNil) (aCons (eVar 5) (aCons (eVar 3) (aNil))))) (e2 (mLt) (e2 mIx (eVar 5) (eC (.int 1))) (eVar 3)))) (sRet (eC (.bl false))) (sNext))))))
    (sRet (eC (.bl true)))
def lawMeans : Prop := ∀ ns : List Int, ∃ g', bd_law ((List.replicate 6 none).set 1 (some .bag)) (bag0 ns) = some (.rt (.val (.bl true)), g')
theorem ok_law {c_Rule : Addr} {f : Addr} {fd : FuncData} (F : Fun K "law" "law" s_law f fd)
    {f__law_bag : Addr} {fd__law_bag : FuncData} (D__law_bag : Df K mg "_law_bag" s__law_bag ["_law_script"] f__law_bag fd__law_bag) (G__law_bag : FnG P w K mg base 1 f__law_bag fd__law_bag ["_law_script"] (spBag K))
    {f__law_made : Addr} {fd__law_made : FuncData} (D__law_made : Df K mg "_law_made" s__law_made ["_law_told"] f__law_made fd__law_made) (G__law_made : FnG P w K mg base 7 f__law_made fd__law_made ["_law_told"] (spM K cl 1 m__law_made))
    {f__law_stretch : Addr} {fd__law_stretch : FuncData} (D__law_stretch : Df K mg "_law_stretch" s__law_stretch ["_law_bag_here", "_law_upto"] f__law_stretch fd__law_stretch) (G__law_stretch : FnG P w K mg base 4 f__law_stretch fd__law_stretch ["_law_bag_here", "_law_upto"] (spM K cl 2 m__law_stretch))
    {f__law_rule : Addr} {fd__law_rule : FuncData} (D__law_rule : Df K mg "_law_rule" s__law_rule ["_law_bag_here"] f__law_rule fd__law_rule) (G__law_rule : FnG P w K mg base 3 f__law_rule fd__law_rule ["_law_bag_here"] (spM K cl 1 m__law_rule))
    {f__law_right : Addr} {fd__law_right : FuncData} (D__law_right : Df K mg "_law_right" s__law_right ["_law_bag_here", "_law_rule_here", "_law_stretch_here", "_law_size"] f__law_right fd__law_right) (G__law_right : FnG P w K mg base 8 f__law_right fd__law_right ["_law_bag_here", "_law_rule_here", "_law_stretch_here", "_law_size"] (spM K cl 4 m__law_right))
    {f_refuses : Addr} {fd_refuses : FuncData} (D_refuses : Df K mg "refuses" s_refuses ["rule", "stretch", "size"] f_refuses fd_refuses) (G_refuses : FnG P w K mg base 7 f_refuses fd_refuses ["rule", "stretch", "size"] (spM K cl 3 m_refuses))
    (KC_Rule : Kc K mg cl "Rule" c_Rule)
    (P_Rule__sizes : Pc P w K mg base cl 1 c_Rule "sizes" m_Rule__sizes)
    (M_Rule__bare : Mc P w K mg base cl 7 c_Rule "bare" ["self"] m_Rule__bare)
    (B : Bn mg)
    (hm : lawMeans) : FnG P w K mg base 9 f fd ["_law_script"] (spLaw K) := by
  refine fnLaw (cl := cl) (i := 1) (n := 5) (N := ["_law_script", "_law_bag_here", "_law_turn", "_law_size", "_law_rule_here", "_law_stretch_here"]) (m := bd_law) F sc_law rfl rfl (fun cdv A outer s H E hr => ⟨_, pss_cons (ps_set (i := 1) sc_law.nd rfl (by first | exact Or.inl rfl | exact Or.inr rfl) (pe_callG G__law_bag (hr.mono (by decide)) (by rfl) D__law_bag.mg D__law_bag.kp D__law_bag.b (takes_of rfl rfl rfl rfl) (pa_cons (pv 0) pa_nil)))
    (pss_cons (ps_for (passes_of rfl) rfl (pi_range1 (by rfl) B.b_range (pa_cons (pe_int) pa_nil)) (pg_name (i := 2) sc_law.nd rfl (by first | exact Or.inl rfl | exact Or.inr rfl)) (pss_cons (ps_par (i := 4) (j := 5) (by rfl) sc_law.nd rfl rfl (by decide) rfl rfl (pa_cons (pe_callG G__law_made (hr.mono (by decide)) (by rfl) D__law_made.mg D__law_made.kp D__law_made.b (takes_of rfl rfl rfl rfl) (pa_cons (pe_callG G__law_rule (hr.mono (by decide)) (by rfl) D__law_rule.mg D__law_rule.kp D__law_rule.b (takes_of rfl rfl rfl rfl) (pa_cons (pv 1) (pa_nil))) (pa_nil))) (pa_cons (pe_callG G__law_stretch (hr.mono (by decide)) (by rfl) D__law_stretch.mg D__law_stretch.kp D__law_stretch.b (takes_of rfl rfl rfl rfl) (pa_cons (pv 1) (pa_cons (pe_int) (pa_nil)))) (pa_nil))) (by rfl))
    (pss_one (ps_for (passes_of rfl) rfl (pi_seqK (K := K) (pe_propC KC_Rule P_Rule__sizes hr (by decide) (pv 4))) (pg_name (i := 3) sc_law.nd rfl (by first | exact Or.inl rfl | exact Or.inr rfl)) (pss_cons (ps_if (pt_not (pt_val (pe_callG G__law_right (hr.mono (by decide)) (by rfl) D__law_right.mg D__law_right.kp D__law_right.b (takes_of rfl rfl rfl rfl) (pa_cons (pv 1) (pa_cons (pv 4) (pa_cons (pv 5) (pa_cons (pv 3) (pa_nil)))))))) (pss_one (ps_ret (pe_bl))) (pss_nil))
    (pss_one (ps_if (pt_cmpR (r := rNeU K) (op_neU hr.r.units) (pe_callG G_refuses (hr.mono (by decide)) (by rfl) D_refuses.mg D_refuses.kp D_refuses.b (takes_of rfl rfl rfl rfl) (pa_cons (pe_methC0 KC_Rule M_Rule__bare hr (by decide) (takes_of rfl rfl rfl rfl) (pv 4)) (pa_cons (pv 5) (pa_cons (pv 3) (pa_nil))))) (pe_cmpR op_lt (pe_ix (r := rIx K) ix_seq (pv 5) (pe_int) (fun _ _ => rfl)) (pv 3) (nomark _)) (nomark _)) (pss_one (ps_ret (pe_bl))) (pss_nil))))))))
    (pss_one (ps_ret (pe_bl)))), ?_⟩) hm (by decide)
  exact as_seq (as_for (ai_range1 (ae_c fun _ _ _ => .int _)) (ag_name) (as_seq (as_par (aa_cons (ae_call (aa_cons (ae_call (aa_cons (ae_var) (aa_nil))) (aa_nil))) (aa_cons (ae_call (aa_cons (ae_var) (aa_cons (ae_c fun _ _ _ => .int _) (aa_nil)))) (aa_nil))))
    (as_for (ai_seq (ae_prop (ae_var) KC_Rule.cc)) (ag_name) (as_seq (as_if (ab_not (ab_ofB (ae_call (aa_cons (ae_var) (aa_cons (ae_var) (aa_cons (ae_var) (aa_cons (ae_var) (aa_nil)))))))) (as_ret (ae_c fun _ _ _ => .bl _)) (as_next))
    (as_if (ab_of (ae_2 (ae_call (aa_cons (ae_meth (ae_var) aa_nil KC_Rule.cc) (aa_cons (ae_var) (aa_cons (ae_var) (aa_nil))))) (ae_2 (ae_2 (ae_var) (ae_c fun _ _ _ => .int _) r2_ix) (ae_var) r2_lt) r2_ne)) (as_ret (ae_c fun _ _ _ => .bl _)) (as_next))))))
    (as_ret (ae_c fun _ _ _ => .bl _))
end
end K27

set_option Elab.async false
set_option linter.all false
set_option maxRecDepth 100000
set_option maxHeartbeats 8000000
namespace K27
open PySem PySem.Spec PyProof.Rows L2 Vi
def nobj : D → Bool
  | .obj _ _ => false
  | _ => true
def isInt : D → Bool
  | .int _ => true
  | _ => false
def isNum : D → Bool
  | .int i => decide (0 ≤ i)
  | _ => false
def isSz : D → Bool
  | .int i => szOk i
  | _ => false
theorem m_int {d : D} (h : nobj d = true) : m_is_integer [.val d] = mret (.val (.bl (isInt d))) := by
  cases d <;> first | rfl | cases h
theorem m_num {d : D} (h : nobj d = true) : m_is_number [.val d] = mret (.val (.bl (isNum d))) := by
  cases d <;> first | rfl | cases h
theorem m_sz {d : D} (h : nobj d = true) : m_is_size [.val d] = mret (.val (.bl (isSz d))) := by
  cases d with
  | int i =>
    have e := m_int (d := .int i) rfl
    simp only [q_ret, q_no, q_er, q_of, q_of0, q_next, q_seq, q_seq1, q_seq2, q_seq3, q_retS, q_set, q_asg, q_if, q_k, q_kB, q_ke, q_raise, q_body, q_b1, q_b2, q_b3, startD, rK, setK, asgK, EV.keep, EV.look, eAnd, eOr, eNot, eIf, _root_.Vi.e1, _root_.Vi.e2, eB1, eC, bOf, bNot, bAnd, bOr, eCall, aCons, aNil, argsOf, argOf, eVar, SV.ev, AV.sv, mI, mLe, mGe, mLt, mGt, mSub, mAdd, mL2, addD, mIx, ixD, eChain, eTup, eLst, keepL, dTup, dCons, dNil, dName, Option.map, Option.bind, List.map, List.length, List.replicate, List.append, List.cons_append, List.nil_append, List.getElem?_cons_zero, List.getElem?_cons_succ, List.set, Nat.sub_self, Nat.reduceAdd, Nat.reduceSub, Nat.reduceEqDiff, if_true, reduceIte, List.set_cons_zero, List.set_cons_succ, m_is_size, bd_is_size, e, isInt, isSz, szOk]
    by_cases h1 : 1 ≤ i
    · simp [h1]; simp only [q_ret, q_no, q_er, q_of, q_of0, q_next, q_seq, q_seq1, q_seq2, q_seq3, q_retS, q_set, q_asg, q_if, q_k, q_kB, q_ke, q_raise, q_body, q_b1, q_b2, q_b3, startD, rK, setK, asgK, EV.keep, EV.look, eAnd, eOr, eNot, eIf, _root_.Vi.e1, _root_.Vi.e2, eB1, eC, bOf, bNot, bAnd, bOr, eCall, aCons, aNil, argsOf, argOf, eVar, SV.ev, AV.sv, mI, mLe, mGe, mLt, mGt, mSub, mAdd, mL2, addD, mIx, ixD, eChain, eTup, eLst, keepL, dTup, dCons, dNil, dName, Option.map, Option.bind, List.map, List.length, List.replicate, List.append, List.cons_append, List.nil_append, List.getElem?_cons_zero, List.getElem?_cons_succ, List.set, Nat.sub_self, Nat.reduceAdd, Nat.reduceSub, Nat.reduceEqDiff, if_true, reduceIte, List.set_cons_zero, List.set_cons_succ]
    · simp [h1]; simp only [q_ret, q_no, q_er, q_of, q_of0, q_next, q_seq, q_seq1, q_seq2, q_seq3, q_retS, q_set, q_asg, q_if, q_k, q_kB, q_ke, q_raise, q_body, q_b1, q_b2, q_b3, startD, rK, setK, asgK, EV.keep, EV.look, eAnd, eOr, eNot, eIf, _root_.Vi.e1, _root_.Vi.e2, eB1, eC, bOf, bNot, bAnd, bOr, eCall, aCons, aNil, argsOf, argOf, eVar, SV.ev, AV.sv, mI, mLe, mGe, mLt, mGt, mSub, mAdd, mL2, addD, mIx, ixD, eChain, eTup, eLst, keepL, dTup, dCons, dNil, dName, Option.map, Option.bind, List.map, List.length, List.replicate, List.append, List.cons_append, List.nil_append, List.getElem?_cons_zero, List.getElem?_cons_succ, List.set, Nat.sub_self, Nat.reduceAdd, Nat.reduceSub, Nat.reduceEqDiff, if_true, reduceIte, List.set_cons_zero, List.set_cons_succ]
  | obj c fs => cases h
  | _ => rfl
theorem beq_dec {a b : Str} : (a == b) = decide (b = a) := by
  by_cases h : a = b
  · subst h; simp
  · have : ¬ b = a := fun z => h z.symm
    simp [h, this]
/-- a text in a tuple of texts -/
theorem m_end {s : Str} : m_is_end [.val (.str s)] = mret (.val (.bl (isEndB s))) := by
  have e : m_is_end [.val (.str s)] = mret (.val (.bl ((("pillar" : Str) == s) || ((("sold" : Str) == s) || ((("wall" : Str) == s) || false))))) := rfl
  rw [e]
  unfold isEndB
  rw [beq_dec, beq_dec, beq_dec, Bool.or_false, Bool.or_assoc]
theorem m_place {s : Str} : m__is_place [.val (.str s)] = mret (.val (.bl (decide (s = "any") || decide (s = "side")))) := by
  have e : m__is_place [.val (.str s)] = mret (.val (.bl ((("any" : Str) == s) || ((("side" : Str) == s) || false)))) := rfl
  rw [e, beq_dec, beq_dec, Bool.or_false]
theorem m_offer {i : Int} : m__is_offer [.val (.int i)] = mret (.val (.bl (decide (0 ≤ i) && decide (i ≤ 5)))) := by
  have e := m_num (d := .int i) rfl
  simp only [q_ret, q_no, q_er, q_of, q_of0, q_next, q_seq, q_seq1, q_seq2, q_seq3, q_retS, q_set, q_asg, q_if, q_k, q_kB, q_ke, q_raise, q_body, q_b1, q_b2, q_b3, startD, rK, setK, asgK, EV.keep, EV.look, eAnd, eOr, eNot, eIf, _root_.Vi.e1, _root_.Vi.e2, eB1, eC, bOf, bNot, bAnd, bOr, eCall, aCons, aNil, argsOf, argOf, eVar, SV.ev, AV.sv, mI, mLe, mGe, mLt, mGt, mSub, mAdd, mL2, addD, mIx, ixD, eChain, eTup, eLst, keepL, dTup, dCons, dNil, dName, Option.map, Option.bind, List.map, List.length, List.replicate, List.append, List.cons_append, List.nil_append, List.getElem?_cons_zero, List.getElem?_cons_succ, List.set, Nat.sub_self, Nat.reduceAdd, Nat.reduceSub, Nat.reduceEqDiff, if_true, reduceIte, List.set_cons_zero, List.set_cons_succ, m__is_offer, bd__is_offer, e, isNum]
  by_cases h : 0 ≤ i
  · simp only [h, decide_true, Bool.true_and]; simp only [q_ret, q_no, q_er, q_of, q_of0, q_next, q_seq, q_seq1, q_seq2, q_seq3, q_retS, q_set, q_asg, q_if, q_k, q_kB, q_ke, q_raise, q_body, q_b1, q_b2, q_b3, startD, rK, setK, asgK, EV.keep, EV.look, eAnd, eOr, eNot, eIf, _root_.Vi.e1, _root_.Vi.e2, eB1, eC, bOf, bNot, bAnd, bOr, eCall, aCons, aNil, argsOf, argOf, eVar, SV.ev, AV.sv, mI, mLe, mGe, mLt, mGt, mSub, mAdd, mL2, addD, mIx, ixD, eChain, eTup, eLst, keepL, dTup, dCons, dNil, dName, Option.map, Option.bind, List.map, List.length, List.replicate, List.append, List.cons_append, List.nil_append, List.getElem?_cons_zero, List.getElem?_cons_succ, List.set, Nat.sub_self, Nat.reduceAdd, Nat.reduceSub, Nat.reduceEqDiff, if_true, reduceIte, List.set_cons_zero, List.set_cons_succ]
  · simp only [h, decide_false, Bool.false_and]; simp; simp only [q_ret, q_no, q_er, q_of, q_of0, q_next, q_seq, q_seq1, q_seq2, q_seq3, q_retS, q_set, q_asg, q_if, q_k, q_kB, q_ke, q_raise, q_body, q_b1, q_b2, q_b3, startD, rK, setK, asgK, EV.keep, EV.look, eAnd, eOr, eNot, eIf, _root_.Vi.e1, _root_.Vi.e2, eB1, eC, bOf, bNot, bAnd, bOr, eCall, aCons, aNil, argsOf, argOf, eVar, SV.ev, AV.sv, mI, mLe, mGe, mLt, mGt, mSub, mAdd, mL2, addD, mIx, ixD, eChain, eTup, eLst, keepL, dTup, dCons, dNil, dName, Option.map, Option.bind, List.map, List.length, List.replicate, List.append, List.cons_append, List.nil_append, List.getElem?_cons_zero, List.getElem?_cons_succ, List.set, Nat.sub_self, Nat.reduceAdd, Nat.reduceSub, Nat.reduceEqDiff, if_true, reduceIte, List.set_cons_zero, List.set_cons_succ]
theorem ntsOf_cases {d : D} {ns : List Int} (h : ntsOf d = some ns) : d = lstI ns ∨ d = tupI ns := by
  cases d with
  | lst ds => exact Or.inl (by rw [asInt_eq (show asInt ds = some ns from h)]; rfl)
  | tup ds => exact Or.inr (by rw [asInt_eq (show asInt ds = some ns from h)]; rfl)
  | non => cases h
  | bl c => cases h
  | int i => cases h
  | str s => cases h
  | dct s => cases h
  | obj c s => cases h
theorem m_szs {d : D} {ns : List Int} (h : ntsOf d = some ns) (hl : ns.length ≤ 1000) : m_are_sizes [.val d] = mret (.val (.bl (ns.all szOk))) := by
  have key : ∀ g, eLc [1] (iSeq (eVar 0)) (dName 1) bYes (eCall 1 m_is_size (aCons (eVar 1) aNil)) [some (.val d), none] g = some (.ok (.nw (.lst ((ns.map szOk).map D.bl))), g) := fun g => by
    have hi : iSeq (eVar 0) [some (.val d), none] g = some (.ok (ns.map D.int), g) := by
      rcases ntsOf_cases h with rfl | rfl <;> rfl
    rw [eLc_map (fun x => .bl (isSz x)) hi rfl (fun x hx => ?_) (decide_eq_true (by rw [List.length_map]; omega))]
    · rw [List.map_map, List.map_map]
      rfl
    · obtain ⟨i, _, rfl⟩ := List.mem_map.mp hx
      refine ⟨_, rfl, .val (.bl (isSz (.int i))), ?_, rfl⟩
      rw [q_call (n := 1) (es := [.val (.int i)]) (as := [.val (.int i)]) rfl rfl rfl, m_sz rfl]
      rfl
  have key2 : eLc [1] (iSeq (eVar 0)) (dName 1) bYes (eCall 1 m_is_size (aCons (eVar 1) aNil)) [some (.val d), none] = mret (.nw (.lst ((ns.map szOk).map D.bl))) := funext key
  have ha : allE (.nw (.lst ((ns.map szOk).map D.bl))) = some (.val (.bl (ns.all szOk))) := by
    show (asBl ((ns.map szOk).map D.bl)).map _ = _
    rw [asBl_map]
    simp [List.all_map]
  rcases ntsOf_cases h with rfl | rfl
  · show mB (bd_are_sizes [some (.val (lstI ns)), none]) = _
    unfold bd_are_sizes
    have e1 : isi2E "list" "tuple" (.val (lstI ns)) = some (.val (.bl true)) := rfl
    simp only [q_ret, q_no, q_er, q_of, q_of0, q_next, q_seq, q_seq1, q_seq2, q_seq3, q_retS, q_set, q_asg, q_if, q_k, q_kB, q_ke, q_raise, q_body, q_b1, q_b2, q_b3, startD, rK, setK, asgK, EV.keep, EV.look, eAnd, eOr, eNot, eIf, _root_.Vi.e1, _root_.Vi.e2, eB1, eC, bOf, bNot, bAnd, bOr, eCall, aCons, aNil, argsOf, argOf, eVar, SV.ev, AV.sv, mI, mLe, mGe, mLt, mGt, mSub, mAdd, mL2, addD, mIx, ixD, eChain, eTup, eLst, keepL, dTup, dCons, dNil, dName, Option.map, Option.bind, List.map, List.length, List.replicate, List.append, List.cons_append, List.nil_append, List.getElem?_cons_zero, List.getElem?_cons_succ, List.set, Nat.sub_self, Nat.reduceAdd, Nat.reduceSub, Nat.reduceEqDiff, if_true, reduceIte, List.set_cons_zero, List.set_cons_succ, key2, ha, e1]
  · show mB (bd_are_sizes [some (.val (tupI ns)), none]) = _
    unfold bd_are_sizes
    have e1 : isi2E "list" "tuple" (.val (tupI ns)) = some (.val (.bl true)) := rfl
    simp only [q_ret, q_no, q_er, q_of, q_of0, q_next, q_seq, q_seq1, q_seq2, q_seq3, q_retS, q_set, q_asg, q_if, q_k, q_kB, q_ke, q_raise, q_body, q_b1, q_b2, q_b3, startD, rK, setK, asgK, EV.keep, EV.look, eAnd, eOr, eNot, eIf, _root_.Vi.e1, _root_.Vi.e2, eB1, eC, bOf, bNot, bAnd, bOr, eCall, aCons, aNil, argsOf, argOf, eVar, SV.ev, AV.sv, mI, mLe, mGe, mLt, mGt, mSub, mAdd, mL2, addD, mIx, ixD, eChain, eTup, eLst, keepL, dTup, dCons, dNil, dName, Option.map, Option.bind, List.map, List.length, List.replicate, List.append, List.cons_append, List.nil_append, List.getElem?_cons_zero, List.getElem?_cons_succ, List.set, Nat.sub_self, Nat.reduceAdd, Nat.reduceSub, Nat.reduceEqDiff, if_true, reduceIte, List.set_cons_zero, List.set_cons_succ, key2, ha, e1]
theorem m_rsz {d : D} {ns : List Int} (h : ntsOf d = some ns) (hl : ns.length ≤ 1000) (h1 : ns.all szOk = true) (h2 : ns.isEmpty = false) : m__are_rule_sizes [.val d] = mret (.val (.bl true)) := by
  have e := m_szs h hl
  have el : lenE (.val d) = some (.val (.int ns.length)) := by
    rcases ntsOf_cases h with rfl | rfl
    · show some (EV.val (.int (ns.map D.int).length)) = _; rw [List.length_map]
    · show some (EV.val (.int (ns.map D.int).length)) = _; rw [List.length_map]
  have hp : (0 : Int) < ns.length := by
    cases ns with
    | nil => cases h2
    | cons a r => simp only [List.length_cons]; omega
  show mB (bd__are_rule_sizes [some (.val d)]) = _
  unfold bd__are_rule_sizes
  simp only [q_ret, q_no, q_er, q_of, q_of0, q_next, q_seq, q_seq1, q_seq2, q_seq3, q_retS, q_set, q_asg, q_if, q_k, q_kB, q_ke, q_raise, q_body, q_b1, q_b2, q_b3, startD, rK, setK, asgK, EV.keep, EV.look, eAnd, eOr, eNot, eIf, _root_.Vi.e1, _root_.Vi.e2, eB1, eC, bOf, bNot, bAnd, bOr, eCall, aCons, aNil, argsOf, argOf, eVar, SV.ev, AV.sv, mI, mLe, mGe, mLt, mGt, mSub, mAdd, mL2, addD, mIx, ixD, eChain, eTup, eLst, keepL, dTup, dCons, dNil, dName, Option.map, Option.bind, List.map, List.length, List.replicate, List.append, List.cons_append, List.nil_append, List.getElem?_cons_zero, List.getElem?_cons_succ, List.set, Nat.sub_self, Nat.reduceAdd, Nat.reduceSub, Nat.reduceEqDiff, if_true, reduceIte, List.set_cons_zero, List.set_cons_succ, e, h1, el, hp, decide_true]
theorem m_asc {d : D} {ns : List Int} (h : ntsOf d = some ns) (hl : ns.length < 64) : m__ascending [.val d] = mret (.val (tupI (sortU ns))) := by
  have e : sortSetE (.val d) = some (.nw (lstI (sortU ns))) := by
    have : itemsE (.val d) = some (ns.map D.int) := by rcases ntsOf_cases h with rfl | rfl <;> rfl
    unfold sortSetE
    rw [this]
    show (asInt (ns.map D.int)).bind _ = _
    rw [asInt_map]
    show (if ns.length < 64 then _ else none) = _
    rw [if_pos hl]
    rfl
  have e2 : tupE (.nw (lstI (sortU ns))) = some (.val (tupI (sortU ns))) := rfl
  show mB (bd__ascending [some (.val d)]) = _
  unfold bd__ascending
  simp only [q_ret, q_no, q_er, q_of, q_of0, q_next, q_seq, q_seq1, q_seq2, q_seq3, q_retS, q_set, q_asg, q_if, q_k, q_kB, q_ke, q_raise, q_body, q_b1, q_b2, q_b3, startD, rK, setK, asgK, EV.keep, EV.look, eAnd, eOr, eNot, eIf, _root_.Vi.e1, _root_.Vi.e2, eB1, eC, bOf, bNot, bAnd, bOr, eCall, aCons, aNil, argsOf, argOf, eVar, SV.ev, AV.sv, mI, mLe, mGe, mLt, mGt, mSub, mAdd, mL2, addD, mIx, ixD, eChain, eTup, eLst, keepL, dTup, dCons, dNil, dName, Option.map, Option.bind, List.map, List.length, List.replicate, List.append, List.cons_append, List.nil_append, List.getElem?_cons_zero, List.getElem?_cons_succ, List.set, Nat.sub_self, Nat.reduceAdd, Nat.reduceSub, Nat.reduceEqDiff, if_true, reduceIte, List.set_cons_zero, List.set_cons_succ, e, e2]
theorem m_bad {d : D} {q : List Int × List Int × List Int} (h : badOf d = some q) : m__are_bad_lengths [.val d] = mret (.val (.bl true)) := by
  unfold badOf at h
  split at h
  · rfl
  · rename_i kvs
    split at h
    · rename_i hk
      rw [Bool.and_eq_true] at hk
      have hn : kvs.length < 1000 := of_decide_eq_true hk.2
      have key : eZ (lkVar 0) (eLc [1, 2] (iItemsD (lkVar 0)) (dTup 2 (dCons (dName 1) (dCons (dName 2) (dNil)))) (bYes) (eAnd (eCall 1 m_is_end (aCons (eVar 1) (aNil))) (eCall 1 m_are_sizes (aCons (eVar 2) (aNil))))) [some (.val (.dct kvs)), none, none] = mret (.nw (.lst ((kvs.map fun _ => true).map D.bl))) := by
        funext g
        have e : eLc [1, 2] (iItemsD (lkVar 0)) (dTup 2 (dCons (dName 1) (dCons (dName 2) (dNil)))) (bYes) (eAnd (eCall 1 m_is_end (aCons (eVar 1) (aNil))) (eCall 1 m_are_sizes (aCons (eVar 2) (aNil)))) [some (.val (.dct kvs)), none, none] g = some (.ok (.nw (.lst ((kvs.map fun _ => true).map D.bl))), g) := by
          have hi : iItemsD (lkVar 0) [some (.val (.dct kvs)), none, none] g = some (.ok (kvs.map fun kv => .tup [keyD kv.1, kv.2]), g) := rfl
          rw [eLc_map (fun _ => .bl true) hi rfl (fun x hx => ?_) (decide_eq_true (by rw [List.length_map]; omega))]
          · rw [List.map_map, List.map_map]
            rfl
          · obtain ⟨⟨k, v⟩, hm, rfl⟩ := List.mem_map.mp hx
            have hb := List.all_eq_true.mp hk.1 _ hm
            unfold badKv at hb
            cases k with
            | inl i => cases hb
            | inr s =>
              dsimp only at hb
              rw [Bool.and_eq_true] at hb
              obtain ⟨hb1, hb2⟩ := hb
              unfold numsOk at hb2
              split at hb2
              · rename_i ns hns
                rw [Bool.and_eq_true] at hb2
                have hlen : ns.length < 64 := of_decide_eq_true hb2.2
                refine ⟨_, rfl, .val (.bl true), ?_, rfl⟩
                have e1 := m_end (s := s)
                have e2 := m_szs hns (by omega)
                show eAnd _ _ [some (.val (.dct kvs)), some (.val (.str s)), some (.val v)] g = _
                simp only [q_ret, q_no, q_er, q_of, q_of0, q_next, q_seq, q_seq1, q_seq2, q_seq3, q_retS, q_set, q_asg, q_if, q_k, q_kB, q_ke, q_raise, q_body, q_b1, q_b2, q_b3, startD, rK, setK, asgK, EV.keep, EV.look, eAnd, eOr, eNot, eIf, _root_.Vi.e1, _root_.Vi.e2, eB1, eC, bOf, bNot, bAnd, bOr, eCall, aCons, aNil, argsOf, argOf, eVar, SV.ev, AV.sv, mI, mLe, mGe, mLt, mGt, mSub, mAdd, mL2, addD, mIx, ixD, eChain, eTup, eLst, keepL, dTup, dCons, dNil, dName, Option.map, Option.bind, List.map, List.length, List.replicate, List.append, List.cons_append, List.nil_append, List.getElem?_cons_zero, List.getElem?_cons_succ, List.set, Nat.sub_self, Nat.reduceAdd, Nat.reduceSub, Nat.reduceEqDiff, if_true, reduceIte, List.set_cons_zero, List.set_cons_succ, e1, hb1, e2, hb2.1]
                rfl
              · cases hb2
        exact eZ_ok (kvs := kvs) rfl e
      have ha : allE (.nw (.lst ((kvs.map fun _ => true).map D.bl))) = some (.val (.bl true)) := by
        show (asBl ((kvs.map fun _ => true).map D.bl)).map _ = _
        rw [asBl_map]
        simp [List.all_map]
      have e1 : isiE "dict" (.val (.dct kvs)) = some (.val (.bl true)) := rfl
      have e2 : isNon (.val (.dct kvs)) = some false := rfl
      show mB (bd__are_bad_lengths [some (.val (.dct kvs)), none, none]) = _
      unfold bd__are_bad_lengths
      simp only [q_ret, q_no, q_er, q_of, q_of0, q_next, q_seq, q_seq1, q_seq2, q_seq3, q_retS, q_set, q_asg, q_if, q_k, q_kB, q_ke, q_raise, q_body, q_b1, q_b2, q_b3, startD, rK, setK, asgK, EV.keep, EV.look, eAnd, eOr, eNot, eIf, _root_.Vi.e1, _root_.Vi.e2, eB1, eC, bOf, bNot, bAnd, bOr, eCall, aCons, aNil, argsOf, argOf, eVar, SV.ev, AV.sv, mI, mLe, mGe, mLt, mGt, mSub, mAdd, mL2, addD, mIx, ixD, eChain, eTup, eLst, keepL, dTup, dCons, dNil, dName, Option.map, Option.bind, List.map, List.length, List.replicate, List.append, List.cons_append, List.nil_append, List.getElem?_cons_zero, List.getElem?_cons_succ, List.set, Nat.sub_self, Nat.reduceAdd, Nat.reduceSub, Nat.reduceEqDiff, if_true, reduceIte, List.set_cons_zero, List.set_cons_succ, key, ha, e1, e2, mIsN, Bool.not_true, Bool.false_eq_true, if_false]
    · cases h
  · cases h
end K27

set_option Elab.async false
set_option linter.all false
set_option maxRecDepth 100000
set_option maxHeartbeats 8000000
namespace K27
open PySem PySem.Spec PyProof.Rows L2 Vi
/-! making a rule -/
theorem f_st {m : DT} {δ δ' : DS} {fs : List (Str × D)} {g : Bag} (h : m δ = dret (.nx δ')) : fSt m δ fs g = some (δ', fs, g) := by
  unfold fSt
  rw [h]
  rfl
theorem f_set {f : Str} {me : DE} {δ : DS} {fs : List (Str × D)} {g : Bag} {e : EV} {d : D} (h : me δ = mret e) (hk : e.keep = some d) (hl : fs.length < 1000) : fSet f me δ fs g = some (δ, putD f d fs, g) := by
  unfold fSet
  rw [h]
  show (match e.keep with
    | some d => if fs.length < 1000 then some (δ, putD f d fs, g) else none
    | none => none) = _
  rw [hk]
  exact if_pos hl
theorem f_seq {m1 m2 : DF} {δ δ1 : DS} {fs fs1 : List (Str × D)} {g g1 : Bag} {r : Option (DS × List (Str × D) × Bag)} (h1 : m1 δ fs g = some (δ1, fs1, g1)) (h0 : same0 δ δ1 = true) (h2 : m2 δ1 fs1 g1 = r) : fSeq m1 m2 δ fs g = r := by
  unfold fSeq
  rw [h1]
  dsimp only
  rw [if_pos h0]
  exact h2
theorem put_miss {f g : Str} {d x : D} {r : List (Str × D)} (h : ¬ g = f) : putD f d ((g, x) :: r) = (g, x) :: putD f d r := if_neg h
theorem put_nil {f : Str} {d : D} : putD f d [] = [(f, d)] := rfl
def toldOf : D → D
  | .non => .dct []
  | d => d
def pick (q : List Int × List Int × List Int) (e : Str) : List Int := if e = "pillar" then q.1 else if e = "sold" then q.2.1 else q.2.2
theorem ends_of {e : Str} (he : isEndB e = true) : e = "pillar" ∨ e = "sold" ∨ e = "wall" := by
  unfold isEndB at he
  simp only [Bool.or_eq_true, decide_eq_true_eq] at he
  rcases he with (h | h) | h
  · exact Or.inl h
  · exact Or.inr (Or.inl h)
  · exact Or.inr (Or.inr h)
theorem pick_p {q : List Int × List Int × List Int} : pick q "pillar" = q.1 := if_pos rfl
theorem pick_s {q : List Int × List Int × List Int} : pick q "sold" = q.2.1 := by
  unfold pick
  rw [if_neg (by decide +kernel), if_pos rfl]
theorem pick_w {q : List Int × List Int × List Int} : pick q "wall" = q.2.2 := by
  unfold pick
  rw [if_neg (by decide +kernel), if_neg (by decide +kernel)]
theorem bad_get {b : D} {q : List Int × List Int × List Int} (h : badOf b = some q) {e : Str} (he : isEndB e = true) :
    ∃ kvs, toldOf b = .dct kvs ∧ ∃ d, (match valD kvs (.inr e) with | some d => d | none => .tup []) = d ∧ ntsOf d = some (pick q e) ∧ (pick q e).length < 64 := by
  have hb : (b = .non ∧ q = ([], [], [])) ∨ ∃ kvs, b = .dct kvs ∧ kvs.all badKv = true ∧ q = (badAt kvs "pillar", badAt kvs "sold", badAt kvs "wall") := by
    cases b with
    | non => cases h; exact Or.inl ⟨rfl, rfl⟩
    | dct kvs =>
      have h' : (if (kvs.all badKv && decide (kvs.length < 1000)) = true then some (badAt kvs "pillar", badAt kvs "sold", badAt kvs "wall") else none) = some q := h
      split at h'
      · rename_i hk
        cases h'
        exact Or.inr ⟨kvs, rfl, (Bool.and_eq_true_iff.mp hk).1, rfl⟩
      · cases h'
    | bl c => cases h
    | int i => cases h
    | str s => cases h
    | lst s => cases h
    | tup s => cases h
    | obj c s => cases h
  rcases hb with ⟨rfl, rfl⟩ | ⟨kvs, rfl, hk, rfl⟩
  · refine ⟨[], rfl, .tup [], rfl, ?_, ?_⟩
    · rcases ends_of he with rfl | rfl | rfl
      · rw [pick_p]; rfl
      · rw [pick_s]; rfl
      · rw [pick_w]; rfl
    · rcases ends_of he with rfl | rfl | rfl
      · rw [pick_p]; decide
      · rw [pick_s]; decide
      · rw [pick_w]; decide
  · have hsel : pick (badAt kvs "pillar", badAt kvs "sold", badAt kvs "wall") e = badAt kvs e := by
      rcases ends_of he with rfl | rfl | rfl
      · exact pick_p
      · exact pick_s
      · exact pick_w
    rw [hsel]
    have hl := badAt_ok hk e
    refine ⟨kvs, rfl, _, rfl, ?_, hl.2⟩
    unfold badAt
    cases hv : valD kvs (.inr e) with
    | none => rfl
    | some d =>
      dsimp only
      unfold valD at hv
      obtain ⟨kv, h1, rfl⟩ := Option.map_eq_some_iff.mp hv
      have hm := List.all_eq_true.mp hk kv (List.mem_of_find?_eq_some h1)
      unfold badKv at hm
      split at hm
      · have h2 : numsOk kv.2 = true := (Bool.and_eq_true_iff.mp hm).2
        unfold numsOk at h2
        split at h2
        · rename_i ns hn
          rw [hn]
          rfl
        · cases h2
      · cases hm
theorem mkRl_inv {a b : D} {soft : Bool} {w : Str} {off : Int} {r : Rl} (h : mkRl a b soft w off = some r) : ∃ ns q, ntsOf a = some ns ∧ badOf b = some q ∧ ns.all szOk = true ∧ ns.length < 64 ∧ ns.isEmpty = false ∧ (w = "any" ∨ w = "side") ∧ 0 ≤ off ∧ off ≤ 5 ∧ r = ⟨sortU ns, sortU q.1, sortU q.2.1, sortU q.2.2, soft, decide (w = "side"), off⟩ := by
  unfold mkRl at h
  obtain ⟨ns, h1, h⟩ := Option.bind_eq_some_iff.mp h
  obtain ⟨q, h2, h⟩ := Option.bind_eq_some_iff.mp h
  split at h
  · rename_i hc
    cases h
    simp only [Bool.and_eq_true, Bool.or_eq_true, decide_eq_true_eq] at hc
    obtain ⟨⟨⟨⟨c1, c2⟩, c3⟩, c4⟩, c5⟩ := hc
    unfold numsOk at c1
    rw [h1] at c1
    dsimp only at c1
    rw [Bool.and_eq_true] at c1
    exact ⟨ns, q, h1, h2, c1.1, of_decide_eq_true c1.2, by simpa using c2, c3, c4, c5, rfl⟩
  · cases h
theorem asc_get {kvs : List (Key × D)} {e : Str} {d : D} {s0 s1 s2 s3 s4 s5 : Option SV} (h : (match valD kvs (.inr e) with | some d => d | none => .tup []) = d) :
    (aCons (eDGet2 (eVar 6) (eVar 7) (eTup (aNil))) (aNil)) [s0, s1, s2, s3, s4, s5, some (.val (.dct kvs)), some (.val (.str e))] = mret [EV.val d] := by
  have r : (aCons (eDGet2 (eVar 6) (eVar 7) (eTup (aNil))) (aNil)) [s0, s1, s2, s3, s4, s5, some (.val (.dct kvs)), some (.val (.str e))] = mbind (mof (dget2D kvs (.val (.str e)) (.val (.tup [])))) fun x => mret [x] := rfl
  rw [r]
  have e2 : dget2D kvs (.val (.str e)) (.val (.tup [])) = some (.val d) := by
    show some (match valD kvs (.inr e) with
      | some d => EV.val d
      | none => .val (.tup [])) = _
    subst h
    cases valD kvs (.inr e) <;> rfl
  rw [e2]
  rfl
theorem hm_Rule : ∀ (x : Addr) (as : List AV) (g g' : Bag) (fs : List (Str × D)), F_Rule as g = some (.ok fs, g') → ∃ δ', bd_Rule__init (startD 8 (.slf x :: as)) [] g = some (δ', fs, g') := by
  intro x as g g' fs h
  unfold F_Rule at h
  split at h
  · rename_i a b soft w off
    obtain ⟨r, h1, h2⟩ := Option.map_eq_some_iff.mp h
    cases h2
    obtain ⟨ns, q, ha, hb, hs, hl, hne, hw, ho0, ho5, rfl⟩ := mkRl_inv h1
    have e1 := m_rsz ha (by omega) hs hne
    have e2 := m_bad hb
    have e3 := m_place (s := w)
    have e3' : (decide (w = "any") || decide (w = "side")) = true := by
      rcases hw with rfl | rfl
      · rw [decide_eq_true rfl]; rfl
      · rw [decide_eq_true (p := ("side" : Str) = "side") rfl, Bool.or_true]
    rw [e3'] at e3
    have e4 := m_offer (i := off)
    rw [decide_eq_true ho0, decide_eq_true ho5] at e4
    have e5 := m_asc ha hl
    obtain ⟨kvs, ht, dp, hp1, hp2, hp3⟩ := bad_get hb (e := "pillar") (by decide +kernel)
    obtain ⟨kvs', ht', ds, hs1, hs2, hs3⟩ := bad_get hb (e := "sold") (by decide +kernel)
    obtain ⟨kvs'', ht'', dw, hw1, hw2, hw3⟩ := bad_get hb (e := "wall") (by decide +kernel)
    rw [ht] at ht' ht''
    cases ht'
    cases ht''
    rw [pick_p] at hp2 hp3
    rw [pick_s] at hs2 hs3
    rw [pick_w] at hw2 hw3
    have ep := m_asc hp2 hp3
    have es := m_asc hs2 hs3
    have ew := m_asc hw2 hw3
    have wh : (⟨sortU ns, sortU q.1, sortU q.2.1, sortU q.2.2, soft, decide (w = "side"), off⟩ : Rl).wh = w := by
      unfold Rl.wh
      rcases hw with rfl | rfl
      · rw [if_neg (by show ¬ decide (("any" : Str) = "side") = true; decide +kernel)]
      · rw [if_pos (by show decide (("side" : Str) = "side") = true; decide +kernel)]
    refine ⟨[some (.exc x), some (.val a), some (.val b), some (.val (.bl soft)), some (.val (.str w)), some (.val (.int off)), some (.val (.dct kvs)), none], ?_⟩
    unfold bd_Rule__init
    have s0 : startD 8 (.slf x :: [.val a, .val b, .val (.bl soft), .val (.str w), .val (.int off)]) = [some (.exc x), some (.val a), some (.val b), some (.val (.bl soft)), some (.val (.str w)), some (.val (.int off)), none, none] := rfl
    rw [s0]
    refine f_seq (f_st (δ' := [some (.exc x), some (.val a), some (.val b), some (.val (.bl soft)), some (.val (.str w)), some (.val (.int off)), none, none]) ?_) (by simp [same0]) ?_
    · simp only [q_ret, q_no, q_er, q_of, q_of0, q_next, q_seq, q_seq1, q_seq2, q_seq3, q_retS, q_set, q_asg, q_if, q_k, q_kB, q_ke, q_raise, q_body, q_b1, q_b2, q_b3, startD, rK, setK, asgK, EV.keep, EV.look, eAnd, eOr, eNot, eIf, _root_.Vi.e1, _root_.Vi.e2, eB1, eC, bOf, bNot, bAnd, bOr, eCall, aCons, aNil, argsOf, argOf, eVar, SV.ev, AV.sv, mI, mLe, mGe, mLt, mGt, mSub, mAdd, mL2, addD, mIx, ixD, eChain, eTup, eLst, keepL, dTup, dCons, dNil, dName, Option.map, Option.bind, List.map, List.length, List.replicate, List.append, List.cons_append, List.nil_append, List.getElem?_cons_zero, List.getElem?_cons_succ, List.set, Nat.sub_self, Nat.reduceAdd, Nat.reduceSub, Nat.reduceEqDiff, if_true, reduceIte, List.set_cons_zero, List.set_cons_succ, e1, Bool.not_true, Bool.false_eq_true, if_false]
    refine f_seq (f_st (δ' := [some (.exc x), some (.val a), some (.val b), some (.val (.bl soft)), some (.val (.str w)), some (.val (.int off)), none, none]) ?_) (by simp [same0]) ?_
    · simp only [q_ret, q_no, q_er, q_of, q_of0, q_next, q_seq, q_seq1, q_seq2, q_seq3, q_retS, q_set, q_asg, q_if, q_k, q_kB, q_ke, q_raise, q_body, q_b1, q_b2, q_b3, startD, rK, setK, asgK, EV.keep, EV.look, eAnd, eOr, eNot, eIf, _root_.Vi.e1, _root_.Vi.e2, eB1, eC, bOf, bNot, bAnd, bOr, eCall, aCons, aNil, argsOf, argOf, eVar, SV.ev, AV.sv, mI, mLe, mGe, mLt, mGt, mSub, mAdd, mL2, addD, mIx, ixD, eChain, eTup, eLst, keepL, dTup, dCons, dNil, dName, Option.map, Option.bind, List.map, List.length, List.replicate, List.append, List.cons_append, List.nil_append, List.getElem?_cons_zero, List.getElem?_cons_succ, List.set, Nat.sub_self, Nat.reduceAdd, Nat.reduceSub, Nat.reduceEqDiff, if_true, reduceIte, List.set_cons_zero, List.set_cons_succ, e2, Bool.not_true, Bool.false_eq_true, if_false]
    refine f_seq (f_st (δ' := [some (.exc x), some (.val a), some (.val b), some (.val (.bl soft)), some (.val (.str w)), some (.val (.int off)), none, none]) ?_) (by simp [same0]) ?_
    · have e : isiE "bool" (.val (.bl soft)) = some (.val (.bl true)) := rfl
      simp only [q_ret, q_no, q_er, q_of, q_of0, q_next, q_seq, q_seq1, q_seq2, q_seq3, q_retS, q_set, q_asg, q_if, q_k, q_kB, q_ke, q_raise, q_body, q_b1, q_b2, q_b3, startD, rK, setK, asgK, EV.keep, EV.look, eAnd, eOr, eNot, eIf, _root_.Vi.e1, _root_.Vi.e2, eB1, eC, bOf, bNot, bAnd, bOr, eCall, aCons, aNil, argsOf, argOf, eVar, SV.ev, AV.sv, mI, mLe, mGe, mLt, mGt, mSub, mAdd, mL2, addD, mIx, ixD, eChain, eTup, eLst, keepL, dTup, dCons, dNil, dName, Option.map, Option.bind, List.map, List.length, List.replicate, List.append, List.cons_append, List.nil_append, List.getElem?_cons_zero, List.getElem?_cons_succ, List.set, Nat.sub_self, Nat.reduceAdd, Nat.reduceSub, Nat.reduceEqDiff, if_true, reduceIte, List.set_cons_zero, List.set_cons_succ, e, Bool.not_true, Bool.false_eq_true, if_false]
    refine f_seq (f_st (δ' := [some (.exc x), some (.val a), some (.val b), some (.val (.bl soft)), some (.val (.str w)), some (.val (.int off)), none, none]) ?_) (by simp [same0]) ?_
    · simp only [q_ret, q_no, q_er, q_of, q_of0, q_next, q_seq, q_seq1, q_seq2, q_seq3, q_retS, q_set, q_asg, q_if, q_k, q_kB, q_ke, q_raise, q_body, q_b1, q_b2, q_b3, startD, rK, setK, asgK, EV.keep, EV.look, eAnd, eOr, eNot, eIf, _root_.Vi.e1, _root_.Vi.e2, eB1, eC, bOf, bNot, bAnd, bOr, eCall, aCons, aNil, argsOf, argOf, eVar, SV.ev, AV.sv, mI, mLe, mGe, mLt, mGt, mSub, mAdd, mL2, addD, mIx, ixD, eChain, eTup, eLst, keepL, dTup, dCons, dNil, dName, Option.map, Option.bind, List.map, List.length, List.replicate, List.append, List.cons_append, List.nil_append, List.getElem?_cons_zero, List.getElem?_cons_succ, List.set, Nat.sub_self, Nat.reduceAdd, Nat.reduceSub, Nat.reduceEqDiff, if_true, reduceIte, List.set_cons_zero, List.set_cons_succ, e3, Bool.not_true, Bool.false_eq_true, if_false]
    refine f_seq (f_st (δ' := [some (.exc x), some (.val a), some (.val b), some (.val (.bl soft)), some (.val (.str w)), some (.val (.int off)), none, none]) ?_) (by simp [same0]) ?_
    · simp only [q_ret, q_no, q_er, q_of, q_of0, q_next, q_seq, q_seq1, q_seq2, q_seq3, q_retS, q_set, q_asg, q_if, q_k, q_kB, q_ke, q_raise, q_body, q_b1, q_b2, q_b3, startD, rK, setK, asgK, EV.keep, EV.look, eAnd, eOr, eNot, eIf, _root_.Vi.e1, _root_.Vi.e2, eB1, eC, bOf, bNot, bAnd, bOr, eCall, aCons, aNil, argsOf, argOf, eVar, SV.ev, AV.sv, mI, mLe, mGe, mLt, mGt, mSub, mAdd, mL2, addD, mIx, ixD, eChain, eTup, eLst, keepL, dTup, dCons, dNil, dName, Option.map, Option.bind, List.map, List.length, List.replicate, List.append, List.cons_append, List.nil_append, List.getElem?_cons_zero, List.getElem?_cons_succ, List.set, Nat.sub_self, Nat.reduceAdd, Nat.reduceSub, Nat.reduceEqDiff, if_true, reduceIte, List.set_cons_zero, List.set_cons_succ, e4, Bool.and_self, Bool.not_true, Bool.false_eq_true, if_false]
    refine f_seq (f_st (δ' := [some (.exc x), some (.val a), some (.val b), some (.val (.bl soft)), some (.val (.str w)), some (.val (.int off)), some (.val (.dct kvs)), none]) ?_) (by simp [same0]) ?_
    · cases b with
      | non =>
        cases ht
        rfl
      | dct k =>
        cases ht
        rfl
      | bl c => cases hb
      | int i => cases hb
      | str s => cases hb
      | lst s => cases hb
      | tup s => cases hb
      | obj c s => cases hb
    refine f_seq (f_set (e := .val (tupI (sortU ns))) (d := tupI (sortU ns)) ?_ rfl (by decide)) (by simp [same0]) ?_
    · simp only [q_ret, q_no, q_er, q_of, q_of0, q_next, q_seq, q_seq1, q_seq2, q_seq3, q_retS, q_set, q_asg, q_if, q_k, q_kB, q_ke, q_raise, q_body, q_b1, q_b2, q_b3, startD, rK, setK, asgK, EV.keep, EV.look, eAnd, eOr, eNot, eIf, _root_.Vi.e1, _root_.Vi.e2, eB1, eC, bOf, bNot, bAnd, bOr, eCall, aCons, aNil, argsOf, argOf, eVar, SV.ev, AV.sv, mI, mLe, mGe, mLt, mGt, mSub, mAdd, mL2, addD, mIx, ixD, eChain, eTup, eLst, keepL, dTup, dCons, dNil, dName, Option.map, Option.bind, List.map, List.length, List.replicate, List.append, List.cons_append, List.nil_append, List.getElem?_cons_zero, List.getElem?_cons_succ, List.set, Nat.sub_self, Nat.reduceAdd, Nat.reduceSub, Nat.reduceEqDiff, if_true, reduceIte, List.set_cons_zero, List.set_cons_succ, e5]
    refine f_seq (f_set (e := .nw (.dct [(.inr "pillar", tupI (sortU q.1)), (.inr "sold", tupI (sortU q.2.1)), (.inr "wall", tupI (sortU q.2.2))])) (d := .dct [(.inr "pillar", tupI (sortU q.1)), (.inr "sold", tupI (sortU q.2.1)), (.inr "wall", tupI (sortU q.2.2))]) ?_ rfl (by rw [put_nil]; show 1 < 1000; decide)) (by simp [same0]) ?_
    · funext gg
      have run : ∀ {e : Str} {d : D} {ns : List Int}, (match valD kvs (.inr e) with | some d => d | none => .tup []) = d → m__ascending [.val d] = mret (.val (tupI (sortU ns))) →
          (eCall 1 m__ascending (aCons (eDGet2 (eVar 6) (eVar 7) (eTup (aNil))) (aNil))) [some (.exc x), some (.val a), some (.val b), some (.val (.bl soft)), some (.val (.str w)), some (.val (.int off)), some (.val (.dct kvs)), some (.val (.str e))] = mret (.val (tupI (sortU ns))) := fun {e d ns} h1 h2 => by
        rw [q_call (n := 1) (es := [.val d]) (as := [.val d]) (asc_get h1) rfl rfl, h2]
      refine eDc_of (ds := [.str "pillar", .str "sold", .str "wall"]) rfl rfl ?_
      rw [dcGo_step rfl rfl rfl (run hp1 ep) rfl rfl rfl, dcGo_step rfl rfl rfl (run hs1 es) rfl rfl rfl, dcGo_step rfl rfl rfl (run hw1 ew) rfl rfl rfl]
      have k1 : (Sum.inr "pillar" : Key) ≠ .inr "sold" := fun z => absurd (Sum.inr.inj z) (by decide +kernel)
      have k2 : (Sum.inr "pillar" : Key) ≠ .inr "wall" := fun z => absurd (Sum.inr.inj z) (by decide +kernel)
      have k3 : (Sum.inr "sold" : Key) ≠ .inr "wall" := fun z => absurd (Sum.inr.inj z) (by decide +kernel)
      have n2 : ∀ kv ∈ [((Sum.inr "pillar" : Key), tupI (sortU q.1)), (.inr "sold", tupI (sortU q.2.1))], kv.1 ≠ .inr "wall" := fun kv z => by
        rcases List.mem_cons.mp z with z | z
        · rw [z]
          exact k2
        · rw [List.mem_singleton.mp z]
          exact k3
      have n1 : ∀ kv ∈ [((Sum.inr "pillar" : Key), tupI (sortU q.1))], kv.1 ≠ .inr "sold" := fun kv z => by
        rw [List.mem_singleton.mp z]
        exact k1
      have p0 : putKD [] (.inr "pillar") (tupI (sortU q.1)) = [((Sum.inr "pillar" : Key), tupI (sortU q.1))] := rfl
      have p1 : putKD [((Sum.inr "pillar" : Key), tupI (sortU q.1))] (.inr "sold") (tupI (sortU q.2.1)) = [((Sum.inr "pillar" : Key), tupI (sortU q.1)), (.inr "sold", tupI (sortU q.2.1))] := putKD_new n1
      have p2 : putKD [((Sum.inr "pillar" : Key), tupI (sortU q.1)), (.inr "sold", tupI (sortU q.2.1))] (.inr "wall") (tupI (sortU q.2.2)) = [((Sum.inr "pillar" : Key), tupI (sortU q.1)), (.inr "sold", tupI (sortU q.2.1)), (.inr "wall", tupI (sortU q.2.2))] := putKD_new n2
      rw [p0, p1, p2]
      rfl
    rw [put_nil, put_miss (by decide +kernel), put_nil]
    refine f_seq (f_set (e := .val (.bl soft)) (d := .bl soft) rfl rfl (by show 2 < 1000; decide)) (by simp [same0]) ?_
    rw [put_miss (by decide +kernel), put_miss (by decide +kernel), put_nil]
    refine f_seq (f_set (e := .val (.str w)) (d := .str w) rfl rfl (by show 3 < 1000; decide)) (by simp [same0]) ?_
    rw [put_miss (by decide +kernel), put_miss (by decide +kernel), put_miss (by decide +kernel), put_nil]
    rw [f_set (e := .val (.int off)) (d := .int off) rfl rfl (by show 4 < 1000; decide)]
    rw [put_miss (by decide +kernel), put_miss (by decide +kernel), put_miss (by decide +kernel), put_miss (by decide +kernel), put_nil]
    unfold Rl.fs
    rw [wh]
  · cases h
end K27

set_option Elab.async false
set_option linter.all false
set_option maxRecDepth 100000
set_option maxHeartbeats 8000000
namespace K27
open PySem PySem.Spec PyProof.Rows L2 Vi
theorem val_bad {r : Rl} {e : Str} (he : isEndB e = true) : valD [(.inr "pillar", tupI r.bp), (.inr "sold", tupI r.bs), (.inr "wall", tupI r.bw)] (.inr e) = some (tupI (r.bad e)) := by
  have k1 : ¬ (Sum.inr "pillar" : Key) = .inr "sold" := fun z => absurd (Sum.inr.inj z) (by decide +kernel)
  have k2 : ¬ (Sum.inr "pillar" : Key) = .inr "wall" := fun z => absurd (Sum.inr.inj z) (by decide +kernel)
  have k3 : ¬ (Sum.inr "sold" : Key) = .inr "wall" := fun z => absurd (Sum.inr.inj z) (by decide +kernel)
  unfold valD Rl.bad
  rcases ends_of he with rfl | rfl | rfl
  · rw [List.find?_cons_of_pos (by simp), if_pos rfl]
    rfl
  · rw [List.find?_cons_of_neg (by simpa using k1), List.find?_cons_of_pos (by simp), if_neg (by decide +kernel), if_pos rfl]
    rfl
  · rw [List.find?_cons_of_neg (by simpa using k2), List.find?_cons_of_neg (by simpa using k3), List.find?_cons_of_pos (by simp), if_neg (by decide +kernel), if_neg (by decide +kernel)]
    rfl
theorem m_bad_at {r : Rl} {e : Str} (he : isEndB e = true) : m_Rule__bad_at [.val r.d, .val (.str e)] = mret (.nw (lstI (r.bad e))) := by
  have e1 := m_end (s := e)
  rw [he] at e1
  have e2 : fldE "Rule" "_bad" (.val r.d) = some (.val (.dct [(.inr "pillar", tupI r.bp), (.inr "sold", tupI r.bs), (.inr "wall", tupI r.bw)])) := f_obj rl_bad
  have e3 : dgetD (.val (.dct [(.inr "pillar", tupI r.bp), (.inr "sold", tupI r.bs), (.inr "wall", tupI r.bw)])) (.val (.str e)) = some (.val (tupI (r.bad e))) := by
    show (some (Sum.inr e)).bind (fun k => (valD _ k).map EV.val) = _
    show (valD _ (.inr e)).map EV.val = _
    rw [val_bad he]
    rfl
  have e4 : lstE (.val (tupI (r.bad e))) = some (.nw (lstI (r.bad e))) := rfl
  show mB (bd_Rule__bad_at [some (.val r.d), some (.val (.str e))]) = _
  unfold bd_Rule__bad_at
  simp only [q_ret, q_no, q_er, q_of, q_of0, q_next, q_seq, q_seq1, q_seq2, q_seq3, q_retS, q_set, q_asg, q_if, q_k, q_kB, q_ke, q_raise, q_body, q_b1, q_b2, q_b3, startD, rK, setK, asgK, EV.keep, EV.look, eAnd, eOr, eNot, eIf, _root_.Vi.e1, _root_.Vi.e2, eB1, eC, bOf, bNot, bAnd, bOr, eCall, aCons, aNil, argsOf, argOf, eVar, SV.ev, AV.sv, mI, mLe, mGe, mLt, mGt, mSub, mAdd, mL2, addD, mIx, ixD, eChain, eTup, eLst, keepL, dTup, dCons, dNil, dName, Option.map, Option.bind, List.map, List.length, List.replicate, List.append, List.cons_append, List.nil_append, List.getElem?_cons_zero, List.getElem?_cons_succ, List.set, Nat.sub_self, Nat.reduceAdd, Nat.reduceSub, Nat.reduceEqDiff, if_true, reduceIte, List.set_cons_zero, List.set_cons_succ, e1, e2, e3, e4, eDGet, Bool.not_true, Bool.false_eq_true, if_false]
theorem m_sizes {r : Rl} : m_Rule__sizes [.val r.d] = mret (.val (tupI r.sz)) := by
  have e : fldE "Rule" "_sizes" (.val r.d) = some (.val (tupI r.sz)) := f_obj rl_sizes
  show mB (bd_Rule__sizes [some (.val r.d)]) = _
  unfold bd_Rule__sizes
  simp only [q_ret, q_no, q_er, q_of, q_of0, q_next, q_seq, q_seq1, q_seq2, q_seq3, q_retS, q_set, q_asg, q_if, q_k, q_kB, q_ke, q_raise, q_body, q_b1, q_b2, q_b3, startD, rK, setK, asgK, EV.keep, EV.look, eAnd, eOr, eNot, eIf, _root_.Vi.e1, _root_.Vi.e2, eB1, eC, bOf, bNot, bAnd, bOr, eCall, aCons, aNil, argsOf, argOf, eVar, SV.ev, AV.sv, mI, mLe, mGe, mLt, mGt, mSub, mAdd, mL2, addD, mIx, ixD, eChain, eTup, eLst, keepL, dTup, dCons, dNil, dName, Option.map, Option.bind, List.map, List.length, List.replicate, List.append, List.cons_append, List.nil_append, List.getElem?_cons_zero, List.getElem?_cons_succ, List.set, Nat.sub_self, Nat.reduceAdd, Nat.reduceSub, Nat.reduceEqDiff, if_true, reduceIte, List.set_cons_zero, List.set_cons_succ, e]
theorem m_soft {r : Rl} : m_Rule__soft [.val r.d] = mret (.val (.bl r.soft)) := by
  have e : fldE "Rule" "_soft" (.val r.d) = some (.val (.bl r.soft)) := f_obj rl_soft
  show mB (bd_Rule__soft [some (.val r.d)]) = _
  unfold bd_Rule__soft
  simp only [q_ret, q_no, q_er, q_of, q_of0, q_next, q_seq, q_seq1, q_seq2, q_seq3, q_retS, q_set, q_asg, q_if, q_k, q_kB, q_ke, q_raise, q_body, q_b1, q_b2, q_b3, startD, rK, setK, asgK, EV.keep, EV.look, eAnd, eOr, eNot, eIf, _root_.Vi.e1, _root_.Vi.e2, eB1, eC, bOf, bNot, bAnd, bOr, eCall, aCons, aNil, argsOf, argOf, eVar, SV.ev, AV.sv, mI, mLe, mGe, mLt, mGt, mSub, mAdd, mL2, addD, mIx, ixD, eChain, eTup, eLst, keepL, dTup, dCons, dNil, dName, Option.map, Option.bind, List.map, List.length, List.replicate, List.append, List.cons_append, List.nil_append, List.getElem?_cons_zero, List.getElem?_cons_succ, List.set, Nat.sub_self, Nat.reduceAdd, Nat.reduceSub, Nat.reduceEqDiff, if_true, reduceIte, List.set_cons_zero, List.set_cons_succ, e]
theorem m_where {r : Rl} : m_Rule__where [.val r.d] = mret (.val (.str r.wh)) := by
  have e : fldE "Rule" "_where" (.val r.d) = some (.val (.str r.wh)) := f_obj rl_where
  show mB (bd_Rule__where [some (.val r.d)]) = _
  unfold bd_Rule__where
  simp only [q_ret, q_no, q_er, q_of, q_of0, q_next, q_seq, q_seq1, q_seq2, q_seq3, q_retS, q_set, q_asg, q_if, q_k, q_kB, q_ke, q_raise, q_body, q_b1, q_b2, q_b3, startD, rK, setK, asgK, EV.keep, EV.look, eAnd, eOr, eNot, eIf, _root_.Vi.e1, _root_.Vi.e2, eB1, eC, bOf, bNot, bAnd, bOr, eCall, aCons, aNil, argsOf, argOf, eVar, SV.ev, AV.sv, mI, mLe, mGe, mLt, mGt, mSub, mAdd, mL2, addD, mIx, ixD, eChain, eTup, eLst, keepL, dTup, dCons, dNil, dName, Option.map, Option.bind, List.map, List.length, List.replicate, List.append, List.cons_append, List.nil_append, List.getElem?_cons_zero, List.getElem?_cons_succ, List.set, Nat.sub_self, Nat.reduceAdd, Nat.reduceSub, Nat.reduceEqDiff, if_true, reduceIte, List.set_cons_zero, List.set_cons_succ, e]
theorem m_off {r : Rl} : m_Rule__offer [.val r.d] = mret (.val (.int r.off)) := by
  have e : fldE "Rule" "_offer" (.val r.d) = some (.val (.int r.off)) := f_obj rl_offer
  show mB (bd_Rule__offer [some (.val r.d)]) = _
  unfold bd_Rule__offer
  simp only [q_ret, q_no, q_er, q_of, q_of0, q_next, q_seq, q_seq1, q_seq2, q_seq3, q_retS, q_set, q_asg, q_if, q_k, q_kB, q_ke, q_raise, q_body, q_b1, q_b2, q_b3, startD, rK, setK, asgK, EV.keep, EV.look, eAnd, eOr, eNot, eIf, _root_.Vi.e1, _root_.Vi.e2, eB1, eC, bOf, bNot, bAnd, bOr, eCall, aCons, aNil, argsOf, argOf, eVar, SV.ev, AV.sv, mI, mLe, mGe, mLt, mGt, mSub, mAdd, mL2, addD, mIx, ixD, eChain, eTup, eLst, keepL, dTup, dCons, dNil, dName, Option.map, Option.bind, List.map, List.length, List.replicate, List.append, List.cons_append, List.nil_append, List.getElem?_cons_zero, List.getElem?_cons_succ, List.set, Nat.sub_self, Nat.reduceAdd, Nat.reduceSub, Nat.reduceEqDiff, if_true, reduceIte, List.set_cons_zero, List.set_cons_succ, e]
theorem wh_side {r : Rl} : decide (r.wh = "side") = r.side := by
  unfold Rl.wh
  cases r.side with
  | true => rw [if_pos rfl, decide_eq_true rfl]
  | false => rw [if_neg (by decide)]; decide +kernel
/-- making of the splits -/
theorem hm_Splits : ∀ (x : Addr) (as : List AV) (g g' : Bag) (fs : List (Str × D)), F_Splits as g = some (.ok fs, g') → ∃ δ', bd_Splits__init (startD 4 (.slf x :: as)) [] g = some (δ', fs, g') := by
  intro x as g g' fs h
  obtain ⟨r, l, e, rfl, hl, he, rfl, rfl⟩ := F_Splits_inv h
  refine ⟨[some (.exc x), some (.val r.d), some (.val (.str l)), some (.val (.str e))], ?_⟩
  show bd_Splits__init [some (.exc x), some (.val r.d), some (.val (.str l)), some (.val (.str e))] [] _ = _
  unfold bd_Splits__init
  have n1 : r.fs.lookup ("bad_at" : Str) = none := rl_none (by decide +kernel) (by decide +kernel) (by decide +kernel) (by decide +kernel) (by decide +kernel)
  refine f_seq (f_set (e := .nw (lstI (r.bad l))) (d := lstI (r.bad l)) ?_ rfl (by decide)) (by simp [same0]) ?_
  · exact (q_meth (fs := r.fs) (es := [.val (.str l)]) (as := [.val (.str l)]) rfl n1 rfl rfl rfl).trans (m_bad_at hl)
  rw [put_nil]
  refine f_seq (f_set (e := .nw (lstI (r.bad e))) (d := lstI (r.bad e)) ?_ rfl (by show 1 < 1000; decide)) (by simp [same0]) ?_
  · exact (q_meth (fs := r.fs) (es := [.val (.str e)]) (as := [.val (.str e)]) rfl n1 rfl rfl rfl).trans (m_bad_at he)
  rw [put_miss (by decide +kernel), put_nil]
  refine f_seq (f_set (e := .val (.bl r.soft)) (d := .bl r.soft) (q_prop (fs := r.fs) rfl m_soft) rfl (by show 2 < 1000; decide)) (by simp [same0]) ?_
  rw [put_miss (by decide +kernel), put_miss (by decide +kernel), put_nil]
  refine f_seq (f_set (e := .val (.bl r.side)) (d := .bl r.side) ?_ rfl (by show 3 < 1000; decide)) (by simp [same0]) ?_
  · have e1 : eProp "Rule" m_Rule__where (eVar 1) [some (.exc x), some (.val r.d), some (.val (.str l)), some (.val (.str e))] = mret (.val (.str r.wh)) := q_prop (fs := r.fs) rfl m_where
    simp only [q_ret, q_no, q_er, q_of, q_of0, q_next, q_seq, q_seq1, q_seq2, q_seq3, q_retS, q_set, q_asg, q_if, q_k, q_kB, q_ke, q_raise, q_body, q_b1, q_b2, q_b3, startD, rK, setK, asgK, EV.keep, EV.look, eAnd, eOr, eNot, eIf, _root_.Vi.e1, _root_.Vi.e2, eB1, eC, bOf, bNot, bAnd, bOr, eCall, aCons, aNil, argsOf, argOf, eVar, SV.ev, AV.sv, mI, mLe, mGe, mLt, mGt, mSub, mAdd, mL2, addD, mIx, ixD, eChain, eTup, eLst, keepL, dTup, dCons, dNil, dName, Option.map, Option.bind, List.map, List.length, List.replicate, List.append, List.cons_append, List.nil_append, List.getElem?_cons_zero, List.getElem?_cons_succ, List.set, Nat.sub_self, Nat.reduceAdd, Nat.reduceSub, Nat.reduceEqDiff, if_true, reduceIte, List.set_cons_zero, List.set_cons_succ, e1, mEq, eqU_str, wh_side]
  rw [put_miss (by decide +kernel), put_miss (by decide +kernel), put_miss (by decide +kernel), put_nil]
  rw [f_set (e := .val (.int r.off)) (d := .int r.off) (q_prop (fs := r.fs) rfl m_off) rfl (by show 4 < 1000; decide)]
  rw [put_miss (by decide +kernel), put_miss (by decide +kernel), put_miss (by decide +kernel), put_miss (by decide +kernel), put_nil]
  rfl
/-! what is possible, let, offered -/
theorem rng_ints {n : Nat} : rngD 0 n = ((List.range n).map fun (i : Nat) => (i : Int)).map D.int := by
  unfold rngD
  rw [List.map_map]
  refine List.map_congr_left fun i _ => ?_
  show D.int (0 + (i : Int)) = D.int (i : Int)
  rw [Int.zero_add]
theorem m_poss {side : Bool} {rest : Int} (h1 : -1000 ≤ rest) (h2 : rest ≤ 1000) : m_possible_befores [.val (.bl side), .val (.int rest)] = mret (.nw (lstI (possI side rest))) := by
  have e : lrgE (.val (.int (rest + 1))) = some (.nw (lstI ((List.range (rest + 1).toNat).map fun (i : Nat) => (i : Int)))) := by
    show (if smallI (rest + 1) = true then some (EV.nw (.lst (rngD 0 (rest + 1).toNat))) else none) = _
    rw [if_pos (by unfold smallI; rw [decide_eq_true (show -100000 ≤ rest + 1 by omega), decide_eq_true (show rest + 1 ≤ 100000 by omega)]; rfl), rng_ints]
    rfl
  show mB (bd_possible_befores [some (.val (.bl side)), some (.val (.int rest))]) = _
  unfold bd_possible_befores possI
  by_cases hs : side = true ∧ 0 < rest
  · obtain ⟨rfl, hr⟩ := hs
    rw [if_pos ⟨rfl, hr⟩]
    simp only [q_ret, q_no, q_er, q_of, q_of0, q_next, q_seq, q_seq1, q_seq2, q_seq3, q_retS, q_set, q_asg, q_if, q_k, q_kB, q_ke, q_raise, q_body, q_b1, q_b2, q_b3, startD, rK, setK, asgK, EV.keep, EV.look, eAnd, eOr, eNot, eIf, _root_.Vi.e1, _root_.Vi.e2, eB1, eC, bOf, bNot, bAnd, bOr, eCall, aCons, aNil, argsOf, argOf, eVar, SV.ev, AV.sv, mI, mLe, mGe, mLt, mGt, mSub, mAdd, mL2, addD, mIx, ixD, eChain, eTup, eLst, keepL, dTup, dCons, dNil, dName, Option.map, Option.bind, List.map, List.length, List.replicate, List.append, List.cons_append, List.nil_append, List.getElem?_cons_zero, List.getElem?_cons_succ, List.set, Nat.sub_self, Nat.reduceAdd, Nat.reduceSub, Nat.reduceEqDiff, if_true, reduceIte, List.set_cons_zero, List.set_cons_succ, bTru, eNotT, truE_bl, truE_lst, truE_nw, q_quiet, hr, decide_true]
    rfl
  · rw [if_neg hs]
    cases side with
    | true =>
      have hr : ¬ 0 < rest := fun z => hs ⟨rfl, z⟩
      simp only [q_ret, q_no, q_er, q_of, q_of0, q_next, q_seq, q_seq1, q_seq2, q_seq3, q_retS, q_set, q_asg, q_if, q_k, q_kB, q_ke, q_raise, q_body, q_b1, q_b2, q_b3, startD, rK, setK, asgK, EV.keep, EV.look, eAnd, eOr, eNot, eIf, _root_.Vi.e1, _root_.Vi.e2, eB1, eC, bOf, bNot, bAnd, bOr, eCall, aCons, aNil, argsOf, argOf, eVar, SV.ev, AV.sv, mI, mLe, mGe, mLt, mGt, mSub, mAdd, mL2, addD, mIx, ixD, eChain, eTup, eLst, keepL, dTup, dCons, dNil, dName, Option.map, Option.bind, List.map, List.length, List.replicate, List.append, List.cons_append, List.nil_append, List.getElem?_cons_zero, List.getElem?_cons_succ, List.set, Nat.sub_self, Nat.reduceAdd, Nat.reduceSub, Nat.reduceEqDiff, if_true, reduceIte, List.set_cons_zero, List.set_cons_succ, bTru, eNotT, truE_bl, truE_lst, truE_nw, q_quiet, hr, decide_false, Bool.false_eq_true, if_false, e]
    | false => simp only [q_ret, q_no, q_er, q_of, q_of0, q_next, q_seq, q_seq1, q_seq2, q_seq3, q_retS, q_set, q_asg, q_if, q_k, q_kB, q_ke, q_raise, q_body, q_b1, q_b2, q_b3, startD, rK, setK, asgK, EV.keep, EV.look, eAnd, eOr, eNot, eIf, _root_.Vi.e1, _root_.Vi.e2, eB1, eC, bOf, bNot, bAnd, bOr, eCall, aCons, aNil, argsOf, argOf, eVar, SV.ev, AV.sv, mI, mLe, mGe, mLt, mGt, mSub, mAdd, mL2, addD, mIx, ixD, eChain, eTup, eLst, keepL, dTup, dCons, dNil, dName, Option.map, Option.bind, List.map, List.length, List.replicate, List.append, List.cons_append, List.nil_append, List.getElem?_cons_zero, List.getElem?_cons_succ, List.set, Nat.sub_self, Nat.reduceAdd, Nat.reduceSub, Nat.reduceEqDiff, if_true, reduceIte, List.set_cons_zero, List.set_cons_succ, bTru, eNotT, truE_bl, truE_lst, truE_nw, q_quiet, Bool.false_eq_true, if_false, e]
theorem any_eq {b : Int} : ∀ {ns : List Int}, ((ns.map D.int).any fun y => eqFD y (.int b)) = ns.contains b
  | [] => rfl
  | n :: ns => by
    rw [List.map_cons, List.any_cons, any_eq, List.contains_cons]
    show (n == b || _) = _
    rw [show (n == b) = (b == n) from BEq.comm]
theorem flat_ints {ns : List Int} : (ns.map D.int).all flatD = true := by
  rw [List.all_map]
  exact List.all_eq_true.mpr fun _ _ => rfl
theorem notin_ints {b : Int} {ns : List Int} : inF true (.int b) (lstI ns) = some (.val (.bl (!ns.contains b))) := by
  show (inD (.int b) (ns.map D.int)).map _ = _
  unfold inD
  rw [flat_ints]
  show some (EV.val (.bl (!_))) = _
  rw [any_eq]
theorem isEmpty_map {α β : Type} {f : α → β} : ∀ {xs : List α}, (xs.map f).isEmpty = xs.isEmpty
  | [] => rfl
  | _ :: _ => rfl
theorem m_let_of {r : Rl} {l e : Str} {rest : Int} {found : List Int} (hf : found.length ≤ 100000) : m_Splits___let_of [.val (splD r l e), .val (.int rest), .val (lstI found)] = mret (.val (lstI (letOf r.soft (r.bad l) (r.bad e) rest found))) := by
  have f1 : fldE "Splits" "_near" (.val (splD r l e)) = some (.val (lstI (r.bad l))) := f_obj sp_near
  have f2 : fldE "Splits" "_far" (.val (splD r l e)) = some (.val (lstI (r.bad e))) := f_obj sp_far
  have f3 : fldE "Splits" "_is_soft" (.val (splD r l e)) = some (.val (.bl r.soft)) := f_obj sp_soft
  have key : eLc [6] (iSeq (eVar 2)) (dName 6) (bAnd (bOf (e2 (mIn true) (eVar 6) (eVar 4))) (bOf (e2 (mIn true) (e2 mSub (eVar 1) (eVar 6)) (eVar 5)))) (eVar 6) [some (.val (splD r l e)), some (.val (.int rest)), some (.val (lstI found)), none, some (.val (lstI (r.bad l))), some (.val (lstI (r.bad e))), none] = mret (.nw (lstI (found.filter (goodI (r.bad l) (r.bad e) rest)))) := by
    funext g
    rw [eLc_fm (ds := found.map D.int) (fun d => match d with | .int b => if goodI (r.bad l) (r.bad e) rest b = true then some (.int b) else none | _ => none) rfl rfl (fun d hd => ?_) (decide_eq_true (by rw [List.length_map]; exact hf))]
    · have : (found.map D.int).filterMap (fun d => match d with | .int b => if goodI (r.bad l) (r.bad e) rest b = true then some (.int b) else none | _ => none) = (found.filter (goodI (r.bad l) (r.bad e) rest)).map D.int := by
        induction found with
        | nil => rfl
        | cons a found ih =>
          rw [List.map_cons, List.filterMap_cons, List.filter_cons]
          dsimp only
          by_cases h : goodI (r.bad l) (r.bad e) rest a = true
          · rw [if_pos h, if_pos h]
            dsimp only
            rw [ih (by simp only [List.length_cons] at hf; omega)]
            rfl
          · rw [if_neg h, if_neg h]
            dsimp only
            exact ih (by simp only [List.length_cons] at hf; omega)
      rw [this]
      rfl
    · obtain ⟨b, _, rfl⟩ := List.mem_map.mp hd
      refine ⟨_, rfl, ?_⟩
      dsimp only
      have run : bAnd (bOf (e2 (mIn true) (eVar 6) (eVar 4))) (bOf (e2 (mIn true) (e2 mSub (eVar 1) (eVar 6)) (eVar 5))) [some (.val (splD r l e)), some (.val (.int rest)), some (.val (lstI found)), none, some (.val (lstI (r.bad l))), some (.val (lstI (r.bad e))), some (.val (.int b))] = mret (goodI (r.bad l) (r.bad e) rest b) := by
        unfold goodI
        simp only [q_ret, q_no, q_er, q_of, q_of0, q_next, q_seq, q_seq1, q_seq2, q_seq3, q_retS, q_set, q_asg, q_if, q_k, q_kB, q_ke, q_raise, q_body, q_b1, q_b2, q_b3, startD, rK, setK, asgK, EV.keep, EV.look, eAnd, eOr, eNot, eIf, _root_.Vi.e1, _root_.Vi.e2, eB1, eC, bOf, bNot, bAnd, bOr, eCall, aCons, aNil, argsOf, argOf, eVar, SV.ev, AV.sv, mI, mLe, mGe, mLt, mGt, mSub, mAdd, mL2, addD, mIx, ixD, eChain, eTup, eLst, keepL, dTup, dCons, dNil, dName, Option.map, Option.bind, List.map, List.length, List.replicate, List.append, List.cons_append, List.nil_append, List.getElem?_cons_zero, List.getElem?_cons_succ, List.set, Nat.sub_self, Nat.reduceAdd, Nat.reduceSub, Nat.reduceEqDiff, if_true, reduceIte, List.set_cons_zero, List.set_cons_succ, bTru, eNotT, truE_bl, truE_lst, truE_nw, q_quiet, mIn, notin_ints]
        cases (r.bad l).contains b
        · simp only [Bool.not_false, if_true, Bool.true_and]
        · simp only [Bool.not_true, Bool.false_eq_true, if_false, Bool.false_and]
      by_cases h : goodI (r.bad l) (r.bad e) rest b = true
      · rw [if_pos h]
        exact ⟨(congrFun run g).trans (by rw [h]; rfl), _, rfl, rfl⟩
      · rw [if_neg h]
        exact (congrFun run g).trans (by rw [Bool.eq_false_iff.mpr h]; rfl)
  show mB (bd_Splits___let_of [some (.val (splD r l e)), some (.val (.int rest)), some (.val (lstI found)), none, none, none, none]) = _
  unfold bd_Splits___let_of
  have t1 : truE (.val (lstI (r.bad l))) = some (!(r.bad l).isEmpty) := by show some (!((r.bad l).map D.int).isEmpty) = _; rw [isEmpty_map]
  have t2 : truE (.val (lstI (r.bad e))) = some (!(r.bad e).isEmpty) := by show some (!((r.bad e).map D.int).isEmpty) = _; rw [isEmpty_map]
  have t3 : ∀ ns : List Int, truE (.val (lstI ns)) = some (!ns.isEmpty) := fun ns => by show some (!(ns.map D.int).isEmpty) = _; rw [isEmpty_map]
  have line2 : lineOk 2 = true := rfl
  -- behind the first test
  have tail : mB (dB (sSet 3 (eLc [6] (iSeq (eVar 2)) (dName 6) (bAnd (bOf (e2 (mIn true) (eVar 6) (eVar 4))) (bOf (e2 (mIn true) (e2 mSub (eVar 1) (eVar 6)) (eVar 5)))) (eVar 6)) [some (.val (splD r l e)), some (.val (.int rest)), some (.val (lstI found)), none, some (.val (lstI (r.bad l))), some (.val (lstI (r.bad e))), none])
      (sRet (eIf (bAnd (bTru (eB1 (fldE "Splits" "_is_soft") (eVar 0))) (bNot (bTru (eVar 3)))) (eVar 2) (eVar 3)))) = mret (.val (lstI (if r.soft = true ∧ found.filter (goodI (r.bad l) (r.bad e) rest) = [] then found else found.filter (goodI (r.bad l) (r.bad e) rest)))) := by
    rw [q_set, key]
    cases hs : r.soft with
    | false =>
      rw [hs] at f3
      rw [if_neg (fun z => by cases z.1)]
      simp only [q_ret, q_no, q_er, q_of, q_of0, q_next, q_seq, q_seq1, q_seq2, q_seq3, q_retS, q_set, q_asg, q_if, q_k, q_kB, q_ke, q_raise, q_body, q_b1, q_b2, q_b3, startD, rK, setK, asgK, EV.keep, EV.look, eAnd, eOr, eNot, eIf, _root_.Vi.e1, _root_.Vi.e2, eB1, eC, bOf, bNot, bAnd, bOr, eCall, aCons, aNil, argsOf, argOf, eVar, SV.ev, AV.sv, mI, mLe, mGe, mLt, mGt, mSub, mAdd, mL2, addD, mIx, ixD, eChain, eTup, eLst, keepL, dTup, dCons, dNil, dName, Option.map, Option.bind, List.map, List.length, List.replicate, List.append, List.cons_append, List.nil_append, List.getElem?_cons_zero, List.getElem?_cons_succ, List.set, Nat.sub_self, Nat.reduceAdd, Nat.reduceSub, Nat.reduceEqDiff, if_true, reduceIte, List.set_cons_zero, List.set_cons_succ, bTru, eNotT, truE_bl, truE_lst, truE_nw, q_quiet, f3, Bool.false_eq_true, if_false]
    | true =>
      rw [hs] at f3
      by_cases hg : found.filter (goodI (r.bad l) (r.bad e) rest) = []
      · rw [if_pos ⟨rfl, hg⟩, hg]
        simp only [q_ret, q_no, q_er, q_of, q_of0, q_next, q_seq, q_seq1, q_seq2, q_seq3, q_retS, q_set, q_asg, q_if, q_k, q_kB, q_ke, q_raise, q_body, q_b1, q_b2, q_b3, startD, rK, setK, asgK, EV.keep, EV.look, eAnd, eOr, eNot, eIf, _root_.Vi.e1, _root_.Vi.e2, eB1, eC, bOf, bNot, bAnd, bOr, eCall, aCons, aNil, argsOf, argOf, eVar, SV.ev, AV.sv, mI, mLe, mGe, mLt, mGt, mSub, mAdd, mL2, addD, mIx, ixD, eChain, eTup, eLst, keepL, dTup, dCons, dNil, dName, Option.map, Option.bind, List.map, List.length, List.replicate, List.append, List.cons_append, List.nil_append, List.getElem?_cons_zero, List.getElem?_cons_succ, List.set, Nat.sub_self, Nat.reduceAdd, Nat.reduceSub, Nat.reduceEqDiff, if_true, reduceIte, List.set_cons_zero, List.set_cons_succ, bTru, eNotT, truE_bl, truE_lst, truE_nw, q_quiet, f3, t3, List.isEmpty_nil, Bool.not_true, Bool.not_false]
      · rw [if_neg (fun z => hg z.2)]
        have : (found.filter (goodI (r.bad l) (r.bad e) rest)).isEmpty = false := by
          cases hh : found.filter (goodI (r.bad l) (r.bad e) rest) with
          | nil => exact absurd hh hg
          | cons _ _ => rfl
        simp only [q_ret, q_no, q_er, q_of, q_of0, q_next, q_seq, q_seq1, q_seq2, q_seq3, q_retS, q_set, q_asg, q_if, q_k, q_kB, q_ke, q_raise, q_body, q_b1, q_b2, q_b3, startD, rK, setK, asgK, EV.keep, EV.look, eAnd, eOr, eNot, eIf, _root_.Vi.e1, _root_.Vi.e2, eB1, eC, bOf, bNot, bAnd, bOr, eCall, aCons, aNil, argsOf, argOf, eVar, SV.ev, AV.sv, mI, mLe, mGe, mLt, mGt, mSub, mAdd, mL2, addD, mIx, ixD, eChain, eTup, eLst, keepL, dTup, dCons, dNil, dName, Option.map, Option.bind, List.map, List.length, List.replicate, List.append, List.cons_append, List.nil_append, List.getElem?_cons_zero, List.getElem?_cons_succ, List.set, Nat.sub_self, Nat.reduceAdd, Nat.reduceSub, Nat.reduceEqDiff, if_true, reduceIte, List.set_cons_zero, List.set_cons_succ, bTru, eNotT, truE_bl, truE_lst, truE_nw, q_quiet, f3, t3, this, Bool.not_true, Bool.not_false, Bool.false_eq_true, if_false]
  unfold letOf
  by_cases h1 : r.bad l = []
  · by_cases h2 : r.bad e = []
    · rw [if_pos ⟨h1, h2⟩]
      have h1' : (r.bad l).isEmpty = true := by simpa using h1
      have h2' : (r.bad e).isEmpty = true := by simpa using h2
      simp only [q_ret, q_no, q_er, q_of, q_of0, q_next, q_seq, q_seq1, q_seq2, q_seq3, q_retS, q_set, q_asg, q_if, q_k, q_kB, q_ke, q_raise, q_body, q_b1, q_b2, q_b3, startD, rK, setK, asgK, EV.keep, EV.look, eAnd, eOr, eNot, eIf, _root_.Vi.e1, _root_.Vi.e2, eB1, eC, bOf, bNot, bAnd, bOr, eCall, aCons, aNil, argsOf, argOf, eVar, SV.ev, AV.sv, mI, mLe, mGe, mLt, mGt, mSub, mAdd, mL2, addD, mIx, ixD, eChain, eTup, eLst, keepL, dTup, dCons, dNil, dName, Option.map, Option.bind, List.map, List.length, List.replicate, List.append, List.cons_append, List.nil_append, List.getElem?_cons_zero, List.getElem?_cons_succ, List.set, Nat.sub_self, Nat.reduceAdd, Nat.reduceSub, Nat.reduceEqDiff, if_true, reduceIte, List.set_cons_zero, List.set_cons_succ, bTru, eNotT, truE_bl, truE_lst, truE_nw, q_quiet, f1, f2, line2, t1, t2, h1', h2', Bool.not_true, Bool.not_false]
    · rw [if_neg (fun z => h2 z.2), ← tail]
      have h2' : (r.bad e).isEmpty = false := by simpa using h2
      have h1' : (r.bad l).isEmpty = true := by simpa using h1
      simp only [q_ret, q_no, q_er, q_of, q_of0, q_next, q_seq, q_seq1, q_seq2, q_seq3, q_retS, q_set, q_asg, q_if, q_k, q_kB, q_ke, q_raise, q_body, q_b1, q_b2, q_b3, startD, rK, setK, asgK, EV.keep, EV.look, eAnd, eOr, eNot, eIf, _root_.Vi.e1, _root_.Vi.e2, eB1, eC, bOf, bNot, bAnd, bOr, eCall, aCons, aNil, argsOf, argOf, eVar, SV.ev, AV.sv, mI, mLe, mGe, mLt, mGt, mSub, mAdd, mL2, addD, mIx, ixD, eChain, eTup, eLst, keepL, dTup, dCons, dNil, dName, Option.map, Option.bind, List.map, List.length, List.replicate, List.append, List.cons_append, List.nil_append, List.getElem?_cons_zero, List.getElem?_cons_succ, List.set, Nat.sub_self, Nat.reduceAdd, Nat.reduceSub, Nat.reduceEqDiff, if_true, reduceIte, List.set_cons_zero, List.set_cons_succ, bTru, eNotT, truE_bl, truE_lst, truE_nw, q_quiet, f1, f2, line2, t1, t2, h1', h2', Bool.not_true, Bool.not_false, Bool.false_eq_true, if_false]
  · rw [if_neg (fun z => h1 z.1), ← tail]
    have h1' : (r.bad l).isEmpty = false := by simpa using h1
    simp only [q_ret, q_no, q_er, q_of, q_of0, q_next, q_seq, q_seq1, q_seq2, q_seq3, q_retS, q_set, q_asg, q_if, q_k, q_kB, q_ke, q_raise, q_body, q_b1, q_b2, q_b3, startD, rK, setK, asgK, EV.keep, EV.look, eAnd, eOr, eNot, eIf, _root_.Vi.e1, _root_.Vi.e2, eB1, eC, bOf, bNot, bAnd, bOr, eCall, aCons, aNil, argsOf, argOf, eVar, SV.ev, AV.sv, mI, mLe, mGe, mLt, mGt, mSub, mAdd, mL2, addD, mIx, ixD, eChain, eTup, eLst, keepL, dTup, dCons, dNil, dName, Option.map, Option.bind, List.map, List.length, List.replicate, List.append, List.cons_append, List.nil_append, List.getElem?_cons_zero, List.getElem?_cons_succ, List.set, Nat.sub_self, Nat.reduceAdd, Nat.reduceSub, Nat.reduceEqDiff, if_true, reduceIte, List.set_cons_zero, List.set_cons_succ, bTru, eNotT, truE_bl, truE_lst, truE_nw, q_quiet, f1, f2, line2, t1, t2, h1', Bool.not_true, Bool.not_false, Bool.false_eq_true, if_false]
theorem poss_len {side : Bool} {rest : Int} (h : rest ≤ 1000) : (possI side rest).length ≤ 100000 := by
  unfold possI
  split
  · show 2 ≤ _; decide
  · rw [List.length_map, List.length_range]; omega
theorem m_slet {r : Rl} {l e : Str} {rest : Int} (h1 : -1000 ≤ rest) (h2 : rest ≤ 1000) : m_Splits__let [.val (splD r l e), .val (.int rest)] = mret (.val (lstI (letOf r.soft (r.bad l) (r.bad e) rest (possI r.side rest)))) := by
  have f4 : fldE "Splits" "_is_beside" (.val (splD r l e)) = some (.val (.bl r.side)) := f_obj sp_beside
  have n1 : (splFs r l e).lookup ("_let_of" : Str) = none := sp_none (by decide +kernel) (by decide +kernel) (by decide +kernel) (by decide +kernel) (by decide +kernel)
  have e1 := m_poss (side := r.side) h1 h2
  have ea : (aCons (eVar 1) (aCons (eCall 2 m_possible_befores (aCons (eB1 (fldE "Splits" "_is_beside") (eVar 0)) (aCons (eVar 1) (aNil)))) (aNil))) [some (.val (splD r l e)), some (.val (.int rest))] = mret [.val (.int rest), .nw (lstI (possI r.side rest))] := by
    simp only [q_ret, q_no, q_er, q_of, q_of0, q_next, q_seq, q_seq1, q_seq2, q_seq3, q_retS, q_set, q_asg, q_if, q_k, q_kB, q_ke, q_raise, q_body, q_b1, q_b2, q_b3, startD, rK, setK, asgK, EV.keep, EV.look, eAnd, eOr, eNot, eIf, _root_.Vi.e1, _root_.Vi.e2, eB1, eC, bOf, bNot, bAnd, bOr, eCall, aCons, aNil, argsOf, argOf, eVar, SV.ev, AV.sv, mI, mLe, mGe, mLt, mGt, mSub, mAdd, mL2, addD, mIx, ixD, eChain, eTup, eLst, keepL, dTup, dCons, dNil, dName, Option.map, Option.bind, List.map, List.length, List.replicate, List.append, List.cons_append, List.nil_append, List.getElem?_cons_zero, List.getElem?_cons_succ, List.set, Nat.sub_self, Nat.reduceAdd, Nat.reduceSub, Nat.reduceEqDiff, if_true, reduceIte, List.set_cons_zero, List.set_cons_succ, bTru, eNotT, truE_bl, truE_lst, truE_nw, q_quiet, f4, e1]
  have em := q_meth (c := "Splits") (m := "_let_of") (n := 3) (f := m_Splits___let_of) (me := eVar 0) (fs := splFs r l e) rfl n1 ea (as := [.val (.int rest), .val (lstI (possI r.side rest))]) rfl rfl
  show mB (bd_Splits__let [some (.val (splD r l e)), some (.val (.int rest))]) = _
  unfold bd_Splits__let
  have el : m_Splits___let_of (.val (.obj "Splits" (splFs r l e)) :: [.val (.int rest), .val (lstI (possI r.side rest))]) = _ := m_let_of (poss_len h2)
  rw [q_retS, em, el]
  simp only [q_ret, q_no, q_er, q_of, q_of0, q_next, q_seq, q_seq1, q_seq2, q_seq3, q_retS, q_set, q_asg, q_if, q_k, q_kB, q_ke, q_raise, q_body, q_b1, q_b2, q_b3, startD, rK, setK, asgK, EV.keep, EV.look, eAnd, eOr, eNot, eIf, _root_.Vi.e1, _root_.Vi.e2, eB1, eC, bOf, bNot, bAnd, bOr, eCall, aCons, aNil, argsOf, argOf, eVar, SV.ev, AV.sv, mI, mLe, mGe, mLt, mGt, mSub, mAdd, mL2, addD, mIx, ixD, eChain, eTup, eLst, keepL, dTup, dCons, dNil, dName, Option.map, Option.bind, List.map, List.length, List.replicate, List.append, List.cons_append, List.nil_append, List.getElem?_cons_zero, List.getElem?_cons_succ, List.set, Nat.sub_self, Nat.reduceAdd, Nat.reduceSub, Nat.reduceEqDiff, if_true, reduceIte, List.set_cons_zero, List.set_cons_succ, bTru, eNotT, truE_bl, truE_lst, truE_nw, q_quiet]
/-- a list, new or kept -/
def IsL (ev : EV) (ns : List Int) : Prop := ev = .val (lstI ns) ∨ ev = .nw (lstI ns)
theorem IsL.keep {ev : EV} {ns : List Int} (h : IsL ev ns) : ev.keep = some (lstI ns) := by rcases h with rfl | rfl <;> rfl
theorem IsL.look {ev : EV} {ns : List Int} (h : IsL ev ns) : ev.look = some (lstI ns) := by rcases h with rfl | rfl <;> rfl
theorem IsL.ret {ev : EV} {ns : List Int} (h : IsL ev ns) : retEv ev = some ev := by rcases h with rfl | rfl <;> rfl
theorem IsL.tru {ev : EV} {ns : List Int} (h : IsL ev ns) : truE ev = some (!ns.isEmpty) := by
  rcases h with rfl | rfl
  · show some (!(ns.map D.int).isEmpty) = _
    rw [isEmpty_map]
  · show some (!(ns.map D.int).isEmpty) = _
    rw [isEmpty_map]
theorem IsL.arg {ev : EV} {ns : List Int} (h : IsL ev ns) : argOf ev = some (.val (lstI ns)) := by rcases h with rfl | rfl <;> rfl
theorem IsL.rk {ev : EV} {ns : List Int} (h : IsL ev ns) : rK ev = dret (.rt ev) := by rcases h with rfl | rfl <;> rfl
theorem cut_take {ns : List Int} {k : Int} (h : 0 ≤ k) : Vi.cutD (ns.map D.int) none (some k) = (ns.take k.toNat).map D.int := by
  unfold Vi.cutD
  rw [show HT.sIx (ns.map D.int).length 0 none = 0 from rfl, show k = ((k.toNat : Nat) : Int) by omega, HT.sIx_nat]
  simp only [Int.toNat_natCast, List.length_map, Nat.sub_zero, List.drop_zero]
  rw [← List.map_take]
  congr 1
  by_cases hk : k.toNat ≤ ns.length
  · rw [Nat.min_eq_left hk]
  · rw [Nat.min_eq_right (by omega), List.take_length, List.take_of_length_le (by omega)]
theorem m_offd {r : Rl} {l e : Str} {rest : Int} (ho : r.Ok) (h1 : -1000 ≤ rest) (h2 : rest ≤ 1000) : ∃ ev, m_Splits__offered [.val (splD r l e), .val (.int rest)] = mret ev ∧ IsL ev (offI r l e rest) := by
  have f4 : fldE "Splits" "_is_beside" (.val (splD r l e)) = some (.val (.bl r.side)) := f_obj sp_beside
  have f5 : fldE "Splits" "_many" (.val (splD r l e)) = some (.val (.int r.off)) := f_obj sp_many
  have n1 : (splFs r l e).lookup ("_let_of" : Str) = none := sp_none (by decide +kernel) (by decide +kernel) (by decide +kernel) (by decide +kernel) (by decide +kernel)
  have n2 : (splFs r l e).lookup ("let" : Str) = none := sp_none (by decide +kernel) (by decide +kernel) (by decide +kernel) (by decide +kernel) (by decide +kernel)
  have em := q_meth (c := "Splits") (m := "let") (n := 2) (f := m_Splits__let) (me := eVar 0) (ma := aCons (eVar 1) aNil) (δ := [some (.val (splD r l e)), some (.val (.int rest)), none, none]) (fs := splFs r l e) rfl n2 (es := [.val (.int rest)]) rfl (as := [.val (.int rest)]) rfl rfl
  by_cases h0 : r.off = 0
  · refine ⟨_, ?_, Or.inl rfl⟩
    show mB (bd_Splits__offered [some (.val (splD r l e)), some (.val (.int rest)), none, none]) = _
    unfold bd_Splits__offered offI
    rw [if_pos h0]
    rw [q_seq, q_if]
    have et : bOf (e2 mEq (eB1 (fldE "Splits" "_many") (eVar 0)) (eC (.int 0))) [some (.val (splD r l e)), some (.val (.int rest)), none, none] = mret true := by
      simp only [q_ret, q_no, q_er, q_of, q_of0, q_next, q_seq, q_seq1, q_seq2, q_seq3, q_retS, q_set, q_asg, q_if, q_k, q_kB, q_ke, q_raise, q_body, q_b1, q_b2, q_b3, startD, rK, setK, asgK, EV.keep, EV.look, eAnd, eOr, eNot, eIf, _root_.Vi.e1, _root_.Vi.e2, eB1, eC, bOf, bNot, bAnd, bOr, eCall, aCons, aNil, argsOf, argOf, eVar, SV.ev, AV.sv, mI, mLe, mGe, mLt, mGt, mSub, mAdd, mL2, addD, mIx, ixD, eChain, eTup, eLst, keepL, dTup, dCons, dNil, dName, Option.map, Option.bind, List.map, List.length, List.replicate, List.append, List.cons_append, List.nil_append, List.getElem?_cons_zero, List.getElem?_cons_succ, List.set, Nat.sub_self, Nat.reduceAdd, Nat.reduceSub, Nat.reduceEqDiff, if_true, reduceIte, List.set_cons_zero, List.set_cons_succ, bTru, eNotT, truE_bl, truE_lst, truE_nw, q_quiet, f5, mEq, eqU_int, h0, decide_true]
    rw [et, q_kB, if_pos rfl, q_retS, em]
    have eq2 : m_Splits__let (.val (.obj "Splits" (splFs r l e)) :: [.val (.int rest)]) = _ := m_slet h1 h2
    rw [eq2]
    simp only [q_ret, q_no, q_er, q_of, q_of0, q_next, q_seq, q_seq1, q_seq2, q_seq3, q_retS, q_set, q_asg, q_if, q_k, q_kB, q_ke, q_raise, q_body, q_b1, q_b2, q_b3, startD, rK, setK, asgK, EV.keep, EV.look, eAnd, eOr, eNot, eIf, _root_.Vi.e1, _root_.Vi.e2, eB1, eC, bOf, bNot, bAnd, bOr, eCall, aCons, aNil, argsOf, argOf, eVar, SV.ev, AV.sv, mI, mLe, mGe, mLt, mGt, mSub, mAdd, mL2, addD, mIx, ixD, eChain, eTup, eLst, keepL, dTup, dCons, dNil, dName, Option.map, Option.bind, List.map, List.length, List.replicate, List.append, List.cons_append, List.nil_append, List.getElem?_cons_zero, List.getElem?_cons_succ, List.set, Nat.sub_self, Nat.reduceAdd, Nat.reduceSub, Nat.reduceEqDiff, if_true, reduceIte, List.set_cons_zero, List.set_cons_succ, bTru, eNotT, truE_bl, truE_lst, truE_nw, q_quiet]
  · -- so many alone
    have hm : (if (r.off + 10 - 1 : Int) < rest then r.off + 10 - 1 else rest) = (if r.off + 9 < rest then r.off + 9 else rest) := by
      rw [show (r.off + 10 - 1 : Int) = r.off + 9 by omega]
    have hb : -1000 ≤ (if r.side = true then rest else (if r.off + 9 < rest then r.off + 9 else rest)) ∧ (if r.side = true then rest else (if r.off + 9 < rest then r.off + 9 else rest)) ≤ 1000 := by
      have := ho.o0
      have := ho.o5
      split
      · exact ⟨h1, h2⟩
      · split <;> omega
    have e1 := m_poss (side := r.side) hb.1 hb.2
    have et : bOf (e2 mEq (eB1 (fldE "Splits" "_many") (eVar 0)) (eC (.int 0))) [some (.val (splD r l e)), some (.val (.int rest)), none, none] = mret false := by
      simp only [q_ret, q_no, q_er, q_of, q_of0, q_next, q_seq, q_seq1, q_seq2, q_seq3, q_retS, q_set, q_asg, q_if, q_k, q_kB, q_ke, q_raise, q_body, q_b1, q_b2, q_b3, startD, rK, setK, asgK, EV.keep, EV.look, eAnd, eOr, eNot, eIf, _root_.Vi.e1, _root_.Vi.e2, eB1, eC, bOf, bNot, bAnd, bOr, eCall, aCons, aNil, argsOf, argOf, eVar, SV.ev, AV.sv, mI, mLe, mGe, mLt, mGt, mSub, mAdd, mL2, addD, mIx, ixD, eChain, eTup, eLst, keepL, dTup, dCons, dNil, dName, Option.map, Option.bind, List.map, List.length, List.replicate, List.append, List.cons_append, List.nil_append, List.getElem?_cons_zero, List.getElem?_cons_succ, List.set, Nat.sub_self, Nat.reduceAdd, Nat.reduceSub, Nat.reduceEqDiff, if_true, reduceIte, List.set_cons_zero, List.set_cons_succ, bTru, eNotT, truE_bl, truE_lst, truE_nw, q_quiet, f5, mEq, eqU_int, h0, decide_false]
    have es : sSet 2 (e2 mAdd (eB1 (fldE "Splits" "_many") (eVar 0)) (e2 mMul (eC (.int 2)) (eC (.int 5)))) [some (.val (splD r l e)), some (.val (.int rest)), none, none] = dret (.nx [some (.val (splD r l e)), some (.val (.int rest)), some (.val (.int (r.off + 10))), none]) := by
      have ml : mMul (.val (.int 2)) (.val (.int 5)) = mret (.val (.int 10)) := rfl
      rw [q_set]
      unfold Vi.e2
      simp only [q_ret, q_no, q_er, q_of, q_of0, q_next, q_seq, q_seq1, q_seq2, q_seq3, q_retS, q_set, q_asg, q_if, q_k, q_kB, q_ke, q_raise, q_body, q_b1, q_b2, q_b3, startD, rK, setK, asgK, EV.keep, EV.look, eAnd, eOr, eNot, eIf, _root_.Vi.e1, _root_.Vi.e2, eB1, eC, bOf, bNot, bAnd, bOr, eCall, aCons, aNil, argsOf, argOf, eVar, SV.ev, AV.sv, mI, mLe, mGe, mLt, mGt, mSub, mAdd, mL2, addD, mIx, ixD, eChain, eTup, eLst, keepL, dTup, dCons, dNil, dName, Option.map, Option.bind, List.map, List.length, List.replicate, List.append, List.cons_append, List.nil_append, List.getElem?_cons_zero, List.getElem?_cons_succ, List.set, Nat.sub_self, Nat.reduceAdd, Nat.reduceSub, Nat.reduceEqDiff, if_true, reduceIte, List.set_cons_zero, List.set_cons_succ, bTru, eNotT, truE_bl, truE_lst, truE_nw, q_quiet, f5, ml]
    have ef : (eCall 2 m_possible_befores (aCons (eB1 (fldE "Splits" "_is_beside") (eVar 0)) (aCons (eIf (bTru (eB1 (fldE "Splits" "_is_beside") (eVar 0))) (eVar 1) (eBA min2E (aCons (eVar 1) (aCons (e2 mSub (eVar 2) (eC (.int 1))) (aNil))))) (aNil)))) [some (.val (splD r l e)), some (.val (.int rest)), some (.val (.int (r.off + 10))), none] = mret (.nw (lstI (possI r.side (if r.side = true then rest else (if r.off + 9 < rest then r.off + 9 else rest))))) := by
      rw [← e1]
      refine q_call (es := [.val (.bl r.side), .val (.int (if r.side = true then rest else (if r.off + 9 < rest then r.off + 9 else rest)))]) ?_ rfl rfl
      cases hs : r.side with
      | true =>
        rw [hs] at f4
        simp only [q_ret, q_no, q_er, q_of, q_of0, q_next, q_seq, q_seq1, q_seq2, q_seq3, q_retS, q_set, q_asg, q_if, q_k, q_kB, q_ke, q_raise, q_body, q_b1, q_b2, q_b3, startD, rK, setK, asgK, EV.keep, EV.look, eAnd, eOr, eNot, eIf, _root_.Vi.e1, _root_.Vi.e2, eB1, eC, bOf, bNot, bAnd, bOr, eCall, aCons, aNil, argsOf, argOf, eVar, SV.ev, AV.sv, mI, mLe, mGe, mLt, mGt, mSub, mAdd, mL2, addD, mIx, ixD, eChain, eTup, eLst, keepL, dTup, dCons, dNil, dName, Option.map, Option.bind, List.map, List.length, List.replicate, List.append, List.cons_append, List.nil_append, List.getElem?_cons_zero, List.getElem?_cons_succ, List.set, Nat.sub_self, Nat.reduceAdd, Nat.reduceSub, Nat.reduceEqDiff, if_true, reduceIte, List.set_cons_zero, List.set_cons_succ, bTru, eNotT, truE_bl, truE_lst, truE_nw, q_quiet, f4]
      | false =>
        rw [hs] at f4
        rw [if_neg (by decide), ← hm]
        simp only [q_ret, q_no, q_er, q_of, q_of0, q_next, q_seq, q_seq1, q_seq2, q_seq3, q_retS, q_set, q_asg, q_if, q_k, q_kB, q_ke, q_raise, q_body, q_b1, q_b2, q_b3, startD, rK, setK, asgK, EV.keep, EV.look, eAnd, eOr, eNot, eIf, _root_.Vi.e1, _root_.Vi.e2, eB1, eC, bOf, bNot, bAnd, bOr, eCall, aCons, aNil, argsOf, argOf, eVar, SV.ev, AV.sv, mI, mLe, mGe, mLt, mGt, mSub, mAdd, mL2, addD, mIx, ixD, eChain, eTup, eLst, keepL, dTup, dCons, dNil, dName, Option.map, Option.bind, List.map, List.length, List.replicate, List.append, List.cons_append, List.nil_append, List.getElem?_cons_zero, List.getElem?_cons_succ, List.set, Nat.sub_self, Nat.reduceAdd, Nat.reduceSub, Nat.reduceEqDiff, if_true, reduceIte, List.set_cons_zero, List.set_cons_succ, bTru, eNotT, truE_bl, truE_lst, truE_nw, q_quiet, f4, Bool.false_eq_true, if_false, eBA, min2E]
    have ea : (aCons (eVar 1) (aCons (eVar 3) (aNil))) [some (.val (splD r l e)), some (.val (.int rest)), some (.val (.int (r.off + 10))), some (.val (lstI (possI r.side (if r.side = true then rest else (if r.off + 9 < rest then r.off + 9 else rest)))))] = mret [.val (.int rest), .val (lstI (possI r.side (if r.side = true then rest else (if r.off + 9 < rest then r.off + 9 else rest))))] := rfl
    have em2 := q_meth (c := "Splits") (m := "_let_of") (n := 3) (f := m_Splits___let_of) (me := eVar 0) (fs := splFs r l e) rfl n1 ea (as := [.val (.int rest), .val (lstI (possI r.side (if r.side = true then rest else (if r.off + 9 < rest then r.off + 9 else rest))))]) rfl rfl
    have el : m_Splits___let_of (.val (.obj "Splits" (splFs r l e)) :: [.val (.int rest), .val (lstI (possI r.side (if r.side = true then rest else (if r.off + 9 < rest then r.off + 9 else rest))))]) = _ := m_let_of (poss_len hb.2)
    refine ⟨_, ?_, Or.inr rfl⟩
    show mB (bd_Splits__offered [some (.val (splD r l e)), some (.val (.int rest)), none, none]) = _
    unfold bd_Splits__offered offI
    rw [if_neg h0, q_seq, q_if, et, q_kB, if_neg (by decide), q_next, q_seq1, q_seq, es, q_seq1, q_seq, q_set, ef]
    show mB (dB (sK (mret (.nw (lstI (possI r.side (if r.side = true then rest else (if r.off + 9 < rest then r.off + 9 else rest)))))) (setK 3 _) _) _) = _
    rw [q_k]
    show mB (dB (dret (.nx [some (.val (splD r l e)), some (.val (.int rest)), some (.val (.int (r.off + 10))), some (.val (lstI (possI r.side (if r.side = true then rest else (if r.off + 9 < rest then r.off + 9 else rest)))))])) _) = _
    rw [q_seq1, q_retS]
    have esl : eSl (eMeth "Splits" "_let_of" 3 m_Splits___let_of (eVar 0) (aCons (eVar 1) (aCons (eVar 3) (aNil)))) (oNo) (oSo (eB1 (fldE "Splits" "_many") (eVar 0))) [some (.val (splD r l e)), some (.val (.int rest)), some (.val (.int (r.off + 10))), some (.val (lstI (possI r.side (if r.side = true then rest else (if r.off + 9 < rest then r.off + 9 else rest)))))] = mret (.nw (lstI ((letOf r.soft (r.bad l) (r.bad e) rest (possI r.side (if r.side = true then rest else (if r.off + 9 < rest then r.off + 9 else rest)))).take r.off.toNat))) := by
      unfold eSl
      rw [em2, el, q_ret]
      have en : ∀ δ, oNo δ = mret none := fun _ => rfl
      rw [en, q_ret]
      have eo : oSo (eB1 (fldE "Splits" "_many") (eVar 0)) [some (.val (splD r l e)), some (.val (.int rest)), some (.val (.int (r.off + 10))), some (.val (lstI (possI r.side (if r.side = true then rest else (if r.off + 9 < rest then r.off + 9 else rest)))))] = mret (some r.off) := by
        unfold oSo
        simp only [q_ret, q_no, q_er, q_of, q_of0, q_next, q_seq, q_seq1, q_seq2, q_seq3, q_retS, q_set, q_asg, q_if, q_k, q_kB, q_ke, q_raise, q_body, q_b1, q_b2, q_b3, startD, rK, setK, asgK, EV.keep, EV.look, eAnd, eOr, eNot, eIf, _root_.Vi.e1, _root_.Vi.e2, eB1, eC, bOf, bNot, bAnd, bOr, eCall, aCons, aNil, argsOf, argOf, eVar, SV.ev, AV.sv, mI, mLe, mGe, mLt, mGt, mSub, mAdd, mL2, addD, mIx, ixD, eChain, eTup, eLst, keepL, dTup, dCons, dNil, dName, Option.map, Option.bind, List.map, List.length, List.replicate, List.append, List.cons_append, List.nil_append, List.getElem?_cons_zero, List.getElem?_cons_succ, List.set, Nat.sub_self, Nat.reduceAdd, Nat.reduceSub, Nat.reduceEqDiff, if_true, reduceIte, List.set_cons_zero, List.set_cons_succ, bTru, eNotT, truE_bl, truE_lst, truE_nw, q_quiet, f5]
      rw [eo, q_ret]
      show mof (some (EV.nw (.lst (Vi.cutD _ none (some r.off))))) = _
      rw [cut_take ho.o0]
      rfl
    rw [esl]
    simp only [q_ret, q_no, q_er, q_of, q_of0, q_next, q_seq, q_seq1, q_seq2, q_seq3, q_retS, q_set, q_asg, q_if, q_k, q_kB, q_ke, q_raise, q_body, q_b1, q_b2, q_b3, startD, rK, setK, asgK, EV.keep, EV.look, eAnd, eOr, eNot, eIf, _root_.Vi.e1, _root_.Vi.e2, eB1, eC, bOf, bNot, bAnd, bOr, eCall, aCons, aNil, argsOf, argOf, eVar, SV.ev, AV.sv, mI, mLe, mGe, mLt, mGt, mSub, mAdd, mL2, addD, mIx, ixD, eChain, eTup, eLst, keepL, dTup, dCons, dNil, dName, Option.map, Option.bind, List.map, List.length, List.replicate, List.append, List.cons_append, List.nil_append, List.getElem?_cons_zero, List.getElem?_cons_succ, List.set, Nat.sub_self, Nat.reduceAdd, Nat.reduceSub, Nat.reduceEqDiff, if_true, reduceIte, List.set_cons_zero, List.set_cons_succ, bTru, eNotT, truE_bl, truE_lst, truE_nw, q_quiet]
end K27

set_option Elab.async false
set_option linter.all false
set_option maxRecDepth 100000
set_option maxHeartbeats 8000000
namespace K27
open PySem PySem.Spec PyProof.Rows L2 Vi
abbrev stD (l : D) (n : Int) (r : D) : D := .tup [l, .int n, r]
abbrev stS (l : Str) (n : Int) (e : Str) : D := stD (.str l) n (.str e)
theorem at1 {l r : D} {n : Int} : atI [l, .int n, r] 1 = some (.int n) := rfl
theorem line3 : lineOk 3 = true := rfl
theorem line2 : lineOk 2 = true := rfl
theorem in_ints {b : Int} {ns : List Int} : inF false (.int b) (tupI ns) = some (.val (.bl (ns.contains b))) := by
  show (inD (.int b) (ns.map D.int)).map _ = _
  unfold inD
  rw [flat_ints]
  show some (EV.val (.bl (_))) = _
  rw [any_eq]
  rfl
theorem sz_in {r : Rl} (ho : r.Ok) {s : Int} (h : s ∈ r.sz) : 1 ≤ s ∧ s ≤ 5 := ho.sz.2 s h
theorem m_has {r : Rl} (ho : r.Ok) {s : Int} (h : s ∈ r.sz) : m_has_size [.val r.d, .val (.int s)] = mret (.val (.bl true)) := by
  have e1 := m_sz (d := .int s) rfl
  have hs := sz_in ho h
  have e1' : isSz (.int s) = true := by show szOk s = true; unfold szOk; rw [decide_eq_true hs.1, decide_eq_true hs.2]; rfl
  rw [e1'] at e1
  have e2 : eProp "Rule" m_Rule__sizes (eVar 0) [some (.val r.d), some (.val (.int s))] = mret (.val (tupI r.sz)) := q_prop (fs := r.fs) rfl m_sizes
  have hc : r.sz.contains s = true := by simpa using h
  show mB (bd_has_size [some (.val r.d), some (.val (.int s))]) = _
  unfold bd_has_size
  simp only [q_ret, q_no, q_er, q_of, q_of0, q_next, q_seq, q_seq1, q_seq2, q_seq3, q_retS, q_set, q_asg, q_if, q_k, q_kB, q_ke, q_raise, q_body, q_b1, q_b2, q_b3, startD, rK, setK, asgK, EV.keep, EV.look, eAnd, eOr, eNot, eIf, _root_.Vi.e1, _root_.Vi.e2, eB1, eC, bOf, bNot, bAnd, bOr, eCall, aCons, aNil, argsOf, argOf, eVar, SV.ev, AV.sv, mI, mLe, mGe, mLt, mGt, mSub, mAdd, mL2, addD, mIx, ixD, eChain, eTup, eLst, keepL, dTup, dCons, dNil, dName, Option.map, Option.bind, List.map, List.length, List.replicate, List.append, List.cons_append, List.nil_append, List.getElem?_cons_zero, List.getElem?_cons_succ, List.set, Nat.sub_self, Nat.reduceAdd, Nat.reduceSub, Nat.reduceEqDiff, if_true, reduceIte, List.set_cons_zero, List.set_cons_succ, bTru, eNotT, truE_bl, truE_lst, truE_nw, q_quiet, e1, e2, mIn, in_ints, hc]
theorem m_check {r : Rl} (ho : r.Ok) {s : Int} (h : s ∈ r.sz) : m_check_size [.val r.d, .val (.int s)] = mret (.val .non) := by
  have e := m_has ho h
  show mB (bd_check_size [some (.val r.d), some (.val (.int s))]) = _
  unfold bd_check_size
  simp only [q_ret, q_no, q_er, q_of, q_of0, q_next, q_seq, q_seq1, q_seq2, q_seq3, q_retS, q_set, q_asg, q_if, q_k, q_kB, q_ke, q_raise, q_body, q_b1, q_b2, q_b3, startD, rK, setK, asgK, EV.keep, EV.look, eAnd, eOr, eNot, eIf, _root_.Vi.e1, _root_.Vi.e2, eB1, eC, bOf, bNot, bAnd, bOr, eCall, aCons, aNil, argsOf, argOf, eVar, SV.ev, AV.sv, mI, mLe, mGe, mLt, mGt, mSub, mAdd, mL2, addD, mIx, ixD, eChain, eTup, eLst, keepL, dTup, dCons, dNil, dName, Option.map, Option.bind, List.map, List.length, List.replicate, List.append, List.cons_append, List.nil_append, List.getElem?_cons_zero, List.getElem?_cons_succ, List.set, Nat.sub_self, Nat.reduceAdd, Nat.reduceSub, Nat.reduceEqDiff, if_true, reduceIte, List.set_cons_zero, List.set_cons_succ, bTru, eNotT, truE_bl, truE_lst, truE_nw, q_quiet, e, Bool.not_true, Bool.false_eq_true, if_false]
theorem q_drop {m : DE} {δ : DS} {e : EV} (h : m δ = mret e) : sDrop m δ = dret (.nx δ) := by
  funext g
  show sOn m _ δ g = _
  unfold sOn
  rw [h]
  rfl
theorem mk_spl {r : Rl} {l e : Str} {δ : DS} {ma : DA} (hl : isEndB l = true) (he : isEndB e = true) (h : ma δ = mret [.val r.d, .val (.str l), .val (.str e)]) : eMakeK "Splits" 3 0 (fun as bs => as ++ bs) F_Splits ma aNil δ = mret (.val (splD r l e)) := by
  funext g
  unfold eMakeK
  rw [h, q_ret]
  show (match F_Splits [.val r.d, .val (.str l), .val (.str e)] g with
    | some (.ok fs, g') => some (Rs.ok (EV.val (.obj "Splits" fs)), g')
    | _ => none) = _
  rw [F_Splits_eq hl he]
  rfl
theorem m_offered' {r : Rl} (ho : r.Ok) {l e : Str} {n s : Int} (hl : isEndB l = true) (he : isEndB e = true) (h : s ∈ r.sz) (h0 : 0 ≤ n) (h1 : n ≤ 500) : ∃ ev, m_offered [.val r.d, .val (stS l n e), .val (.int s)] = mret ev ∧ IsL ev (offI r l e (n - s)) := by
  have hs := sz_in ho h
  obtain ⟨ev, e1, e2⟩ := m_offd (r := r) (l := l) (e := e) (rest := n - s) ho (by omega) (by omega)
  refine ⟨ev, ?_, e2⟩
  have ec := m_check ho h
  have n2 : (splFs r l e).lookup ("offered" : Str) = none := sp_none (by decide +kernel) (by decide +kernel) (by decide +kernel) (by decide +kernel) (by decide +kernel)
  show mB (bd_offered [some (.val r.d), some (.val (stS l n e)), some (.val (.int s)), none, none, none]) = _
  unfold bd_offered
  rw [q_seq, q_drop (e := .val .non) (by simp only [q_ret, q_no, q_er, q_of, q_of0, q_next, q_seq, q_seq1, q_seq2, q_seq3, q_retS, q_set, q_asg, q_if, q_k, q_kB, q_ke, q_raise, q_body, q_b1, q_b2, q_b3, startD, rK, setK, asgK, EV.keep, EV.look, eAnd, eOr, eNot, eIf, _root_.Vi.e1, _root_.Vi.e2, eB1, eC, bOf, bNot, bAnd, bOr, eCall, aCons, aNil, argsOf, argOf, eVar, SV.ev, AV.sv, mI, mLe, mGe, mLt, mGt, mSub, mAdd, mL2, addD, mIx, ixD, eChain, eTup, eLst, keepL, dTup, dCons, dNil, dName, Option.map, Option.bind, List.map, List.length, List.replicate, List.append, List.cons_append, List.nil_append, List.getElem?_cons_zero, List.getElem?_cons_succ, List.set, Nat.sub_self, Nat.reduceAdd, Nat.reduceSub, Nat.reduceEqDiff, if_true, reduceIte, List.set_cons_zero, List.set_cons_succ, bTru, eNotT, truE_bl, truE_lst, truE_nw, q_quiet, ec]), q_seq1, q_seq, q_asg]
  show mB (dB (sK (mret (.val (stS l n e))) _ _) _) = _
  rw [q_k]
  show mB (dB (dret (.nx [some (.val r.d), some (.val (stS l n e)), some (.val (.int s)), some (.val (.str l)), some (.val (.int n)), some (.val (.str e))])) _) = _
  rw [q_seq1, q_retS]
  have em := q_meth (c := "Splits") (m := "offered") (n := 2) (f := m_Splits__offered) (me := eMakeK "Splits" 3 0 (fun as bs => as ++ bs) F_Splits (aCons (eVar 0) (aCons (eVar 3) (aCons (eVar 5) (aNil)))) (aNil)) (ma := aCons (Vi.e2 mSub (eVar 4) (eVar 2)) aNil) (δ := [some (.val r.d), some (.val (stS l n e)), some (.val (.int s)), some (.val (.str l)), some (.val (.int n)), some (.val (.str e))]) (fs := splFs r l e) (mk_spl hl he rfl) n2 (es := [.val (.int (n - s))]) rfl (as := [.val (.int (n - s))]) rfl rfl
  have el : m_Splits__offered (.val (.obj "Splits" (splFs r l e)) :: [.val (.int (n - s))]) = _ := e1
  rw [em, el, q_k, e2.rk, q_b1]
theorem m_refuses' {r : Rl} (ho : r.Ok) {l e : Str} {n s : Int} (hl : isEndB l = true) (he : isEndB e = true) (h : s ∈ r.sz) (h0 : 0 ≤ n) (h1 : n ≤ 500) : m_refuses [.val r.d, .val (stS l n e), .val (.int s)] = mret (.val (.bl (offI r l e (n - s)).isEmpty)) := by
  obtain ⟨ev, e1, e2⟩ := m_offered' ho hl he h h0 h1
  have t := e2.tru
  show mB (bd_refuses [some (.val r.d), some (.val (stS l n e)), some (.val (.int s))]) = _
  unfold bd_refuses
  simp only [q_ret, q_no, q_er, q_of, q_of0, q_next, q_seq, q_seq1, q_seq2, q_seq3, q_retS, q_set, q_asg, q_if, q_k, q_kB, q_ke, q_raise, q_body, q_b1, q_b2, q_b3, startD, rK, setK, asgK, EV.keep, EV.look, eAnd, eOr, eNot, eIf, _root_.Vi.e1, _root_.Vi.e2, eB1, eC, bOf, bNot, bAnd, bOr, eCall, aCons, aNil, argsOf, argOf, eVar, SV.ev, AV.sv, mI, mLe, mGe, mLt, mGt, mSub, mAdd, mL2, addD, mIx, ixD, eChain, eTup, eLst, keepL, dTup, dCons, dNil, dName, Option.map, Option.bind, List.map, List.length, List.replicate, List.append, List.cons_append, List.nil_append, List.getElem?_cons_zero, List.getElem?_cons_succ, List.set, Nat.sub_self, Nat.reduceAdd, Nat.reduceSub, Nat.reduceEqDiff, if_true, reduceIte, List.set_cons_zero, List.set_cons_succ, bTru, eNotT, truE_bl, truE_lst, truE_nw, q_quiet, e1, t, Bool.not_not]
theorem m_possible' {r : Rl} (ho : r.Ok) {l e : Str} {n s : Int} (h : s ∈ r.sz) (h0 : 0 ≤ n) (h1 : n ≤ 500) : m_possible [.val r.d, .val (stS l n e), .val (.int s)] = mret (.nw (lstI (possI r.side (n - s)))) := by
  have hs := sz_in ho h
  have ec := m_check ho h
  have ep := m_poss (side := r.side) (rest := n - s) (by omega) (by omega)
  have e2 : eProp "Rule" m_Rule__where (eVar 0) [some (.val r.d), some (.val (stS l n e)), some (.val (.int s))] = mret (.val (.str r.wh)) := q_prop (fs := r.fs) rfl m_where
  show mB (bd_possible [some (.val r.d), some (.val (stS l n e)), some (.val (.int s))]) = _
  unfold bd_possible
  rw [q_seq, q_drop (e := .val .non) (by simp only [q_ret, q_no, q_er, q_of, q_of0, q_next, q_seq, q_seq1, q_seq2, q_seq3, q_retS, q_set, q_asg, q_if, q_k, q_kB, q_ke, q_raise, q_body, q_b1, q_b2, q_b3, startD, rK, setK, asgK, EV.keep, EV.look, eAnd, eOr, eNot, eIf, _root_.Vi.e1, _root_.Vi.e2, eB1, eC, bOf, bNot, bAnd, bOr, eCall, aCons, aNil, argsOf, argOf, eVar, SV.ev, AV.sv, mI, mLe, mGe, mLt, mGt, mSub, mAdd, mL2, addD, mIx, ixD, eChain, eTup, eLst, keepL, dTup, dCons, dNil, dName, Option.map, Option.bind, List.map, List.length, List.replicate, List.append, List.cons_append, List.nil_append, List.getElem?_cons_zero, List.getElem?_cons_succ, List.set, Nat.sub_self, Nat.reduceAdd, Nat.reduceSub, Nat.reduceEqDiff, if_true, reduceIte, List.set_cons_zero, List.set_cons_succ, bTru, eNotT, truE_bl, truE_lst, truE_nw, q_quiet, ec]), q_seq1]
  simp only [q_ret, q_no, q_er, q_of, q_of0, q_next, q_seq, q_seq1, q_seq2, q_seq3, q_retS, q_set, q_asg, q_if, q_k, q_kB, q_ke, q_raise, q_body, q_b1, q_b2, q_b3, startD, rK, setK, asgK, EV.keep, EV.look, eAnd, eOr, eNot, eIf, _root_.Vi.e1, _root_.Vi.e2, eB1, eC, bOf, bNot, bAnd, bOr, eCall, aCons, aNil, argsOf, argOf, eVar, SV.ev, AV.sv, mI, mLe, mGe, mLt, mGt, mSub, mAdd, mL2, addD, mIx, ixD, eChain, eTup, eLst, keepL, dTup, dCons, dNil, dName, Option.map, Option.bind, List.map, List.length, List.replicate, List.append, List.cons_append, List.nil_append, List.getElem?_cons_zero, List.getElem?_cons_succ, List.set, Nat.sub_self, Nat.reduceAdd, Nat.reduceSub, Nat.reduceEqDiff, if_true, reduceIte, List.set_cons_zero, List.set_cons_succ, bTru, eNotT, truE_bl, truE_lst, truE_nw, q_quiet, e2, mEq, eqU_str, wh_side, at1, ep]
def fitsD (n : Int) : D → D → Bool
  | .int s, .int b => decide (1 ≤ s) && decide (s ≤ 5) && decide (0 ≤ b) && decide (s + b ≤ n)
  | _, _ => false
def partsD (l : D) (n s b : Int) (r : D) : D := .tup [.tup [l, .int b, .str "sold"], .tup [.str "sold", .int (n - s - b), r]]
end K27

set_option Elab.async false
set_option linter.all false
set_option maxRecDepth 100000
set_option maxHeartbeats 8000000
namespace K27
open PySem PySem.Spec PyProof.Rows L2 Vi
theorem at_in {α : Type} {ds : List α} {r : Int} (h0 : 0 ≤ r) (h1 : r < ds.length) : ∃ d ∈ ds, atI ds r = some d := by
  have hr : r.toNat < ds.length := by omega
  refine ⟨ds[r.toNat], List.getElem_mem hr, ?_⟩
  have e := atI_nat (xs := ds) (List.getElem?_eq_getElem hr)
  rw [show ((r.toNat : Nat) : Int) = r by omega] at e
  exact e
theorem ok_ixn {ds : List D} {r : Int} {g : Bag} {R : EV → Bag → Prop} (h0 : 0 ≤ r) (h1 : r < ds.length) (h : ∀ d ∈ ds, R (.val d) g) : Ok (mIx (.nw (.lst ds)) (.val (.int r))) g R := by
  obtain ⟨d, hd, e⟩ := at_in h0 h1
  exact ok_of (o := (atI ds r).map EV.val) (a := .val d) (by rw [e]; rfl) (h d hd)
theorem ok_eqI {r z : Int} {g : Bag} {R : EV → Bag → Prop} (h : R (.val (.bl (decide (r = z)))) g) : Ok (mEq (.val (.int r)) (.val (.int z))) g R :=
  ok_of (o := (eqU (.int r) (.int z)).map fun t => EV.val (.bl t)) (a := .val (.bl (decide (r = z)))) (by rw [eqU_int]; rfl) h
theorem ok_law_one {ds : List D} {g : Bag} {R : EV → Bag → Prop} (hg : bagOk g = true) (h1 : 1 ≤ ds.length) (h2 : ds.length ≤ 1000) (h : ∀ d ∈ ds, ∀ g', bagOk g' = true → R (.val d) g') : Ok (m__law_one [.bag, .val (.lst ds)]) g R := by
  refine ok_body (okn_ret (ok_bind (m := eVar 1 _) (ok_ret (a := EV.val (.lst ds)) ?_)))
  refine ok_bind (m := eCall 2 m__law_take (aCons (eVar 0) (aCons (eB1 lenE (eVar 1)) (aNil))) _) (ok_bind (m := aCons (eVar 0) (aCons (eB1 lenE (eVar 1)) (aNil)) _) (ok_ret (a := [EV.bag, EV.val (.int (ds.length : Int))]) (ok_take hg (by omega) (by omega) fun r g' h0 h3 hg' => ?_)))
  obtain ⟨d, hd, e⟩ := at_in h0 h3
  exact ok_of (o := (atI ds r).map EV.val) (a := .val d) (by rw [e]; rfl) ⟨_, rfl, _, rfl, h d hd g' hg'⟩
theorem ok_end {g : Bag} {R : EV → Bag → Prop} (hg : bagOk g = true) (h : ∀ d, isEndB d = true → ∀ g', bagOk g' = true → R (.val (.str d)) g') : Ok (m__law_end [.bag]) g R := by
  refine ok_body (okn_ret (ok_bind (ok_ret (a := [EV.bag, EV.nw (.lst [.str "pillar", .str "sold", .str "wall"])]) (ok_law_one hg (by decide) (by decide) fun d hd g' hg' => ?_))))
  rcases List.mem_cons.mp hd with rfl | hd
  · exact ⟨_, rfl, _, rfl, h _ (by decide +kernel) g' hg'⟩
  rcases List.mem_cons.mp hd with rfl | hd
  · exact ⟨_, rfl, _, rfl, h _ (by decide +kernel) g' hg'⟩
  rcases List.mem_cons.mp hd with rfl | hd
  · exact ⟨_, rfl, _, rfl, h _ (by decide +kernel) g' hg'⟩
  cases hd
theorem ok_stretch {u : Int} {g : Bag} {R : EV → Bag → Prop} (hg : bagOk g = true) (h0 : 0 ≤ u) (h1 : u ≤ 400) (h : ∀ l n r g', isEndB l = true → isEndB r = true → 0 ≤ n → n ≤ u → bagOk g' = true → R (.val (stS l n r)) g') : Ok (m__law_stretch [.bag, .val (.int u)]) g R := by
  refine ok_body (okn_ret (ok_bind (ok_bind (m := eCall 1 m__law_end (aCons (eVar 0) (aNil)) _) ?_)))
  refine ok_bind (ok_ret (a := [EV.bag]) (ok_end hg fun l hl g1 hg1 => ?_))
  refine ok_bind (ok_bind (m := eCall 2 m__law_take (aCons (eVar 0) (aCons (e2 mAdd (eVar 1) (eC (.int 1))) (aNil))) _) (ok_bind (ok_ret (a := [EV.bag, EV.val (.int (u + 1))]) (ok_take hg1 (by omega) (by omega) fun n g2 hn0 hn1 hg2 => ?_))))
  refine ok_bind (ok_bind (m := eCall 1 m__law_end (aCons (eVar 0) (aNil)) _) (ok_bind (ok_ret (a := [EV.bag]) (ok_end hg2 fun r hr g3 hg3 => ?_))))
  exact ok_ret (ok_ret (ok_ret (ok_ret ⟨_, rfl, _, rfl, h l n r g3 hl hr hn0 (by omega) hg3⟩)))
/-! drawn lengths and sizes -/
def five : List D := [.int 1, .int 2, .int 3, .int 4, .int 5]
def PL (ds acc : List D) (g : Bag) : Prop := bagOk g = true ∧ ∃ ns : List Int, acc = ns.map D.int ∧ ns.all szOk = true ∧ ns.length + ds.length ≤ 5 ∧ ∀ d ∈ ds, ∃ i, d = .int i ∧ szOk i = true
theorem pl0 {g : Bag} (hg : bagOk g = true) : PL five [] g := ⟨hg, [], rfl, rfl, by decide, fun d hd => by
  unfold five at hd
  simp at hd
  rcases hd with rfl | rfl | rfl | rfl | rfl <;> exact ⟨_, rfl, by decide⟩⟩
theorem pl_skip {d : D} {ds acc : List D} {g g' : Bag} (h : PL (d :: ds) acc g) (hg : bagOk g' = true) : PL ds acc g' := by
  obtain ⟨_, ns, e, a, l, m⟩ := h
  exact ⟨hg, ns, e, a, by simp only [List.length_cons] at l; omega, fun d hd => m d (List.mem_cons_of_mem _ hd)⟩
theorem pl_take {d : D} {ds acc : List D} {g g' : Bag} (h : PL (d :: ds) acc g) (hg : bagOk g' = true) : lineOk (acc.length + 1) = true ∧ PL ds (acc ++ [d]) g' := by
  obtain ⟨_, ns, e, a, l, m⟩ := h
  obtain ⟨i, rfl, hi⟩ := m d List.mem_cons_self
  simp only [List.length_cons] at l
  subst e
  refine ⟨decide_eq_true (by rw [List.length_map]; omega), hg, ns ++ [i], by simp, by rw [List.all_append, a, List.all_cons, hi]; rfl, by simp; omega, fun d hd => m d (List.mem_cons_of_mem _ hd)⟩
def okL (ns : List Int) : Prop := ns.all szOk = true ∧ ns.length ≤ 5
theorem ok_lengths {g : Bag} {R : EV → Bag → Prop} (hg : bagOk g = true) (h : ∀ ev ns g', IsL ev ns → okL ns → bagOk g' = true → R ev g') : Ok (m__law_lengths [.bag]) g R := by
  refine ok_body ?_
  unfold bd__law_lengths
  refine okn_seq (okn_set (ok_bind (ok_ret (a := [EV.bag, EV.val (.int 6)]) (ok_take hg (by decide) (by decide) fun r g1 h0 h1 hg1 => ⟨_, rfl, ?_⟩))))
  refine okn_seq (okn_if (ok_eq (a := decide (r < 3)) (g' := g1) rfl ?_))
  by_cases hr : r < 3
  · rw [if_pos (decide_eq_true hr)]
    refine okn_ret (ok_bind (ok_ret (a := EV.nw (.lst [.lst [], .lst [.int 1], .lst [.int 1, .int 2]])) (ok_bind (ok_ret (a := EV.val (.int r)) ?_))))
    refine ok_ixn h0 hr fun d hd => ?_
    rcases List.mem_cons.mp hd with rfl | hd
    · exact ⟨_, rfl, _, rfl, h _ [] _ (Or.inl rfl) ⟨rfl, by decide⟩ hg1⟩
    rcases List.mem_cons.mp hd with rfl | hd
    · exact ⟨_, rfl, _, rfl, h _ [1] _ (Or.inl rfl) ⟨rfl, by decide⟩ hg1⟩
    rcases List.mem_cons.mp hd with rfl | hd
    · exact ⟨_, rfl, _, rfl, h _ [1, 2] _ (Or.inl rfl) ⟨rfl, by decide⟩ hg1⟩
    cases hd
  · rw [if_neg (by rw [decide_eq_false hr]; decide)]
    refine okn_next (okn_ret (ok_lc (ds := five) PL rfl rfl ?_ (pl0 hg1) ?_))
    · intro d ds acc g hP
      refine ⟨_, rfl, ?_⟩
      refine ok_bind (ok_bind (m := eCall 2 m__law_take (aCons (eVar 0) (aCons (eC (.int 3)) (aNil))) _) (ok_bind (ok_ret (a := [EV.bag, EV.val (.int 3)]) (ok_take hP.1 (by decide) (by decide) fun r g2 h2 h3 hg2 => ?_))))
      refine ok_bind (ok_ret (a := EV.val (.int 0)) (ok_eqI ?_))
      refine ok_ret ?_
      by_cases hz : r = 0
      · rw [if_pos (decide_eq_true hz)]
        exact ok_ret ⟨d, rfl, pl_take hP hg2⟩
      · rw [if_neg (by rw [decide_eq_false hz]; decide)]
        exact pl_skip hP hg2
    · rintro acc g' ⟨hg', ns, rfl, a, l, _⟩
      exact ⟨_, rfl, _, rfl, h _ ns _ (Or.inr rfl) ⟨a, by simpa using l⟩ hg'⟩
theorem ok_sizes {g : Bag} {R : EV → Bag → Prop} (hg : bagOk g = true) (h : ∀ ev ns g', IsL ev ns → okL ns → ns ≠ [] → bagOk g' = true → R ev g') : Ok (m__law_sizes [.bag]) g R := by
  refine ok_body ?_
  unfold bd__law_sizes
  refine okn_seq (okn_set (ok_bind (ok_ret (a := [EV.bag, EV.val (.int 6)]) (ok_take hg (by decide) (by decide) fun r g1 h0 h1 hg1 => ⟨_, rfl, ?_⟩))))
  refine okn_seq (okn_if (ok_eq (a := decide (r < 4)) (g' := g1) rfl ?_))
  by_cases hr : r < 4
  · rw [if_pos (decide_eq_true hr)]
    refine okn_ret (ok_bind (ok_ret (a := EV.nw (.lst [.lst [.int 2], .lst [.int 1, .int 2], .lst [.int 2, .int 3], .lst [.int 2, .int 3, .int 4]])) (ok_bind (ok_ret (a := EV.val (.int r)) ?_))))
    refine ok_ixn h0 hr fun d hd => ?_
    rcases List.mem_cons.mp hd with rfl | hd
    · exact ⟨_, rfl, _, rfl, h _ [2] _ (Or.inl rfl) ⟨rfl, by decide⟩ (by decide) hg1⟩
    rcases List.mem_cons.mp hd with rfl | hd
    · exact ⟨_, rfl, _, rfl, h _ [1, 2] _ (Or.inl rfl) ⟨rfl, by decide⟩ (by decide) hg1⟩
    rcases List.mem_cons.mp hd with rfl | hd
    · exact ⟨_, rfl, _, rfl, h _ [2, 3] _ (Or.inl rfl) ⟨rfl, by decide⟩ (by decide) hg1⟩
    rcases List.mem_cons.mp hd with rfl | hd
    · exact ⟨_, rfl, _, rfl, h _ [2, 3, 4] _ (Or.inl rfl) ⟨rfl, by decide⟩ (by decide) hg1⟩
    cases hd
  · rw [if_neg (by rw [decide_eq_false hr]; decide)]
    refine okn_next (okn_ret (ok_bind (ok_lc (ds := five) PL rfl rfl ?_ (pl0 hg1) ?_)))
    · intro d ds acc g hP
      refine ⟨_, rfl, ?_⟩
      refine ok_bind (ok_bind (m := eCall 2 m__law_take (aCons (eVar 0) (aCons (eC (.int 2)) (aNil))) _) (ok_bind (ok_ret (a := [EV.bag, EV.val (.int 2)]) (ok_take hP.1 (by decide) (by decide) fun r g2 h2 h3 hg2 => ?_))))
      refine ok_bind (ok_ret (a := EV.val (.int 0)) (ok_eqI ?_))
      refine ok_ret ?_
      by_cases hz : r = 0
      · rw [if_pos (decide_eq_true hz)]
        exact ok_ret ⟨d, rfl, pl_take hP hg2⟩
      · rw [if_neg (by rw [decide_eq_false hz]; decide)]
        exact pl_skip hP hg2
    · rintro acc g' ⟨hg', ns, rfl, a, l, _⟩
      have hl : ns.length ≤ 5 := by simpa using l
      cases ns with
      | cons n ns => exact ok_ret ⟨_, rfl, _, rfl, h _ (n :: ns) _ (Or.inr rfl) ⟨a, hl⟩ (by simp) hg'⟩
      | nil =>
        refine ok_bind ?_
        (repeat (first | refine ok_ret ?_ | refine ok_bind ?_))
        refine ok_take hg' (by decide) (by decide) fun r g2 h2 h3 hg2 => ?_
        refine ok_of (o := some (EV.val (.int (1 + r)))) (a := EV.val (.int (1 + r))) rfl ?_
        have hs : szOk (1 + r) = true := by unfold szOk; rw [decide_eq_true (show 1 ≤ 1 + r by omega), decide_eq_true (show 1 + r ≤ 5 by omega)]; rfl
        exact ok_ret (ok_ret ⟨_, rfl, _, rfl, h _ [1 + r] _ (Or.inr rfl) ⟨by rw [List.all_cons, hs]; rfl, by simp⟩ (by simp) hg2⟩)
end K27

set_option Elab.async false
set_option linter.all false
set_option maxRecDepth 100000
set_option maxHeartbeats 8000000
namespace K27
open PySem PySem.Spec PyProof.Rows L2 Vi
def tpE (e : Str) (ns : List Int) : D := .tup [.str e, lstI ns]
def kvB (a b c : List Int) : List (Key × D) := [(.inr "pillar", lstI a), (.inr "sold", lstI b), (.inr "wall", lstI c)]
def kvR (sz a b c : List Int) (soft : Bool) (w : Str) (o : Int) : List (Key × D) := [(.inr "sizes", lstI sz), (.inr "bad", .dct (kvB a b c)), (.inr "soft", .bl soft), (.inr "where", .str w), (.inr "offer", .int o)]
def P4 (ds acc : List D) (g : Bag) : Prop := bagOk g = true ∧
  ((ds = [.str "pillar", .str "sold", .str "wall"] ∧ acc = []) ∨ (ds = [.str "sold", .str "wall"] ∧ ∃ a, okL a ∧ acc = [tpE "pillar" a]) ∨ (ds = [.str "wall"] ∧ ∃ a b, okL a ∧ okL b ∧ acc = [tpE "pillar" a, tpE "sold" b]) ∨ (ds = [] ∧ ∃ a b c, okL a ∧ okL b ∧ okL c ∧ acc = [tpE "pillar" a, tpE "sold" b, tpE "wall" c]))
theorem ok_rule {g : Bag} {R : EV → Bag → Prop} (hg : bagOk g = true) (h : ∀ sz a b c soft (w : Str) o g', okL sz → sz ≠ [] → okL a → okL b → okL c → (w = "any" ∨ w = "side") → 0 ≤ o → o ≤ 5 → bagOk g' = true → R (.nw (.dct (kvR sz a b c soft w o))) g') : Ok (m__law_rule [.bag]) g R := by
  refine ok_body ?_
  unfold bd__law_rule
  refine okn_seq (okn_setO ?_)
  refine ok_bind ?_
  (repeat (first | refine ok_ret ?_ | refine ok_bind ?_))
  refine ok_sizes hg fun ev sz g1 hev hsz hne hg1 => ?_
  rw [hev.keep]
  refine ok_bind (ok_bind (ok_ret (ok_bind (ok_bind ?_))))
  refine ok_lc (ds := [.str "pillar", .str "sold", .str "wall"]) P4 rfl rfl ?_ ⟨hg1, Or.inl ⟨rfl, rfl⟩⟩ ?_
  · intro d ds acc g hP
    have run : ∀ (e : Str) (R : EV → Bag → Prop), (∀ ns g', okL ns → bagOk g' = true → R (.val (tpE e ns)) g') → Ok ((eTup (aCons (eVar 2) (aCons (eCall 1 m__law_lengths (aCons (eVar 0) (aNil))) (aNil)))) [some .bag, none, some (.val (.str e))]) g R := by
      intro e R hR
      refine ok_bind ?_
      (repeat (first | refine ok_ret ?_ | refine ok_bind ?_))
      refine ok_lengths hP.1 fun ev ns g2 hev hns hg2 => ?_
      (repeat (first | refine ok_ret ?_ | refine ok_bind ?_))
      rcases hev with rfl | rfl
      · exact ok_ret (hR ns g2 hns hg2)
      · exact ok_ret (hR ns g2 hns hg2)
    rcases hP.2 with ⟨q, rfl⟩ | ⟨q, a, ha, rfl⟩ | ⟨q, a, b, ha, hb, rfl⟩ | ⟨q, _⟩
    · cases q
      refine ⟨_, rfl, ok_ret ?_⟩
      rw [if_pos rfl]
      exact run _ _ fun ns g' hn hg' => ⟨_, rfl, rfl, hg', Or.inr (Or.inl ⟨rfl, ns, hn, rfl⟩)⟩
    · cases q
      refine ⟨_, rfl, ok_ret ?_⟩
      rw [if_pos rfl]
      exact run _ _ fun ns g' hn hg' => ⟨_, rfl, rfl, hg', Or.inr (Or.inr (Or.inl ⟨rfl, a, ns, ha, hn, rfl⟩))⟩
    · cases q
      refine ⟨_, rfl, ok_ret ?_⟩
      rw [if_pos rfl]
      exact run _ _ fun ns g' hn hg' => ⟨_, rfl, rfl, hg', Or.inr (Or.inr (Or.inr ⟨rfl, a, b, ns, ha, hb, hn, rfl⟩))⟩
    · cases q
  · rintro acc g2 ⟨hg2, hP⟩
    rcases hP with ⟨q, _⟩ | ⟨q, _⟩ | ⟨q, _⟩ | ⟨_, a, b, c, ha, hb, hc, rfl⟩
    · cases q
    · cases q
    · cases q
    refine ok_of (o := some (EV.nw (.dct (kvB a b c)))) (a := EV.nw (.dct (kvB a b c))) rfl ?_
    (repeat (first | refine ok_ret ?_ | refine ok_bind ?_))
    refine ⟨.dct [(.inr "sizes", lstI sz), (.inr "bad", .dct (kvB a b c))], rfl, ?_⟩
    refine okn_seq (okn_asg ?_)
    refine ok_bind ?_
    (repeat (first | refine ok_ret ?_ | refine ok_bind ?_))
    refine ok_take hg2 (by decide) (by decide) fun r1 g3 h0 h1 hg3 => ?_
    obtain ⟨soft, hsoft⟩ : ∃ c : Bool, (PyData.int r1).eqv (PyData.int 0) = c := ⟨_, rfl⟩
    (repeat (first | refine ok_ret ?_ | refine ok_bind ?_))
    rw [hsoft]
    refine ok_take hg3 (by decide) (by decide) fun r2 g4 h2 h3 hg4 => ?_
    refine ok_ixn (ds := [.str "any", .str "any", .str "side"]) h2 h3 fun d hd => ?_
    obtain ⟨w, rfl, hw⟩ : ∃ w : Str, d = .str w ∧ (w = "any" ∨ w = "side") := by
      rcases List.mem_cons.mp hd with rfl | hd
      · exact ⟨_, rfl, Or.inl rfl⟩
      rcases List.mem_cons.mp hd with rfl | hd
      · exact ⟨_, rfl, Or.inl rfl⟩
      rcases List.mem_cons.mp hd with rfl | hd
      · exact ⟨_, rfl, Or.inr rfl⟩
      cases hd
    (repeat (first | refine ok_ret ?_ | refine ok_bind ?_))
    refine ⟨.tup [.bl (soft), .str w], [some .bag, some (.own (.dct [(.inr "sizes", lstI sz), (.inr "bad", .dct (kvB a b c)), (.inr "soft", .bl (soft)), (.inr "where", .str w)])), none], rfl, rfl, ?_⟩
    refine okn_seq ?_
    have put : ∀ (o : Int) (g5 : Bag), 0 ≤ o → o ≤ 5 → bagOk g5 = true → Okn (sRetO 1) [some .bag, some (.own (.dct (kvR sz a b c soft w o))), none] g5 (fun o g' => ∃ e, o = .rt e ∧ R e g') := fun o g5 ho0 ho5 hg5 => ⟨_, _, rfl, _, rfl, h sz a b c soft w o g5 hsz hne ha hb hc hw ho0 ho5 hg5⟩
    refine okn_on ?_
    refine ok_bind ?_
    (repeat (first | refine ok_ret ?_ | refine ok_bind ?_))
    refine ok_take hg4 (by decide) (by decide) fun r3 g5 h4 h5 hg5 => ?_
    (repeat (first | refine ok_ret ?_ | refine ok_bind ?_))
    refine ok_take hg5 (by decide) (by decide) fun r4 g6 h6 h7 hg6 => ?_
    refine ok_ixn (ds := [.int 0, .int 0, .int 0, .int 1, .int 2, .int (1 + r3)]) h6 h7 fun d hd => ?_
    obtain ⟨o, rfl, ho0, ho5⟩ : ∃ o, d = .int o ∧ 0 ≤ o ∧ o ≤ 5 := by
      rcases List.mem_cons.mp hd with rfl | hd
      · exact ⟨_, rfl, by decide, by decide⟩
      rcases List.mem_cons.mp hd with rfl | hd
      · exact ⟨_, rfl, by decide, by decide⟩
      rcases List.mem_cons.mp hd with rfl | hd
      · exact ⟨_, rfl, by decide, by decide⟩
      rcases List.mem_cons.mp hd with rfl | hd
      · exact ⟨_, rfl, by decide, by decide⟩
      rcases List.mem_cons.mp hd with rfl | hd
      · exact ⟨_, rfl, by decide, by decide⟩
      rcases List.mem_cons.mp hd with rfl | hd
      · exact ⟨_, rfl, by omega, by omega⟩
      cases hd
    refine okn_on (ok_ret ?_)
    exact ⟨_, _, rfl, put o g6 ho0 ho5 hg6⟩
theorem mkR {sz a b c : List Int} {soft : Bool} {w : Str} (h1 : okL sz) (h2 : sz ≠ []) (ha : okL a) (hb : okL b) (hc : okL c) (hw : w = "any" ∨ w = "side") : ∃ r, mkRl (lstI sz) (.dct (kvB a b c)) soft w 0 = some r ∧ r.off = 0 := by
  have nt : ∀ ns, ntsOf (lstI ns) = some ns := fun ns => asInt_map ns
  have nk : ∀ ns, okL ns → numsOk (lstI ns) = true := fun ns h => by
    unfold numsOk
    rw [nt]
    dsimp only
    rw [h.1, decide_eq_true (show ns.length < 64 by have := h.2; omega)]
    rfl
  have kb : (kvB a b c).all badKv = true := by
    unfold kvB
    simp only [List.all_cons, List.all_nil, badKv, nk a ha, nk b hb, nk c hc]
    rfl
  have bo : badOf (.dct (kvB a b c)) = some (badAt (kvB a b c) "pillar", badAt (kvB a b c) "sold", badAt (kvB a b c) "wall") := by
    unfold badOf
    dsimp only
    rw [if_pos (by rw [kb]; rfl)]
  have hw' : (decide (w = "any") || decide (w = "side")) = true := by
    rcases hw with rfl | rfl <;> simp
  have hne : (!sz.isEmpty) = true := by cases sz with
    | nil => exact absurd rfl h2
    | cons => rfl
  refine ⟨⟨sortU sz, sortU (badAt (kvB a b c) "pillar"), sortU (badAt (kvB a b c) "sold"), sortU (badAt (kvB a b c) "wall"), soft, decide (w = "side"), 0⟩, ?_, rfl⟩
  unfold mkRl
  rw [nt, bo]
  show (if _ then _ else _) = _
  rw [if_pos (by rw [nk sz h1, hne, hw']; rfl)]
theorem m_made {sz a b c : List Int} {soft : Bool} {w : Str} {o : Int} (h1 : okL sz) (h2 : sz ≠ []) (ha : okL a) (hb : okL b) (hc : okL c) (hw : w = "any" ∨ w = "side") (ho : o = 0) : ∃ r : Rl, m__law_made [.val (.dct (kvR sz a b c soft w o))] = mret (.val r.d) ∧ r.Ok ∧ r.off = 0 := by
  subst ho
  obtain ⟨r, e, e0⟩ := mkR (soft := soft) h1 h2 ha hb hc hw
  refine ⟨r, ?_, mkRl_ok e, e0⟩
  funext g
  show mB (sRet _ [some (.val (.dct (kvR sz a b c soft w 0)))]) g = _
  rw [q_retS]
  have q : eMakeK "Rule" 2 3 (fun as bs => as ++ bs) F_Rule (aCons (eDGet (eVar 0) (eC (.str "sizes"))) (aCons (eDGet (eVar 0) (eC (.str "bad"))) (aNil))) (aCons (eDGet (eVar 0) (eC (.str "soft"))) (aCons (eDGet (eVar 0) (eC (.str "where"))) (aCons (eDGet (eVar 0) (eC (.str "offer"))) (aNil)))) [some (.val (.dct (kvR sz a b c soft w 0)))] g = some (.ok (.val r.d), g) := by
    have f : F_Rule [.val (lstI sz), .val (.dct (kvB a b c)), .val (.bl soft), .val (.str w), .val (.int 0)] g = some (.ok r.fs, g) := by
      show (mkRl _ _ _ _ _).map _ = _
      rw [e]
      rfl
    show (match F_Rule [.val (lstI sz), .val (.dct (kvB a b c)), .val (.bl soft), .val (.str w), .val (.int 0)] g with
      | some (.ok fs, g') => some (Rs.ok (EV.val (.obj "Rule" fs)), g')
      | _ => none) = _
    rw [f]
    rfl
  unfold mB sK
  rw [q]
  rfl
end K27

set_option Elab.async false
set_option linter.all false
set_option maxRecDepth 100000
set_option maxHeartbeats 8000000
namespace K27
open PySem PySem.Spec PyProof.Rows L2 Vi
/-! turned about -/
theorem mem_poss {side : Bool} {rest b : Int} : b ∈ possI side rest ↔ if side = true ∧ 0 < rest then b = 0 ∨ b = rest else 0 ≤ b ∧ b ≤ rest := by
  unfold possI
  split
  · simp
  · rw [List.mem_map]
    constructor
    · rintro ⟨i, hi, rfl⟩
      have := List.mem_range.mp hi
      omega
    · intro h
      exact ⟨b.toNat, List.mem_range.mpr (by omega), by omega⟩
theorem poss_bd {side : Bool} {rest b : Int} (h : b ∈ possI side rest) : 0 ≤ b ∧ b ≤ rest := by
  have h' := mem_poss.mp h
  split at h' <;> omega
theorem poss_up {side : Bool} {rest : Int} : (possI side rest).Pairwise (· < ·) := by
  unfold possI
  split
  · rename_i h
    simp
    exact h.2
  · rw [List.pairwise_map]
    refine List.pairwise_lt_range.imp ?_
    intro a b h
    omega
theorem poss_mir {side : Bool} {rest b : Int} : rest - b ∈ possI side rest ↔ b ∈ possI side rest := by
  rw [mem_poss, mem_poss]
  split <;> omega
theorem good_mir {near far : List Int} {rest b : Int} : goodI far near rest (rest - b) = goodI near far rest b := by
  unfold goodI
  rw [show rest - (rest - b) = b by omega, Bool.and_comm]
theorem fil_mir {side : Bool} {near far : List Int} {rest b : Int} : rest - b ∈ (possI side rest).filter (goodI far near rest) ↔ b ∈ (possI side rest).filter (goodI near far rest) := by
  rw [List.mem_filter, List.mem_filter, poss_mir, good_mir]
theorem fil_nil {side : Bool} {near far : List Int} {rest : Int} (h : (possI side rest).filter (goodI near far rest) = []) : (possI side rest).filter (goodI far near rest) = [] := by
  refine List.eq_nil_iff_forall_not_mem.mpr fun b hb => ?_
  have := (fil_mir (side := side) (near := far) (far := near) (rest := rest) (b := b)).mpr hb
  rw [h] at this
  cases this
theorem let_mir {soft side : Bool} {near far : List Int} {rest b : Int} : rest - b ∈ letOf soft far near rest (possI side rest) ↔ b ∈ letOf soft near far rest (possI side rest) := by
  unfold letOf
  by_cases h : near = [] ∧ far = []
  · rw [if_pos h, if_pos ⟨h.2, h.1⟩]
    exact poss_mir
  · rw [if_neg h, if_neg fun z => h ⟨z.2, z.1⟩]
    by_cases h2 : soft = true ∧ (possI side rest).filter (goodI near far rest) = []
    · rw [if_pos h2, if_pos ⟨h2.1, fil_nil h2.2⟩]
      exact poss_mir
    · rw [if_neg h2, if_neg fun z => h2 ⟨z.1, fil_nil z.2⟩]
      exact fil_mir
theorem let_up {soft side : Bool} {near far : List Int} {rest : Int} : (letOf soft near far rest (possI side rest)).Pairwise (· < ·) := by
  unfold letOf
  split
  · exact poss_up
  · split
    · exact poss_up
    · exact poss_up.filter _
theorem let_sub {soft side : Bool} {near far : List Int} {rest b : Int} (h : b ∈ letOf soft near far rest (possI side rest)) : 0 ≤ b ∧ b ≤ rest := by
  unfold letOf at h
  split at h
  · exact poss_bd h
  · split at h
    · exact poss_bd h
    · exact poss_bd (List.mem_filter.mp h).1
theorem off_let {r : Rl} (h : r.off = 0) {l e : Str} {rest : Int} : offI r l e rest = letOf r.soft (r.bad l) (r.bad e) rest (possI r.side rest) := by
  unfold offI
  rw [if_pos h]
theorem off_mir {r : Rl} (h : r.off = 0) {l e : Str} {rest : Int} : offI r e l rest = ((offI r l e rest).map fun b => rest - b).reverse := by
  rw [off_let h, off_let h]
  refine up_extI let_up ?_ fun b => ?_
  · rw [List.pairwise_reverse, List.pairwise_map]
    refine let_up.imp ?_
    intro a b h
    omega
  · rw [List.mem_reverse, List.mem_map]
    constructor
    · intro hb
      exact ⟨rest - b, let_mir.mpr hb, by omega⟩
    · rintro ⟨c, hc, rfl⟩
      exact let_mir.mpr hc
theorem off_sort {r : Rl} (h : r.off = 0) {l e : Str} {rest : Int} : offI r e l rest = isort ((offI r l e rest).map fun b => rest - b) := by
  refine sort_one ?_ ?_
  · rw [off_mir h]
    exact List.reverse_perm _
  · rw [off_let h]
    refine let_up.imp ?_
    intro a b h
    omega
theorem off_nil {r : Rl} (h : r.off = 0) {l e : Str} {rest : Int} : (offI r e l rest).isEmpty = (offI r l e rest).isEmpty := by
  rw [off_mir h]
  cases offI r l e rest with
  | nil => rfl
  | cons a as => simp
theorem nil_dec {ns : List Int} : ns.isEmpty = decide (ns = []) := by cases ns <;> simp
theorem off_bd {r : Rl} (h : r.off = 0) {l e : Str} {rest b : Int} (hb : b ∈ offI r l e rest) : 0 ≤ b ∧ b ≤ rest := by
  rw [off_let h] at hb
  exact let_sub hb
theorem poss_l {side : Bool} {rest : Int} (h : rest ≤ 500) : (possI side rest).length ≤ 1000 := by
  unfold possI
  split
  · show 2 ≤ 1000
    decide
  · simp
    omega
theorem off_len {r : Rl} (h : r.off = 0) {l e : Str} {rest : Int} (h5 : rest ≤ 500) : (offI r l e rest).length ≤ 1000 := by
  rw [off_let h]
  unfold letOf
  split
  · exact poss_l h5
  · split
    · exact poss_l h5
    · exact Nat.le_trans (List.length_filter_le _ _) (poss_l h5)
/-! the law's own mirror -/
/-! values beside themselves -/
theorem sz_endB {e : Str} (h : isEndB e = true) : ∃ k, szD (.str e) = some k ∧ k ≤ 62 := by
  rcases ends_of h with rfl | rfl | rfl
  · exact ⟨62, by decide +kernel, by decide⟩
  · exact ⟨42, by decide +kernel, by decide⟩
  · exact ⟨42, by decide +kernel, by decide⟩
theorem sz_i {i : Int} (h1 : 0 ≤ i) (h2 : i ≤ 400) : szD (.int i) = some 13 := by
  unfold szD
  rw [if_pos (by rw [decide_eq_true (show -999999999999 ≤ i by omega), decide_eq_true (show i ≤ 999999999999 by omega)]; rfl)]
theorem szL_c {d : D} {ds : List D} {m n : Nat} (h1 : szD d = some m) (h2 : szL ds = some n) : szL (d :: ds) = some (m + n + 2) := by
  unfold szL
  rw [h1, h2]
theorem szT {ds : List D} {m : Nat} (h : szL ds = some m) : szD (.tup ds) = some (m + 3) := by
  unfold szD
  rw [h]
  rfl
theorem st_sz {l r : Str} {n : Int} (hl : isEndB l = true) (hr : isEndB r = true) (h0 : 0 ≤ n) (h1 : n ≤ 400) : ∃ k, szD (stS l n r) = some k ∧ k ≤ 200 := by
  obtain ⟨k, a1, a2⟩ := sz_endB hl
  obtain ⟨k', b1, b2⟩ := sz_endB hr
  exact ⟨_, szT (szL_c a1 (szL_c (sz_i h0 h1) (szL_c b1 rfl))), by omega⟩
def pairT (l : Str) (b : Int) (m e : Str) (c : Int) : D := .tup [stS l b "sold", stS "sold" c e]
theorem pair_al {l e : Str} {b c : Int} (hl : isEndB l = true) (he : isEndB e = true) (hb : 0 ≤ b ∧ b ≤ 400) (hc : 0 ≤ c ∧ c ≤ 400) : alikeOk (.tup [stS l b "sold", stS "sold" c e]) = true := by
  have hs : isEndB "sold" = true := by decide +kernel
  obtain ⟨k, a1, a2⟩ := st_sz hl hs hb.1 hb.2
  obtain ⟨k', b1, b2⟩ := st_sz hs he hc.1 hc.2
  have e1 : szD (.tup [stS l b "sold", stS "sold" c e]) = some _ := szT (szL_c a1 (szL_c b1 rfl))
  have e2 : dpD (.tup [stS l b "sold", stS "sold" c e]) = 2 := rfl
  unfold alikeOk
  rw [e1, e2]
  unfold lineOk
  simp
  omega
theorem ne_ints {xs ys : List Int} {ev ev' : EV} {g : Bag} {R : EV → Bag → Prop} (h1 : IsL ev xs) (h2 : IsL ev' ys) (h : R (.val (.bl (!decide (xs = ys)))) g) : Ok (mNe ev ev') g R := by
  rcases h1 with rfl | rfl <;> rcases h2 with rfl | rfl <;> exact ok_of (o := (eqU (.lst (xs.map D.int)) (.lst (ys.map D.int))).map fun t => EV.val (.bl (!t))) (a := .val (.bl (!decide (xs = ys)))) (by rw [eqU_ints]; rfl) h
theorem eq_ints {xs ys : List Int} {ev ev' : EV} {g : Bag} {R : EV → Bag → Prop} (h1 : IsL ev xs) (h2 : IsL ev' ys) (h : R (.val (.bl (decide (xs = ys)))) g) : Ok (mEq ev ev') g R := by
  rcases h1 with rfl | rfl <;> rcases h2 with rfl | rfl <;> exact ok_of (o := (eqU (.lst (xs.map D.int)) (.lst (ys.map D.int))).map fun t => EV.val (.bl t)) (a := .val (.bl (decide (xs = ys)))) (by rw [eqU_ints]; rfl) h
theorem ne_bl {a b : Bool} {g : Bag} {R : EV → Bag → Prop} (h : R (.val (.bl (!decide (a = b)))) g) : Ok (mNe (.val (.bl a)) (.val (.bl b))) g R :=
  ok_of (o := (eqU (.bl a) (.bl b)).map fun t => EV.val (.bl (!t))) (a := .val (.bl (!decide (a = b)))) (by rw [eqU_bl]; rfl) h
theorem ne_self {d : D} {g : Bag} {R : EV → Bag → Prop} (ha : alikeOk d = true) (h : R (.val (.bl false)) g) : Ok (mNe (.val d) (.val d)) g R :=
  ok_of (o := (eqU d d).map fun t => EV.val (.bl (!t))) (a := .val (.bl false)) (by rw [eqU_self ha]; rfl) h
theorem ok_q {α : Type} {m : M α} {a : α} {g : Bag} {R : α → Bag → Prop} (e : m = mret a) (h : R a g) : Ok m g R := by
  rw [e]
  exact ok_ret h
theorem okn_par {i j : Nat} {ma : DA} {δ : DS} {g : Bag} {R : Ot → Bag → Prop} (h : Ok (ma δ) g fun es g1 => ∃ a c, keepL es = some [a, c] ∧ R (.nx ((δ.set i (some (.val a))).set j (some (.val c)))) g1) : Okn (sPar i j ma) δ g R := by
  obtain ⟨es, g1, e, a, c, e2, h⟩ := h
  refine ⟨_, g1, ?_, h⟩
  unfold sPar
  rw [e]
  dsimp only
  rw [e2]
end K27

set_option Elab.async false
set_option linter.all false
set_option maxRecDepth 100000
set_option maxHeartbeats 8000000
namespace K27
open PySem PySem.Spec PyProof.Rows L2 Vi
def letI' (r : Rl) (l e : Str) (rest : Int) : List Int := letOf r.soft (r.bad l) (r.bad e) rest (possI r.side rest)
theorem m_lt {r : Rl} (ho : r.Ok) {l e : Str} {n s : Int} (hl : isEndB l = true) (he : isEndB e = true) (h : s ∈ r.sz) (h0 : 0 ≤ n) (h1 : n ≤ 500) : m_let [.val r.d, .val (stS l n e), .val (.int s)] = mret (.val (lstI (letI' r l e (n - s)))) := by
  have hs := sz_in ho h
  have e1 := m_slet (r := r) (l := l) (e := e) (rest := n - s) (by omega) (by omega)
  have ec := m_check ho h
  have n2 : (splFs r l e).lookup ("let" : Str) = none := sp_none (by decide +kernel) (by decide +kernel) (by decide +kernel) (by decide +kernel) (by decide +kernel)
  show mB (bd_let [some (.val r.d), some (.val (stS l n e)), some (.val (.int s)), none, none, none]) = _
  unfold bd_let
  rw [q_seq, q_drop (e := .val .non) (by simp only [q_ret, q_no, q_er, q_of, q_of0, q_next, q_seq, q_seq1, q_seq2, q_seq3, q_retS, q_set, q_asg, q_if, q_k, q_kB, q_ke, q_raise, q_body, q_b1, q_b2, q_b3, startD, rK, setK, asgK, EV.keep, EV.look, eAnd, eOr, eNot, eIf, _root_.Vi.e1, _root_.Vi.e2, eB1, eC, bOf, bNot, bAnd, bOr, eCall, aCons, aNil, argsOf, argOf, eVar, SV.ev, AV.sv, mI, mLe, mGe, mLt, mGt, mSub, mAdd, mL2, addD, mIx, ixD, eChain, eTup, eLst, keepL, dTup, dCons, dNil, dName, Option.map, Option.bind, List.map, List.length, List.replicate, List.append, List.cons_append, List.nil_append, List.getElem?_cons_zero, List.getElem?_cons_succ, List.set, Nat.sub_self, Nat.reduceAdd, Nat.reduceSub, Nat.reduceEqDiff, if_true, reduceIte, List.set_cons_zero, List.set_cons_succ, bTru, eNotT, truE_bl, truE_lst, truE_nw, q_quiet, ec]), q_seq1, q_seq, q_asg]
  show mB (dB (sK (mret (.val (stS l n e))) _ _) _) = _
  rw [q_k]
  show mB (dB (dret (.nx [some (.val r.d), some (.val (stS l n e)), some (.val (.int s)), some (.val (.str l)), some (.val (.int n)), some (.val (.str e))])) _) = _
  rw [q_seq1, q_retS]
  have em := q_meth (c := "Splits") (m := "let") (n := 2) (f := m_Splits__let) (me := eMakeK "Splits" 3 0 (fun as bs => as ++ bs) F_Splits (aCons (eVar 0) (aCons (eVar 3) (aCons (eVar 5) (aNil)))) (aNil)) (ma := aCons (Vi.e2 mSub (eVar 4) (eVar 2)) aNil) (δ := [some (.val r.d), some (.val (stS l n e)), some (.val (.int s)), some (.val (.str l)), some (.val (.int n)), some (.val (.str e))]) (fs := splFs r l e) (mk_spl hl he rfl) n2 (es := [.val (.int (n - s))]) rfl (as := [.val (.int (n - s))]) rfl rfl
  have el : m_Splits__let (.val (.obj "Splits" (splFs r l e)) :: [.val (.int (n - s))]) = _ := e1
  rw [em, el, q_k]
  rfl
/-! rules made of a rule -/
theorem ntsT (ns : List Int) : ntsOf (tupI ns) = some ns := asInt_map ns
theorem ntsL (ns : List Int) : ntsOf (lstI ns) = some ns := asInt_map ns
theorem all_sz {ns : List Int} (h : ∀ n ∈ ns, 1 ≤ n ∧ n ≤ 5) : ns.all szOk = true := List.all_eq_true.mpr fun n hn => by
  have := h n hn
  unfold szOk
  rw [decide_eq_true this.1, decide_eq_true this.2]
  rfl
theorem num_t {ns : List Int} (h : ∀ n ∈ ns, 1 ≤ n ∧ n ≤ 5) (hl : ns.length ≤ 10) : numsOk (tupI ns) = true := by
  unfold numsOk
  rw [ntsT]
  dsimp only
  rw [decide_eq_true (show ns.length < 64 by omega), all_sz h]
  rfl
theorem num_l {ns : List Int} (h : ∀ n ∈ ns, 1 ≤ n ∧ n ≤ 5) (hl : ns.length ≤ 10) : numsOk (lstI ns) = true := by
  unfold numsOk
  rw [ntsL]
  dsimp only
  rw [decide_eq_true (show ns.length < 64 by omega), all_sz h]
  rfl
theorem up_n {ns : List Int} (h : UpOk ns) : numsOk (tupI ns) = true := num_t h.2 (by have := up_len h; omega)
def kvT (a b c : D) : List (Key × D) := [(.inr "pillar", a), (.inr "sold", b), (.inr "wall", c)]
theorem val_kv {a b c : D} {e : Str} (he : isEndB e = true) : valD (kvT a b c) (.inr e) = some (if e = "pillar" then a else if e = "sold" then b else c) := by
  have k1 : ¬ (Sum.inr "pillar" : Key) = .inr "sold" := fun z => absurd (Sum.inr.inj z) (by decide +kernel)
  have k2 : ¬ (Sum.inr "pillar" : Key) = .inr "wall" := fun z => absurd (Sum.inr.inj z) (by decide +kernel)
  have k3 : ¬ (Sum.inr "sold" : Key) = .inr "wall" := fun z => absurd (Sum.inr.inj z) (by decide +kernel)
  unfold valD kvT
  rcases ends_of he with rfl | rfl | rfl
  · rw [List.find?_cons_of_pos (by simp), if_pos rfl]
    rfl
  · rw [List.find?_cons_of_neg (by simpa using k1), List.find?_cons_of_pos (by simp), if_neg (by decide +kernel), if_pos rfl]
    rfl
  · rw [List.find?_cons_of_neg (by simpa using k2), List.find?_cons_of_neg (by simpa using k3), List.find?_cons_of_pos (by simp), if_neg (by decide +kernel), if_neg (by decide +kernel)]
    rfl
theorem bad_kv {a b c : D} {x y z : List Int} (h1 : numsOk a = true) (h2 : numsOk b = true) (h3 : numsOk c = true) (e1 : ntsOf a = some x) (e2 : ntsOf b = some y) (e3 : ntsOf c = some z) : badOf (.dct (kvT a b c)) = some (x, y, z) := by
  have kb : (kvT a b c).all badKv = true := by
    unfold kvT
    simp only [List.all_cons, List.all_nil, badKv, h1, h2, h3]
    rfl
  unfold badOf
  dsimp only
  rw [if_pos (by rw [kb]; rfl)]
  unfold badAt
  rw [val_kv (e := "pillar") (by decide +kernel), val_kv (e := "sold") (by decide +kernel), val_kv (e := "wall") (by decide +kernel), if_pos rfl, if_neg (show ¬ ("sold" : Str) = "pillar" by decide +kernel), if_pos rfl, if_neg (show ¬ ("wall" : Str) = "pillar" by decide +kernel), if_neg (show ¬ ("wall" : Str) = "sold" by decide +kernel)]
  dsimp only
  rw [e1, e2, e3]
  rfl
theorem wh_ok {r : Rl} : (decide (r.wh = "any") || decide (r.wh = "side")) = true := by
  unfold Rl.wh
  cases r.side <;> decide +kernel
theorem ne_emp {ns : List Int} (h : ns ≠ []) : (!ns.isEmpty) = true := by
  cases ns with
  | nil => exact absurd rfl h
  | cons => rfl
theorem mk_all {a b : D} {ns x y z : List Int} {soft : Bool} {w : Str} {off : Int} (h1 : numsOk a = true) (h2 : ntsOf a = some ns) (h3 : ns ≠ []) (h4 : badOf b = some (x, y, z)) (hw : (decide (w = "any") || decide (w = "side")) = true) (o0 : 0 ≤ off) (o5 : off ≤ 5) : mkRl a b soft w off = some ⟨sortU ns, sortU x, sortU y, sortU z, soft, decide (w = "side"), off⟩ := by
  unfold mkRl
  rw [h2, h4]
  show (if _ then _ else _) = _
  rw [if_pos (by rw [h1, ne_emp h3, hw, decide_eq_true o0, decide_eq_true o5]; rfl)]
def kvO (r : Rl) : List (Key × D) := kvT (tupI r.bp) (tupI r.bs) (tupI r.bw)
theorem bad_o {r : Rl} (ho : r.Ok) : badOf (.dct (kvO r)) = some (r.bp, r.bs, r.bw) := bad_kv (up_n ho.bp) (up_n ho.bs) (up_n ho.bw) (ntsT _) (ntsT _) (ntsT _)
theorem f_mk {a b : D} {soft : Bool} {w : Str} {off : Int} {r : Rl} {gM : List AV → List AV → List AV} {n m : Nat} {ma mk : DA} {δ : DS} {es zs : List EV} {as bs : List AV} (h : mkRl a b soft w off = some r) (h1 : ma δ = mret es) (h2 : mk δ = mret zs) (h3 : argsOf es = some as) (h4 : argsOf zs = some bs) (h5 : as.length = n) (h6 : bs.length = m) (h7 : gM as bs = [.val a, .val b, .val (.bl soft), .val (.str w), .val (.int off)]) : eMakeK "Rule" n m gM F_Rule ma mk δ = mret (.val r.d) := by
  funext g
  unfold eMakeK
  rw [h1, q_ret, h2, q_ret, h3, h4]
  dsimp only
  rw [if_pos ⟨h5, h6⟩, h7]
  show (match (mkRl a b soft w off).map (fun r => (Rs.ok r.fs, g)) with
    | some (.ok fs, g') => some (Rs.ok (EV.val (.obj "Rule" fs)), g')
    | _ => none) = _
  rw [h]
  rfl
section
variable {r : Rl} {δ : DS}
theorem fsz : fldE "Rule" "_sizes" (.val r.d) = some (.val (tupI r.sz)) := f_obj rl_sizes
theorem fbd : fldE "Rule" "_bad" (.val r.d) = some (.val (.dct (kvO r))) := f_obj rl_bad
theorem fso : fldE "Rule" "_soft" (.val r.d) = some (.val (.bl r.soft)) := f_obj rl_soft
theorem fwh : fldE "Rule" "_where" (.val r.d) = some (.val (.str r.wh)) := f_obj rl_where
theorem fof : fldE "Rule" "_offer" (.val r.d) = some (.val (.int r.off)) := f_obj rl_offer
theorem q_f {f : Str} {d : D} (h : fldE "Rule" f (.val r.d) = some (.val d)) (hv : eVar 0 δ = mret (.val r.d)) : eB1 (fldE "Rule" f) (eVar 0) δ = mret (.val d) := by
  unfold eB1
  rw [hv, q_ret, h]
  rfl
theorem q_a1 {m : DE} {e : EV} (h : m δ = mret e) : aCons m aNil δ = mret [e] := by
  show mbind (m δ) _ = _
  rw [h]
  rfl
theorem q_ac {m : DE} {ma : DA} {e : EV} {es : List EV} (h : m δ = mret e) (h2 : ma δ = mret es) : aCons m ma δ = mret (e :: es) := by
  show mbind (m δ) _ = _
  rw [h, q_ret]
  show mbind (ma δ) _ = _
  rw [h2]
  rfl
end
theorem m_wsoft {r : Rl} (ho : r.Ok) {c : Bool} : m_Rule__with_soft [.val r.d, .val (.bl c)] = mret (.val ({ r with soft := c } : Rl).d) := by
  have q := f_mk (δ := [some (.val r.d), some (.val (.bl c))]) (n := 2) (m := 3) (gM := fun as bs => as ++ bs) (ma := aCons (eB1 (fldE "Rule" "_sizes") (eVar 0)) (aCons (eB1 (fldE "Rule" "_bad") (eVar 0)) (aNil))) (mk := aCons (eVar 1) (aCons (eB1 (fldE "Rule" "_where") (eVar 0)) (aCons (eB1 (fldE "Rule" "_offer") (eVar 0)) (aNil))))
    (mk_all (soft := c) (up_n ho.sz) (ntsT _) ho.ne (bad_o ho) wh_ok ho.o0 ho.o5) (q_ac (q_f fsz rfl) (q_a1 (q_f fbd rfl))) (q_ac (e := .val (.bl c)) rfl (q_ac (q_f fwh rfl) (q_a1 (q_f fof rfl)))) rfl rfl rfl rfl rfl
  rw [sortU_self ho.sz.1, sortU_self ho.bp.1, sortU_self ho.bs.1, sortU_self ho.bw.1, wh_side] at q
  show mB (bd_Rule__with_soft [some (.val r.d), some (.val (.bl c))]) = _
  unfold bd_Rule__with_soft
  rw [q_seq, show sIf (bNot (bOf (eB1 (isiE "bool") (eVar 1)))) (sNo) (sNext) [some (.val r.d), some (.val (.bl c))] = dret (.nx [some (.val r.d), some (.val (.bl c))]) from rfl, q_seq1, q_retS, q, q_k]
  rfl
theorem m_woff {r : Rl} (ho : r.Ok) {k : Int} (k0 : 0 ≤ k) (k5 : k ≤ 5) : m_Rule__with_offer [.val r.d, .val (.int k)] = mret (.val ({ r with off := k } : Rl).d) := by
  have q := f_mk (δ := [some (.val r.d), some (.val (.int k))]) (n := 2) (m := 3) (gM := fun as bs => as ++ bs) (ma := aCons (eB1 (fldE "Rule" "_sizes") (eVar 0)) (aCons (eB1 (fldE "Rule" "_bad") (eVar 0)) (aNil))) (mk := aCons (eB1 (fldE "Rule" "_soft") (eVar 0)) (aCons (eB1 (fldE "Rule" "_where") (eVar 0)) (aCons (eVar 1) (aNil))))
    (mk_all (soft := r.soft) (up_n ho.sz) (ntsT _) ho.ne (bad_o ho) wh_ok k0 k5) (q_ac (q_f fsz rfl) (q_a1 (q_f fbd rfl))) (q_ac (q_f fso rfl) (q_ac (q_f fwh rfl) (q_a1 (e := .val (.int k)) rfl))) rfl rfl rfl rfl rfl
  rw [sortU_self ho.sz.1, sortU_self ho.bp.1, sortU_self ho.bs.1, sortU_self ho.bw.1, wh_side] at q
  have eo := m_offer (i := k)
  rw [decide_eq_true k0, decide_eq_true k5] at eo
  show mB (bd_Rule__with_offer [some (.val r.d), some (.val (.int k))]) = _
  unfold bd_Rule__with_offer
  have i1 : sIf (bNot (bOf (eCall 1 m__is_offer (aCons (eVar 1) (aNil))))) (sNo) (sNext) [some (.val r.d), some (.val (.int k))] = dret (.nx [some (.val r.d), some (.val (.int k))]) := by
    simp only [q_ret, q_no, q_er, q_of, q_of0, q_next, q_seq, q_seq1, q_seq2, q_seq3, q_retS, q_set, q_asg, q_if, q_k, q_kB, q_ke, q_raise, q_body, q_b1, q_b2, q_b3, startD, rK, setK, asgK, EV.keep, EV.look, eAnd, eOr, eNot, eIf, _root_.Vi.e1, _root_.Vi.e2, eB1, eC, bOf, bNot, bAnd, bOr, eCall, aCons, aNil, argsOf, argOf, eVar, SV.ev, AV.sv, mI, mLe, mGe, mLt, mGt, mSub, mAdd, mL2, addD, mIx, ixD, eChain, eTup, eLst, keepL, dTup, dCons, dNil, dName, Option.map, Option.bind, List.map, List.length, List.replicate, List.append, List.cons_append, List.nil_append, List.getElem?_cons_zero, List.getElem?_cons_succ, List.set, Nat.sub_self, Nat.reduceAdd, Nat.reduceSub, Nat.reduceEqDiff, if_true, reduceIte, List.set_cons_zero, List.set_cons_succ, bTru, eNotT, truE_bl, truE_lst, truE_nw, q_quiet, eo, Bool.and_self, Bool.not_true, Bool.false_eq_true, if_false]
  rw [q_seq, i1, q_seq1, q_retS, q, q_k]
  rfl
theorem m_wwhere {r : Rl} (ho : r.Ok) : m_Rule__with_where [.val r.d, .val (.str "side")] = mret (.val ({ r with side := true } : Rl).d) := by
  have q := f_mk (δ := [some (.val r.d), some (.val (.str "side"))]) (n := 2) (m := 3) (gM := fun as bs => as ++ bs) (ma := aCons (eB1 (fldE "Rule" "_sizes") (eVar 0)) (aCons (eB1 (fldE "Rule" "_bad") (eVar 0)) (aNil))) (mk := aCons (eB1 (fldE "Rule" "_soft") (eVar 0)) (aCons (eVar 1) (aCons (eB1 (fldE "Rule" "_offer") (eVar 0)) (aNil))))
    (mk_all (soft := r.soft) (w := "side") (up_n ho.sz) (ntsT _) ho.ne (bad_o ho) (by decide +kernel) ho.o0 ho.o5) (q_ac (q_f fsz rfl) (q_a1 (q_f fbd rfl))) (q_ac (q_f fso rfl) (q_ac (e := .val (.str "side")) rfl (q_a1 (q_f fof rfl)))) rfl rfl rfl rfl rfl
  rw [sortU_self ho.sz.1, sortU_self ho.bp.1, sortU_self ho.bs.1, sortU_self ho.bw.1, decide_eq_true rfl] at q
  have eo := m_place (s := "side")
  rw [decide_eq_true rfl, Bool.or_true] at eo
  show mB (bd_Rule__with_where [some (.val r.d), some (.val (.str "side"))]) = _
  unfold bd_Rule__with_where
  have i1 : sIf (bNot (bOf (eCall 1 m__is_place (aCons (eVar 1) (aNil))))) (sNo) (sNext) [some (.val r.d), some (.val (.str "side"))] = dret (.nx [some (.val r.d), some (.val (.str "side"))]) := by
    simp only [q_ret, q_no, q_er, q_of, q_of0, q_next, q_seq, q_seq1, q_seq2, q_seq3, q_retS, q_set, q_asg, q_if, q_k, q_kB, q_ke, q_raise, q_body, q_b1, q_b2, q_b3, startD, rK, setK, asgK, EV.keep, EV.look, eAnd, eOr, eNot, eIf, _root_.Vi.e1, _root_.Vi.e2, eB1, eC, bOf, bNot, bAnd, bOr, eCall, aCons, aNil, argsOf, argOf, eVar, SV.ev, AV.sv, mI, mLe, mGe, mLt, mGt, mSub, mAdd, mL2, addD, mIx, ixD, eChain, eTup, eLst, keepL, dTup, dCons, dNil, dName, Option.map, Option.bind, List.map, List.length, List.replicate, List.append, List.cons_append, List.nil_append, List.getElem?_cons_zero, List.getElem?_cons_succ, List.set, Nat.sub_self, Nat.reduceAdd, Nat.reduceSub, Nat.reduceEqDiff, if_true, reduceIte, List.set_cons_zero, List.set_cons_succ, bTru, eNotT, truE_bl, truE_lst, truE_nw, q_quiet, eo, Bool.not_true, Bool.false_eq_true, if_false]
  rw [q_seq, i1, q_seq1, q_retS, q, q_k]
  rfl
theorem m_wsize {r : Rl} (ho : r.Ok) {s : Int} (s1 : 1 ≤ s) (s5 : s ≤ 5) : m_Rule__with_sizes [.val r.d, .val (lstI [s])] = mret (.val ({ r with sz := [s] } : Rl).d) := by
  have hm : ∀ n ∈ [s], 1 ≤ n ∧ n ≤ 5 := fun n hn => by rw [List.mem_singleton.mp hn]; exact ⟨s1, s5⟩
  have q := f_mk (δ := [some (.val r.d), some (.val (lstI [s]))]) (n := 2) (m := 3) (gM := fun as bs => as ++ bs) (ma := aCons (eVar 1) (aCons (eB1 (fldE "Rule" "_bad") (eVar 0)) (aNil))) (mk := aCons (eB1 (fldE "Rule" "_soft") (eVar 0)) (aCons (eB1 (fldE "Rule" "_where") (eVar 0)) (aCons (eB1 (fldE "Rule" "_offer") (eVar 0)) (aNil))))
    (mk_all (soft := r.soft) (num_l hm (by simp)) (ntsL [s]) (by simp) (bad_o ho) wh_ok ho.o0 ho.o5) (q_ac (e := .val (lstI [s])) rfl (q_a1 (q_f fbd rfl))) (q_ac (q_f fso rfl) (q_ac (q_f fwh rfl) (q_a1 (q_f fof rfl)))) rfl rfl rfl rfl rfl
  rw [sortU_self (List.pairwise_singleton _ _), sortU_self ho.bp.1, sortU_self ho.bs.1, sortU_self ho.bw.1, wh_side] at q
  have eo := m_rsz (d := lstI [s]) (ntsL [s]) (by simp) (all_sz hm) rfl
  show mB (bd_Rule__with_sizes [some (.val r.d), some (.val (lstI [s]))]) = _
  unfold bd_Rule__with_sizes
  have i1 : sIf (bNot (bOf (eCall 1 m__are_rule_sizes (aCons (eVar 1) (aNil))))) (sNo) (sNext) [some (.val r.d), some (.val (lstI [s]))] = dret (.nx [some (.val r.d), some (.val (lstI [s]))]) := by
    simp only [q_ret, q_no, q_er, q_of, q_of0, q_next, q_seq, q_seq1, q_seq2, q_seq3, q_retS, q_set, q_asg, q_if, q_k, q_kB, q_ke, q_raise, q_body, q_b1, q_b2, q_b3, startD, rK, setK, asgK, EV.keep, EV.look, eAnd, eOr, eNot, eIf, _root_.Vi.e1, _root_.Vi.e2, eB1, eC, bOf, bNot, bAnd, bOr, eCall, aCons, aNil, argsOf, argOf, eVar, SV.ev, AV.sv, mI, mLe, mGe, mLt, mGt, mSub, mAdd, mL2, addD, mIx, ixD, eChain, eTup, eLst, keepL, dTup, dCons, dNil, dName, Option.map, Option.bind, List.map, List.length, List.replicate, List.append, List.cons_append, List.nil_append, List.getElem?_cons_zero, List.getElem?_cons_succ, List.set, Nat.sub_self, Nat.reduceAdd, Nat.reduceSub, Nat.reduceEqDiff, if_true, reduceIte, List.set_cons_zero, List.set_cons_succ, bTru, eNotT, truE_bl, truE_lst, truE_nw, q_quiet, eo, Bool.not_true, Bool.false_eq_true, if_false]
  rw [q_seq, i1, q_seq1, q_retS, q, q_k]
  rfl
theorem m_bare {r : Rl} (ho : r.Ok) : m_Rule__bare [.val r.d] = mret (.val ({ r with bp := [], bs := [], bw := [] } : Rl).d) := by
  have q := f_mk (δ := [some (.val r.d)]) (n := 1) (m := 3) (gM := fun as bs => as ++ [.val .non] ++ bs) (ma := aCons (eB1 (fldE "Rule" "_sizes") (eVar 0)) (aNil)) (mk := aCons (eB1 (fldE "Rule" "_soft") (eVar 0)) (aCons (eB1 (fldE "Rule" "_where") (eVar 0)) (aCons (eB1 (fldE "Rule" "_offer") (eVar 0)) (aNil))))
    (mk_all (b := .non) (x := []) (y := []) (z := []) (soft := r.soft) (up_n ho.sz) (ntsT _) ho.ne rfl wh_ok ho.o0 ho.o5) (q_a1 (q_f fsz rfl)) (q_ac (q_f fso rfl) (q_ac (q_f fwh rfl) (q_a1 (q_f fof rfl)))) rfl rfl rfl rfl rfl
  rw [sortU_self ho.sz.1, wh_side] at q
  show mB (bd_Rule__bare [some (.val r.d)]) = _
  unfold bd_Rule__bare
  rw [q_retS, q, q_k]
  rfl
end K27

set_option Elab.async false
set_option linter.all false
set_option maxRecDepth 100000
set_option maxHeartbeats 8000000
namespace K27
open PySem PySem.Spec PyProof.Rows L2 Vi
/-! one more bad length -/
def wbad (r : Rl) (e : Str) (k : Int) : Rl := { r with bp := if e = "pillar" then sortU (r.bp ++ [k]) else r.bp, bs := if e = "sold" then sortU (r.bs ++ [k]) else r.bs, bw := if e = "wall" then sortU (r.bw ++ [k]) else r.bw }
theorem wbad_bad {r : Rl} {e x : Str} {k : Int} (he : isEndB e = true) (hx : isEndB x = true) : (wbad r e k).bad x = if x = e then sortU (r.bad e ++ [k]) else r.bad x := by
  have n1 : ¬ ("sold" : Str) = "pillar" := by decide +kernel
  have n2 : ¬ ("wall" : Str) = "pillar" := by decide +kernel
  have n3 : ¬ ("wall" : Str) = "sold" := by decide +kernel
  have n1' : ¬ ("pillar" : Str) = "sold" := by decide +kernel
  have n2' : ¬ ("pillar" : Str) = "wall" := by decide +kernel
  have n3' : ¬ ("sold" : Str) = "wall" := by decide +kernel
  rcases ends_of he with rfl | rfl | rfl <;> rcases ends_of hx with rfl | rfl | rfl <;> simp only [wbad, Rl.bad, n1, n2, n3, n1', n2', n3', if_true, if_false, reduceIte]
theorem up_add {ns : List Int} (h : UpOk ns) {k : Int} (k1 : 1 ≤ k) (k5 : k ≤ 5) : (∀ n ∈ ns ++ [k], 1 ≤ n ∧ n ≤ 5) ∧ (ns ++ [k]).length ≤ 10 := by
  refine ⟨fun n hn => ?_, by have := up_len h; simp; omega⟩
  rcases List.mem_append.mp hn with hn | hn
  · exact h.2 n hn
  · rw [List.mem_singleton.mp hn]
    exact ⟨k1, k5⟩
theorem up_sort {ns : List Int} (h : ∀ n ∈ ns, 1 ≤ n ∧ n ≤ 5) : UpOk (sortU ns) := sortU_ok (all_sz h)
theorem wbad_ok {r : Rl} (ho : r.Ok) {e : Str} {k : Int} (k1 : 1 ≤ k) (k5 : k ≤ 5) : (wbad r e k).Ok := by
  refine ⟨ho.sz, ho.ne, ?_, ?_, ?_, ho.o0, ho.o5⟩
  · show UpOk (if e = "pillar" then _ else _)
    split
    · exact up_sort (up_add ho.bp k1 k5).1
    · exact ho.bp
  · show UpOk (if e = "sold" then _ else _)
    split
    · exact up_sort (up_add ho.bs k1 k5).1
    · exact ho.bs
  · show UpOk (if e = "wall" then _ else _)
    split
    · exact up_sort (up_add ho.bw k1 k5).1
    · exact ho.bw
def pickD (e x : Str) (d t : D) : D := if x = e then d else t
theorem put_kv {a b c d : D} {e : Str} (he : isEndB e = true) : putKD (kvT a b c) (.inr e) d = kvT (if e = "pillar" then d else a) (if e = "sold" then d else b) (if e = "wall" then d else c) := by
  rcases ends_of he with rfl | rfl | rfl <;> rfl
theorem m_wbad {r : Rl} (ho : r.Ok) {e : Str} {k : Int} (he : isEndB e = true) (k1 : 1 ≤ k) (k5 : k ≤ 5) : m_Rule__with_bad [.val r.d, .val (.str e), .val (lstI (r.bad e ++ [k]))] = mret (.val (wbad r e k).d) := by
  have ha := up_add (ho.bad e) k1 k5
  have e1 := m_end (s := e)
  rw [he] at e1
  have e2 := m_szs (d := lstI (r.bad e ++ [k])) (ntsL _) (by have := ha.2; omega)
  rw [all_sz ha.1] at e2
  funext g
  show mB (bd_Rule__with_bad [some (.val r.d), some (.val (.str e)), some (.val (lstI (r.bad e ++ [k]))), none, none]) g = _
  unfold bd_Rule__with_bad
  have i1 : sIf (bNot (bOf (eCall 1 m_is_end (aCons (eVar 1) (aNil))))) (sNo) (sNext) [some (.val r.d), some (.val (.str e)), some (.val (lstI (r.bad e ++ [k]))), none, none] = dret (.nx [some (.val r.d), some (.val (.str e)), some (.val (lstI (r.bad e ++ [k]))), none, none]) := by
    simp only [q_ret, q_no, q_er, q_of, q_of0, q_next, q_seq, q_seq1, q_seq2, q_seq3, q_retS, q_set, q_asg, q_if, q_k, q_kB, q_ke, q_raise, q_body, q_b1, q_b2, q_b3, startD, rK, setK, asgK, EV.keep, EV.look, eAnd, eOr, eNot, eIf, _root_.Vi.e1, _root_.Vi.e2, eB1, eC, bOf, bNot, bAnd, bOr, eCall, aCons, aNil, argsOf, argOf, eVar, SV.ev, AV.sv, mI, mLe, mGe, mLt, mGt, mSub, mAdd, mL2, addD, mIx, ixD, eChain, eTup, eLst, keepL, dTup, dCons, dNil, dName, Option.map, Option.bind, List.map, List.length, List.replicate, List.append, List.cons_append, List.nil_append, List.getElem?_cons_zero, List.getElem?_cons_succ, List.set, Nat.sub_self, Nat.reduceAdd, Nat.reduceSub, Nat.reduceEqDiff, if_true, reduceIte, List.set_cons_zero, List.set_cons_succ, bTru, eNotT, truE_bl, truE_lst, truE_nw, q_quiet, e1, Bool.not_true, Bool.false_eq_true, if_false]
  have i2 : sIf (bNot (bOf (eCall 1 m_are_sizes (aCons (eVar 2) (aNil))))) (sNo) (sNext) [some (.val r.d), some (.val (.str e)), some (.val (lstI (r.bad e ++ [k]))), none, none] = dret (.nx [some (.val r.d), some (.val (.str e)), some (.val (lstI (r.bad e ++ [k]))), none, none]) := by
    simp only [q_ret, q_no, q_er, q_of, q_of0, q_next, q_seq, q_seq1, q_seq2, q_seq3, q_retS, q_set, q_asg, q_if, q_k, q_kB, q_ke, q_raise, q_body, q_b1, q_b2, q_b3, startD, rK, setK, asgK, EV.keep, EV.look, eAnd, eOr, eNot, eIf, _root_.Vi.e1, _root_.Vi.e2, eB1, eC, bOf, bNot, bAnd, bOr, eCall, aCons, aNil, argsOf, argOf, eVar, SV.ev, AV.sv, mI, mLe, mGe, mLt, mGt, mSub, mAdd, mL2, addD, mIx, ixD, eChain, eTup, eLst, keepL, dTup, dCons, dNil, dName, Option.map, Option.bind, List.map, List.length, List.replicate, List.append, List.cons_append, List.nil_append, List.getElem?_cons_zero, List.getElem?_cons_succ, List.set, Nat.sub_self, Nat.reduceAdd, Nat.reduceSub, Nat.reduceEqDiff, if_true, reduceIte, List.set_cons_zero, List.set_cons_succ, bTru, eNotT, truE_bl, truE_lst, truE_nw, q_quiet, e2, Bool.not_true, Bool.false_eq_true, if_false]
  rw [q_seq, i1, q_seq1, q_seq, i2, q_seq1, q_seq]
  have dc : eDc [4] (iSeq (eC d_ENDS)) (dName 4) (bYes) (eVar 4) (eDGet (eB1 (fldE "Rule" "_bad") (eVar 0)) (eVar 4)) [some (.val r.d), some (.val (.str e)), some (.val (lstI (r.bad e ++ [k]))), none, none] g = some (.ok (.nw (.dct (kvO r))), g) := by
    refine eDc_of (ds := [.str "pillar", .str "sold", .str "wall"]) rfl rfl ?_
    have step : ∀ (x : Str) (hx : isEndB x = true), eDGet (eB1 (fldE "Rule" "_bad") (eVar 0)) (eVar 4) [some (.val r.d), some (.val (.str e)), some (.val (lstI (r.bad e ++ [k]))), none, some (.val (.str x))] = mret (.val (if x = "pillar" then tupI r.bp else if x = "sold" then tupI r.bs else tupI r.bw)) := fun x hx => by
      unfold eDGet
      rw [q_f fbd rfl, q_ret]
      show mbind (mret _) _ = _
      rw [q_ret]
      show mof ((valD (kvT _ _ _) (.inr x)).map EV.val) = _
      rw [val_kv hx]
      rfl
    rw [dcGo_step (δ2 := [some (.val r.d), some (.val (.str e)), some (.val (lstI (r.bad e ++ [k]))), none, some (.val (.str "pillar"))]) rfl rfl rfl (step _ (by decide +kernel)) rfl rfl rfl,
      dcGo_step (δ2 := [some (.val r.d), some (.val (.str e)), some (.val (lstI (r.bad e ++ [k]))), none, some (.val (.str "sold"))]) rfl rfl rfl (step _ (by decide +kernel)) rfl rfl rfl,
      dcGo_step (δ2 := [some (.val r.d), some (.val (.str e)), some (.val (lstI (r.bad e ++ [k]))), none, some (.val (.str "wall"))]) rfl rfl rfl (step _ (by decide +kernel)) rfl rfl rfl]
    rfl
  have st : sSetO 3 (eDc [4] (iSeq (eC d_ENDS)) (dName 4) (bYes) (eVar 4) (eDGet (eB1 (fldE "Rule" "_bad") (eVar 0)) (eVar 4))) [some (.val r.d), some (.val (.str e)), some (.val (lstI (r.bad e ++ [k]))), none, none] g = some (.nx [some (.val r.d), some (.val (.str e)), some (.val (lstI (r.bad e ++ [k]))), some (.own (.dct (kvO r))), none], g) := by
    show sOn _ _ _ g = _
    unfold sOn
    rw [dc]
    rfl
  have pt : sRel 3 (sPut 3 (eVar 1) (eVar 2)) [some (.val r.d), some (.val (.str e)), some (.val (lstI (r.bad e ++ [k]))), some (.own (.dct (kvO r))), none] g = some (.nx [some (.val r.d), some (.val (.str e)), some (.val (lstI (r.bad e ++ [k]))), some (.val (.dct (putKD (kvO r) (.inr e) (lstI (r.bad e ++ [k]))))), none], g) := rfl
  have q := f_mk (δ := [some (.val r.d), some (.val (.str e)), some (.val (lstI (r.bad e ++ [k]))), some (.val (.dct (putKD (kvO r) (.inr e) (lstI (r.bad e ++ [k]))))), none]) (n := 2) (m := 3) (gM := fun as bs => as ++ bs) (ma := aCons (eB1 (fldE "Rule" "_sizes") (eVar 0)) (aCons (eVar 3) (aNil))) (mk := aCons (eB1 (fldE "Rule" "_soft") (eVar 0)) (aCons (eB1 (fldE "Rule" "_where") (eVar 0)) (aCons (eB1 (fldE "Rule" "_offer") (eVar 0)) (aNil))))
    (r := wbad r e k) (a := tupI r.sz) (b := .dct (putKD (kvO r) (.inr e) (lstI (r.bad e ++ [k])))) (soft := r.soft) (w := r.wh) (off := r.off) ?_ (q_ac (q_f fsz rfl) (q_a1 (e := .val (.dct (putKD (kvO r) (.inr e) (lstI (r.bad e ++ [k]))))) rfl)) (q_ac (q_f fso rfl) (q_ac (q_f fwh rfl) (q_a1 (q_f fof rfl)))) rfl rfl rfl rfl rfl
  · show mB (dB (sSetO 3 _ _) _) g = _
    unfold mB dB
    rw [st]
    dsimp only
    rw [q_seq]
    unfold dB
    rw [pt]
    dsimp only
    rw [q_retS, q]
    rfl
  · have num : ∀ x : Str, isEndB x = true → numsOk (if e = x then lstI (r.bad e ++ [k]) else tupI (r.bad x)) = true := fun x hx => by
      split
      · exact num_l ha.1 ha.2
      · exact up_n (ho.bad x)
    have nts : ∀ x : Str, ntsOf (if e = x then lstI (r.bad e ++ [k]) else tupI (r.bad x)) = some (if e = x then r.bad e ++ [k] else r.bad x) := fun x => by
      split
      · exact ntsL _
      · exact ntsT _
    have b1 : r.bad "pillar" = r.bp := if_pos rfl
    have b2 : r.bad "sold" = r.bs := (if_neg (by decide +kernel)).trans (if_pos rfl)
    have b3 : r.bad "wall" = r.bw := (if_neg (by decide +kernel)).trans (if_neg (by decide +kernel))
    have bo : badOf (.dct (putKD (kvO r) (.inr e) (lstI (r.bad e ++ [k])))) = some (if e = "pillar" then r.bad e ++ [k] else r.bad "pillar", if e = "sold" then r.bad e ++ [k] else r.bad "sold", if e = "wall" then r.bad e ++ [k] else r.bad "wall") := by
      unfold kvO
      rw [put_kv he, ← b1, ← b2, ← b3]
      exact bad_kv (num _ (by decide +kernel)) (num _ (by decide +kernel)) (num _ (by decide +kernel)) (nts _) (nts _) (nts _)
    have fin := mk_all (soft := r.soft) (up_n ho.sz) (ntsT _) ho.ne bo (wh_ok (r := r)) ho.o0 ho.o5
    rw [sortU_self ho.sz.1, wh_side] at fin
    rw [fin]
    have n1 : ¬ ("sold" : Str) = "pillar" := by decide +kernel
    have n2 : ¬ ("wall" : Str) = "pillar" := by decide +kernel
    have n3 : ¬ ("wall" : Str) = "sold" := by decide +kernel
    have n1' : ¬ ("pillar" : Str) = "sold" := by decide +kernel
    have n2' : ¬ ("pillar" : Str) = "wall" := by decide +kernel
    have n3' : ¬ ("sold" : Str) = "wall" := by decide +kernel
    have s1 := sortU_self ho.bp.1
    have s2 := sortU_self ho.bs.1
    have s3 := sortU_self ho.bw.1
    rcases ends_of he with rfl | rfl | rfl <;> simp only [wbad, b1, b2, b3, n1, n2, n3, n1', n2', n3', if_true, if_false, reduceIte, s1, s2, s3]
end K27

set_option Elab.async false
set_option linter.all false
set_option maxRecDepth 100000
set_option maxHeartbeats 8000000
namespace K27
open PySem PySem.Spec PyProof.Rows L2 Vi
/-! side by side -/
theorem let_f {near far : List Int} {rest : Int} {found : List Int} : letOf false near far rest found = found.filter (goodI near far rest) := by
  unfold letOf
  split
  · rename_i h
    rw [h.1, h.2]
    exact (List.filter_eq_self.mpr fun b _ => rfl).symm
  · rw [if_neg (by simp)]
theorem let_t {near far : List Int} {rest : Int} {found : List Int} : letOf true near far rest found = if found.filter (goodI near far rest) ≠ [] then found.filter (goodI near far rest) else found := by
  unfold letOf
  split
  · rename_i h
    rw [h.1, h.2, show found.filter (goodI [] [] rest) = found from List.filter_eq_self.mpr fun b _ => rfl]
    split
    · rfl
    · rfl
  · split
    · rename_i h
      rw [if_neg (by simpa using h.2)]
    · rename_i h
      rw [if_pos fun z => h ⟨rfl, z⟩]
def softT (r : Rl) (c : Bool) : Rl := { r with soft := c }
theorem bad_soft {r : Rl} {c : Bool} {x : Str} : (softT r c).bad x = r.bad x := rfl
theorem good_f {r : Rl} {l e : Str} {rest : Int} : letI' (softT r false) l e rest = (possI r.side rest).filter (goodI (r.bad l) (r.bad e) rest) := let_f
theorem mild_f {r : Rl} {l e : Str} {rest : Int} : letI' (softT r true) l e rest = if letI' (softT r false) l e rest ≠ [] then letI' (softT r false) l e rest else possI r.side rest := by
  rw [good_f]
  exact let_t
theorem bare_let {r : Rl} {l e : Str} {rest : Int} : letI' { r with bp := [], bs := [], bw := [] } l e rest = possI r.side rest := by
  have h : ∀ x : Str, ({ r with bp := [], bs := [], bw := [] } : Rl).bad x = [] := fun x => by
    unfold Rl.bad
    split
    · rfl
    · split <;> rfl
  unfold letI' letOf
  rw [h, h, if_pos ⟨rfl, rfl⟩]
theorem bare_bad {r : Rl} {x : Str} : ({ r with bp := [], bs := [], bw := [] } : Rl).bad x = [] := by
  unfold Rl.bad
  split
  · rfl
  · split <;> rfl
theorem poss_emp {side : Bool} {rest : Int} : (possI side rest).isEmpty = decide (rest < 0) := by
  unfold possI
  split
  · rename_i h
    rw [decide_eq_false (by omega)]
    rfl
  · by_cases h : rest < 0
    · rw [decide_eq_true h, show (rest + 1).toNat = 0 by omega]
      rfl
    · rw [decide_eq_false h]
      obtain ⟨k, hk⟩ : ∃ k, (rest + 1).toNat = k + 1 := ⟨(rest + 1).toNat - 1, by omega⟩
      rw [hk, List.range_succ_eq_map]
      rfl
theorem take_emp {α : Type} {xs : List α} {k : Nat} (h : 1 ≤ k) : (xs.take k).isEmpty = xs.isEmpty := by
  cases xs with
  | nil => simp
  | cons a as =>
    obtain ⟨j, rfl⟩ : ∃ j, k = j + 1 := ⟨k - 1, by omega⟩
    rfl
theorem bare_off {r : Rl} (ho : r.Ok) {l e : Str} {rest : Int} : (offI { r with bp := [], bs := [], bw := [] } l e rest).isEmpty = decide (rest < 0) := by
  have o0 := ho.o0
  have o5 := ho.o5
  have e : ∀ (c : Bool) (f : List Int), letOf c [] [] rest f = f := fun c f => if_pos ⟨rfl, rfl⟩
  unfold offI
  rw [bare_bad, bare_bad, e, e]
  show (if r.off = 0 then possI r.side rest else (possI r.side (if r.side = true then rest else if r.off + 9 < rest then r.off + 9 else rest)).take r.off.toNat).isEmpty = _
  split
  · exact poss_emp
  · rename_i h
    rw [take_emp (by omega), poss_emp]
    split
    · rfl
    · split
      · rename_i h2
        rw [decide_eq_false (by omega), decide_eq_false (by omega)]
      · rfl
/-- enough are looked at -/
theorem big_eq {many rest : Int} (h : many + 9 < rest) (m0 : 0 ≤ many) : possI false rest = possI false (many + 9) ++ (List.range (rest - many - 9).toNat).map fun (i : Nat) => many + 10 + (i : Int) := by
  have p : ∀ q : Int, possI false q = (List.range (q + 1).toNat).map fun (i : Nat) => (i : Int) := fun q => if_neg (by simp)
  rw [p, p, show (rest + 1).toNat = (many + 9 + 1).toNat + (rest - many - 9).toNat by omega, List.range_add, List.map_append, List.map_map]
  congr 1
  refine List.map_congr_left fun i _ => ?_
  show (((many + 9 + 1).toNat + i : Nat) : Int) = many + 10 + (i : Int)
  omega
theorem goods {near far : List Int} {rest many : Int} (hn : UpOk near) (hf : UpOk far) (h1 : 1 ≤ many) (h5 : many ≤ 5) (h : many + 9 < rest) : many.toNat ≤ ((possI false (many + 9)).filter (goodI near far rest)).length := by
  have g : ∀ b : Int, (b = 0 ∨ 6 ≤ b) → b ≤ many + 4 → goodI near far rest b = true := fun b hb hb2 => by
    unfold goodI
    have a1 : near.contains b = false := by
      have : ¬ b ∈ near := fun z => by have := hn.2 b z; omega
      simpa using this
    have a2 : far.contains (rest - b) = false := by
      have : ¬ (rest - b) ∈ far := fun z => by have := hf.2 _ z; omega
      simpa using this
    rw [a1, a2]
    rfl
  have sub : ∀ ys : List Int, List.Sublist ys (possI false (many + 9)) → (∀ b ∈ ys, (b = 0 ∨ 6 ≤ b) ∧ b ≤ many + 4) → ys.length ≤ ((possI false (many + 9)).filter (goodI near far rest)).length := fun ys hs hy => by
    have h2 := (hs.filter (goodI near far rest)).length_le
    rw [List.filter_eq_self.mpr fun b hb => g b (hy b hb).1 (hy b hb).2] at h2
    exact h2
  have cs : many = 1 ∨ many = 2 ∨ many = 3 ∨ many = 4 ∨ many = 5 := by omega
  rcases cs with rfl | rfl | rfl | rfl | rfl
  · exact sub [0] (by decide) (by decide)
  · exact sub [0, 6] (by decide) (by decide)
  · exact sub [0, 6, 7] (by decide) (by decide)
  · exact sub [0, 6, 7, 8] (by decide) (by decide)
  · exact sub [0, 6, 7, 8, 9] (by decide) (by decide)
theorem let_g {soft : Bool} {near far : List Int} {rest : Int} {found : List Int} (h : found.filter (goodI near far rest) ≠ []) : letOf soft near far rest found = found.filter (goodI near far rest) := by
  cases soft with
  | false => exact let_f
  | true => rw [let_t, if_pos h]
theorem off_many {r : Rl} (ho : r.Ok) {l e : Str} {rest many : Int} (h0 : 0 ≤ many) (h5 : many ≤ 5) : offI { r with off := many } l e rest = if 0 < many then (letI' r l e rest).take many.toNat else letI' r l e rest := by
  by_cases hz : many = 0
  · rw [if_neg (by omega)]
    unfold offI
    exact if_pos hz
  · rw [if_pos (by omega)]
    unfold offI
    rw [if_neg hz]
    show (letOf r.soft (r.bad l) (r.bad e) rest (possI r.side (if r.side = true then rest else if many + 9 < rest then many + 9 else rest))).take many.toNat = _
    unfold letI'
    by_cases hs : r.side = true
    · rw [if_pos hs]
    · rw [if_neg hs]
      by_cases hl : many + 9 < rest
      · rw [if_pos hl]
        have hs' : r.side = false := by simpa using hs
        rw [hs']
        have gl := goods (ho.bad l) (ho.bad e) (rest := rest) (many := many) (by omega) h5 hl
        have n1 : (possI false (many + 9)).filter (goodI (r.bad l) (r.bad e) rest) ≠ [] := fun z => by
          rw [z] at gl
          simp at gl
          omega
        have e1 : (possI false rest).filter (goodI (r.bad l) (r.bad e) rest) = (possI false (many + 9)).filter (goodI (r.bad l) (r.bad e) rest) ++ ((List.range (rest - many - 9).toNat).map fun (i : Nat) => many + 10 + (i : Int)).filter (goodI (r.bad l) (r.bad e) rest) := by
          rw [big_eq hl h0, List.filter_append]
        have n2 : (possI false rest).filter (goodI (r.bad l) (r.bad e) rest) ≠ [] := fun z => by
          rw [e1] at z
          exact n1 (List.append_eq_nil_iff.mp z).1
        rw [let_g n1, let_g n2, e1, List.take_append_of_le_length gl]
      · rw [if_neg hl]
/-! lists of integers in the law -/
theorem let_l {soft side : Bool} {near far : List Int} {rest : Int} (h : rest ≤ 500) : (letOf soft near far rest (possI side rest)).length ≤ 1000 := by
  unfold letOf
  split
  · exact poss_l h
  · split
    · exact poss_l h
    · exact Nat.le_trans (List.length_filter_le _ _) (poss_l h)
theorem not_in_nil {xs ys : List Int} (h : ∀ x ∈ xs, x ∈ ys) : (xs.filter fun x => !ys.contains x) = [] := by
  refine List.filter_eq_nil_iff.mpr fun x hx => ?_
  have : ys.contains x = true := by simpa using h x hx
  rw [this]
  decide
theorem fm_ints (p : Int → Bool) : ∀ xs : List Int, (xs.map D.int).filterMap (fun d => match d with | .int b => if p b = true then some (.int b) else none | _ => none) = (xs.filter p).map D.int
  | [] => rfl
  | x :: xs => by
    rw [List.map_cons, List.filterMap_cons, List.filter_cons, fm_ints p xs]
    cases h : p x <;> simp [h]
/-- [x for x in xs if x not in ys] -/
theorem q_minus {xs ys : List Int} {δ : DS} {g : Bag} {mi : DI} {m2 : DE} (hl : xs.length ≤ 1000) (hd : δ.length = 18) (hi : mi δ g = some (.ok (xs.map D.int), g)) (h17 : noOwn [17] δ = true) (h2 : ∀ b : Int, m2 ((wipeD δ [17]).set 17 (some (.val (.int b)))) = mret (.val (lstI ys))) : eLc [17] mi (dName 17) (bOf (Vi.e2 (mIn true) (eVar 17) m2)) (eVar 17) δ g = some (.ok (.nw (lstI (xs.filter fun x => !ys.contains x))), g) := by
  have hv : ∀ b : Int, eVar 17 ((wipeD δ [17]).set 17 (some (.val (.int b)))) = mret (.val (.int b)) := fun b => by
    match δ, hd with
    | [_, _, _, _, _, _, _, _, _, _, _, _, _, _, _, _, _, _], _ => rfl
  have hn : ∀ b : Int, dName 17 (.int b) (wipeD δ [17]) = some ((wipeD δ [17]).set 17 (some (.val (.int b)))) := fun b => by
    match δ, hd with
    | [_, _, _, _, _, _, _, _, _, _, _, _, _, _, _, _, _, _], _ => rfl
  rw [eLc_fm (fun d => match d with | .int b => if (!ys.contains b) = true then some (.int b) else none | _ => none) hi h17 (fun d hd => ?_) (decide_eq_true (by rw [List.length_map]; omega))]
  · rw [fm_ints]
    rfl
  · obtain ⟨b, hb, rfl⟩ := List.mem_map.mp hd
    refine ⟨_, hn b, ?_⟩
    have run : bOf (Vi.e2 (mIn true) (eVar 17) m2) ((wipeD δ [17]).set 17 (some (.val (.int b)))) = mret (!ys.contains b) := by
      unfold bOf Vi.e2
      rw [hv, q_ret, h2, q_ret]
      show mbind (mof (inF true (.int b) (lstI ys))) _ = _
      rw [notin_ints]
      rfl
    dsimp only
    split
    · rename_i heq
      split at heq
      · cases heq
      · rename_i hc
        rw [run]
        have : (!ys.contains b) = false := by simpa using hc
        rw [this]
        rfl
    · rename_i x heq
      split at heq
      · rename_i hc
        cases heq
        rw [run, hc]
        exact ⟨rfl, _, congrFun (hv b) g, rfl⟩
      · cases heq
end K27

set_option Elab.async false
set_option linter.all false
set_option maxRecDepth 100000
set_option maxHeartbeats 8000000
namespace K27
open PySem PySem.Spec PyProof.Rows L2 Vi
abbrev ST (r : Rl) (l : Str) (n : Int) (e : Str) (s : Int) (so : List Int) (a4 a5 a6 a7 a8 a12 a13 a14 a15 a16 a17 : Option SV) : DS := [some .bag, some (.val r.d), some (.val (stS l n e)), some (.val (.int s)), a4, a5, a6, a7, a8, some (.val (lstI so)), some (.val (softT r false).d), some (.val (softT r true).d), a12, a13, a14, a15, a16, a17]
theorem q_mb {α β : Type} {m m' : M α} {f : α → M β} (h : m = m') : mbind m f = mbind m' f := by rw [h]
theorem add_ints {xs ys : List Int} (h : xs.length + ys.length ≤ 1000) : mAdd (.nw (lstI xs)) (.nw (lstI ys)) = mret (.nw (lstI (xs ++ ys))) := by
  show mof (if lineOk ((xs.map D.int).length + (ys.map D.int).length) = true then some (EV.nw (.lst (xs.map D.int ++ ys.map D.int))) else none) = _
  rw [if_pos (show lineOk _ = true from decide_eq_true (by rw [List.length_map, List.length_map]; omega)), ← List.map_append]
  rfl
theorem ok_soft {r : Rl} (ho : r.Ok) {c : Bool} : (softT r c).Ok := ⟨ho.sz, ho.ne, ho.bp, ho.bs, ho.bw, ho.o0, ho.o5⟩
theorem good_parts {near far : List Int} {rest b : Int} (h : goodI near far rest b = true) : ¬ b ∈ near ∧ ¬ (rest - b) ∈ far := by
  unfold goodI at h
  have h' := Bool.and_eq_true_iff.mp h
  exact ⟨by simpa using h'.1, by simpa using h'.2⟩
theorem good_of {near far : List Int} {rest b : Int} (h1 : ¬ b ∈ near) (h2 : ¬ (rest - b) ∈ far) : goodI near far rest b = true := by
  unfold goodI
  rw [show near.contains b = false by simpa using h1, show far.contains (rest - b) = false by simpa using h2]
  rfl
theorem less_f {r : Rl} {x l e : Str} {k rest : Int} : letI' (wbad (softT r false) x k) l e rest = (possI r.side rest).filter (goodI ((wbad (softT r false) x k).bad l) ((wbad (softT r false) x k).bad e) rest) := let_f
theorem less_sub {r : Rl} {x l e : Str} {k rest b : Int} (hx : isEndB x = true) (hl : isEndB l = true) (he : isEndB e = true) (h : b ∈ letI' (wbad (softT r false) x k) l e rest) : b ∈ letI' (softT r false) l e rest := by
  rw [less_f, List.mem_filter] at h
  rw [good_f, List.mem_filter]
  obtain ⟨g1, g2⟩ := good_parts h.2
  rw [wbad_bad hx hl] at g1
  rw [wbad_bad hx he] at g2
  refine ⟨h.1, good_of (fun z => g1 ?_) (fun z => g2 ?_)⟩
  · split
    · rename_i q
      rw [sortU_mem, ← q]
      exact List.mem_append_left _ z
    · exact z
  · split
    · rename_i q
      rw [sortU_mem, ← q]
      exact List.mem_append_left _ z
    · exact z
theorem lost_why {r : Rl} {x l e : Str} {k rest b : Int} (hx : isEndB x = true) (hl : isEndB l = true) (he : isEndB e = true) (h : b ∈ letI' (softT r false) l e rest) (h2 : ¬ b ∈ letI' (wbad (softT r false) x k) l e rest) : (l = x ∧ b = k) ∨ (e = x ∧ rest - b = k) := by
  rw [good_f, List.mem_filter] at h
  obtain ⟨g1, g2⟩ := good_parts h.2
  by_cases c1 : l = x ∧ b = k
  · exact Or.inl c1
  by_cases c2 : e = x ∧ rest - b = k
  · exact Or.inr c2
  refine absurd ?_ h2
  rw [less_f, List.mem_filter]
  refine ⟨h.1, good_of (fun z => ?_) (fun z => ?_)⟩
  · rw [wbad_bad hx hl] at z
    split at z
    · rename_i q
      rcases List.mem_append.mp (sortU_mem.mp z) with z | z
      · exact g1 (by rw [q]; exact z)
      · exact c1 ⟨q, List.mem_singleton.mp z⟩
    · exact g1 z
  · rw [wbad_bad hx he] at z
    split at z
    · rename_i q
      rcases List.mem_append.mp (sortU_mem.mp z) with z | z
      · exact g2 (by rw [q]; exact z)
      · exact c2 ⟨q, List.mem_singleton.mp z⟩
    · exact g2 z
theorem ok_strE {a b : Str} {g : Bag} {R : EV → Bag → Prop} (h : R (.val (.bl (decide (a = b)))) g) : Ok (mEq (.val (.str a)) (.val (.str b))) g R :=
  ok_of (o := (eqU (.str a) (.str b)).map fun t => EV.val (.bl t)) (a := .val (.bl (decide (a = b)))) (by rw [eqU_str]; rfl) h
theorem ok_strN {a b : Str} {g : Bag} {R : EV → Bag → Prop} (h : R (.val (.bl (!decide (a = b)))) g) : Ok (mNe (.val (.str a)) (.val (.str b))) g R :=
  ok_of (o := (eqU (.str a) (.str b)).map fun t => EV.val (.bl (!t))) (a := .val (.bl (!decide (a = b)))) (by rw [eqU_str]; rfl) h
theorem ok_intN {a b : Int} {g : Bag} {R : EV → Bag → Prop} (h : R (.val (.bl (!decide (a = b)))) g) : Ok (mNe (.val (.int a)) (.val (.int b))) g R :=
  ok_of (o := (eqU (.int a) (.int b)).map fun t => EV.val (.bl (!t))) (a := .val (.bl (!decide (a = b)))) (by rw [eqU_int]; rfl) h
def G1 (r : Rl) (l : Str) (n : Int) (e : Str) (s : Int) (so : List Int) (x : Str) (k : Int) (δ : DS) (g : Bag) : Prop := bagOk g = true ∧ ∃ a4 a5 a6 a7 a8 a14 a15 a16, δ = ST r l n e s so a4 a5 a6 a7 a8 (some (.val (.str x))) (some (.val (.int k))) a14 a15 a16 none
def G2 (r : Rl) (l : Str) (n : Int) (e : Str) (s : Int) (so : List Int) (δ : DS) (g : Bag) : Prop := bagOk g = true ∧ ∃ a4 a5 a6 a7 a8 a12 a13 a14 a15 a16, δ = ST r l n e s so a4 a5 a6 a7 a8 a12 a13 a14 a15 a16 none
theorem ok_right {r : Rl} (ho : r.Ok) {l e : Str} {n s : Int} (hl : isEndB l = true) (he : isEndB e = true) (hs : s ∈ r.sz) (h0 : 0 ≤ n) (h1 : n ≤ 400) {g : Bag} {R : EV → Bag → Prop} (hg : bagOk g = true) (h : ∀ g', bagOk g' = true → R (.val (.bl true)) g') : Ok (m__law_right [.bag, .val r.d, .val (stS l n e), .val (.int s)]) g R := by
  have hs5 := sz_in ho hs
  have no : ∀ m : Str, (m == "_sizes") = false → (m == "_bad") = false → (m == "_soft") = false → (m == "_where") = false → (m == "_offer") = false → r.fs.lookup m = none := fun m => rl_none
  have nS := no "with_soft" (by decide +kernel) (by decide +kernel) (by decide +kernel) (by decide +kernel) (by decide +kernel)
  have nZ := no "with_sizes" (by decide +kernel) (by decide +kernel) (by decide +kernel) (by decide +kernel) (by decide +kernel)
  have nB := no "bare" (by decide +kernel) (by decide +kernel) (by decide +kernel) (by decide +kernel) (by decide +kernel)
  have nA := no "bad_at" (by decide +kernel) (by decide +kernel) (by decide +kernel) (by decide +kernel) (by decide +kernel)
  have nO := no "with_offer" (by decide +kernel) (by decide +kernel) (by decide +kernel) (by decide +kernel) (by decide +kernel)
  have nW := no "with_where" (by decide +kernel) (by decide +kernel) (by decide +kernel) (by decide +kernel) (by decide +kernel)
  have nX : (softT r false).fs.lookup ("with_bad" : Str) = none := rl_none (by decide +kernel) (by decide +kernel) (by decide +kernel) (by decide +kernel) (by decide +kernel)
  have hoH : (softT r false).Ok := ok_soft ho
  have hoM : (softT r true).Ok := ok_soft ho
  have hoB : ({ r with bp := [], bs := [], bw := [] } : Rl).Ok := ⟨ho.sz, ho.ne, ⟨List.Pairwise.nil, fun _ h => by cases h⟩, ⟨List.Pairwise.nil, fun _ h => by cases h⟩, ⟨List.Pairwise.nil, fun _ h => by cases h⟩, ho.o0, ho.o5⟩
  have hoZ : ({ r with sz := [s] } : Rl).Ok := ⟨⟨List.pairwise_singleton _ _, fun n hn => by rw [List.mem_singleton.mp hn]; exact hs5⟩, by simp, ho.bp, ho.bs, ho.bw, ho.o0, ho.o5⟩
  have hoW : ({ r with side := true } : Rl).Ok := ⟨ho.sz, ho.ne, ho.bp, ho.bs, ho.bw, ho.o0, ho.o5⟩
  obtain ⟨so, hso⟩ : ∃ so, so = possI r.side (n - s) := ⟨_, rfl⟩
  obtain ⟨gd, hgd⟩ : ∃ gd, gd = letI' (softT r false) l e (n - s) := ⟨_, rfl⟩
  have sol : so.length ≤ 1000 := by rw [hso]; exact poss_l (by omega)
  have gdl : gd.length ≤ 1000 := by rw [hgd]; exact let_l (by omega)
  refine ok_body ?_
  unfold bd__law_right
  refine okn_seq (okn_asg (ok_q (a := EV.val (.tup [lstI so, (softT r false).d, (softT r true).d])) ?_ ⟨_, ST r l n e s so none none none none none none none none none none none, rfl, rfl, ?_⟩))
  · have ea : aCons (eCall 3 m_possible (aCons (eVar 1) (aCons (eVar 2) (aCons (eVar 3) (aNil))))) (aCons (eMeth "Rule" "with_soft" 2 m_Rule__with_soft (eVar 1) (aCons (eC (.bl false)) (aNil))) (aCons (eMeth "Rule" "with_soft" 2 m_Rule__with_soft (eVar 1) (aCons (eC (.bl true)) (aNil))) (aNil))) (startD 18 [.bag, .val r.d, .val (stS l n e), .val (.int s)]) = mret [.nw (lstI so), .val (softT r false).d, .val (softT r true).d] :=
      q_ac ((q_call (es := [.val r.d, .val (stS l n e), .val (.int s)]) rfl rfl rfl).trans (by rw [hso]; exact m_possible' ho hs h0 (by omega)))
        (q_ac ((q_meth (fs := r.fs) (as := [.val (.bl false)]) (es := [.val (.bl false)]) rfl nS rfl rfl rfl).trans (m_wsoft ho)) (q_a1 ((q_meth (fs := r.fs) (as := [.val (.bl true)]) (es := [.val (.bl true)]) rfl nS rfl rfl rfl).trans (m_wsoft ho))))
    exact (q_mb ea).trans rfl
  -- other sizes
  refine okn_seq (okn_if ?_)
  obtain ⟨ev1, q1, L1⟩ := m_offered' (r := { r with sz := [s] }) (l := l) (e := e) (n := n) hoZ hl he (List.mem_singleton.mpr rfl) h0 (by omega)
  obtain ⟨ev2, q2, L2'⟩ := m_offered' (l := l) (e := e) (n := n) ho hl he hs h0 (by omega)
  refine ok_bind (ok_bind (ok_q ((q_call (es := [.val ({ r with sz := [s] } : Rl).d, .val (stS l n e), .val (.int s)]) (q_ac ((q_meth (fs := r.fs) (as := [.val (lstI [s])]) (es := [.nw (lstI [s])]) rfl nZ rfl rfl rfl).trans (m_wsize ho hs5.1 hs5.2)) (q_ac rfl (q_a1 rfl))) rfl rfl).trans q1) ?_))
  refine ok_bind (ok_q ((q_call (es := [.val r.d, .val (stS l n e), .val (.int s)]) rfl rfl rfl).trans q2) ?_)
  refine ne_ints (xs := offI r l e (n - s)) L1 L2' ?_
  rw [decide_eq_true rfl]
  refine ok_ret (okn_next ?_)
  -- bare
  refine okn_seq (okn_if ?_)
  refine ok_bind (ok_bind (ok_q ((q_call (es := [.val ({ r with bp := [], bs := [], bw := [] } : Rl).d, .val (stS l n e), .val (.int s)]) (q_ac ((q_meth (fs := r.fs) (as := []) (es := []) rfl nB rfl rfl rfl).trans (m_bare ho)) (q_ac rfl (q_a1 rfl))) rfl rfl).trans (m_lt hoB hl he hs h0 (by omega))) ?_))
  rw [bare_let, ← hso]
  refine ok_bind (ok_ret (a := EV.val (lstI so)) (ne_ints (Or.inl rfl) (Or.inl rfl) ?_))
  rw [decide_eq_true rfl]
  refine ok_ret (okn_next ?_)
  -- the good ones
  refine okn_seq (okn_set (ok_q (a := EV.val (lstI gd)) ((q_call (es := [.val (softT r false).d, .val (stS l n e), .val (.int s)]) rfl rfl rfl).trans (by rw [hgd]; exact m_lt hoH hl he hs h0 (by omega))) ⟨_, rfl, ?_⟩))
  refine okn_seq (okn_if ?_)
  refine ok_bind (ok_bind (ok_bind (ok_q ((q_call (es := [.val (softT r true).d, .val (stS l n e), .val (.int s)]) rfl rfl rfl).trans (m_lt hoM hl he hs h0 (by omega))) ?_)))
  rw [mild_f, ← hgd, ← hso]
  refine ok_bind (ok_bind (ok_bind (ok_bind (ok_ret (a := EV.val (lstI gd)) (ok_bind (ok_ret (a := EV.nw (.lst [])) (ne_ints (ys := []) (Or.inl rfl) (Or.inr rfl) (ok_ret ?_))))))))
  have md : ∀ (δ : DS) (R : EV → Bag → Prop), eVar 4 δ = mret (.val (lstI gd)) → eVar 9 δ = mret (.val (lstI so)) → R (.val (lstI (if gd ≠ [] then gd else so))) g → Ok (if (!decide (gd = [])) = true then eVar 4 δ else eVar 9 δ) g R := fun δ R e4 e9 hR => by
    by_cases z : gd = []
    · rw [if_neg (by rw [decide_eq_true z]; decide), e9]
      rw [if_neg (by simpa using z)] at hR
      exact ok_ret hR
    · rw [if_pos (by rw [decide_eq_false z]; decide), e4]
      rw [if_pos z] at hR
      exact ok_ret hR
  refine md _ _ rfl rfl (ne_ints (Or.inl rfl) (Or.inl rfl) ?_)
  rw [decide_eq_true rfl]
  refine ok_ret ?_
  have s1 : ∀ x ∈ gd, x ∈ so := fun x hx => by
    rw [hgd, good_f] at hx
    rw [hso]
    exact (List.mem_filter.mp hx).1
  refine ok_bind (ok_bind (ok_eq (q_minus (xs := gd) (ys := so) gdl rfl rfl rfl fun _ => rfl) ?_))
  rw [not_in_nil s1]
  refine ok_bind (ok_ret (a := EV.nw (.lst [])) (ne_ints (xs := []) (ys := []) (Or.inr rfl) (Or.inr rfl) ?_))
  refine ok_ret (okn_next ?_)
  -- an end and a length
  refine okn_seq (okn_par (ok_bind (ok_bind (ok_ret (a := [EV.bag]) (ok_end hg fun x hx g1 hg1 => ?_)))))
  refine ok_bind (ok_bind (ok_bind (ok_ret (a := EV.val (.int 1)) (ok_bind (ok_bind (ok_ret (a := [EV.bag, EV.val (.int 5)]) (ok_take hg1 (by decide) (by decide) fun j g2 hj0 hj1 hg2 => ?_)))))))
  refine ok_of (o := some (EV.val (.int (1 + j)))) (a := EV.val (.int (1 + j))) rfl ?_
  obtain ⟨k, hk⟩ : ∃ k, k = 1 + j := ⟨_, rfl⟩
  rw [← hk]
  refine ok_ret (ok_ret ⟨_, _, rfl, ?_⟩)
  obtain ⟨le, hle⟩ : ∃ le, le = letI' (wbad (softT r false) x k) l e (n - s) := ⟨_, rfl⟩
  have lel : le.length ≤ 1000 := by rw [hle]; exact let_l (by omega)
  have bl := up_len (ho.bad x)
  refine okn_seq (okn_set (ok_q (a := EV.val (lstI le)) ((q_call (es := [.val (wbad (softT r false) x k).d, .val (stS l n e), .val (.int s)]) (q_ac ((q_meth (fs := (softT r false).fs) (as := [.val (.str x), .val (lstI (r.bad x ++ [k]))]) (es := [.val (.str x), .nw (lstI (r.bad x ++ [k]))]) rfl nX (q_ac rfl (q_a1 ?_)) rfl rfl).trans (m_wbad hoH hx (by omega) (by omega))) (q_ac rfl (q_a1 rfl))) rfl rfl).trans ?_) ⟨_, rfl, ?_⟩))
  · show mbind _ _ = _
    refine (q_mb ((q_meth (fs := r.fs) (as := [.val (.str x)]) (es := [.val (.str x)]) rfl nA rfl rfl rfl).trans (m_bad_at hx))).trans ?_
    show mAdd (.nw (lstI (r.bad x))) (.nw (lstI [k])) = _
    exact add_ints (by simp; omega)
  · rw [hle]
    exact m_lt (wbad_ok hoH (by omega) (by omega)) hl he hs h0 (by omega)
  refine okn_seq (okn_if ?_)
  refine ok_bind (ok_bind (ok_eq (q_minus (xs := le) (ys := gd) lel rfl rfl rfl fun _ => rfl) ?_))
  rw [not_in_nil (xs := le) (ys := gd) fun b hb => by rw [hle] at hb; rw [hgd]; exact less_sub hx hl he hb]
  refine ok_bind (ok_ret (a := EV.nw (.lst [])) (ne_ints (xs := []) (ys := []) (Or.inr rfl) (Or.inr rfl) ?_))
  refine ok_ret (okn_next ?_)
  refine okn_seq (okn_set (ok_eq (q_minus (xs := gd) (ys := le) gdl rfl rfl rfl fun _ => rfl) ⟨_, rfl, ?_⟩))
  obtain ⟨lo, hlo⟩ : ∃ lo, lo = gd.filter fun b => !le.contains b := ⟨_, rfl⟩
  rw [← hlo]
  refine okn_seq (okn_for (ok_bind (ok_ret (a := EV.val (lstI lo)) (ok_ret (a := lo.map D.int) ?_))))
  refine okn_loop (G1 r l n e s so x k) _ _ _ ?step1 ⟨hg2, _, _, _, _, _, _, _, _, rfl⟩ ?fin1
  case step1 =>
    rintro d hd δ g ⟨hg, a4, a5, a6, a7, a8, a14, a15, a16, rfl⟩
    obtain ⟨b, hb, rfl⟩ := List.mem_map.mp hd
    have why : (l = x ∧ b = k) ∨ (e = x ∧ n - s - b = k) := by
      rw [hlo, List.mem_filter] at hb
      have h2 : ¬ b ∈ le := by simpa using hb.2
      have h3 := hb.1
      rw [hgd] at h3
      rw [hle] at h2
      exact lost_why hx hl he h3 h2
    refine ⟨_, rfl, okn_seq (okn_set (ok_bind (ok_bind (ok_bind (ok_ret (a := EV.val (stS l n e)) (ok_bind (ok_ret (a := EV.val (.int 1)) (ok_ret (a := EV.val (.int n)) ?_))))))))⟩
    refine ok_bind (ok_ret (a := EV.val (.int s)) (ok_ret (a := EV.val (.int (n - s))) ?_))
    refine ok_bind (ok_ret (a := EV.val (.int b)) (ok_ret (a := EV.val (.int (n - s - b))) ⟨_, rfl, ?_⟩))
    have ah : ∀ (δ : DS), eVar 2 δ = mret (.val (stS l n e)) → eVar 12 δ = mret (.val (.str x)) → eVar 7 δ = mret (.val (.int b)) → eVar 13 δ = mret (.val (.int k)) → eAnd (Vi.e2 mEq (Vi.e2 mIx (eVar 2) (eC (.int 0))) (eVar 12)) (Vi.e2 mEq (eVar 7) (eVar 13)) δ = mret (.val (.bl (decide (l = x ∧ b = k)))) := fun δ v2 v12 v7 v13 => by
      have i0 : Vi.e2 mIx (eVar 2) (eC (.int 0)) δ = mret (.val (.str l)) := by
        unfold Vi.e2
        rw [v2, q_ret]
        rfl
      have m1 : Vi.e2 mEq (Vi.e2 mIx (eVar 2) (eC (.int 0))) (eVar 12) δ = mret (.val (.bl (decide (l = x)))) := by
        show mbind (Vi.e2 mIx (eVar 2) (eC (.int 0)) δ) _ = _
        rw [i0, q_ret, v12, q_ret]
        show mof ((eqU (.str l) (.str x)).map fun t => EV.val (.bl t)) = _
        rw [eqU_str]
        rfl
      have m2 : Vi.e2 mEq (eVar 7) (eVar 13) δ = mret (.val (.bl (decide (b = k)))) := by
        unfold Vi.e2
        rw [v7, q_ret, v13, q_ret]
        show mof ((eqU (.int b) (.int k)).map fun t => EV.val (.bl t)) = _
        rw [eqU_int]
        rfl
      unfold eAnd
      rw [m1, q_ret]
      by_cases c : l = x
      · rw [decide_eq_true c]
        dsimp only
        show Vi.e2 mEq (eVar 7) (eVar 13) δ = _
        rw [m2]
        by_cases c2 : b = k <;> simp [c, c2]
      · rw [decide_eq_false c]
        simp [c]
    refine okn_seq (okn_set (ok_q (ah _ rfl rfl rfl rfl) ⟨_, rfl, ?_⟩))
    refine okn_if ?_
    have tr : ∀ c : Bool, truE (.val (.bl c)) = some c := fun _ => rfl
    by_cases c1 : l = x ∧ b = k
    · refine ok_bind (ok_bind (ok_bind (ok_ret (a := EV.val (.bl (decide (l = x ∧ b = k)))) ?_)))
      rw [decide_eq_true c1]
      exact ok_ret (ok_ret (ok_ret (okn_next ⟨_, rfl, hg, _, _, _, _, _, _, _, _, rfl⟩)))
    · have c2 := why.resolve_left c1
      refine ok_bind (ok_bind (ok_bind (ok_ret (a := EV.val (.bl (decide (l = x ∧ b = k)))) ?_)))
      rw [decide_eq_false c1]
      refine ok_ret (ok_ret ?_)
      rw [if_pos (show (!false) = true from rfl)]
      refine ok_bind (ok_bind (ok_bind (ok_bind (ok_ret (a := EV.val (stS l n e)) (ok_bind (ok_ret (a := EV.val (.int 2)) (ok_ret (a := EV.val (.str e)) ?_)))))))
      refine ok_bind (ok_ret (a := EV.val (.str x)) (ok_strN ?_))
      rw [decide_eq_true c2.1]
      refine ok_ret ?_
      rw [if_neg (show ¬ (!true) = true by decide)]
      refine ok_bind (ok_bind (ok_ret (a := EV.val (.int (n - s - b))) (ok_bind (ok_ret (a := EV.val (.int k)) (ok_intN ?_)))))
      rw [decide_eq_true c2.2]
      exact ok_ret (okn_next ⟨_, rfl, hg, _, _, _, _, _, _, _, _, rfl⟩)
  rintro δ g ⟨hg, a4, a5, a6, a7, a8, a14, a15, a16, rfl⟩
  refine okn_seq (okn_for ⟨_, _, rfl, ?_⟩)
  refine okn_loop (G2 r l n e s so) _ _ _ ?step2 ⟨hg, _, _, _, _, _, _, _, _, _, _, rfl⟩ ?fin2
  case step2 =>
    rintro d hd δ g ⟨hg, a4, a5, a6, a7, a8, a12, a13, a14, a15, a16, rfl⟩
    obtain ⟨m, rfl, m0, m5⟩ : ∃ m : Int, d = .int m ∧ 0 ≤ m ∧ m ≤ 5 := by
      unfold rngD at hd
      obtain ⟨i, hi, rfl⟩ := List.mem_map.mp hd
      have := List.mem_range.mp hi
      have h6 : i < 6 := this
      exact ⟨_, rfl, by omega, by omega⟩
    have hoO : ({ r with off := m } : Rl).Ok := ⟨ho.sz, ho.ne, ho.bp, ho.bs, ho.bw, m0, m5⟩
    obtain ⟨ev3, q3, L3⟩ := m_offered' (r := { r with off := m }) (l := l) (e := e) (n := n) hoO hl he hs h0 (by omega)
    rw [off_many ho m0 m5] at L3
    obtain ⟨it, hit⟩ : ∃ it, it = letI' r l e (n - s) := ⟨_, rfl⟩
    rw [← hit] at L3
    refine ⟨_, rfl, okn_seq (okn_set (ok_q (a := EV.val (lstI it)) ((q_call (es := [.val r.d, .val (stS l n e), .val (.int s)]) rfl rfl rfl).trans (by rw [hit]; exact m_lt ho hl he hs h0 (by omega))) ⟨_, rfl, ?_⟩))⟩
    refine okn_if ?_
    refine ok_bind (ok_bind (ok_q ((q_call (es := [.val ({ r with off := m } : Rl).d, .val (stS l n e), .val (.int s)]) (q_ac ((q_meth (fs := r.fs) (as := [.val (.int m)]) (es := [.val (.int m)]) rfl nO rfl rfl rfl).trans (m_woff ho m0 m5)) (q_ac rfl (q_a1 rfl))) rfl rfl).trans q3) ?_))
    refine ok_bind (ok_bind (ok_eq (a := decide (0 < m)) (g' := g) rfl ?_))
    by_cases mz : 0 < m
    · rw [if_pos (decide_eq_true mz)]
      rw [if_pos mz] at L3
      refine ok_bind (ok_ret (a := EV.val (lstI it)) (ok_bind (ok_ret (a := none) (ok_bind (ok_bind (ok_ret (a := EV.val (.int m)) (ok_ret (a := some m) ?_)))))))
      refine ok_of (o := some (EV.nw (.lst (Vi.cutD (it.map D.int) none (some m))))) (a := EV.nw (.lst (Vi.cutD (it.map D.int) none (some m)))) rfl ?_
      rw [cut_take m0]
      refine ne_ints L3 (Or.inr rfl) ?_
      rw [decide_eq_true rfl]
      exact ok_ret (okn_next ⟨_, rfl, hg, _, _, _, _, _, _, _, _, _, _, rfl⟩)
    · rw [if_neg (by rw [decide_eq_false mz]; decide)]
      rw [if_neg mz] at L3
      refine ok_ret (a := EV.val (lstI it)) (ne_ints L3 (Or.inl rfl) ?_)
      rw [decide_eq_true rfl]
      exact ok_ret (okn_next ⟨_, rfl, hg, _, _, _, _, _, _, _, _, _, _, rfl⟩)
  rintro δ g ⟨hg, a4, a5, a6, a7, a8, a12, a13, a14, a15, a16, rfl⟩
  -- at the sides
  refine okn_ret ?_
  have sw : ∀ b ∈ possI true (n - s), b ∈ so := fun b hb => by
    rw [hso]
    have z := mem_poss.mp hb
    rw [mem_poss]
    split at z
    · rename_i c
      split <;> omega
    · rename_i c
      split
      · rename_i c2
        exact absurd ⟨rfl, c2.2⟩ c
      · exact z
  refine ok_bind (ok_eq (q_minus (xs := possI true (n - s)) (ys := so) (poss_l (by omega)) rfl ?_ rfl fun _ => rfl) ?_)
  · unfold iSeq
    refine (congrFun (q_mb ((q_call (es := [.val ({ r with side := true } : Rl).d, .val (stS l n e), .val (.int s)]) (q_ac ((q_meth (fs := r.fs) (as := [.val (.str "side")]) (es := [.val (.str "side")]) rfl nW rfl rfl rfl).trans (m_wwhere ho)) (q_ac rfl (q_a1 rfl))) rfl rfl).trans (m_possible' (l := l) (e := e) hoW hs h0 (by omega)))) g).trans ?_
    rfl
  rw [not_in_nil sw]
  refine ok_bind (ok_ret (a := EV.nw (.lst [])) (eq_ints (xs := []) (ys := []) (Or.inr rfl) (Or.inr rfl) ?_))
  exact ⟨_, rfl, _, rfl, h _ hg⟩
theorem mkR' {sz a b c : List Int} {soft : Bool} {w : Str} {o : Int} (h1 : okL sz) (h2 : sz ≠ []) (ha : okL a) (hb : okL b) (hc : okL c) (hw : w = "any" ∨ w = "side") (o0 : 0 ≤ o) (o5 : o ≤ 5) : ∃ r, mkRl (lstI sz) (.dct (kvB a b c)) soft w o = some r := by
  have nt : ∀ ns, ntsOf (lstI ns) = some ns := fun ns => asInt_map ns
  have nk : ∀ ns, okL ns → numsOk (lstI ns) = true := fun ns h => by
    unfold numsOk
    rw [nt]
    dsimp only
    rw [h.1, decide_eq_true (show ns.length < 64 by have := h.2; omega)]
    rfl
  have kb : (kvB a b c).all badKv = true := by
    unfold kvB
    simp only [List.all_cons, List.all_nil, badKv, nk a ha, nk b hb, nk c hc]
    rfl
  have bo : badOf (.dct (kvB a b c)) = some (badAt (kvB a b c) "pillar", badAt (kvB a b c) "sold", badAt (kvB a b c) "wall") := by
    unfold badOf
    dsimp only
    rw [if_pos (by rw [kb]; rfl)]
  have hw' : (decide (w = "any") || decide (w = "side")) = true := by
    rcases hw with rfl | rfl <;> simp
  have hne : (!sz.isEmpty) = true := by cases sz with
    | nil => exact absurd rfl h2
    | cons => rfl
  refine ⟨⟨sortU sz, sortU (badAt (kvB a b c) "pillar"), sortU (badAt (kvB a b c) "sold"), sortU (badAt (kvB a b c) "wall"), soft, decide (w = "side"), o⟩, ?_⟩
  unfold mkRl
  rw [nt, bo]
  show (if _ then _ else _) = _
  rw [if_pos (by rw [nk sz h1, hne, hw', decide_eq_true o0, decide_eq_true o5]; rfl)]
theorem m_made' {sz a b c : List Int} {soft : Bool} {w : Str} {o : Int} (h1 : okL sz) (h2 : sz ≠ []) (ha : okL a) (hb : okL b) (hc : okL c) (hw : w = "any" ∨ w = "side") (o0 : 0 ≤ o) (o5 : o ≤ 5) : ∃ r : Rl, m__law_made [.val (.dct (kvR sz a b c soft w o))] = mret (.val r.d) ∧ r.Ok := by
  obtain ⟨r, e⟩ := mkR' (soft := soft) h1 h2 ha hb hc hw o0 o5
  refine ⟨r, ?_, mkRl_ok e⟩
  funext g
  show mB (sRet _ [some (.val (.dct (kvR sz a b c soft w o)))]) g = _
  rw [q_retS]
  have q : eMakeK "Rule" 2 3 (fun as bs => as ++ bs) F_Rule (aCons (eDGet (eVar 0) (eC (.str "sizes"))) (aCons (eDGet (eVar 0) (eC (.str "bad"))) (aNil))) (aCons (eDGet (eVar 0) (eC (.str "soft"))) (aCons (eDGet (eVar 0) (eC (.str "where"))) (aCons (eDGet (eVar 0) (eC (.str "offer"))) (aNil)))) [some (.val (.dct (kvR sz a b c soft w o)))] g = some (.ok (.val r.d), g) := by
    have f : F_Rule [.val (lstI sz), .val (.dct (kvB a b c)), .val (.bl soft), .val (.str w), .val (.int o)] g = some (.ok r.fs, g) := by
      show (mkRl _ _ _ _ _).map _ = _
      rw [e]
      rfl
    show (match F_Rule [.val (lstI sz), .val (.dct (kvB a b c)), .val (.bl soft), .val (.str w), .val (.int o)] g with
      | some (.ok fs, g') => some (Rs.ok (EV.val (.obj "Rule" fs)), g')
      | _ => none) = _
    rw [f]
    rfl
  unfold mB sK
  rw [q]
  rfl
def J1 (δ : DS) (g : Bag) : Prop := bagOk g = true ∧ ∃ s0 s2 s3 s4 s5, δ = [s0, some .bag, s2, s3, s4, s5]
def J2 (r : Rl) (l e : Str) (n : Int) (δ : DS) (g : Bag) : Prop := bagOk g = true ∧ ∃ s0 s2 s3, δ = [s0, some .bag, s2, s3, some (.val r.d), some (.val (stS l n e))]
theorem meant : lawMeans := by
  intro ns
  suffices h : Okn bd_law ((List.replicate 6 none).set 1 (some .bag)) (bag0 ns) (fun o _ => o = .rt (.val (.bl true))) by
    obtain ⟨o, g', e, rfl⟩ := h
    exact ⟨g', e⟩
  unfold bd_law
  refine okn_seq (okn_for ⟨_, _, rfl, ?_⟩)
  refine okn_loop J1 _ _ _ ?step ⟨bag0_ok ns, none, none, none, none, none, rfl⟩ ?fin
  case fin =>
    rintro δ' g' _
    exact okn_ret (ok_ret ⟨_, rfl, rfl⟩)
  rintro d hd δ g ⟨hg, s0, s2, s3, s4, s5, rfl⟩
  refine ⟨_, rfl, ?_⟩
  refine okn_seq (okn_par (ok_bind (ok_bind (ok_bind (ok_bind (ok_ret (a := [EV.bag]) (ok_rule hg fun sz a b c soft w o g1 h1 h2 ha hb hc hw ho0 ho5 hg1 => ?_)))))))
  obtain ⟨r, hm, ho⟩ := m_made' (soft := soft) h1 h2 ha hb hc hw ho0 ho5
  refine ok_ret (ok_q hm ?_)
  refine ok_bind (ok_bind (ok_bind (ok_ret (a := [EV.bag, EV.val (.int 16)]) (ok_stretch hg1 (by decide) (by decide) fun l n e g2 hl he hn0 hn1 hg2 => ?_))))
  refine ok_ret (ok_ret ⟨_, _, rfl, ?_⟩)
  refine okn_for (ok_bind (ok_q (a := EV.val (tupI r.sz)) (q_prop (fs := r.fs) rfl m_sizes) (ok_ret (a := r.sz.map D.int) ?_)))
  refine okn_loop (J2 r l e n) _ _ _ ?step2 ⟨hg2, _, _, _, rfl⟩ ?fin2
  case fin2 =>
    rintro δ' g' ⟨hg', _, _, _, hδ⟩
    exact ⟨_, rfl, hg', _, _, _, _, _, hδ⟩
  rintro d' hd' δ g ⟨hg, t0, t2, t3, rfl⟩
  obtain ⟨s, hs, rfl⟩ := List.mem_map.mp hd'
  have hs5 := sz_in ho hs
  have nB : r.fs.lookup ("bare" : Str) = none := rl_none (by decide +kernel) (by decide +kernel) (by decide +kernel) (by decide +kernel) (by decide +kernel)
  have hoB : ({ r with bp := [], bs := [], bw := [] } : Rl).Ok := ⟨ho.sz, ho.ne, ⟨List.Pairwise.nil, fun _ h => by cases h⟩, ⟨List.Pairwise.nil, fun _ h => by cases h⟩, ⟨List.Pairwise.nil, fun _ h => by cases h⟩, ho.o0, ho.o5⟩
  refine ⟨_, rfl, okn_seq (okn_if ?_)⟩
  refine ok_bind (ok_bind (ok_bind (ok_ret (a := [EV.bag, EV.val r.d, EV.val (stS l n e), EV.val (.int s)]) (ok_right ho hl he hs hn0 (by omega) hg fun g' hg' => ?_))))
  refine ok_ret (ok_ret (okn_next ?_))
  refine okn_if ?_
  refine ok_bind (ok_bind (ok_q ((q_call (es := [.val ({ r with bp := [], bs := [], bw := [] } : Rl).d, .val (stS l n e), .val (.int s)]) (q_ac ((q_meth (fs := r.fs) (as := []) (es := []) rfl nB rfl rfl rfl).trans (m_bare ho)) (q_ac rfl (q_a1 rfl))) rfl rfl).trans (m_refuses' hoB hl he hs hn0 (by omega))) ?_))
  rw [bare_off ho]
  refine ok_bind (ok_bind (ok_bind (ok_ret (a := EV.val (stS l n e)) (ok_bind (ok_ret (a := EV.val (.int 1)) (ok_ret (a := EV.val (.int n)) ?_))))))
  refine ok_bind (ok_ret (a := EV.val (.int s)) (ok_ret (a := EV.val (.bl (decide (n < s)))) ?_))
  rw [show decide (n < s) = decide (n - s < 0) from decide_eq_decide.mpr (by omega)]
  refine ne_bl ?_
  rw [decide_eq_true rfl]
  exact ok_ret (okn_next ⟨_, rfl, hg', _, _, _, rfl⟩)
end K27

set_option Elab.async false
set_option linter.all false
set_option maxRecDepth 100000
set_option maxHeartbeats 8000000
namespace K27
open PySem PySem.Spec PyProof.Rows L2 Vi
theorem kwd_Rule__init {K : PySem.W.Frag} {D : Addr} {tk1 tk2 : Tok} (h0 : PySem.W.nsIn K D "soft" = some (some (.bool false))) (h1 : PySem.W.nsIn K D "where" = some (some (.str "any" tk1))) (h2 : PySem.W.nsIn K D "offer" = some (some (.int 0 tk2))) : ∀ q ∈ ([(("soft" : Str), V.bl false), (("where" : Str), V.str "any"), (("offer" : Str), V.int 0)] : List (Str × V)), ∃ u, PySem.W.nsIn K D q.1 = some (some u) ∧ RelV q.2 u := by
  intro q hq
  simp only [List.mem_cons, List.mem_nil_iff, or_false] at hq
  rcases hq with rfl | rfl | rfl
  · exact ⟨_, h0, rfl⟩
  · exact ⟨_, h1, ⟨_, rfl⟩⟩
  · exact ⟨_, h2, ⟨_, rfl⟩⟩
theorem kb_Rule__init {K : PySem.W.Frag} {f : Addr} {fd : FuncData} (F : FunD K "__init__" "Rule.__init__" (defArgs s_Rule__init) (defBody s_Rule__init) (defScope s_Rule__init) [V.non] [(("soft" : Str), V.bl false), (("where" : Str), V.str "any"), (("offer" : Str), V.int 0)] f fd) : KBn K fd ["self", "sizes", "bad", "soft", "where", "offer"] 3 ["soft", "where", "offer"] (fun us ws => us ++ ws) (fun vs zs => vs ++ zs) := by
  obtain ⟨_, _, h⟩ := F.kbinds 3 ["soft", "where", "offer"] [] (fun us _ _ ws => us ++ ws) (by simp) (by simp) (fun q hq => by cases hq) (fun h _ _ h2 => h.append h2) fun T D doc pm an cdv ct us its mv ws h1 h2 h3 h4 => by
    match us, h1, its, h2, mv, h3, ws, h4 with
    | [_, _, _], _, [_], _, [], _, [_, _, _], _ => exact ⟨_, rfl, by show _ = _; kernel_rfl⟩
  exact h
theorem kb1_Rule__init {K : PySem.W.Frag} {f : Addr} {fd : FuncData} (F : FunD K "__init__" "Rule.__init__" (defArgs s_Rule__init) (defBody s_Rule__init) (defScope s_Rule__init) [V.non] [(("soft" : Str), V.bl false), (("where" : Str), V.str "any"), (("offer" : Str), V.int 0)] f fd) : ∃ gU, KBn K fd ["self", "sizes", "bad", "soft", "where", "offer"] 2 ["soft", "where", "offer"] gU (fun vs zs => vs ++ [V.non] ++ zs) := by
  obtain ⟨_, _, h⟩ := F.kbinds 2 ["soft", "where", "offer"] [] (fun us its _ ws => us ++ its ++ ws) (by simp) (by simp) (fun q hq => by cases hq) (fun h hi _ h2 => (h.append hi).append h2) fun T D doc pm an cdv ct us its mv ws h1 h2 h3 h4 => by
    match us, h1, its, h2, mv, h3, ws, h4 with
    | [_, _], _, [_], _, [], _, [_, _, _], _ => exact ⟨_, rfl, by show _ = _; kernel_rfl⟩
  exact ⟨_, h⟩
theorem all_mk {l : PySem.W.OpenLaw} {w : World} {K : PySem.W.Frag} {h : Heap} {mg : Str → Option Value} {fa f_is_integer f_is_number f_is_end f_is_size f_are_sizes f_possible_befores f_has_size f_check_size f_possible f_let f_offered f_refuses f__ascending f__are_rule_sizes f__are_bad_lengths f__is_place f__is_offer f__law_bag f__law_take f__law_one f__law_ends f__law_end f__law_lengths f__law_sizes f__law_rule f__law_made f__law_stretch f__law_right f_law f_Splits__init f_Splits___let_of f_Splits__let f_Splits__offered f_Rule__init f_Rule__sizes f_Rule__soft f_Rule__where f_Rule__offer f_Rule__bad_at f_Rule__with_bad f_Rule__with_sizes f_Rule__with_soft f_Rule__with_where f_Rule__with_offer f_Rule__bare c_Splits c_Rule a_ENDS a_PLACES p_Rule__sizes p_Rule__soft p_Rule__where p_Rule__offer T_Rule__init D_Rule__init : Addr} (X : K.In h) (N : h.Ns mainGlobals mg) (hfa : mg "law" = some (.ref fa))
    {od_is_integer an_is_integer : Option Addr} {sl_is_integer : Array (Option Value)} {oc_is_integer kV_is_integer dc_is_integer pm_is_integer cd_is_integer ct_is_integer : Value}
    {od_is_number an_is_number : Option Addr} {sl_is_number : Array (Option Value)} {oc_is_number kV_is_number dc_is_number pm_is_number cd_is_number ct_is_number : Value}
    {od_is_end an_is_end : Option Addr} {sl_is_end : Array (Option Value)} {oc_is_end kV_is_end dc_is_end pm_is_end cd_is_end ct_is_end : Value}
    {od_is_size an_is_size : Option Addr} {sl_is_size : Array (Option Value)} {oc_is_size kV_is_size dc_is_size pm_is_size cd_is_size ct_is_size : Value}
    {od_are_sizes an_are_sizes : Option Addr} {sl_are_sizes : Array (Option Value)} {oc_are_sizes kV_are_sizes dc_are_sizes pm_are_sizes cd_are_sizes ct_are_sizes : Value}
    {od_possible_befores an_possible_befores : Option Addr} {sl_possible_befores : Array (Option Value)} {oc_possible_befores kV_possible_befores dc_possible_befores pm_possible_befores cd_possible_befores ct_possible_befores : Value}
    {od_has_size an_has_size : Option Addr} {sl_has_size : Array (Option Value)} {oc_has_size kV_has_size dc_has_size pm_has_size cd_has_size ct_has_size : Value}
    {od_check_size an_check_size : Option Addr} {sl_check_size : Array (Option Value)} {oc_check_size kV_check_size dc_check_size pm_check_size cd_check_size ct_check_size : Value}
    {od_possible an_possible : Option Addr} {sl_possible : Array (Option Value)} {oc_possible kV_possible dc_possible pm_possible cd_possible ct_possible : Value}
    {od_let an_let : Option Addr} {sl_let : Array (Option Value)} {oc_let kV_let dc_let pm_let cd_let ct_let : Value}
    {od_offered an_offered : Option Addr} {sl_offered : Array (Option Value)} {oc_offered kV_offered dc_offered pm_offered cd_offered ct_offered : Value}
    {od_refuses an_refuses : Option Addr} {sl_refuses : Array (Option Value)} {oc_refuses kV_refuses dc_refuses pm_refuses cd_refuses ct_refuses : Value}
    {od__ascending an__ascending : Option Addr} {sl__ascending : Array (Option Value)} {oc__ascending kV__ascending dc__ascending pm__ascending cd__ascending ct__ascending : Value}
    {od__are_rule_sizes an__are_rule_sizes : Option Addr} {sl__are_rule_sizes : Array (Option Value)} {oc__are_rule_sizes kV__are_rule_sizes dc__are_rule_sizes pm__are_rule_sizes cd__are_rule_sizes ct__are_rule_sizes : Value}
    {od__are_bad_lengths an__are_bad_lengths : Option Addr} {sl__are_bad_lengths : Array (Option Value)} {oc__are_bad_lengths kV__are_bad_lengths dc__are_bad_lengths pm__are_bad_lengths cd__are_bad_lengths ct__are_bad_lengths : Value}
    {od__is_place an__is_place : Option Addr} {sl__is_place : Array (Option Value)} {oc__is_place kV__is_place dc__is_place pm__is_place cd__is_place ct__is_place : Value}
    {od__is_offer an__is_offer : Option Addr} {sl__is_offer : Array (Option Value)} {oc__is_offer kV__is_offer dc__is_offer pm__is_offer cd__is_offer ct__is_offer : Value}
    {od__law_bag an__law_bag : Option Addr} {sl__law_bag : Array (Option Value)} {oc__law_bag kV__law_bag dc__law_bag pm__law_bag cd__law_bag ct__law_bag : Value}
    {od__law_take an__law_take : Option Addr} {sl__law_take : Array (Option Value)} {oc__law_take kV__law_take dc__law_take pm__law_take cd__law_take ct__law_take : Value}
    {od__law_one an__law_one : Option Addr} {sl__law_one : Array (Option Value)} {oc__law_one kV__law_one dc__law_one pm__law_one cd__law_one ct__law_one : Value}
    {od__law_ends an__law_ends : Option Addr} {sl__law_ends : Array (Option Value)} {oc__law_ends kV__law_ends dc__law_ends pm__law_ends cd__law_ends ct__law_ends : Value}
    {od__law_end an__law_end : Option Addr} {sl__law_end : Array (Option Value)} {oc__law_end kV__law_end dc__law_end pm__law_end cd__law_end ct__law_end : Value}
    {od__law_lengths an__law_lengths : Option Addr} {sl__law_lengths : Array (Option Value)} {oc__law_lengths kV__law_lengths dc__law_lengths pm__law_lengths cd__law_lengths ct__law_lengths : Value}
    {od__law_sizes an__law_sizes : Option Addr} {sl__law_sizes : Array (Option Value)} {oc__law_sizes kV__law_sizes dc__law_sizes pm__law_sizes cd__law_sizes ct__law_sizes : Value}
    {od__law_rule an__law_rule : Option Addr} {sl__law_rule : Array (Option Value)} {oc__law_rule kV__law_rule dc__law_rule pm__law_rule cd__law_rule ct__law_rule : Value}
    {od__law_made an__law_made : Option Addr} {sl__law_made : Array (Option Value)} {oc__law_made kV__law_made dc__law_made pm__law_made cd__law_made ct__law_made : Value}
    {od__law_stretch an__law_stretch : Option Addr} {sl__law_stretch : Array (Option Value)} {oc__law_stretch kV__law_stretch dc__law_stretch pm__law_stretch cd__law_stretch ct__law_stretch : Value}
    {od__law_right an__law_right : Option Addr} {sl__law_right : Array (Option Value)} {oc__law_right kV__law_right dc__law_right pm__law_right cd__law_right ct__law_right : Value}
    {od_law an_law : Option Addr} {sl_law : Array (Option Value)} {oc_law kV_law dc_law pm_law cd_law ct_law : Value}
    {od_Splits__init an_Splits__init : Option Addr} {sl_Splits__init : Array (Option Value)} {oc_Splits__init kV_Splits__init dc_Splits__init pm_Splits__init cd_Splits__init ct_Splits__init : Value}
    {od_Splits___let_of an_Splits___let_of : Option Addr} {sl_Splits___let_of : Array (Option Value)} {oc_Splits___let_of kV_Splits___let_of dc_Splits___let_of pm_Splits___let_of cd_Splits___let_of ct_Splits___let_of : Value}
    {od_Splits__let an_Splits__let : Option Addr} {sl_Splits__let : Array (Option Value)} {oc_Splits__let kV_Splits__let dc_Splits__let pm_Splits__let cd_Splits__let ct_Splits__let : Value}
    {od_Splits__offered an_Splits__offered : Option Addr} {sl_Splits__offered : Array (Option Value)} {oc_Splits__offered kV_Splits__offered dc_Splits__offered pm_Splits__offered cd_Splits__offered ct_Splits__offered : Value}
    {od_Rule__init an_Rule__init : Option Addr} {sl_Rule__init : Array (Option Value)} {oc_Rule__init dc_Rule__init pm_Rule__init cd_Rule__init ct_Rule__init : Value}
    {od_Rule__sizes an_Rule__sizes : Option Addr} {sl_Rule__sizes : Array (Option Value)} {oc_Rule__sizes kV_Rule__sizes dc_Rule__sizes pm_Rule__sizes cd_Rule__sizes ct_Rule__sizes : Value}
    {od_Rule__soft an_Rule__soft : Option Addr} {sl_Rule__soft : Array (Option Value)} {oc_Rule__soft kV_Rule__soft dc_Rule__soft pm_Rule__soft cd_Rule__soft ct_Rule__soft : Value}
    {od_Rule__where an_Rule__where : Option Addr} {sl_Rule__where : Array (Option Value)} {oc_Rule__where kV_Rule__where dc_Rule__where pm_Rule__where cd_Rule__where ct_Rule__where : Value}
    {od_Rule__offer an_Rule__offer : Option Addr} {sl_Rule__offer : Array (Option Value)} {oc_Rule__offer kV_Rule__offer dc_Rule__offer pm_Rule__offer cd_Rule__offer ct_Rule__offer : Value}
    {od_Rule__bad_at an_Rule__bad_at : Option Addr} {sl_Rule__bad_at : Array (Option Value)} {oc_Rule__bad_at kV_Rule__bad_at dc_Rule__bad_at pm_Rule__bad_at cd_Rule__bad_at ct_Rule__bad_at : Value}
    {od_Rule__with_bad an_Rule__with_bad : Option Addr} {sl_Rule__with_bad : Array (Option Value)} {oc_Rule__with_bad kV_Rule__with_bad dc_Rule__with_bad pm_Rule__with_bad cd_Rule__with_bad ct_Rule__with_bad : Value}
    {od_Rule__with_sizes an_Rule__with_sizes : Option Addr} {sl_Rule__with_sizes : Array (Option Value)} {oc_Rule__with_sizes kV_Rule__with_sizes dc_Rule__with_sizes pm_Rule__with_sizes cd_Rule__with_sizes ct_Rule__with_sizes : Value}
    {od_Rule__with_soft an_Rule__with_soft : Option Addr} {sl_Rule__with_soft : Array (Option Value)} {oc_Rule__with_soft kV_Rule__with_soft dc_Rule__with_soft pm_Rule__with_soft cd_Rule__with_soft ct_Rule__with_soft : Value}
    {od_Rule__with_where an_Rule__with_where : Option Addr} {sl_Rule__with_where : Array (Option Value)} {oc_Rule__with_where kV_Rule__with_where dc_Rule__with_where pm_Rule__with_where cd_Rule__with_where ct_Rule__with_where : Value}
    {od_Rule__with_offer an_Rule__with_offer : Option Addr} {sl_Rule__with_offer : Array (Option Value)} {oc_Rule__with_offer kV_Rule__with_offer dc_Rule__with_offer pm_Rule__with_offer cd_Rule__with_offer ct_Rule__with_offer : Value}
    {od_Rule__bare an_Rule__bare : Option Addr} {sl_Rule__bare : Array (Option Value)} {oc_Rule__bare kV_Rule__bare dc_Rule__bare pm_Rule__bare cd_Rule__bare ct_Rule__bare : Value}
    {odT_Rule__init : Option Addr}
    {nT_Rule__init : Nat}
    {slT_Rule__init : Array (Option Value)}
    {tk1_Rule__init : Tok}
    {tk2_Rule__init : Tok}
    {rest_Rule__sizes : List Value}
    {rest_Rule__soft : List Value}
    {rest_Rule__where : List Value}
    {rest_Rule__offer : List Value}
    {tk_GREATEST_SIZE : Tok}
    {tk_GREATEST_BAD : Tok}
    {tk_GREATEST_OFFER : Tok}
    {dd_ENDS : Option Addr}
    {n_ENDS : Nat}
    {sl_ENDS : Array (Option Value)}
    {t0_ENDS : Tok}
    {t1_ENDS : Tok}
    {t2_ENDS : Tok}
    {dd_PLACES : Option Addr}
    {n_PLACES : Nat}
    {sl_PLACES : Array (Option Value)}
    {t0_PLACES : Tok}
    {t1_PLACES : Tok}
    (a_Splits : PySem.W.nsIn K mainGlobals "Splits" = some (some (.ref c_Splits)))
    (cg_Splits : PySem.W.plainGet K c_Splits Str.empty = true)
    (ch_Splits : PySem.W.hasDictIn K c_Splits = true)
    (cp_Splits : PySem.W.plainOver K c_Splits = true)
    (cs_Splits : PySem.W.findIn K (.ref c_Splits) "__setattr__" = some (some (.builtin "object.__setattr__")))
    (cm_Splits : PySem.W.makesIn K c_Splits = true)
    (ck_Splits : PySem.W.keepIn K (.ref c_Splits) = true)
    (N_Splits__near : PySem.W.findIn K (.ref c_Splits) "_near" = some none)
    (N_Splits__far : PySem.W.findIn K (.ref c_Splits) "_far" = some none)
    (N_Splits__is_soft : PySem.W.findIn K (.ref c_Splits) "_is_soft" = some none)
    (N_Splits__is_beside : PySem.W.findIn K (.ref c_Splits) "_is_beside" = some none)
    (N_Splits__many : PySem.W.findIn K (.ref c_Splits) "_many" = some none)
    (a_Rule : PySem.W.nsIn K mainGlobals "Rule" = some (some (.ref c_Rule)))
    (cg_Rule : PySem.W.plainGet K c_Rule Str.empty = true)
    (ch_Rule : PySem.W.hasDictIn K c_Rule = true)
    (cp_Rule : PySem.W.plainOver K c_Rule = true)
    (cs_Rule : PySem.W.findIn K (.ref c_Rule) "__setattr__" = some (some (.builtin "object.__setattr__")))
    (cm_Rule : PySem.W.makesIn K c_Rule = true)
    (ck_Rule : PySem.W.keepIn K (.ref c_Rule) = true)
    (N_Rule__sizes : PySem.W.findIn K (.ref c_Rule) "_sizes" = some none)
    (N_Rule__bad : PySem.W.findIn K (.ref c_Rule) "_bad" = some none)
    (N_Rule__soft : PySem.W.findIn K (.ref c_Rule) "_soft" = some none)
    (N_Rule__where : PySem.W.findIn K (.ref c_Rule) "_where" = some none)
    (N_Rule__offer : PySem.W.findIn K (.ref c_Rule) "_offer" = some none)
    (a_is_integer : PySem.W.nsIn K mainGlobals "is_integer" = some (some (.ref f_is_integer)))
    (l_is_integer : K.lookup f_is_integer = some ⟨oc_is_integer, od_is_integer, .func (PySem.W.fnOf "is_integer" "is_integer" (defArgs s_is_integer) (defBody s_is_integer) (defScope s_is_integer) .none kV_is_integer dc_is_integer pm_is_integer an_is_integer cd_is_integer ct_is_integer), sl_is_integer⟩)
    (q_is_integer : PySem.W.codeIn K cd_is_integer "is_integer" = true)
    (k_is_integer : PySem.W.keepIn K (.ref f_is_integer) = true)
    (a_is_number : PySem.W.nsIn K mainGlobals "is_number" = some (some (.ref f_is_number)))
    (l_is_number : K.lookup f_is_number = some ⟨oc_is_number, od_is_number, .func (PySem.W.fnOf "is_number" "is_number" (defArgs s_is_number) (defBody s_is_number) (defScope s_is_number) .none kV_is_number dc_is_number pm_is_number an_is_number cd_is_number ct_is_number), sl_is_number⟩)
    (q_is_number : PySem.W.codeIn K cd_is_number "is_number" = true)
    (k_is_number : PySem.W.keepIn K (.ref f_is_number) = true)
    (a_is_end : PySem.W.nsIn K mainGlobals "is_end" = some (some (.ref f_is_end)))
    (l_is_end : K.lookup f_is_end = some ⟨oc_is_end, od_is_end, .func (PySem.W.fnOf "is_end" "is_end" (defArgs s_is_end) (defBody s_is_end) (defScope s_is_end) .none kV_is_end dc_is_end pm_is_end an_is_end cd_is_end ct_is_end), sl_is_end⟩)
    (q_is_end : PySem.W.codeIn K cd_is_end "is_end" = true)
    (k_is_end : PySem.W.keepIn K (.ref f_is_end) = true)
    (a_is_size : PySem.W.nsIn K mainGlobals "is_size" = some (some (.ref f_is_size)))
    (l_is_size : K.lookup f_is_size = some ⟨oc_is_size, od_is_size, .func (PySem.W.fnOf "is_size" "is_size" (defArgs s_is_size) (defBody s_is_size) (defScope s_is_size) .none kV_is_size dc_is_size pm_is_size an_is_size cd_is_size ct_is_size), sl_is_size⟩)
    (q_is_size : PySem.W.codeIn K cd_is_size "is_size" = true)
    (k_is_size : PySem.W.keepIn K (.ref f_is_size) = true)
    (a_are_sizes : PySem.W.nsIn K mainGlobals "are_sizes" = some (some (.ref f_are_sizes)))
    (l_are_sizes : K.lookup f_are_sizes = some ⟨oc_are_sizes, od_are_sizes, .func (PySem.W.fnOf "are_sizes" "are_sizes" (defArgs s_are_sizes) (defBody s_are_sizes) (defScope s_are_sizes) .none kV_are_sizes dc_are_sizes pm_are_sizes an_are_sizes cd_are_sizes ct_are_sizes), sl_are_sizes⟩)
    (q_are_sizes : PySem.W.codeIn K cd_are_sizes "are_sizes" = true)
    (k_are_sizes : PySem.W.keepIn K (.ref f_are_sizes) = true)
    (a_possible_befores : PySem.W.nsIn K mainGlobals "possible_befores" = some (some (.ref f_possible_befores)))
    (l_possible_befores : K.lookup f_possible_befores = some ⟨oc_possible_befores, od_possible_befores, .func (PySem.W.fnOf "possible_befores" "possible_befores" (defArgs s_possible_befores) (defBody s_possible_befores) (defScope s_possible_befores) .none kV_possible_befores dc_possible_befores pm_possible_befores an_possible_befores cd_possible_befores ct_possible_befores), sl_possible_befores⟩)
    (q_possible_befores : PySem.W.codeIn K cd_possible_befores "possible_befores" = true)
    (k_possible_befores : PySem.W.keepIn K (.ref f_possible_befores) = true)
    (a_has_size : PySem.W.nsIn K mainGlobals "has_size" = some (some (.ref f_has_size)))
    (l_has_size : K.lookup f_has_size = some ⟨oc_has_size, od_has_size, .func (PySem.W.fnOf "has_size" "has_size" (defArgs s_has_size) (defBody s_has_size) (defScope s_has_size) .none kV_has_size dc_has_size pm_has_size an_has_size cd_has_size ct_has_size), sl_has_size⟩)
    (q_has_size : PySem.W.codeIn K cd_has_size "has_size" = true)
    (k_has_size : PySem.W.keepIn K (.ref f_has_size) = true)
    (a_check_size : PySem.W.nsIn K mainGlobals "check_size" = some (some (.ref f_check_size)))
    (l_check_size : K.lookup f_check_size = some ⟨oc_check_size, od_check_size, .func (PySem.W.fnOf "check_size" "check_size" (defArgs s_check_size) (defBody s_check_size) (defScope s_check_size) .none kV_check_size dc_check_size pm_check_size an_check_size cd_check_size ct_check_size), sl_check_size⟩)
    (q_check_size : PySem.W.codeIn K cd_check_size "check_size" = true)
    (k_check_size : PySem.W.keepIn K (.ref f_check_size) = true)
    (a_possible : PySem.W.nsIn K mainGlobals "possible" = some (some (.ref f_possible)))
    (l_possible : K.lookup f_possible = some ⟨oc_possible, od_possible, .func (PySem.W.fnOf "possible" "possible" (defArgs s_possible) (defBody s_possible) (defScope s_possible) .none kV_possible dc_possible pm_possible an_possible cd_possible ct_possible), sl_possible⟩)
    (q_possible : PySem.W.codeIn K cd_possible "possible" = true)
    (k_possible : PySem.W.keepIn K (.ref f_possible) = true)
    (a_let : PySem.W.nsIn K mainGlobals "let" = some (some (.ref f_let)))
    (l_let : K.lookup f_let = some ⟨oc_let, od_let, .func (PySem.W.fnOf "let" "let" (defArgs s_let) (defBody s_let) (defScope s_let) .none kV_let dc_let pm_let an_let cd_let ct_let), sl_let⟩)
    (q_let : PySem.W.codeIn K cd_let "let" = true)
    (k_let : PySem.W.keepIn K (.ref f_let) = true)
    (a_offered : PySem.W.nsIn K mainGlobals "offered" = some (some (.ref f_offered)))
    (l_offered : K.lookup f_offered = some ⟨oc_offered, od_offered, .func (PySem.W.fnOf "offered" "offered" (defArgs s_offered) (defBody s_offered) (defScope s_offered) .none kV_offered dc_offered pm_offered an_offered cd_offered ct_offered), sl_offered⟩)
    (q_offered : PySem.W.codeIn K cd_offered "offered" = true)
    (k_offered : PySem.W.keepIn K (.ref f_offered) = true)
    (a_refuses : PySem.W.nsIn K mainGlobals "refuses" = some (some (.ref f_refuses)))
    (l_refuses : K.lookup f_refuses = some ⟨oc_refuses, od_refuses, .func (PySem.W.fnOf "refuses" "refuses" (defArgs s_refuses) (defBody s_refuses) (defScope s_refuses) .none kV_refuses dc_refuses pm_refuses an_refuses cd_refuses ct_refuses), sl_refuses⟩)
    (q_refuses : PySem.W.codeIn K cd_refuses "refuses" = true)
    (k_refuses : PySem.W.keepIn K (.ref f_refuses) = true)
    (a__ascending : PySem.W.nsIn K mainGlobals "_ascending" = some (some (.ref f__ascending)))
    (l__ascending : K.lookup f__ascending = some ⟨oc__ascending, od__ascending, .func (PySem.W.fnOf "_ascending" "_ascending" (defArgs s__ascending) (defBody s__ascending) (defScope s__ascending) .none kV__ascending dc__ascending pm__ascending an__ascending cd__ascending ct__ascending), sl__ascending⟩)
    (q__ascending : PySem.W.codeIn K cd__ascending "_ascending" = true)
    (k__ascending : PySem.W.keepIn K (.ref f__ascending) = true)
    (a__are_rule_sizes : PySem.W.nsIn K mainGlobals "_are_rule_sizes" = some (some (.ref f__are_rule_sizes)))
    (l__are_rule_sizes : K.lookup f__are_rule_sizes = some ⟨oc__are_rule_sizes, od__are_rule_sizes, .func (PySem.W.fnOf "_are_rule_sizes" "_are_rule_sizes" (defArgs s__are_rule_sizes) (defBody s__are_rule_sizes) (defScope s__are_rule_sizes) .none kV__are_rule_sizes dc__are_rule_sizes pm__are_rule_sizes an__are_rule_sizes cd__are_rule_sizes ct__are_rule_sizes), sl__are_rule_sizes⟩)
    (q__are_rule_sizes : PySem.W.codeIn K cd__are_rule_sizes "_are_rule_sizes" = true)
    (k__are_rule_sizes : PySem.W.keepIn K (.ref f__are_rule_sizes) = true)
    (a__are_bad_lengths : PySem.W.nsIn K mainGlobals "_are_bad_lengths" = some (some (.ref f__are_bad_lengths)))
    (l__are_bad_lengths : K.lookup f__are_bad_lengths = some ⟨oc__are_bad_lengths, od__are_bad_lengths, .func (PySem.W.fnOf "_are_bad_lengths" "_are_bad_lengths" (defArgs s__are_bad_lengths) (defBody s__are_bad_lengths) (defScope s__are_bad_lengths) .none kV__are_bad_lengths dc__are_bad_lengths pm__are_bad_lengths an__are_bad_lengths cd__are_bad_lengths ct__are_bad_lengths), sl__are_bad_lengths⟩)
    (q__are_bad_lengths : PySem.W.codeIn K cd__are_bad_lengths "_are_bad_lengths" = true)
    (k__are_bad_lengths : PySem.W.keepIn K (.ref f__are_bad_lengths) = true)
    (a__is_place : PySem.W.nsIn K mainGlobals "_is_place" = some (some (.ref f__is_place)))
    (l__is_place : K.lookup f__is_place = some ⟨oc__is_place, od__is_place, .func (PySem.W.fnOf "_is_place" "_is_place" (defArgs s__is_place) (defBody s__is_place) (defScope s__is_place) .none kV__is_place dc__is_place pm__is_place an__is_place cd__is_place ct__is_place), sl__is_place⟩)
    (q__is_place : PySem.W.codeIn K cd__is_place "_is_place" = true)
    (k__is_place : PySem.W.keepIn K (.ref f__is_place) = true)
    (a__is_offer : PySem.W.nsIn K mainGlobals "_is_offer" = some (some (.ref f__is_offer)))
    (l__is_offer : K.lookup f__is_offer = some ⟨oc__is_offer, od__is_offer, .func (PySem.W.fnOf "_is_offer" "_is_offer" (defArgs s__is_offer) (defBody s__is_offer) (defScope s__is_offer) .none kV__is_offer dc__is_offer pm__is_offer an__is_offer cd__is_offer ct__is_offer), sl__is_offer⟩)
    (q__is_offer : PySem.W.codeIn K cd__is_offer "_is_offer" = true)
    (k__is_offer : PySem.W.keepIn K (.ref f__is_offer) = true)
    (a__law_bag : PySem.W.nsIn K mainGlobals "_law_bag" = some (some (.ref f__law_bag)))
    (l__law_bag : K.lookup f__law_bag = some ⟨oc__law_bag, od__law_bag, .func (PySem.W.fnOf "_law_bag" "_law_bag" (defArgs s__law_bag) (defBody s__law_bag) (defScope s__law_bag) .none kV__law_bag dc__law_bag pm__law_bag an__law_bag cd__law_bag ct__law_bag), sl__law_bag⟩)
    (q__law_bag : PySem.W.codeIn K cd__law_bag "_law_bag" = true)
    (k__law_bag : PySem.W.keepIn K (.ref f__law_bag) = true)
    (a__law_take : PySem.W.nsIn K mainGlobals "_law_take" = some (some (.ref f__law_take)))
    (l__law_take : K.lookup f__law_take = some ⟨oc__law_take, od__law_take, .func (PySem.W.fnOf "_law_take" "_law_take" (defArgs s__law_take) (defBody s__law_take) (defScope s__law_take) .none kV__law_take dc__law_take pm__law_take an__law_take cd__law_take ct__law_take), sl__law_take⟩)
    (q__law_take : PySem.W.codeIn K cd__law_take "_law_take" = true)
    (k__law_take : PySem.W.keepIn K (.ref f__law_take) = true)
    (a__law_one : PySem.W.nsIn K mainGlobals "_law_one" = some (some (.ref f__law_one)))
    (l__law_one : K.lookup f__law_one = some ⟨oc__law_one, od__law_one, .func (PySem.W.fnOf "_law_one" "_law_one" (defArgs s__law_one) (defBody s__law_one) (defScope s__law_one) .none kV__law_one dc__law_one pm__law_one an__law_one cd__law_one ct__law_one), sl__law_one⟩)
    (q__law_one : PySem.W.codeIn K cd__law_one "_law_one" = true)
    (k__law_one : PySem.W.keepIn K (.ref f__law_one) = true)
    (a__law_ends : PySem.W.nsIn K mainGlobals "_law_ends" = some (some (.ref f__law_ends)))
    (l__law_ends : K.lookup f__law_ends = some ⟨oc__law_ends, od__law_ends, .func (PySem.W.fnOf "_law_ends" "_law_ends" (defArgs s__law_ends) (defBody s__law_ends) (defScope s__law_ends) .none kV__law_ends dc__law_ends pm__law_ends an__law_ends cd__law_ends ct__law_ends), sl__law_ends⟩)
    (q__law_ends : PySem.W.codeIn K cd__law_ends "_law_ends" = true)
    (k__law_ends : PySem.W.keepIn K (.ref f__law_ends) = true)
    (a__law_end : PySem.W.nsIn K mainGlobals "_law_end" = some (some (.ref f__law_end)))
    (l__law_end : K.lookup f__law_end = some ⟨oc__law_end, od__law_end, .func (PySem.W.fnOf "_law_end" "_law_end" (defArgs s__law_end) (defBody s__law_end) (defScope s__law_end) .none kV__law_end dc__law_end pm__law_end an__law_end cd__law_end ct__law_end), sl__law_end⟩)
    (q__law_end : PySem.W.codeIn K cd__law_end "_law_end" = true)
    (k__law_end : PySem.W.keepIn K (.ref f__law_end) = true)
    (a__law_lengths : PySem.W.nsIn K mainGlobals "_law_lengths" = some (some (.ref f__law_lengths)))
    (l__law_lengths : K.lookup f__law_lengths = some ⟨oc__law_lengths, od__law_lengths, .func (PySem.W.fnOf "_law_lengths" "_law_lengths" (defArgs s__law_lengths) (defBody s__law_lengths) (defScope s__law_lengths) .none kV__law_lengths dc__law_lengths pm__law_lengths an__law_lengths cd__law_lengths ct__law_lengths), sl__law_lengths⟩)
    (q__law_lengths : PySem.W.codeIn K cd__law_lengths "_law_lengths" = true)
    (k__law_lengths : PySem.W.keepIn K (.ref f__law_lengths) = true)
    (a__law_sizes : PySem.W.nsIn K mainGlobals "_law_sizes" = some (some (.ref f__law_sizes)))
    (l__law_sizes : K.lookup f__law_sizes = some ⟨oc__law_sizes, od__law_sizes, .func (PySem.W.fnOf "_law_sizes" "_law_sizes" (defArgs s__law_sizes) (defBody s__law_sizes) (defScope s__law_sizes) .none kV__law_sizes dc__law_sizes pm__law_sizes an__law_sizes cd__law_sizes ct__law_sizes), sl__law_sizes⟩)
    (q__law_sizes : PySem.W.codeIn K cd__law_sizes "_law_sizes" = true)
    (k__law_sizes : PySem.W.keepIn K (.ref f__law_sizes) = true)
    (a__law_rule : PySem.W.nsIn K mainGlobals "_law_rule" = some (some (.ref f__law_rule)))
    (l__law_rule : K.lookup f__law_rule = some ⟨oc__law_rule, od__law_rule, .func (PySem.W.fnOf "_law_rule" "_law_rule" (defArgs s__law_rule) (defBody s__law_rule) (defScope s__law_rule) .none kV__law_rule dc__law_rule pm__law_rule an__law_rule cd__law_rule ct__law_rule), sl__law_rule⟩)
    (q__law_rule : PySem.W.codeIn K cd__law_rule "_law_rule" = true)
    (k__law_rule : PySem.W.keepIn K (.ref f__law_rule) = true)
    (a__law_made : PySem.W.nsIn K mainGlobals "_law_made" = some (some (.ref f__law_made)))
    (l__law_made : K.lookup f__law_made = some ⟨oc__law_made, od__law_made, .func (PySem.W.fnOf "_law_made" "_law_made" (defArgs s__law_made) (defBody s__law_made) (defScope s__law_made) .none kV__law_made dc__law_made pm__law_made an__law_made cd__law_made ct__law_made), sl__law_made⟩)
    (q__law_made : PySem.W.codeIn K cd__law_made "_law_made" = true)
    (k__law_made : PySem.W.keepIn K (.ref f__law_made) = true)
    (a__law_stretch : PySem.W.nsIn K mainGlobals "_law_stretch" = some (some (.ref f__law_stretch)))
    (l__law_stretch : K.lookup f__law_stretch = some ⟨oc__law_stretch, od__law_stretch, .func (PySem.W.fnOf "_law_stretch" "_law_stretch" (defArgs s__law_stretch) (defBody s__law_stretch) (defScope s__law_stretch) .none kV__law_stretch dc__law_stretch pm__law_stretch an__law_stretch cd__law_stretch ct__law_stretch), sl__law_stretch⟩)
    (q__law_stretch : PySem.W.codeIn K cd__law_stretch "_law_stretch" = true)
    (k__law_stretch : PySem.W.keepIn K (.ref f__law_stretch) = true)
    (a__law_right : PySem.W.nsIn K mainGlobals "_law_right" = some (some (.ref f__law_right)))
    (l__law_right : K.lookup f__law_right = some ⟨oc__law_right, od__law_right, .func (PySem.W.fnOf "_law_right" "_law_right" (defArgs s__law_right) (defBody s__law_right) (defScope s__law_right) .none kV__law_right dc__law_right pm__law_right an__law_right cd__law_right ct__law_right), sl__law_right⟩)
    (q__law_right : PySem.W.codeIn K cd__law_right "_law_right" = true)
    (k__law_right : PySem.W.keepIn K (.ref f__law_right) = true)
    (a_law : PySem.W.nsIn K mainGlobals "law" = some (some (.ref f_law)))
    (l_law : K.lookup f_law = some ⟨oc_law, od_law, .func (PySem.W.fnOf "law" "law" (defArgs s_law) (defBody s_law) (defScope s_law) .none kV_law dc_law pm_law an_law cd_law ct_law), sl_law⟩)
    (q_law : PySem.W.codeIn K cd_law "law" = true)
    (k_law : PySem.W.keepIn K (.ref f_law) = true)
    (a_Splits__init : PySem.W.findIn K (.ref c_Splits) "__init__" = some (some (.ref f_Splits__init)))
    (n_Splits__init : PySem.W.isFn K (.ref f_Splits__init) = true)
    (l_Splits__init : K.lookup f_Splits__init = some ⟨oc_Splits__init, od_Splits__init, .func (PySem.W.fnOf "__init__" "Splits.__init__" (defArgs s_Splits__init) (defBody s_Splits__init) (defScope s_Splits__init) .none kV_Splits__init dc_Splits__init pm_Splits__init an_Splits__init cd_Splits__init ct_Splits__init), sl_Splits__init⟩)
    (q_Splits__init : PySem.W.codeIn K cd_Splits__init "Splits.__init__" = true)
    (k_Splits__init : PySem.W.keepIn K (.ref f_Splits__init) = true)
    (a_Splits___let_of : PySem.W.findIn K (.ref c_Splits) "_let_of" = some (some (.ref f_Splits___let_of)))
    (n_Splits___let_of : PySem.W.isFn K (.ref f_Splits___let_of) = true)
    (l_Splits___let_of : K.lookup f_Splits___let_of = some ⟨oc_Splits___let_of, od_Splits___let_of, .func (PySem.W.fnOf "_let_of" "Splits._let_of" (defArgs s_Splits___let_of) (defBody s_Splits___let_of) (defScope s_Splits___let_of) .none kV_Splits___let_of dc_Splits___let_of pm_Splits___let_of an_Splits___let_of cd_Splits___let_of ct_Splits___let_of), sl_Splits___let_of⟩)
    (q_Splits___let_of : PySem.W.codeIn K cd_Splits___let_of "Splits._let_of" = true)
    (k_Splits___let_of : PySem.W.keepIn K (.ref f_Splits___let_of) = true)
    (a_Splits__let : PySem.W.findIn K (.ref c_Splits) "let" = some (some (.ref f_Splits__let)))
    (n_Splits__let : PySem.W.isFn K (.ref f_Splits__let) = true)
    (l_Splits__let : K.lookup f_Splits__let = some ⟨oc_Splits__let, od_Splits__let, .func (PySem.W.fnOf "let" "Splits.let" (defArgs s_Splits__let) (defBody s_Splits__let) (defScope s_Splits__let) .none kV_Splits__let dc_Splits__let pm_Splits__let an_Splits__let cd_Splits__let ct_Splits__let), sl_Splits__let⟩)
    (q_Splits__let : PySem.W.codeIn K cd_Splits__let "Splits.let" = true)
    (k_Splits__let : PySem.W.keepIn K (.ref f_Splits__let) = true)
    (a_Splits__offered : PySem.W.findIn K (.ref c_Splits) "offered" = some (some (.ref f_Splits__offered)))
    (n_Splits__offered : PySem.W.isFn K (.ref f_Splits__offered) = true)
    (l_Splits__offered : K.lookup f_Splits__offered = some ⟨oc_Splits__offered, od_Splits__offered, .func (PySem.W.fnOf "offered" "Splits.offered" (defArgs s_Splits__offered) (defBody s_Splits__offered) (defScope s_Splits__offered) .none kV_Splits__offered dc_Splits__offered pm_Splits__offered an_Splits__offered cd_Splits__offered ct_Splits__offered), sl_Splits__offered⟩)
    (q_Splits__offered : PySem.W.codeIn K cd_Splits__offered "Splits.offered" = true)
    (k_Splits__offered : PySem.W.keepIn K (.ref f_Splits__offered) = true)
    (a_Rule__init : PySem.W.findIn K (.ref c_Rule) "__init__" = some (some (.ref f_Rule__init)))
    (n_Rule__init : PySem.W.isFn K (.ref f_Rule__init) = true)
    (l_Rule__init : K.lookup f_Rule__init = some ⟨oc_Rule__init, od_Rule__init, .func (PySem.W.fnOf "__init__" "Rule.__init__" (defArgs s_Rule__init) (defBody s_Rule__init) (defScope s_Rule__init) (.ref T_Rule__init) (.ref D_Rule__init) dc_Rule__init pm_Rule__init an_Rule__init cd_Rule__init ct_Rule__init), sl_Rule__init⟩)
    (q_Rule__init : PySem.W.codeIn K cd_Rule__init "Rule.__init__" = true)
    (k_Rule__init : PySem.W.keepIn K (.ref f_Rule__init) = true)
    (T_l_Rule__init : K.lookup T_Rule__init = some ⟨.type "tuple", odT_Rule__init, .seq #[.none] nT_Rule__init, slT_Rule__init⟩)
    (D0_Rule__init : PySem.W.nsIn K D_Rule__init "soft" = some (some (.bool false)))
    (D1_Rule__init : PySem.W.nsIn K D_Rule__init "where" = some (some (.str "any" tk1_Rule__init)))
    (D2_Rule__init : PySem.W.nsIn K D_Rule__init "offer" = some (some (.int 0 tk2_Rule__init)))
    (a_Rule__sizes : PySem.W.findIn K (.ref c_Rule) "sizes" = some (some (.ref p_Rule__sizes)))
    (pg_Rule__sizes : PySem.W.specialIn K (.ref p_Rule__sizes) "__get__" = some (some (.builtin "property.__get__")))
    (pt_Rule__sizes : PySem.W.takesIn K (.ref p_Rule__sizes) = some true)
    (pr_Rule__sizes : PySem.W.recIn K p_Rule__sizes "property" = some (.ref f_Rule__sizes :: rest_Rule__sizes))
    (l_Rule__sizes : K.lookup f_Rule__sizes = some ⟨oc_Rule__sizes, od_Rule__sizes, .func (PySem.W.fnOf "sizes" "Rule.sizes" (defArgs s_Rule__sizes) (defBody s_Rule__sizes) (defScope s_Rule__sizes) .none kV_Rule__sizes dc_Rule__sizes pm_Rule__sizes an_Rule__sizes cd_Rule__sizes ct_Rule__sizes), sl_Rule__sizes⟩)
    (q_Rule__sizes : PySem.W.codeIn K cd_Rule__sizes "Rule.sizes" = true)
    (k_Rule__sizes : PySem.W.keepIn K (.ref f_Rule__sizes) = true)
    (a_Rule__soft : PySem.W.findIn K (.ref c_Rule) "soft" = some (some (.ref p_Rule__soft)))
    (pg_Rule__soft : PySem.W.specialIn K (.ref p_Rule__soft) "__get__" = some (some (.builtin "property.__get__")))
    (pt_Rule__soft : PySem.W.takesIn K (.ref p_Rule__soft) = some true)
    (pr_Rule__soft : PySem.W.recIn K p_Rule__soft "property" = some (.ref f_Rule__soft :: rest_Rule__soft))
    (l_Rule__soft : K.lookup f_Rule__soft = some ⟨oc_Rule__soft, od_Rule__soft, .func (PySem.W.fnOf "soft" "Rule.soft" (defArgs s_Rule__soft) (defBody s_Rule__soft) (defScope s_Rule__soft) .none kV_Rule__soft dc_Rule__soft pm_Rule__soft an_Rule__soft cd_Rule__soft ct_Rule__soft), sl_Rule__soft⟩)
    (q_Rule__soft : PySem.W.codeIn K cd_Rule__soft "Rule.soft" = true)
    (k_Rule__soft : PySem.W.keepIn K (.ref f_Rule__soft) = true)
    (a_Rule__where : PySem.W.findIn K (.ref c_Rule) "where" = some (some (.ref p_Rule__where)))
    (pg_Rule__where : PySem.W.specialIn K (.ref p_Rule__where) "__get__" = some (some (.builtin "property.__get__")))
    (pt_Rule__where : PySem.W.takesIn K (.ref p_Rule__where) = some true)
    (pr_Rule__where : PySem.W.recIn K p_Rule__where "property" = some (.ref f_Rule__where :: rest_Rule__where))
    (l_Rule__where : K.lookup f_Rule__where = some ⟨oc_Rule__where, od_Rule__where, .func (PySem.W.fnOf "where" "Rule.where" (defArgs s_Rule__where) (defBody s_Rule__where) (defScope s_Rule__where) .none kV_Rule__where dc_Rule__where pm_Rule__where an_Rule__where cd_Rule__where ct_Rule__where), sl_Rule__where⟩)
    (q_Rule__where : PySem.W.codeIn K cd_Rule__where "Rule.where" = true)
    (k_Rule__where : PySem.W.keepIn K (.ref f_Rule__where) = true)
    (a_Rule__offer : PySem.W.findIn K (.ref c_Rule) "offer" = some (some (.ref p_Rule__offer)))
    (pg_Rule__offer : PySem.W.specialIn K (.ref p_Rule__offer) "__get__" = some (some (.builtin "property.__get__")))
    (pt_Rule__offer : PySem.W.takesIn K (.ref p_Rule__offer) = some true)
    (pr_Rule__offer : PySem.W.recIn K p_Rule__offer "property" = some (.ref f_Rule__offer :: rest_Rule__offer))
    (l_Rule__offer : K.lookup f_Rule__offer = some ⟨oc_Rule__offer, od_Rule__offer, .func (PySem.W.fnOf "offer" "Rule.offer" (defArgs s_Rule__offer) (defBody s_Rule__offer) (defScope s_Rule__offer) .none kV_Rule__offer dc_Rule__offer pm_Rule__offer an_Rule__offer cd_Rule__offer ct_Rule__offer), sl_Rule__offer⟩)
    (q_Rule__offer : PySem.W.codeIn K cd_Rule__offer "Rule.offer" = true)
    (k_Rule__offer : PySem.W.keepIn K (.ref f_Rule__offer) = true)
    (a_Rule__bad_at : PySem.W.findIn K (.ref c_Rule) "bad_at" = some (some (.ref f_Rule__bad_at)))
    (n_Rule__bad_at : PySem.W.isFn K (.ref f_Rule__bad_at) = true)
    (l_Rule__bad_at : K.lookup f_Rule__bad_at = some ⟨oc_Rule__bad_at, od_Rule__bad_at, .func (PySem.W.fnOf "bad_at" "Rule.bad_at" (defArgs s_Rule__bad_at) (defBody s_Rule__bad_at) (defScope s_Rule__bad_at) .none kV_Rule__bad_at dc_Rule__bad_at pm_Rule__bad_at an_Rule__bad_at cd_Rule__bad_at ct_Rule__bad_at), sl_Rule__bad_at⟩)
    (q_Rule__bad_at : PySem.W.codeIn K cd_Rule__bad_at "Rule.bad_at" = true)
    (k_Rule__bad_at : PySem.W.keepIn K (.ref f_Rule__bad_at) = true)
    (a_Rule__with_bad : PySem.W.findIn K (.ref c_Rule) "with_bad" = some (some (.ref f_Rule__with_bad)))
    (n_Rule__with_bad : PySem.W.isFn K (.ref f_Rule__with_bad) = true)
    (l_Rule__with_bad : K.lookup f_Rule__with_bad = some ⟨oc_Rule__with_bad, od_Rule__with_bad, .func (PySem.W.fnOf "with_bad" "Rule.with_bad" (defArgs s_Rule__with_bad) (defBody s_Rule__with_bad) (defScope s_Rule__with_bad) .none kV_Rule__with_bad dc_Rule__with_bad pm_Rule__with_bad an_Rule__with_bad cd_Rule__with_bad ct_Rule__with_bad), sl_Rule__with_bad⟩)
    (q_Rule__with_bad : PySem.W.codeIn K cd_Rule__with_bad "Rule.with_bad" = true)
    (k_Rule__with_bad : PySem.W.keepIn K (.ref f_Rule__with_bad) = true)
    (a_Rule__with_sizes : PySem.W.findIn K (.ref c_Rule) "with_sizes" = some (some (.ref f_Rule__with_sizes)))
    (n_Rule__with_sizes : PySem.W.isFn K (.ref f_Rule__with_sizes) = true)
    (l_Rule__with_sizes : K.lookup f_Rule__with_sizes = some ⟨oc_Rule__with_sizes, od_Rule__with_sizes, .func (PySem.W.fnOf "with_sizes" "Rule.with_sizes" (defArgs s_Rule__with_sizes) (defBody s_Rule__with_sizes) (defScope s_Rule__with_sizes) .none kV_Rule__with_sizes dc_Rule__with_sizes pm_Rule__with_sizes an_Rule__with_sizes cd_Rule__with_sizes ct_Rule__with_sizes), sl_Rule__with_sizes⟩)
    (q_Rule__with_sizes : PySem.W.codeIn K cd_Rule__with_sizes "Rule.with_sizes" = true)
    (k_Rule__with_sizes : PySem.W.keepIn K (.ref f_Rule__with_sizes) = true)
    (a_Rule__with_soft : PySem.W.findIn K (.ref c_Rule) "with_soft" = some (some (.ref f_Rule__with_soft)))
    (n_Rule__with_soft : PySem.W.isFn K (.ref f_Rule__with_soft) = true)
    (l_Rule__with_soft : K.lookup f_Rule__with_soft = some ⟨oc_Rule__with_soft, od_Rule__with_soft, .func (PySem.W.fnOf "with_soft" "Rule.with_soft" (defArgs s_Rule__with_soft) (defBody s_Rule__with_soft) (defScope s_Rule__with_soft) .none kV_Rule__with_soft dc_Rule__with_soft pm_Rule__with_soft an_Rule__with_soft cd_Rule__with_soft ct_Rule__with_soft), sl_Rule__with_soft⟩)
    (q_Rule__with_soft : PySem.W.codeIn K cd_Rule__with_soft "Rule.with_soft" = true)
    (k_Rule__with_soft : PySem.W.keepIn K (.ref f_Rule__with_soft) = true)
    (a_Rule__with_where : PySem.W.findIn K (.ref c_Rule) "with_where" = some (some (.ref f_Rule__with_where)))
    (n_Rule__with_where : PySem.W.isFn K (.ref f_Rule__with_where) = true)
    (l_Rule__with_where : K.lookup f_Rule__with_where = some ⟨oc_Rule__with_where, od_Rule__with_where, .func (PySem.W.fnOf "with_where" "Rule.with_where" (defArgs s_Rule__with_where) (defBody s_Rule__with_where) (defScope s_Rule__with_where) .none kV_Rule__with_where dc_Rule__with_where pm_Rule__with_where an_Rule__with_where cd_Rule__with_where ct_Rule__with_where), sl_Rule__with_where⟩)
    (q_Rule__with_where : PySem.W.codeIn K cd_Rule__with_where "Rule.with_where" = true)
    (k_Rule__with_where : PySem.W.keepIn K (.ref f_Rule__with_where) = true)
    (a_Rule__with_offer : PySem.W.findIn K (.ref c_Rule) "with_offer" = some (some (.ref f_Rule__with_offer)))
    (n_Rule__with_offer : PySem.W.isFn K (.ref f_Rule__with_offer) = true)
    (l_Rule__with_offer : K.lookup f_Rule__with_offer = some ⟨oc_Rule__with_offer, od_Rule__with_offer, .func (PySem.W.fnOf "with_offer" "Rule.with_offer" (defArgs s_Rule__with_offer) (defBody s_Rule__with_offer) (defScope s_Rule__with_offer) .none kV_Rule__with_offer dc_Rule__with_offer pm_Rule__with_offer an_Rule__with_offer cd_Rule__with_offer ct_Rule__with_offer), sl_Rule__with_offer⟩)
    (q_Rule__with_offer : PySem.W.codeIn K cd_Rule__with_offer "Rule.with_offer" = true)
    (k_Rule__with_offer : PySem.W.keepIn K (.ref f_Rule__with_offer) = true)
    (a_Rule__bare : PySem.W.findIn K (.ref c_Rule) "bare" = some (some (.ref f_Rule__bare)))
    (n_Rule__bare : PySem.W.isFn K (.ref f_Rule__bare) = true)
    (l_Rule__bare : K.lookup f_Rule__bare = some ⟨oc_Rule__bare, od_Rule__bare, .func (PySem.W.fnOf "bare" "Rule.bare" (defArgs s_Rule__bare) (defBody s_Rule__bare) (defScope s_Rule__bare) .none kV_Rule__bare dc_Rule__bare pm_Rule__bare an_Rule__bare cd_Rule__bare ct_Rule__bare), sl_Rule__bare⟩)
    (q_Rule__bare : PySem.W.codeIn K cd_Rule__bare "Rule.bare" = true)
    (k_Rule__bare : PySem.W.keepIn K (.ref f_Rule__bare) = true)
    (b_isinstance : PySem.W.nsIn K mainGlobals "isinstance" = some none)
    (b_int : PySem.W.nsIn K mainGlobals "int" = some none)
    (b_bool : PySem.W.nsIn K mainGlobals "bool" = some none)
    (b_str : PySem.W.nsIn K mainGlobals "str" = some none)
    (b_all : PySem.W.nsIn K mainGlobals "all" = some none)
    (b_list : PySem.W.nsIn K mainGlobals "list" = some none)
    (b_tuple : PySem.W.nsIn K mainGlobals "tuple" = some none)
    (b_range : PySem.W.nsIn K mainGlobals "range" = some none)
    (b_sorted : PySem.W.nsIn K mainGlobals "sorted" = some none)
    (b_set : PySem.W.nsIn K mainGlobals "set" = some none)
    (b_len : PySem.W.nsIn K mainGlobals "len" = some none)
    (b_dict : PySem.W.nsIn K mainGlobals "dict" = some none)
    (b_abs : PySem.W.nsIn K mainGlobals "abs" = some none)
    (b_min : PySem.W.nsIn K mainGlobals "min" = some none)
    (b_property : PySem.W.nsIn K mainGlobals "property" = some none)
    (i_GREATEST_SIZE : PySem.W.nsIn K mainGlobals "GREATEST_SIZE" = some (some (.int 5 tk_GREATEST_SIZE)))
    (i_GREATEST_BAD : PySem.W.nsIn K mainGlobals "GREATEST_BAD" = some (some (.int 5 tk_GREATEST_BAD)))
    (i_GREATEST_OFFER : PySem.W.nsIn K mainGlobals "GREATEST_OFFER" = some (some (.int 5 tk_GREATEST_OFFER)))
    (i_ENDS : PySem.W.nsIn K mainGlobals "ENDS" = some (some (.ref a_ENDS)))
    (j_ENDS : K.lookup a_ENDS = some ⟨.type "tuple", dd_ENDS, .seq #[.str "pillar" t0_ENDS, .str "sold" t1_ENDS, .str "wall" t2_ENDS] n_ENDS, sl_ENDS⟩)
    (i_PLACES : PySem.W.nsIn K mainGlobals "PLACES" = some (some (.ref a_PLACES)))
    (j_PLACES : K.lookup a_PLACES = some ⟨.type "tuple", dd_PLACES, .seq #[.str "any" t0_PLACES, .str "side" t1_PLACES] n_PLACES, sl_PLACES⟩)
    (hm : lawMeans) : ∃ fd : FuncData, (∀ (s : Shared) (v : Value), BindsTo s fd ⟨[v], []⟩ [("_law_script", v)]) ∧ ∀ base : Heap, K.In base → base.Ns mainGlobals mg → FnG l.prog w K mg base 9 fa fd ["_law_script"] (spLaw K) := by
  have e := hfa.symm.trans (PySem.W.mg_of X N a_law)
  cases e
  let cl : Str → Option Addr := fun n => if n = "Splits" then some c_Splits else if n = "Rule" then some c_Rule else none
  have B : Bn mg := ⟨PySem.W.mg_none_of X N b_isinstance, PySem.W.mg_none_of X N b_int, PySem.W.mg_none_of X N b_bool, PySem.W.mg_none_of X N b_str, PySem.W.mg_none_of X N b_all, PySem.W.mg_none_of X N b_list, PySem.W.mg_none_of X N b_tuple, PySem.W.mg_none_of X N b_range, PySem.W.mg_none_of X N b_sorted, PySem.W.mg_none_of X N b_set, PySem.W.mg_none_of X N b_len, PySem.W.mg_none_of X N b_dict, PySem.W.mg_none_of X N b_abs, PySem.W.mg_none_of X N b_min, PySem.W.mg_none_of X N b_property⟩
  have C : Cn K mg a_ENDS a_PLACES := ⟨⟨_, PySem.W.mg_of X N i_GREATEST_SIZE, ⟨_, rfl⟩⟩, ⟨_, PySem.W.mg_of X N i_GREATEST_BAD, ⟨_, rfl⟩⟩, ⟨_, PySem.W.mg_of X N i_GREATEST_OFFER, ⟨_, rfl⟩⟩, ⟨_, PySem.W.mg_of X N i_ENDS, rfl⟩, Or.inr ⟨_, _, _, j_ENDS, rfl, rfl, (by show 3 ≤ sizeLine; decide), .cons ⟨_, rfl⟩ (.cons ⟨_, rfl⟩ (.cons ⟨_, rfl⟩ (.nil)))⟩, ⟨_, PySem.W.mg_of X N i_PLACES, rfl⟩, Or.inr ⟨_, _, _, j_PLACES, rfl, rfl, (by show 2 ≤ sizeLine; decide), .cons ⟨_, rfl⟩ (.cons ⟨_, rfl⟩ (.nil))⟩⟩
  have KC_Splits : Kc K mg cl "Splits" c_Splits := ⟨PySem.W.mg_of X N a_Splits, if_pos rfl, ⟨cg_Splits, ch_Splits, cp_Splits, cs_Splits⟩⟩
  have KC_Rule : Kc K mg cl "Rule" c_Rule := ⟨PySem.W.mg_of X N a_Rule, (if_neg (by decide +kernel)).trans (if_pos rfl), ⟨cg_Rule, ch_Rule, cp_Rule, cs_Rule⟩⟩
  have F_is_integer := fun_mk (st := s_is_integer) l_is_integer q_is_integer k_is_integer
  have D_is_integer : Df K mg "is_integer" s_is_integer ["thing"] _ _ := ⟨F_is_integer, F_is_integer.binds (ps := ["thing"]) fun _ _ _ _ _ _ us hl => match us, hl with | [_], _ => rfl, PySem.W.mg_of X N a_is_integer, k_is_integer⟩
  have F_is_number := fun_mk (st := s_is_number) l_is_number q_is_number k_is_number
  have D_is_number : Df K mg "is_number" s_is_number ["thing"] _ _ := ⟨F_is_number, F_is_number.binds (ps := ["thing"]) fun _ _ _ _ _ _ us hl => match us, hl with | [_], _ => rfl, PySem.W.mg_of X N a_is_number, k_is_number⟩
  have F_is_end := fun_mk (st := s_is_end) l_is_end q_is_end k_is_end
  have D_is_end : Df K mg "is_end" s_is_end ["thing"] _ _ := ⟨F_is_end, F_is_end.binds (ps := ["thing"]) fun _ _ _ _ _ _ us hl => match us, hl with | [_], _ => rfl, PySem.W.mg_of X N a_is_end, k_is_end⟩
  have F_is_size := fun_mk (st := s_is_size) l_is_size q_is_size k_is_size
  have D_is_size : Df K mg "is_size" s_is_size ["thing"] _ _ := ⟨F_is_size, F_is_size.binds (ps := ["thing"]) fun _ _ _ _ _ _ us hl => match us, hl with | [_], _ => rfl, PySem.W.mg_of X N a_is_size, k_is_size⟩
  have F_are_sizes := fun_mk (st := s_are_sizes) l_are_sizes q_are_sizes k_are_sizes
  have D_are_sizes : Df K mg "are_sizes" s_are_sizes ["thing"] _ _ := ⟨F_are_sizes, F_are_sizes.binds (ps := ["thing"]) fun _ _ _ _ _ _ us hl => match us, hl with | [_], _ => rfl, PySem.W.mg_of X N a_are_sizes, k_are_sizes⟩
  have F_possible_befores := fun_mk (st := s_possible_befores) l_possible_befores q_possible_befores k_possible_befores
  have D_possible_befores : Df K mg "possible_befores" s_possible_befores ["is_beside", "rest"] _ _ := ⟨F_possible_befores, F_possible_befores.binds (ps := ["is_beside", "rest"]) fun _ _ _ _ _ _ us hl => match us, hl with | [_, _], _ => rfl, PySem.W.mg_of X N a_possible_befores, k_possible_befores⟩
  have F_has_size := fun_mk (st := s_has_size) l_has_size q_has_size k_has_size
  have D_has_size : Df K mg "has_size" s_has_size ["rule", "thing"] _ _ := ⟨F_has_size, F_has_size.binds (ps := ["rule", "thing"]) fun _ _ _ _ _ _ us hl => match us, hl with | [_, _], _ => rfl, PySem.W.mg_of X N a_has_size, k_has_size⟩
  have F_check_size := fun_mk (st := s_check_size) l_check_size q_check_size k_check_size
  have D_check_size : Df K mg "check_size" s_check_size ["rule", "size"] _ _ := ⟨F_check_size, F_check_size.binds (ps := ["rule", "size"]) fun _ _ _ _ _ _ us hl => match us, hl with | [_, _], _ => rfl, PySem.W.mg_of X N a_check_size, k_check_size⟩
  have F_possible := fun_mk (st := s_possible) l_possible q_possible k_possible
  have D_possible : Df K mg "possible" s_possible ["rule", "stretch", "size"] _ _ := ⟨F_possible, F_possible.binds (ps := ["rule", "stretch", "size"]) fun _ _ _ _ _ _ us hl => match us, hl with | [_, _, _], _ => rfl, PySem.W.mg_of X N a_possible, k_possible⟩
  have F_let := fun_mk (st := s_let) l_let q_let k_let
  have D_let : Df K mg "let" s_let ["rule", "stretch", "size"] _ _ := ⟨F_let, F_let.binds (ps := ["rule", "stretch", "size"]) fun _ _ _ _ _ _ us hl => match us, hl with | [_, _, _], _ => rfl, PySem.W.mg_of X N a_let, k_let⟩
  have F_offered := fun_mk (st := s_offered) l_offered q_offered k_offered
  have D_offered : Df K mg "offered" s_offered ["rule", "stretch", "size"] _ _ := ⟨F_offered, F_offered.binds (ps := ["rule", "stretch", "size"]) fun _ _ _ _ _ _ us hl => match us, hl with | [_, _, _], _ => rfl, PySem.W.mg_of X N a_offered, k_offered⟩
  have F_refuses := fun_mk (st := s_refuses) l_refuses q_refuses k_refuses
  have D_refuses : Df K mg "refuses" s_refuses ["rule", "stretch", "size"] _ _ := ⟨F_refuses, F_refuses.binds (ps := ["rule", "stretch", "size"]) fun _ _ _ _ _ _ us hl => match us, hl with | [_, _, _], _ => rfl, PySem.W.mg_of X N a_refuses, k_refuses⟩
  have F__ascending := fun_mk (st := s__ascending) l__ascending q__ascending k__ascending
  have D__ascending : Df K mg "_ascending" s__ascending ["numbers"] _ _ := ⟨F__ascending, F__ascending.binds (ps := ["numbers"]) fun _ _ _ _ _ _ us hl => match us, hl with | [_], _ => rfl, PySem.W.mg_of X N a__ascending, k__ascending⟩
  have F__are_rule_sizes := fun_mk (st := s__are_rule_sizes) l__are_rule_sizes q__are_rule_sizes k__are_rule_sizes
  have D__are_rule_sizes : Df K mg "_are_rule_sizes" s__are_rule_sizes ["thing"] _ _ := ⟨F__are_rule_sizes, F__are_rule_sizes.binds (ps := ["thing"]) fun _ _ _ _ _ _ us hl => match us, hl with | [_], _ => rfl, PySem.W.mg_of X N a__are_rule_sizes, k__are_rule_sizes⟩
  have F__are_bad_lengths := fun_mk (st := s__are_bad_lengths) l__are_bad_lengths q__are_bad_lengths k__are_bad_lengths
  have D__are_bad_lengths : Df K mg "_are_bad_lengths" s__are_bad_lengths ["thing"] _ _ := ⟨F__are_bad_lengths, F__are_bad_lengths.binds (ps := ["thing"]) fun _ _ _ _ _ _ us hl => match us, hl with | [_], _ => rfl, PySem.W.mg_of X N a__are_bad_lengths, k__are_bad_lengths⟩
  have F__is_place := fun_mk (st := s__is_place) l__is_place q__is_place k__is_place
  have D__is_place : Df K mg "_is_place" s__is_place ["thing"] _ _ := ⟨F__is_place, F__is_place.binds (ps := ["thing"]) fun _ _ _ _ _ _ us hl => match us, hl with | [_], _ => rfl, PySem.W.mg_of X N a__is_place, k__is_place⟩
  have F__is_offer := fun_mk (st := s__is_offer) l__is_offer q__is_offer k__is_offer
  have D__is_offer : Df K mg "_is_offer" s__is_offer ["thing"] _ _ := ⟨F__is_offer, F__is_offer.binds (ps := ["thing"]) fun _ _ _ _ _ _ us hl => match us, hl with | [_], _ => rfl, PySem.W.mg_of X N a__is_offer, k__is_offer⟩
  have F__law_bag := fun_mk (st := s__law_bag) l__law_bag q__law_bag k__law_bag
  have D__law_bag : Df K mg "_law_bag" s__law_bag ["_law_script"] _ _ := ⟨F__law_bag, F__law_bag.binds (ps := ["_law_script"]) fun _ _ _ _ _ _ us hl => match us, hl with | [_], _ => rfl, PySem.W.mg_of X N a__law_bag, k__law_bag⟩
  have F__law_take := fun_mk (st := s__law_take) l__law_take q__law_take k__law_take
  have D__law_take : Df K mg "_law_take" s__law_take ["_law_bag_here", "_law_many"] _ _ := ⟨F__law_take, F__law_take.binds (ps := ["_law_bag_here", "_law_many"]) fun _ _ _ _ _ _ us hl => match us, hl with | [_, _], _ => rfl, PySem.W.mg_of X N a__law_take, k__law_take⟩
  have F__law_one := fun_mk (st := s__law_one) l__law_one q__law_one k__law_one
  have D__law_one : Df K mg "_law_one" s__law_one ["_law_bag_here", "_law_things"] _ _ := ⟨F__law_one, F__law_one.binds (ps := ["_law_bag_here", "_law_things"]) fun _ _ _ _ _ _ us hl => match us, hl with | [_, _], _ => rfl, PySem.W.mg_of X N a__law_one, k__law_one⟩
  have F__law_ends := fun_mk (st := s__law_ends) l__law_ends q__law_ends k__law_ends
  have D__law_ends : Df K mg "_law_ends" s__law_ends [] _ _ := ⟨F__law_ends, F__law_ends.binds (ps := []) fun _ _ _ _ _ _ us hl => match us, hl with | [], _ => rfl, PySem.W.mg_of X N a__law_ends, k__law_ends⟩
  have F__law_end := fun_mk (st := s__law_end) l__law_end q__law_end k__law_end
  have D__law_end : Df K mg "_law_end" s__law_end ["_law_bag_here"] _ _ := ⟨F__law_end, F__law_end.binds (ps := ["_law_bag_here"]) fun _ _ _ _ _ _ us hl => match us, hl with | [_], _ => rfl, PySem.W.mg_of X N a__law_end, k__law_end⟩
  have F__law_lengths := fun_mk (st := s__law_lengths) l__law_lengths q__law_lengths k__law_lengths
  have D__law_lengths : Df K mg "_law_lengths" s__law_lengths ["_law_bag_here"] _ _ := ⟨F__law_lengths, F__law_lengths.binds (ps := ["_law_bag_here"]) fun _ _ _ _ _ _ us hl => match us, hl with | [_], _ => rfl, PySem.W.mg_of X N a__law_lengths, k__law_lengths⟩
  have F__law_sizes := fun_mk (st := s__law_sizes) l__law_sizes q__law_sizes k__law_sizes
  have D__law_sizes : Df K mg "_law_sizes" s__law_sizes ["_law_bag_here"] _ _ := ⟨F__law_sizes, F__law_sizes.binds (ps := ["_law_bag_here"]) fun _ _ _ _ _ _ us hl => match us, hl with | [_], _ => rfl, PySem.W.mg_of X N a__law_sizes, k__law_sizes⟩
  have F__law_rule := fun_mk (st := s__law_rule) l__law_rule q__law_rule k__law_rule
  have D__law_rule : Df K mg "_law_rule" s__law_rule ["_law_bag_here"] _ _ := ⟨F__law_rule, F__law_rule.binds (ps := ["_law_bag_here"]) fun _ _ _ _ _ _ us hl => match us, hl with | [_], _ => rfl, PySem.W.mg_of X N a__law_rule, k__law_rule⟩
  have F__law_made := fun_mk (st := s__law_made) l__law_made q__law_made k__law_made
  have D__law_made : Df K mg "_law_made" s__law_made ["_law_told"] _ _ := ⟨F__law_made, F__law_made.binds (ps := ["_law_told"]) fun _ _ _ _ _ _ us hl => match us, hl with | [_], _ => rfl, PySem.W.mg_of X N a__law_made, k__law_made⟩
  have F__law_stretch := fun_mk (st := s__law_stretch) l__law_stretch q__law_stretch k__law_stretch
  have D__law_stretch : Df K mg "_law_stretch" s__law_stretch ["_law_bag_here", "_law_upto"] _ _ := ⟨F__law_stretch, F__law_stretch.binds (ps := ["_law_bag_here", "_law_upto"]) fun _ _ _ _ _ _ us hl => match us, hl with | [_, _], _ => rfl, PySem.W.mg_of X N a__law_stretch, k__law_stretch⟩
  have F__law_right := fun_mk (st := s__law_right) l__law_right q__law_right k__law_right
  have D__law_right : Df K mg "_law_right" s__law_right ["_law_bag_here", "_law_rule_here", "_law_stretch_here", "_law_size"] _ _ := ⟨F__law_right, F__law_right.binds (ps := ["_law_bag_here", "_law_rule_here", "_law_stretch_here", "_law_size"]) fun _ _ _ _ _ _ us hl => match us, hl with | [_, _, _, _], _ => rfl, PySem.W.mg_of X N a__law_right, k__law_right⟩
  have F_law := fun_mk (st := s_law) l_law q_law k_law
  have D_law : Df K mg "law" s_law ["_law_script"] _ _ := ⟨F_law, F_law.binds (ps := ["_law_script"]) fun _ _ _ _ _ _ us hl => match us, hl with | [_], _ => rfl, PySem.W.mg_of X N a_law, k_law⟩
  refine ⟨PySem.W.fnOf "law" "law" (defArgs s_law) (defBody s_law) (defScope s_law) .none kV_law dc_law pm_law an_law cd_law ct_law, fun s v => .of_eq rfl, fun base _ _ => ?_⟩
  have G__law_bag := ok__law_bag (P := l.prog) (w := w) (mg := mg) (base := base) F__law_bag B
  have G__ascending := ok__ascending (P := l.prog) (w := w) (mg := mg) (base := base) (cl := cl) F__ascending B
  have G_is_integer := ok_is_integer (P := l.prog) (w := w) (mg := mg) (base := base) (cl := cl) F_is_integer B
  have G_is_size := ok_is_size (P := l.prog) (w := w) (mg := mg) (base := base) (cl := cl) F_is_size D_is_integer G_is_integer C
  have G_are_sizes := ok_are_sizes (P := l.prog) (w := w) (mg := mg) (base := base) (cl := cl) F_are_sizes D_is_size G_is_size B
  have G__are_rule_sizes := ok__are_rule_sizes (P := l.prog) (w := w) (mg := mg) (base := base) (cl := cl) F__are_rule_sizes D_are_sizes G_are_sizes B
  have G_is_end := ok_is_end (P := l.prog) (w := w) (mg := mg) (base := base) (cl := cl) F_is_end B C
  have G__are_bad_lengths := ok__are_bad_lengths (P := l.prog) (w := w) (mg := mg) (base := base) (cl := cl) F__are_bad_lengths D_is_end G_is_end D_are_sizes G_are_sizes B
  have G__is_place := ok__is_place (P := l.prog) (w := w) (mg := mg) (base := base) (cl := cl) F__is_place B C
  have G_is_number := ok_is_number (P := l.prog) (w := w) (mg := mg) (base := base) (cl := cl) F_is_number D_is_integer G_is_integer
  have G__is_offer := ok__is_offer (P := l.prog) (w := w) (mg := mg) (base := base) (cl := cl) F__is_offer D_is_number G_is_number C
  have FD_Rule__init : FunD K "__init__" "Rule.__init__" (defArgs s_Rule__init) (defBody s_Rule__init) (defScope s_Rule__init) [.non] [("soft", .bl false), ("where", .str "any"), ("offer", .int 0)] f_Rule__init _ := ⟨⟨_, _, _, _, _, _, _, _, _, _, rfl, l_Rule__init, q_Rule__init, Or.inr ⟨by simp, T_Rule__init, _, [.none], _, rfl, T_l_Rule__init, rfl, .cons rfl .nil⟩, Or.inr ⟨D_Rule__init, rfl, kwd_Rule__init D0_Rule__init D1_Rule__init D2_Rule__init⟩⟩, k_Rule__init⟩
  have FA_Rule__init := funA_of FD_Rule__init
  have KB_Rule__init : KBn K _ ["self", "sizes", "bad", "soft", "where", "offer"] 3 ["soft", "where", "offer"] (fun us ws => us ++ ws) (fun vs zs => vs ++ zs) := kb_Rule__init FD_Rule__init
  have G_Rule__init := ok_Rule__init (P := l.prog) (w := w) (mg := mg) (base := base) (cl := cl) FA_Rule__init D__ascending G__ascending D__are_rule_sizes G__are_rule_sizes D__are_bad_lengths G__are_bad_lengths D__is_place G__is_place D__is_offer G__is_offer KC_Rule N_Rule__sizes N_Rule__bad N_Rule__soft N_Rule__where N_Rule__offer B C hm_Rule
  have J_Rule : Jc l.prog w K mg base cl 5 "Rule" c_Rule ["self", "sizes", "bad", "soft", "where", "offer"] 2 ["soft", "where", "offer"] F_Rule := ⟨_, _, ⟨cm_Rule, a_Rule__init, n_Rule__init, ck_Rule⟩, G_Rule__init, KB_Rule__init⟩
  have JD_Rule : JcD l.prog w K mg base cl 5 "Rule" c_Rule ["self", "sizes", "bad", "soft", "where", "offer"] 1 ["soft", "where", "offer"] 5 (fun vs zs => vs ++ [V.non] ++ zs) F_Rule := ⟨_, _, _, ⟨cm_Rule, a_Rule__init, n_Rule__init, ck_Rule⟩, G_Rule__init, (kb1_Rule__init FD_Rule__init).choose_spec⟩
  have G__law_made := ok__law_made (P := l.prog) (w := w) (mg := mg) (base := base) (cl := cl) F__law_made KC_Rule J_Rule
  have G__law_take := ok__law_take (P := l.prog) (w := w) (mg := mg) (base := base) (cl := cl) F__law_take B
  have G__law_one := ok__law_one (P := l.prog) (w := w) (mg := mg) (base := base) (cl := cl) F__law_one D__law_take G__law_take B
  have G__law_ends := ok__law_ends (P := l.prog) (w := w) (mg := mg) (base := base) (cl := cl) F__law_ends
  have G__law_end := ok__law_end (P := l.prog) (w := w) (mg := mg) (base := base) (cl := cl) F__law_end D__law_one G__law_one D__law_ends G__law_ends
  have G__law_stretch := ok__law_stretch (P := l.prog) (w := w) (mg := mg) (base := base) (cl := cl) F__law_stretch D__law_end G__law_end D__law_take G__law_take
  have G__law_sizes := ok__law_sizes (P := l.prog) (w := w) (mg := mg) (base := base) (cl := cl) F__law_sizes D__law_take G__law_take B
  have G__law_lengths := ok__law_lengths (P := l.prog) (w := w) (mg := mg) (base := base) (cl := cl) F__law_lengths D__law_take G__law_take B
  have G__law_rule := ok__law_rule (P := l.prog) (w := w) (mg := mg) (base := base) (cl := cl) F__law_rule D__law_sizes G__law_sizes D__law_take G__law_take D__law_lengths G__law_lengths D__law_ends G__law_ends B
  have F_Rule__sizes := fun_mk (st := s_Rule__sizes) l_Rule__sizes q_Rule__sizes k_Rule__sizes
  have G_Rule__sizes := ok_Rule__sizes (P := l.prog) (w := w) (mg := mg) (base := base) (cl := cl) F_Rule__sizes KC_Rule N_Rule__sizes B
  have P_Rule__sizes : Pc l.prog w K mg base cl 1 c_Rule "sizes" m_Rule__sizes := ⟨_, _, _, ⟨a_Rule__sizes, pg_Rule__sizes, pt_Rule__sizes, ⟨_, pr_Rule__sizes⟩⟩, G_Rule__sizes, F_Rule__sizes.binds (ps := ["self"]) fun _ _ _ _ _ _ us hl => match us, hl with | [_], _ => rfl⟩
  have G_has_size := ok_has_size (P := l.prog) (w := w) (mg := mg) (base := base) (cl := cl) F_has_size D_is_size G_is_size KC_Rule P_Rule__sizes
  have G_check_size := ok_check_size (P := l.prog) (w := w) (mg := mg) (base := base) (cl := cl) F_check_size D_has_size G_has_size
  have G_possible_befores := ok_possible_befores (P := l.prog) (w := w) (mg := mg) (base := base) (cl := cl) F_possible_befores B
  have F_Splits___let_of := fun_mk (st := s_Splits___let_of) l_Splits___let_of q_Splits___let_of k_Splits___let_of
  have G_Splits___let_of := ok_Splits___let_of (P := l.prog) (w := w) (mg := mg) (base := base) (cl := cl) F_Splits___let_of KC_Splits N_Splits__near N_Splits__far N_Splits__is_soft
  have M_Splits___let_of : Mc l.prog w K mg base cl 1 c_Splits "_let_of" ["self", "rest", "found"] m_Splits___let_of := ⟨_, _, ⟨a_Splits___let_of, n_Splits___let_of, k_Splits___let_of⟩, G_Splits___let_of, F_Splits___let_of.binds (ps := ["self", "rest", "found"]) fun _ _ _ _ _ _ us hl => match us, hl with | [_, _, _], _ => rfl⟩
  have F_Splits__let := fun_mk (st := s_Splits__let) l_Splits__let q_Splits__let k_Splits__let
  have G_Splits__let := ok_Splits__let (P := l.prog) (w := w) (mg := mg) (base := base) (cl := cl) F_Splits__let D_possible_befores G_possible_befores KC_Splits N_Splits__is_beside M_Splits___let_of
  have M_Splits__let : Mc l.prog w K mg base cl 2 c_Splits "let" ["self", "rest"] m_Splits__let := ⟨_, _, ⟨a_Splits__let, n_Splits__let, k_Splits__let⟩, G_Splits__let, F_Splits__let.binds (ps := ["self", "rest"]) fun _ _ _ _ _ _ us hl => match us, hl with | [_, _], _ => rfl⟩
  have F_Rule__soft := fun_mk (st := s_Rule__soft) l_Rule__soft q_Rule__soft k_Rule__soft
  have G_Rule__soft := ok_Rule__soft (P := l.prog) (w := w) (mg := mg) (base := base) (cl := cl) F_Rule__soft KC_Rule N_Rule__soft B
  have P_Rule__soft : Pc l.prog w K mg base cl 1 c_Rule "soft" m_Rule__soft := ⟨_, _, _, ⟨a_Rule__soft, pg_Rule__soft, pt_Rule__soft, ⟨_, pr_Rule__soft⟩⟩, G_Rule__soft, F_Rule__soft.binds (ps := ["self"]) fun _ _ _ _ _ _ us hl => match us, hl with | [_], _ => rfl⟩
  have F_Rule__offer := fun_mk (st := s_Rule__offer) l_Rule__offer q_Rule__offer k_Rule__offer
  have G_Rule__offer := ok_Rule__offer (P := l.prog) (w := w) (mg := mg) (base := base) (cl := cl) F_Rule__offer KC_Rule N_Rule__offer B
  have P_Rule__offer : Pc l.prog w K mg base cl 1 c_Rule "offer" m_Rule__offer := ⟨_, _, _, ⟨a_Rule__offer, pg_Rule__offer, pt_Rule__offer, ⟨_, pr_Rule__offer⟩⟩, G_Rule__offer, F_Rule__offer.binds (ps := ["self"]) fun _ _ _ _ _ _ us hl => match us, hl with | [_], _ => rfl⟩
  have F_Rule__where := fun_mk (st := s_Rule__where) l_Rule__where q_Rule__where k_Rule__where
  have G_Rule__where := ok_Rule__where (P := l.prog) (w := w) (mg := mg) (base := base) (cl := cl) F_Rule__where KC_Rule N_Rule__where B
  have P_Rule__where : Pc l.prog w K mg base cl 1 c_Rule "where" m_Rule__where := ⟨_, _, _, ⟨a_Rule__where, pg_Rule__where, pt_Rule__where, ⟨_, pr_Rule__where⟩⟩, G_Rule__where, F_Rule__where.binds (ps := ["self"]) fun _ _ _ _ _ _ us hl => match us, hl with | [_], _ => rfl⟩
  have F_Rule__bad_at := fun_mk (st := s_Rule__bad_at) l_Rule__bad_at q_Rule__bad_at k_Rule__bad_at
  have G_Rule__bad_at := ok_Rule__bad_at (P := l.prog) (w := w) (mg := mg) (base := base) (cl := cl) F_Rule__bad_at D_is_end G_is_end KC_Rule N_Rule__bad B
  have M_Rule__bad_at : Mc l.prog w K mg base cl 3 c_Rule "bad_at" ["self", "end"] m_Rule__bad_at := ⟨_, _, ⟨a_Rule__bad_at, n_Rule__bad_at, k_Rule__bad_at⟩, G_Rule__bad_at, F_Rule__bad_at.binds (ps := ["self", "end"]) fun _ _ _ _ _ _ us hl => match us, hl with | [_, _], _ => rfl⟩
  have F_Splits__init := fun_mk (st := s_Splits__init) l_Splits__init q_Splits__init k_Splits__init
  have FA_Splits__init : FunA K "__init__" "Splits.__init__" s_Splits__init _ _ := funA_fun F_Splits__init
  have KB_Splits__init : KBn K _ ["self", "rule", "left", "right"] 4 [] (fun us ws => us ++ ws) (fun vs zs => vs ++ zs) := kbn_0 (F_Splits__init.binds (ps := ["self", "rule", "left", "right"]) fun _ _ _ _ _ _ us hl => match us, hl with | [_, _, _, _], _ => rfl) rfl
  have G_Splits__init := ok_Splits__init (P := l.prog) (w := w) (mg := mg) (base := base) (cl := cl) FA_Splits__init KC_Splits KC_Rule P_Rule__soft P_Rule__offer P_Rule__where M_Rule__bad_at N_Splits__near N_Splits__far N_Splits__is_soft N_Splits__is_beside N_Splits__many hm_Splits
  have J_Splits : Jc l.prog w K mg base cl 4 "Splits" c_Splits ["self", "rule", "left", "right"] 3 [] F_Splits := ⟨_, _, ⟨cm_Splits, a_Splits__init, n_Splits__init, ck_Splits⟩, G_Splits__init, KB_Splits__init⟩
  have G_let := ok_let (P := l.prog) (w := w) (mg := mg) (base := base) (cl := cl) F_let D_check_size G_check_size KC_Splits M_Splits__let J_Splits
  have G_possible := ok_possible (P := l.prog) (w := w) (mg := mg) (base := base) (cl := cl) F_possible D_check_size G_check_size D_possible_befores G_possible_befores KC_Rule P_Rule__where
  have F_Splits__offered := fun_mk (st := s_Splits__offered) l_Splits__offered q_Splits__offered k_Splits__offered
  have G_Splits__offered := ok_Splits__offered (P := l.prog) (w := w) (mg := mg) (base := base) (cl := cl) F_Splits__offered D_possible_befores G_possible_befores KC_Splits N_Splits__many N_Splits__is_beside M_Splits__let M_Splits___let_of B C
  have M_Splits__offered : Mc l.prog w K mg base cl 3 c_Splits "offered" ["self", "rest"] m_Splits__offered := ⟨_, _, ⟨a_Splits__offered, n_Splits__offered, k_Splits__offered⟩, G_Splits__offered, F_Splits__offered.binds (ps := ["self", "rest"]) fun _ _ _ _ _ _ us hl => match us, hl with | [_, _], _ => rfl⟩
  have G_offered := ok_offered (P := l.prog) (w := w) (mg := mg) (base := base) (cl := cl) F_offered D_check_size G_check_size KC_Splits M_Splits__offered J_Splits
  have F_Rule__with_soft := fun_mk (st := s_Rule__with_soft) l_Rule__with_soft q_Rule__with_soft k_Rule__with_soft
  have G_Rule__with_soft := ok_Rule__with_soft (P := l.prog) (w := w) (mg := mg) (base := base) (cl := cl) F_Rule__with_soft KC_Rule N_Rule__sizes N_Rule__bad N_Rule__where N_Rule__offer J_Rule B
  have M_Rule__with_soft : Mc l.prog w K mg base cl 7 c_Rule "with_soft" ["self", "soft"] m_Rule__with_soft := ⟨_, _, ⟨a_Rule__with_soft, n_Rule__with_soft, k_Rule__with_soft⟩, G_Rule__with_soft, F_Rule__with_soft.binds (ps := ["self", "soft"]) fun _ _ _ _ _ _ us hl => match us, hl with | [_, _], _ => rfl⟩
  have F_Rule__with_bad := fun_mk (st := s_Rule__with_bad) l_Rule__with_bad q_Rule__with_bad k_Rule__with_bad
  have G_Rule__with_bad := ok_Rule__with_bad (P := l.prog) (w := w) (mg := mg) (base := base) (cl := cl) F_Rule__with_bad D_is_end G_is_end D_are_sizes G_are_sizes KC_Rule N_Rule__sizes N_Rule__bad N_Rule__soft N_Rule__where N_Rule__offer J_Rule C
  have M_Rule__with_bad : Mc l.prog w K mg base cl 7 c_Rule "with_bad" ["self", "end", "lengths"] m_Rule__with_bad := ⟨_, _, ⟨a_Rule__with_bad, n_Rule__with_bad, k_Rule__with_bad⟩, G_Rule__with_bad, F_Rule__with_bad.binds (ps := ["self", "end", "lengths"]) fun _ _ _ _ _ _ us hl => match us, hl with | [_, _, _], _ => rfl⟩
  have F_Rule__with_sizes := fun_mk (st := s_Rule__with_sizes) l_Rule__with_sizes q_Rule__with_sizes k_Rule__with_sizes
  have G_Rule__with_sizes := ok_Rule__with_sizes (P := l.prog) (w := w) (mg := mg) (base := base) (cl := cl) F_Rule__with_sizes D__are_rule_sizes G__are_rule_sizes KC_Rule N_Rule__bad N_Rule__soft N_Rule__where N_Rule__offer J_Rule
  have M_Rule__with_sizes : Mc l.prog w K mg base cl 7 c_Rule "with_sizes" ["self", "sizes"] m_Rule__with_sizes := ⟨_, _, ⟨a_Rule__with_sizes, n_Rule__with_sizes, k_Rule__with_sizes⟩, G_Rule__with_sizes, F_Rule__with_sizes.binds (ps := ["self", "sizes"]) fun _ _ _ _ _ _ us hl => match us, hl with | [_, _], _ => rfl⟩
  have F_Rule__bare := fun_mk (st := s_Rule__bare) l_Rule__bare q_Rule__bare k_Rule__bare
  have G_Rule__bare := ok_Rule__bare (P := l.prog) (w := w) (mg := mg) (base := base) (cl := cl) F_Rule__bare KC_Rule N_Rule__sizes N_Rule__soft N_Rule__where N_Rule__offer J_Rule JD_Rule
  have M_Rule__bare : Mc l.prog w K mg base cl 7 c_Rule "bare" ["self"] m_Rule__bare := ⟨_, _, ⟨a_Rule__bare, n_Rule__bare, k_Rule__bare⟩, G_Rule__bare, F_Rule__bare.binds (ps := ["self"]) fun _ _ _ _ _ _ us hl => match us, hl with | [_], _ => rfl⟩
  have F_Rule__with_offer := fun_mk (st := s_Rule__with_offer) l_Rule__with_offer q_Rule__with_offer k_Rule__with_offer
  have G_Rule__with_offer := ok_Rule__with_offer (P := l.prog) (w := w) (mg := mg) (base := base) (cl := cl) F_Rule__with_offer D__is_offer G__is_offer KC_Rule N_Rule__sizes N_Rule__bad N_Rule__soft N_Rule__where J_Rule
  have M_Rule__with_offer : Mc l.prog w K mg base cl 7 c_Rule "with_offer" ["self", "offer"] m_Rule__with_offer := ⟨_, _, ⟨a_Rule__with_offer, n_Rule__with_offer, k_Rule__with_offer⟩, G_Rule__with_offer, F_Rule__with_offer.binds (ps := ["self", "offer"]) fun _ _ _ _ _ _ us hl => match us, hl with | [_, _], _ => rfl⟩
  have F_Rule__with_where := fun_mk (st := s_Rule__with_where) l_Rule__with_where q_Rule__with_where k_Rule__with_where
  have G_Rule__with_where := ok_Rule__with_where (P := l.prog) (w := w) (mg := mg) (base := base) (cl := cl) F_Rule__with_where D__is_place G__is_place KC_Rule N_Rule__sizes N_Rule__bad N_Rule__soft N_Rule__offer J_Rule
  have M_Rule__with_where : Mc l.prog w K mg base cl 7 c_Rule "with_where" ["self", "where"] m_Rule__with_where := ⟨_, _, ⟨a_Rule__with_where, n_Rule__with_where, k_Rule__with_where⟩, G_Rule__with_where, F_Rule__with_where.binds (ps := ["self", "where"]) fun _ _ _ _ _ _ us hl => match us, hl with | [_, _], _ => rfl⟩
  have G__law_right := ok__law_right (P := l.prog) (w := w) (mg := mg) (base := base) (cl := cl) F__law_right D_let G_let D_possible G_possible D_offered G_offered D__law_end G__law_end D__law_take G__law_take KC_Rule M_Rule__with_soft M_Rule__with_bad M_Rule__with_sizes M_Rule__bare M_Rule__bad_at M_Rule__with_offer M_Rule__with_where B
  have G_refuses := ok_refuses (P := l.prog) (w := w) (mg := mg) (base := base) (cl := cl) F_refuses D_offered G_offered
  exact ok_law (cl := cl) F_law D__law_bag G__law_bag D__law_made G__law_made D__law_stretch G__law_stretch D__law_rule G__law_rule D__law_right G__law_right D_refuses G_refuses KC_Rule P_Rule__sizes M_Rule__bare B hm
theorem walk {l : PySem.W.OpenLaw} {q : Program} {loose : List Str} {XP : (Str → Option Value) → Heap → Prop} {YP : World → Heap → Prop} {d : DefRec} {K : Params → PySem.W.Frag} (hn : l.most = some 63) (hdf : d.params.defaults = []) (hY : ∀ (w : World) (h : Heap), YP w h → (K w.params).In h)
    (F : ∀ (w : World) (mg : Str → Option Value) (fa : Addr) (h : Heap), (K w.params).In h → h.Ns mainGlobals mg → mg d.name = some (.ref fa) →
      ∃ fd : FuncData, (∀ (s : Shared) (u : Value), BindsTo s fd ⟨[u], []⟩ [("_law_script", u)]) ∧ ∀ base : Heap, (K w.params).In base → base.Ns mainGlobals mg → FnG l.prog w (K w.params) mg base 9 fa fd ["_law_script"] (spLaw (K w.params))) :
    PySem.W.WalkO q loose XP YP l.row.toRowW d [] (fun f vs => PySem.call f vs) := walk_G hn hdf ⟨⟨rfl, by decide, by decide⟩, rfl⟩ hY F
end K27
open PySem PySem.W PyProof.Rows
set_option maxRecDepth 100000 in
set_option maxHeartbeats 0 in
theorem PySem.Challenge.cw_loneseats_k27_whole_rules_side_by_side_holds : PySem.Challenge.rw_loneseats_k27_whole_rules_side_by_side.Holds := by
  w_on; o_law; k_head; (case hw => w_witness2)
  k_fill
  refine K27.walk (l := PySem.Challenge.rw_loneseats_k27_whole_rules_side_by_side) rfl rfl (fun w h Y => PySem.W.kIn_of Y) ?F
  case F =>
    intro w mg fa h KX G hmg
    refine' K27.all_mk KX G hmg ?a_Splits ?cg_Splits ?ch_Splits ?cp_Splits ?cs_Splits ?cm_Splits ?ck_Splits ?N_Splits__near ?N_Splits__far ?N_Splits__is_soft ?N_Splits__is_beside ?N_Splits__many ?a_Rule ?cg_Rule ?ch_Rule ?cp_Rule ?cs_Rule ?cm_Rule ?ck_Rule ?N_Rule__sizes ?N_Rule__bad ?N_Rule__soft ?N_Rule__where ?N_Rule__offer ?a_is_integer ?l_is_integer ?q_is_integer ?k_is_integer ?a_is_number ?l_is_number ?q_is_number ?k_is_number ?a_is_end ?l_is_end ?q_is_end ?k_is_end ?a_is_size ?l_is_size ?q_is_size ?k_is_size ?a_are_sizes ?l_are_sizes ?q_are_sizes ?k_are_sizes ?a_possible_befores ?l_possible_befores ?q_possible_befores ?k_possible_befores ?a_has_size ?l_has_size ?q_has_size ?k_has_size ?a_check_size ?l_check_size ?q_check_size ?k_check_size ?a_possible ?l_possible ?q_possible ?k_possible ?a_let ?l_let ?q_let ?k_let ?a_offered ?l_offered ?q_offered ?k_offered ?a_refuses ?l_refuses ?q_refuses ?k_refuses ?a__ascending ?l__ascending ?q__ascending ?k__ascending ?a__are_rule_sizes ?l__are_rule_sizes ?q__are_rule_sizes ?k__are_rule_sizes ?a__are_bad_lengths ?l__are_bad_lengths ?q__are_bad_lengths ?k__are_bad_lengths ?a__is_place ?l__is_place ?q__is_place ?k__is_place ?a__is_offer ?l__is_offer ?q__is_offer ?k__is_offer ?a__law_bag ?l__law_bag ?q__law_bag ?k__law_bag ?a__law_take ?l__law_take ?q__law_take ?k__law_take ?a__law_one ?l__law_one ?q__law_one ?k__law_one ?a__law_ends ?l__law_ends ?q__law_ends ?k__law_ends ?a__law_end ?l__law_end ?q__law_end ?k__law_end ?a__law_lengths ?l__law_lengths ?q__law_lengths ?k__law_lengths ?a__law_sizes ?l__law_sizes ?q__law_sizes ?k__law_sizes ?a__law_rule ?l__law_rule ?q__law_rule ?k__law_rule ?a__law_made ?l__law_made ?q__law_made ?k__law_made ?a__law_stretch ?l__law_stretch ?q__law_stretch ?k__law_stretch ?a__law_right ?l__law_right ?q__law_right ?k__law_right ?a_law ?l_law ?q_law ?k_law ?a_Splits__init ?n_Splits__init ?l_Splits__init ?q_Splits__init ?k_Splits__init ?a_Splits___let_of ?n_Splits___let_of ?l_Splits___let_of ?q_Splits___let_of ?k_Splits___let_of ?a_Splits__let ?n_Splits__let ?l_Splits__let ?q_Splits__let ?k_Splits__let ?a_Splits__offered ?n_Splits__offered ?l_Splits__offered ?q_Splits__offered ?k_Splits__offered ?a_Rule__init ?n_Rule__init ?l_Rule__init ?q_Rule__init ?k_Rule__init ?T_l_Rule__init ?D0_Rule__init ?D1_Rule__init ?D2_Rule__init ?a_Rule__sizes ?pg_Rule__sizes ?pt_Rule__sizes ?pr_Rule__sizes ?l_Rule__sizes ?q_Rule__sizes ?k_Rule__sizes ?a_Rule__soft ?pg_Rule__soft ?pt_Rule__soft ?pr_Rule__soft ?l_Rule__soft ?q_Rule__soft ?k_Rule__soft ?a_Rule__where ?pg_Rule__where ?pt_Rule__where ?pr_Rule__where ?l_Rule__where ?q_Rule__where ?k_Rule__where ?a_Rule__offer ?pg_Rule__offer ?pt_Rule__offer ?pr_Rule__offer ?l_Rule__offer ?q_Rule__offer ?k_Rule__offer ?a_Rule__bad_at ?n_Rule__bad_at ?l_Rule__bad_at ?q_Rule__bad_at ?k_Rule__bad_at ?a_Rule__with_bad ?n_Rule__with_bad ?l_Rule__with_bad ?q_Rule__with_bad ?k_Rule__with_bad ?a_Rule__with_sizes ?n_Rule__with_sizes ?l_Rule__with_sizes ?q_Rule__with_sizes ?k_Rule__with_sizes ?a_Rule__with_soft ?n_Rule__with_soft ?l_Rule__with_soft ?q_Rule__with_soft ?k_Rule__with_soft ?a_Rule__with_where ?n_Rule__with_where ?l_Rule__with_where ?q_Rule__with_where ?k_Rule__with_where ?a_Rule__with_offer ?n_Rule__with_offer ?l_Rule__with_offer ?q_Rule__with_offer ?k_Rule__with_offer ?a_Rule__bare ?n_Rule__bare ?l_Rule__bare ?q_Rule__bare ?k_Rule__bare ?b_isinstance ?b_int ?b_bool ?b_str ?b_all ?b_list ?b_tuple ?b_range ?b_sorted ?b_set ?b_len ?b_dict ?b_abs ?b_min ?b_property ?i_GREATEST_SIZE ?i_GREATEST_BAD ?i_GREATEST_OFFER ?i_ENDS ?j_ENDS ?i_PLACES ?j_PLACES K27.meant
    (case a_Splits => k_is)
    (case cg_Splits => k_is)
    (case ch_Splits => k_is)
    (case cp_Splits => k_is)
    (case cs_Splits => k_is)
    (case cm_Splits => k_is)
    (case ck_Splits => k_is)
    (case N_Splits__near => k_is)
    (case N_Splits__far => k_is)
    (case N_Splits__is_soft => k_is)
    (case N_Splits__is_beside => k_is)
    (case N_Splits__many => k_is)
    (case a_Rule => k_is)
    (case cg_Rule => k_is)
    (case ch_Rule => k_is)
    (case cp_Rule => k_is)
    (case cs_Rule => k_is)
    (case cm_Rule => k_is)
    (case ck_Rule => k_is)
    (case N_Rule__sizes => k_is)
    (case N_Rule__bad => k_is)
    (case N_Rule__soft => k_is)
    (case N_Rule__where => k_is)
    (case N_Rule__offer => k_is)
    (case a_is_integer => k_is)
    (case l_is_integer => k_is)
    (case q_is_integer => k_is)
    (case k_is_integer => k_is)
    (case a_is_number => k_is)
    (case l_is_number => k_is)
    (case q_is_number => k_is)
    (case k_is_number => k_is)
    (case a_is_end => k_is)
    (case l_is_end => k_is)
    (case q_is_end => k_is)
    (case k_is_end => k_is)
    (case a_is_size => k_is)
    (case l_is_size => k_is)
    (case q_is_size => k_is)
    (case k_is_size => k_is)
    (case a_are_sizes => k_is)
    (case l_are_sizes => k_is)
    (case q_are_sizes => k_is)
    (case k_are_sizes => k_is)
    (case a_possible_befores => k_is)
    (case l_possible_befores => k_is)
    (case q_possible_befores => k_is)
    (case k_possible_befores => k_is)
    (case a_has_size => k_is)
    (case l_has_size => k_is)
    (case q_has_size => k_is)
    (case k_has_size => k_is)
    (case a_check_size => k_is)
    (case l_check_size => k_is)
    (case q_check_size => k_is)
    (case k_check_size => k_is)
    (case a_possible => k_is)
    (case l_possible => k_is)
    (case q_possible => k_is)
    (case k_possible => k_is)
    (case a_let => k_is)
    (case l_let => k_is)
    (case q_let => k_is)
    (case k_let => k_is)
    (case a_offered => k_is)
    (case l_offered => k_is)
    (case q_offered => k_is)
    (case k_offered => k_is)
    (case a_refuses => k_is)
    (case l_refuses => k_is)
    (case q_refuses => k_is)
    (case k_refuses => k_is)
    (case a__ascending => k_is)
    (case l__ascending => k_is)
    (case q__ascending => k_is)
    (case k__ascending => k_is)
    (case a__are_rule_sizes => k_is)
    (case l__are_rule_sizes => k_is)
    (case q__are_rule_sizes => k_is)
    (case k__are_rule_sizes => k_is)
    (case a__are_bad_lengths => k_is)
    (case l__are_bad_lengths => k_is)
    (case q__are_bad_lengths => k_is)
    (case k__are_bad_lengths => k_is)
    (case a__is_place => k_is)
    (case l__is_place => k_is)
    (case q__is_place => k_is)
    (case k__is_place => k_is)
    (case a__is_offer => k_is)
    (case l__is_offer => k_is)
    (case q__is_offer => k_is)
    (case k__is_offer => k_is)
    (case a__law_bag => k_is)
    (case l__law_bag => k_is)
    (case q__law_bag => k_is)
    (case k__law_bag => k_is)
    (case a__law_take => k_is)
    (case l__law_take => k_is)
    (case q__law_take => k_is)
    (case k__law_take => k_is)
    (case a__law_one => k_is)
    (case l__law_one => k_is)
    (case q__law_one => k_is)
    (case k__law_one => k_is)
    (case a__law_ends => k_is)
    (case l__law_ends => k_is)
    (case q__law_ends => k_is)
    (case k__law_ends => k_is)
    (case a__law_end => k_is)
    (case l__law_end => k_is)
    (case q__law_end => k_is)
    (case k__law_end => k_is)
    (case a__law_lengths => k_is)
    (case l__law_lengths => k_is)
    (case q__law_lengths => k_is)
    (case k__law_lengths => k_is)
    (case a__law_sizes => k_is)
    (case l__law_sizes => k_is)
    (case q__law_sizes => k_is)
    (case k__law_sizes => k_is)
    (case a__law_rule => k_is)
    (case l__law_rule => k_is)
    (case q__law_rule => k_is)
    (case k__law_rule => k_is)
    (case a__law_made => k_is)
    (case l__law_made => k_is)
    (case q__law_made => k_is)
    (case k__law_made => k_is)
    (case a__law_stretch => k_is)
    (case l__law_stretch => k_is)
    (case q__law_stretch => k_is)
    (case k__law_stretch => k_is)
    (case a__law_right => k_is)
    (case l__law_right => k_is)
    (case q__law_right => k_is)
    (case k__law_right => k_is)
    (case a_law => k_is)
    (case l_law => k_is)
    (case q_law => k_is)
    (case k_law => k_is)
    (case a_Splits__init => k_is)
    (case n_Splits__init => k_is)
    (case l_Splits__init => k_is)
    (case q_Splits__init => k_is)
    (case k_Splits__init => k_is)
    (case a_Splits___let_of => k_is)
    (case n_Splits___let_of => k_is)
    (case l_Splits___let_of => k_is)
    (case q_Splits___let_of => k_is)
    (case k_Splits___let_of => k_is)
    (case a_Splits__let => k_is)
    (case n_Splits__let => k_is)
    (case l_Splits__let => k_is)
    (case q_Splits__let => k_is)
    (case k_Splits__let => k_is)
    (case a_Splits__offered => k_is)
    (case n_Splits__offered => k_is)
    (case l_Splits__offered => k_is)
    (case q_Splits__offered => k_is)
    (case k_Splits__offered => k_is)
    (case a_Rule__init => k_is)
    (case n_Rule__init => k_is)
    (case l_Rule__init => k_is)
    (case q_Rule__init => k_is)
    (case k_Rule__init => k_is)
    (case T_l_Rule__init => k_is)
    (case D0_Rule__init => k_is)
    (case D1_Rule__init => k_is)
    (case D2_Rule__init => k_is)
    (case a_Rule__sizes => k_is)
    (case pg_Rule__sizes => k_is)
    (case pt_Rule__sizes => k_is)
    (case pr_Rule__sizes => k_is)
    (case l_Rule__sizes => k_is)
    (case q_Rule__sizes => k_is)
    (case k_Rule__sizes => k_is)
    (case a_Rule__soft => k_is)
    (case pg_Rule__soft => k_is)
    (case pt_Rule__soft => k_is)
    (case pr_Rule__soft => k_is)
    (case l_Rule__soft => k_is)
    (case q_Rule__soft => k_is)
    (case k_Rule__soft => k_is)
    (case a_Rule__where => k_is)
    (case pg_Rule__where => k_is)
    (case pt_Rule__where => k_is)
    (case pr_Rule__where => k_is)
    (case l_Rule__where => k_is)
    (case q_Rule__where => k_is)
    (case k_Rule__where => k_is)
    (case a_Rule__offer => k_is)
    (case pg_Rule__offer => k_is)
    (case pt_Rule__offer => k_is)
    (case pr_Rule__offer => k_is)
    (case l_Rule__offer => k_is)
    (case q_Rule__offer => k_is)
    (case k_Rule__offer => k_is)
    (case a_Rule__bad_at => k_is)
    (case n_Rule__bad_at => k_is)
    (case l_Rule__bad_at => k_is)
    (case q_Rule__bad_at => k_is)
    (case k_Rule__bad_at => k_is)
    (case a_Rule__with_bad => k_is)
    (case n_Rule__with_bad => k_is)
    (case l_Rule__with_bad => k_is)
    (case q_Rule__with_bad => k_is)
    (case k_Rule__with_bad => k_is)
    (case a_Rule__with_sizes => k_is)
    (case n_Rule__with_sizes => k_is)
    (case l_Rule__with_sizes => k_is)
    (case q_Rule__with_sizes => k_is)
    (case k_Rule__with_sizes => k_is)
    (case a_Rule__with_soft => k_is)
    (case n_Rule__with_soft => k_is)
    (case l_Rule__with_soft => k_is)
    (case q_Rule__with_soft => k_is)
    (case k_Rule__with_soft => k_is)
    (case a_Rule__with_where => k_is)
    (case n_Rule__with_where => k_is)
    (case l_Rule__with_where => k_is)
    (case q_Rule__with_where => k_is)
    (case k_Rule__with_where => k_is)
    (case a_Rule__with_offer => k_is)
    (case n_Rule__with_offer => k_is)
    (case l_Rule__with_offer => k_is)
    (case q_Rule__with_offer => k_is)
    (case k_Rule__with_offer => k_is)
    (case a_Rule__bare => k_is)
    (case n_Rule__bare => k_is)
    (case l_Rule__bare => k_is)
    (case q_Rule__bare => k_is)
    (case k_Rule__bare => k_is)
    (case b_isinstance => k_is)
    (case b_int => k_is)
    (case b_bool => k_is)
    (case b_str => k_is)
    (case b_all => k_is)
    (case b_list => k_is)
    (case b_tuple => k_is)
    (case b_range => k_is)
    (case b_sorted => k_is)
    (case b_set => k_is)
    (case b_len => k_is)
    (case b_dict => k_is)
    (case b_abs => k_is)
    (case b_min => k_is)
    (case b_property => k_is)
    (case i_GREATEST_SIZE => k_is)
    (case i_GREATEST_BAD => k_is)
    (case i_GREATEST_OFFER => k_is)
    (case i_ENDS => k_is)
    (case j_ENDS => k_is)
    (case i_PLACES => k_is)
    (case j_PLACES => k_is)

