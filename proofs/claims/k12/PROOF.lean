import PyProof.Rows.All
import Wide.All
import OpenK.AllK
import Wide.FinOn
import HandS.ForMost
import HandS.ForExc
import HandS.IsInst
import HandS.TupAny
import HandS.Conv
import HandS.Evl
import HandS.ExcIs
import PyProof.ReprLen
import KE.DataEq
import PySem.Challenge.RW_loneseats_k12_parts_of_stretches
set_option Elab.async false
set_option linter.all false
set_option maxRecDepth 100000
set_option maxHeartbeats 4000000
namespace Vi
open PySem PySem.Spec PyProof.Rows L2

/-! data: values as trees -/
inductive D where
  | non
  | bl (c : Bool)
  | int (i : Int)
  | str (s : Str)
  | lst (ds : List D)
  | tup (ds : List D)
  | dct (kvs : List (Key × D))
  | obj (c : Str) (fs : List (Str × D))

/-- what stays fixed in a def: the written part, the bag's address, the script's copy -/
structure Gd where
  K : PySem.W.Frag
  cl : Str → Option Addr
  b : Addr
  l : Addr
abbrev NoH : Hp := fun _ => none
theorem sqL_no {K : PySem.W.Frag} {H : Hp} {a : Addr} {vs : List V} (h : SqL K NoH a vs) : SqL K H a vs := by
  rcases h with (h | ⟨o, h⟩) | h
  · cases h
  · cases h
  · exact Or.inr h
theorem sqT_no {K : PySem.W.Frag} {H : Hp} {a : Addr} {vs : List V} (h : SqT K NoH a vs) : SqT K H a vs := by
  rcases h with (h | ⟨o, h⟩) | h
  · cases h
  · cases h
  · exact Or.inr h

mutual
inductive Dat (G : Gd) (Bad : Addr → Prop) (H : Hp) : V → D → Prop
  | non : Dat G Bad H .non .non
  | bl (c : Bool) : Dat G Bad H (.bl c) (.bl c)
  | int (i : Int) : Dat G Bad H (.int i) (.int i)
  | str (s : Str) : Dat G Bad H (.str s) (.str s)
  | lstH {a : Addr} {vs : List V} {ds : List D} : ¬ Bad a → H a = some (.lst vs) → DatL G Bad H vs ds → Dat G Bad H (.ref a) (.lst ds)
  | tupH {a : Addr} {vs : List V} {ds : List D} : ¬ Bad a → H a = some (.tup vs) → DatL G Bad H vs ds → Dat G Bad H (.ref a) (.tup ds)
  | tupK {a : Addr} {vs : List V} {ds : List D} : SqT G.K NoH a vs → DatL G Bad H vs ds → Dat G Bad H (.ref a) (.tup ds)
  | dct {a : Addr} {kvs : List (Key × V)} {ds : List (Key × D)} : ¬ Bad a → Rd H a (.dK kvs) → DatK G Bad H kvs ds → Dat G Bad H (.ref a) (.dct ds)
  | obj {a C dx : Addr} {c : Str} {fs : List (Str × V)} {ds : List (Str × D)} : ¬ Bad a → H a = some (.ins C dx fs) → G.cl c = some C → DatF G Bad H fs ds → Dat G Bad H (.ref a) (.obj c ds)
inductive DatL (G : Gd) (Bad : Addr → Prop) (H : Hp) : List V → List D → Prop
  | nil : DatL G Bad H [] []
  | cons {v : V} {vs : List V} {d : D} {ds : List D} : Dat G Bad H v d → DatL G Bad H vs ds → DatL G Bad H (v :: vs) (d :: ds)
inductive DatK (G : Gd) (Bad : Addr → Prop) (H : Hp) : List (Key × V) → List (Key × D) → Prop
  | nil : DatK G Bad H [] []
  | cons {k : Key} {v : V} {vs : List (Key × V)} {d : D} {ds : List (Key × D)} : Dat G Bad H v d → DatK G Bad H vs ds → DatK G Bad H ((k, v) :: vs) ((k, d) :: ds)
inductive DatF (G : Gd) (Bad : Addr → Prop) (H : Hp) : List (Str × V) → List (Str × D) → Prop
  | nil : DatF G Bad H [] []
  | cons {k : Str} {v : V} {vs : List (Str × V)} {d : D} {ds : List (Str × D)} : Dat G Bad H v d → DatF G Bad H vs ds → DatF G Bad H ((k, v) :: vs) ((k, d) :: ds)
end

/-- what is kept, and stays apart from what may change -/
def Goes (Bad Bad' : Addr → Prop) (H H' : Hp) : Prop := ∀ a o, ¬ Bad a → H a = some o → H' a = some o ∧ ¬ Bad' a
theorem Goes.rd {Bad Bad' : Addr → Prop} {H H' : Hp} (g : Goes Bad Bad' H H') {a : Addr} {u : HO} (n : ¬ Bad a) (h : Rd H a u) : Rd H' a u ∧ ¬ Bad' a := by
  rcases h with h | ⟨o, h⟩
  · exact ⟨Or.inl (g a _ n h).1, (g a _ n h).2⟩
  · exact ⟨Or.inr ⟨o, (g a _ n h).1⟩, (g a _ n h).2⟩
mutual
theorem Dat.goes {G : Gd} {Bad Bad' : Addr → Prop} {H H' : Hp} (g : Goes Bad Bad' H H') : ∀ {v : V} {d : D}, Dat G Bad H v d → Dat G Bad' H' v d
  | _, _, .non => .non
  | _, _, .bl c => .bl c
  | _, _, .int i => .int i
  | _, _, .str s => .str s
  | _, _, .lstH n h r => .lstH (g _ _ n h).2 (g _ _ n h).1 (DatL.goes g r)
  | _, _, .tupH n h r => .tupH (g _ _ n h).2 (g _ _ n h).1 (DatL.goes g r)
  | _, _, .tupK h r => .tupK h (DatL.goes g r)
  | _, _, .dct n h r => .dct (g.rd n h).2 (g.rd n h).1 (DatK.goes g r)
  | _, _, .obj n h c r => .obj (g _ _ n h).2 (g _ _ n h).1 c (DatF.goes g r)
theorem DatL.goes {G : Gd} {Bad Bad' : Addr → Prop} {H H' : Hp} (g : Goes Bad Bad' H H') : ∀ {v : List V} {d : List D}, DatL G Bad H v d → DatL G Bad' H' v d
  | _, _, .nil => .nil
  | _, _, .cons a r => .cons (Dat.goes g a) (DatL.goes g r)
theorem DatK.goes {G : Gd} {Bad Bad' : Addr → Prop} {H H' : Hp} (g : Goes Bad Bad' H H') : ∀ {v : List (Key × V)} {d : List (Key × D)}, DatK G Bad H v d → DatK G Bad' H' v d
  | _, _, .nil => .nil
  | _, _, .cons a r => .cons (Dat.goes g a) (DatK.goes g r)
theorem DatF.goes {G : Gd} {Bad Bad' : Addr → Prop} {H H' : Hp} (g : Goes Bad Bad' H H') : ∀ {v : List (Str × V)} {d : List (Str × D)}, DatF G Bad H v d → DatF G Bad' H' v d
  | _, _, .nil => .nil
  | _, _, .cons a r => .cons (Dat.goes g a) (DatF.goes g r)
end
/-- an object that is changed in place, its parts kept -/
inductive OwnD (G : Gd) (Bad : Addr → Prop) (H : Hp) : HO → D → Prop
  | lst {vs : List V} {ds : List D} : DatL G Bad H vs ds → OwnD G Bad H (.lst vs) (.lst ds)
  | dct {kvs : List (Key × V)} {ds : List (Key × D)} : DatK G Bad H kvs ds → OwnD G Bad H (.dK kvs) (.dct ds)
theorem OwnD.goes {G : Gd} {Bad Bad' : Addr → Prop} {H H' : Hp} (g : Goes Bad Bad' H H') {o : HO} {d : D} (h : OwnD G Bad H o d) : OwnD G Bad' H' o d := by
  cases h with
  | lst h => exact .lst (DatL.goes g h)
  | dct h => exact .dct (DatK.goes g h)
theorem OwnD.dat {G : Gd} {Bad : Addr → Prop} {H : Hp} {o : HO} {d : D} {a : Addr} (n : ¬ Bad a) (e : H a = some o) (h : OwnD G Bad H o d) : Dat G Bad H (.ref a) d := by
  cases h with
  | lst h => exact .lstH n e h
  | dct h => exact .dct n (Or.inl e) h
theorem OwnD.fst {G : Gd} {Bad : Addr → Prop} {H : Hp} {o : HO} {ds : List D} (h : OwnD G Bad H o (.lst ds)) : ∃ vs, o = .lst vs ∧ DatL G Bad H vs ds := by
  cases h with
  | lst h => exact ⟨_, rfl, h⟩
theorem OwnD.fdc {G : Gd} {Bad : Addr → Prop} {H : Hp} {o : HO} {ds : List (Key × D)} (h : OwnD G Bad H o (.dct ds)) : ∃ vs, o = .dK vs ∧ DatK G Bad H vs ds := by
  cases h with
  | dct h => exact ⟨_, rfl, h⟩
theorem DatL.len {G : Gd} {Bad : Addr → Prop} {H : Hp} : ∀ {vs : List V} {ds : List D}, DatL G Bad H vs ds → vs.length = ds.length
  | _, _, .nil => rfl
  | _, _, .cons _ r => congrArg Nat.succ r.len
theorem DatL.at {G : Gd} {Bad : Addr → Prop} {H : Hp} : ∀ {vs : List V} {ds : List D} {i : Nat} {d : D}, DatL G Bad H vs ds → ds[i]? = some d → ∃ v, vs[i]? = some v ∧ Dat G Bad H v d
  | _, _, i, d, .nil, h => by simp at h
  | _, _, 0, d, .cons a r, h => by
    simp at h
    subst h
    exact ⟨_, rfl, a⟩
  | _, _, i + 1, d, .cons a r, h => by
    obtain ⟨v, h1, h2⟩ := DatL.at (i := i) (d := d) r (by simpa using h)
    exact ⟨v, by simpa using h1, h2⟩
theorem DatL.append {G : Gd} {Bad : Addr → Prop} {H : Hp} : ∀ {vs ws : List V} {ds es : List D}, DatL G Bad H vs ds → DatL G Bad H ws es → DatL G Bad H (vs ++ ws) (ds ++ es)
  | _, _, _, _, .nil, q => q
  | _, _, _, _, .cons a r, q => .cons a (DatL.append r q)

/-! the bag -/
structure Bag where
  x0 : Int
  x1 : Int
  x2 : Int
  ns : List Int
def BagAt (G : Gd) (H : Hp) (g : Bag) : Prop := H G.b = some (.lst [.int g.x0, .int g.x1, .int g.x2, .ref G.l])

/-- exceptions: the class's name, its fields -/
structure Xn where
  c : Str
  fs : List (Str × D)
inductive Rs (α : Type) where
  | ok (a : α)
  | er (x : Xn)
abbrev M (α : Type) := Bag → Option (Rs α × Bag)
def mret {α : Type} (a : α) : M α := fun g => some (.ok a, g)
def merr {α : Type} (x : Xn) : M α := fun g => some (.er x, g)
def mno {α : Type} : M α := fun _ => none
def mbind {α β : Type} (m : M α) (f : α → M β) : M β := fun g => match m g with
  | none => none
  | some (.er x, g') => some (.er x, g')
  | some (.ok a, g') => f a g'
def mof {α : Type} (o : Option α) : M α := fun g => match o with
  | none => none
  | some a => some (.ok a, g)
/-- what an expression gives; what stands in a slot -/
inductive EV where
  | val (d : D)
  | nw (d : D)
  | bw (d : D)
  | bag
  | exc (x : Addr)
inductive SV where
  | val (d : D)
  | own (d : D)
  | bag
  | exc (x : Addr)
def SV.ev : SV → EV
  | .val d => .val d
  | .own ds => .bw ds
  | .bag => .bag
  | .exc x => .exc x
/-- as a thing that may be kept -/
def EV.keep : EV → Option D
  | .val d => some d
  | .nw d => some d
  | _ => none
/-- as a thing that is looked at -/
def EV.look : EV → Option D
  | .val d => some d
  | .nw d => some d
  | .bw d => some d
  | _ => none
abbrev DS := List (Option SV)
abbrev DE := DS → M EV
abbrev DB := DS → M Bool
abbrev DA := DS → M (List EV)

def ExAt (G : Gd) (Bad : Addr → Prop) (H : Hp) (cls : Value) (dx : Option Addr) (x : Xn) : Prop :=
  ∃ C, G.cl x.c = some C ∧ cls = .ref C ∧ (match dx with
    | none => x.fs = []
    | some a => x.fs ≠ [] ∧ ∃ fs, H a = some (.xd fs) ∧ ¬ Bad a ∧ DatF G Bad H fs x.fs)

def With (Bad : Addr → Prop) (p : Addr) : Addr → Prop := fun a => Bad a ∨ a = p
def EVok (G : Gd) (Bad : Addr → Prop) (H H' : Hp) (v : V) : EV → Prop
  | .val d => Dat G Bad H' v d
  | .nw d => ∃ p o, v = .ref p ∧ H p = none ∧ H' p = some o ∧ OwnD G (With Bad p) H' o d
  | .bw d => ∃ p o, v = .ref p ∧ Bad p ∧ p ≠ G.b ∧ H' p = some o ∧ OwnD G Bad H' o d
  | .bag => v = .ref G.b
  | .exc a => v = .ref a
inductive EVs (G : Gd) (Bad : Addr → Prop) (H H' : Hp) : List V → List EV → Prop
  | nil : EVs G Bad H H' [] []
  | cons {v : V} {vs : List V} {e : EV} {es : List EV} : EVok G Bad H H' v e → EVs G Bad H H' vs es → EVs G Bad H H' (v :: vs) (e :: es)

/-- all but the bag stays -/
def Kp (G : Gd) (H H' : Hp) : Prop := ∀ a o, a ≠ G.b → H a = some o → H' a = some o
theorem Kp.refl {G : Gd} {H : Hp} : Kp G H H := fun _ _ _ h => h
theorem Kp.trans {G : Gd} {H H1 H2 : Hp} (x : Kp G H H1) (y : Kp G H1 H2) : Kp G H H2 := fun a o n h => y a o n (x a o n h)
theorem Kp.new {G : Gd} {H : Hp} {p : Addr} {o : HO} (h : H p = none) : Kp G H (upd H p o) := fun a u _ e => by
  rw [upd_ne (ne_of_none e h)]
  exact e
theorem Kp.goes {G : Gd} {Bad : Addr → Prop} {H H' : Hp} (k : Kp G H H') (hb : Bad G.b) : Goes Bad Bad H H' := fun a o n h => ⟨k a o (fun e => n (e ▸ hb)) h, n⟩
theorem goes_less {Bad Bad' : Addr → Prop} {H : Hp} (h : ∀ a, Bad' a → Bad a) : Goes Bad Bad' H H := fun a o n e => ⟨e, fun z => n (h a z)⟩

theorem evok_kp {G : Gd} {Bad : Addr → Prop} {H H1 H2 : Hp} {v : V} {e : EV} (hb : Bad G.b) (bg : (H G.b).isSome = true) (k : Kp G H1 H2) (h : EVok G Bad H H1 v e) : EVok G Bad H H2 v e := by
  cases e with
  | val d => exact Dat.goes (k.goes hb) h
  | nw ds =>
    obtain ⟨p, vs, rfl, h1, h2, h3⟩ := h
    have pb : p ≠ G.b := fun z => by subst z; rw [h1] at bg; cases bg
    exact ⟨p, vs, rfl, h1, k p _ pb h2, OwnD.goes (k.goes (Or.inl hb)) h3⟩
  | bw ds =>
    obtain ⟨p, vs, rfl, h1, h2, h3, h4⟩ := h
    exact ⟨p, vs, rfl, h1, h2, k p _ h2 h3, OwnD.goes (k.goes hb) h4⟩
  | bag => exact h
  | exc x => exact h
theorem fresh_kp {G : Gd} {H H1 : Hp} {p : Addr} (bg1 : (H1 G.b).isSome = true) (k : Kp G H H1) (h : H1 p = none) : H p = none := by
  cases e : H p with
  | none => rfl
  | some o =>
    have pb : p ≠ G.b := fun z => by subst z; rw [h] at bg1; cases bg1
    rw [k p o pb e] at h
    cases h
/-- begun earlier -/
theorem evok_from {G : Gd} {Bad : Addr → Prop} {H H1 H2 : Hp} {v : V} {e : EV} (bg1 : (H1 G.b).isSome = true) (k : Kp G H H1) (h : EVok G Bad H1 H2 v e) : EVok G Bad H H2 v e := by
  cases e with
  | val d => exact h
  | nw ds =>
    obtain ⟨p, vs, rfl, h1, h2, h3⟩ := h
    exact ⟨p, vs, rfl, fresh_kp bg1 k h1, h2, h3⟩
  | bw ds => exact h
  | bag => exact h
  | exc x => exact h
theorem evs_kp {G : Gd} {Bad : Addr → Prop} {H H1 H2 : Hp} {v : List V} {e : List EV} (hb : Bad G.b) (bg : (H G.b).isSome = true) (k : Kp G H1 H2) (h : EVs G Bad H H1 v e) : EVs G Bad H H2 v e := by
  induction h with
  | nil => exact .nil
  | cons a _ ih => exact .cons (evok_kp hb bg k a) ih
theorem evs_from {G : Gd} {Bad : Addr → Prop} {H H1 H2 : Hp} {v : List V} {e : List EV} (bg1 : (H1 G.b).isSome = true) (k : Kp G H H1) (h : EVs G Bad H1 H2 v e) : EVs G Bad H H2 v e := by
  induction h with
  | nil => exact .nil
  | cons a _ ih => exact .cons (evok_from bg1 k a) ih

/-- kept: a datum apart from what may change -/
theorem evok_keep {G : Gd} {Bad : Addr → Prop} {H H' : Hp} {v : V} {e : EV} {d : D} (hB : ∀ a, Bad a → (H a).isSome = true) (h : EVok G Bad H H' v e) (k : e.keep = some d) : Dat G Bad H' v d := by
  cases e with
  | val d' =>
    cases k
    exact h
  | nw ds =>
    cases k
    obtain ⟨p, vs, rfl, h1, h2, h3⟩ := h
    exact OwnD.dat (fun z => by have := hB _ z; rw [h1] at this; cases this) h2 (OwnD.goes (goes_less fun a z => Or.inl z) h3)
  | bw ds => cases k
  | bag => cases k
  | exc x => cases k
def Nob : Addr → Prop := fun _ => False
theorem evok_look {G : Gd} {Bad : Addr → Prop} {H H' : Hp} {v : V} {e : EV} {d : D} (h : EVok G Bad H H' v e) (k : e.look = some d) : Dat G Nob H' v d := by
  cases e with
  | val d' =>
    cases k
    exact Dat.goes (goes_less fun a z => z.elim) h
  | nw ds =>
    cases k
    obtain ⟨p, vs, rfl, h1, h2, h3⟩ := h
    exact OwnD.dat (fun z => z) h2 (OwnD.goes (goes_less fun a z => z.elim) h3)
  | bw ds =>
    cases k
    obtain ⟨p, vs, rfl, h1, h2, h3, h4⟩ := h
    exact OwnD.dat (fun z => z) h3 (OwnD.goes (goes_less fun a z => z.elim) h4)
  | bag => cases k
  | exc x => cases k
/-- the items of a list or tuple, apart from what may change -/
theorem evok_items {G : Gd} {Bad : Addr → Prop} {H H' : Hp} {v : V} {e : EV} {ds : List D} (h : EVok G Bad H H' v e) : (e.look = some (.lst ds) → ∃ a vs, v = .ref a ∧ H' a = some (.lst vs) ∧ DatL G Bad H' vs ds) ∧ (e.look = some (.tup ds) → ∃ a vs, v = .ref a ∧ SqT G.K H' a vs ∧ DatL G Bad H' vs ds) := by
  cases e with
  | val d' =>
    refine ⟨fun k => ?_, fun k => ?_⟩
    · cases k
      have h' : Dat G Bad H' v (.lst ds) := h
      cases h' with
      | lstH n r q => exact ⟨_, _, rfl, r, q⟩
    · cases k
      have h' : Dat G Bad H' v (.tup ds) := h
      cases h' with
      | tupH n r q => exact ⟨_, _, rfl, Or.inl (Or.inl r), q⟩
      | tupK r q => exact ⟨_, _, rfl, sqT_no r, q⟩
  | nw es =>
    obtain ⟨p, vs, rfl, h1, h2, h3⟩ := h
    refine ⟨fun k => ?_, fun k => by cases k; cases h3⟩
    cases k
    obtain ⟨ws, rfl, h3'⟩ := h3.fst
    exact ⟨p, ws, rfl, h2, DatL.goes (goes_less fun a z => Or.inl z) h3'⟩
  | bw es =>
    obtain ⟨p, vs, rfl, h1, h2, h3, h4⟩ := h
    refine ⟨fun k => ?_, fun k => by cases k; cases h4⟩
    cases k
    obtain ⟨ws, rfl, h4'⟩ := h4.fst
    exact ⟨p, ws, rfl, h3, h4'⟩
  | bag => exact ⟨fun k => (by cases k), fun k => (by cases k)⟩
  | exc x => exact ⟨fun k => (by cases k), fun k => (by cases k)⟩

/-! the state of a def -/
def Bd (B0 : Addr → Prop) (δ : DS) (σ : L2.St) : Addr → Prop := fun a => B0 a ∨ ∃ (i : Nat) (ds : D), δ[i]? = some (some (SV.own ds)) ∧ σ[i]? = some (some (V.ref a))
structure Sto (G : Gd) (B0 : Addr → Prop) (H0 : Hp) (δ : DS) (g : Bag) (σ : L2.St) (H : Hp) : Prop where
  len : σ.length = δ.length
  ent : Kp G H0 H
  bg : BagAt G H g
  lb : G.l ≠ G.b
  scr : H0 G.l = some (.lst (g.ns.map V.int))
  b0 : B0 G.b
  hb : (H0 G.b).isSome = true
  al : ∀ a, B0 a → (H a).isSome = true
  val : ∀ (i : Nat) (d : D), δ[i]? = some (some (SV.val d)) → ∃ v, σ[i]? = some (some v) ∧ Dat G (Bd B0 δ σ) H v d
  own : ∀ (i : Nat) (ds : D), δ[i]? = some (some (SV.own ds)) → ∃ p o, σ[i]? = some (some (V.ref p)) ∧ H0 p = none ∧ H p = some o ∧ OwnD G (Bd B0 δ σ) H o ds
  inj : ∀ (i j : Nat) (ds es : D) (p : Addr), δ[i]? = some (some (SV.own ds)) → δ[j]? = some (some (SV.own es)) → σ[i]? = some (some (V.ref p)) → σ[j]? = some (some (V.ref p)) → i = j
  bag : ∀ (i : Nat), δ[i]? = some (some SV.bag) → σ[i]? = some (some (V.ref G.b))
  exc : ∀ (i : Nat) (x : Addr), δ[i]? = some (some (SV.exc x)) → σ[i]? = some (some (V.ref x))
  nb : ∀ (i : Nat) (d : D) (p : Addr), δ[i]? = some (some (SV.own d)) → σ[i]? = some (some (V.ref p)) → ¬ B0 p
section
variable {G : Gd} {B0 : Addr → Prop} {H0 H H' : Hp} {δ : DS} {g g' : Bag} {σ : L2.St}
theorem Sto.bd (S : Sto G B0 H0 δ g σ H) : Bd B0 δ σ G.b := Or.inl S.b0
theorem Sto.h0b (S : Sto G B0 H0 δ g σ H) : (H0 G.b).isSome = true := S.hb
theorem BagAt.some {G : Gd} {H : Hp} {g : Bag} (h : BagAt G H g) : (H G.b).isSome = true := by
  have h' : H G.b = _ := h
  rw [h']
  rfl
/-- an owned object stands, and is not the bag -/
theorem Sto.ownb (S : Sto G B0 H0 δ g σ H) {p : Addr} (h : H0 p = none) : p ≠ G.b := fun z => by
  subst z
  have := S.h0b
  rw [h] at this
  cases this
theorem Sto.alB (S : Sto G B0 H0 δ g σ H) : ∀ a, Bd B0 δ σ a → (H a).isSome = true := fun a h => by
  rcases h with h | ⟨i, ds, h1, h2⟩
  · exact S.al a h
  · obtain ⟨p, vs, e1, e2, e3, _⟩ := S.own i ds h1
    rw [h2] at e1
    cases e1
    rw [e3]
    rfl
theorem Sto.kp (S : Sto G B0 H0 δ g σ H) (k : Kp G H H') (b : BagAt G H' g') (hn : g'.ns = g.ns) : Sto G B0 H0 δ g' σ H' where
  len := S.len
  ent := S.ent.trans k
  bg := b
  lb := S.lb
  scr := by rw [hn]; exact S.scr
  b0 := S.b0
  hb := S.hb
  al := fun a h => by
    by_cases e : a = G.b
    · subst e
      exact b.some
    · have := S.al a h
      cases q : H a with
      | none => rw [q] at this; cases this
      | some o => rw [k a o e q]; rfl
  val := fun i d h => by
    obtain ⟨v, h1, h2⟩ := S.val i d h
    exact ⟨v, h1, Dat.goes (k.goes S.bd) h2⟩
  own := fun i ds h => by
    obtain ⟨p, vs, h1, h2, h3, h4⟩ := S.own i ds h
    exact ⟨p, vs, h1, h2, k p _ (S.ownb h2) h3, OwnD.goes (k.goes S.bd) h4⟩
  inj := S.inj
  bag := S.bag
  exc := S.exc
  nb := S.nb
end

/-! adequacy of a reading -/
def Post (G : Gd) (Bad : Addr → Prop) (W : WX) (σ : L2.St) (H : Hp) (g g' : Bag) (Q : VK) : Rs EV → Prop
  | .ok e => ∀ v H', Kp G H H' → BagAt G H' g' → g'.ns = g.ns → EVok G Bad H H' v e → Q v H'
  | .er x => ∀ cls dx H', Kp G H H' → BagAt G H' g' → g'.ns = g.ns → ExAt G Bad H' cls dx x → W cls dx σ H'
def PostB (G : Gd) (Bad : Addr → Prop) (W : WX) (σ : L2.St) (H : Hp) (g g' : Bag) (Q : Bool → Hp → Prop) : Rs Bool → Prop
  | .ok c => ∀ H', Kp G H H' → BagAt G H' g' → g'.ns = g.ns → Q c H'
  | .er x => ∀ cls dx H', Kp G H H' → BagAt G H' g' → g'.ns = g.ns → ExAt G Bad H' cls dx x → W cls dx σ H'
def PostA (G : Gd) (Bad : Addr → Prop) (W : WX) (σ : L2.St) (H : Hp) (g g' : Bag) (Q : List V → Hp → Prop) : Rs (List EV) → Prop
  | .ok es => ∀ vs H', Kp G H H' → BagAt G H' g' → g'.ns = g.ns → EVs G Bad H H' vs es → Q vs H'
  | .er x => ∀ cls dx H', Kp G H H' → BagAt G H' g' → g'.ns = g.ns → ExAt G Bad H' cls dx x → W cls dx σ H'
/-- te gives what m tells -/
def AE (K : PySem.W.Frag) (cl : Str → Option Addr) (W : WX) (te : TE) (m : DE) : Prop := ∀ (b l : Addr) B0 H0 δ g σ H r g', Sto ⟨K, cl, b, l⟩ B0 H0 δ g σ H → m δ g = some (r, g') → ∀ Q, Post ⟨K, cl, b, l⟩ (Bd B0 δ σ) W σ H g g' Q r → te σ H Q
def AB (K : PySem.W.Frag) (cl : Str → Option Addr) (W : WX) (tt : TT) (m : DB) : Prop := ∀ (b l : Addr) B0 H0 δ g σ H r g', Sto ⟨K, cl, b, l⟩ B0 H0 δ g σ H → m δ g = some (r, g') → ∀ Q, PostB ⟨K, cl, b, l⟩ (Bd B0 δ σ) W σ H g g' Q r → tt σ H Q
def AA (K : PySem.W.Frag) (cl : Str → Option Addr) (W : WX) (ta : TA) (m : DA) : Prop := ∀ (b l : Addr) B0 H0 δ g σ H r g', Sto ⟨K, cl, b, l⟩ B0 H0 δ g σ H → m δ g = some (r, g') → ∀ Q, PostA ⟨K, cl, b, l⟩ (Bd B0 δ σ) W σ H g g' Q r → ta σ H Q


/-! expressions -/
def eVar (i : Nat) : DE := fun δ => match δ[i]? with
  | some (some sv) => mret sv.ev
  | _ => mno
def eC (d : D) : DE := fun _ => mret (.val d)
def e2 (f : EV → EV → M EV) (a b : DE) : DE := fun δ => mbind (a δ) fun x => mbind (b δ) fun y => f x y
def e1 (f : EV → M EV) (a : DE) : DE := fun δ => mbind (a δ) f
def aNil : DA := fun _ => mret []
def aCons (a : DE) (r : DA) : DA := fun δ => mbind (a δ) fun x => mbind (r δ) fun xs => mret (x :: xs)

section
variable {K : PySem.W.Frag} {cl : Str → Option Addr} {W : WX} {ta tb te : TE} {ma mb : DE}
theorem ae_var {i : Nat} : AE K cl W (tVar i) (eVar i) := by
  intro b l B0 H0 δ g σ H r g' S h Q q
  unfold eVar at h
  cases e : δ[i]? with
  | none => rw [e] at h; cases h
  | some o =>
    cases o with
    | none => rw [e] at h; cases h
    | some sv =>
      rw [e] at h
      cases h
      cases sv with
      | val d =>
        obtain ⟨v, h1, h2⟩ := S.val i d e
        exact ⟨v, h1, q v H .refl S.bg rfl h2⟩
      | own ds =>
        obtain ⟨p, vs, h1, h2, h3, h4⟩ := S.own i ds e
        exact ⟨.ref p, h1, q _ H .refl S.bg rfl ⟨p, vs, rfl, Or.inr ⟨i, ds, e, h1⟩, S.ownb h2, h3, h4⟩⟩
      | bag => exact ⟨_, S.bag i e, q _ H .refl S.bg rfl rfl⟩
      | exc x => exact ⟨_, S.exc i x e, q _ H .refl S.bg rfl rfl⟩
theorem ae_c {v : V} {d : D} (h : ∀ G Bad H, Dat G Bad H v d) : AE K cl W (tC v) (eC d) := by
  intro b l B0 H0 δ g σ H r g' S h' Q q
  cases h'
  exact q v H .refl S.bg rfl (h _ _ _)
/-- what follows a first part -/
theorem post_then {G : Gd} {Bad : Addr → Prop} {σ : L2.St} {H : Hp} {g g1 g' : Bag} {Q : VK} {r : Rs EV} {H1 : Hp} (k1 : Kp G H H1) (b1 : BagAt G H1 g1) (n1 : g1.ns = g.ns) (q : Post G Bad W σ H g g' Q r) : Post G Bad W σ H1 g1 g' Q r := by
  cases r with
  | ok e => exact fun v H' k b n h => q v H' (k1.trans k) b (n.trans n1) (evok_from b1.some k1 h)
  | er x => exact fun c d H' k b n h => q c d H' (k1.trans k) b (n.trans n1) h
theorem ae_bind {f : EV → M EV} {tf : V → Hp → VK → Prop} (ha : AE K cl W ta ma)
    (hf : ∀ (b l : Addr) (B0 : Addr → Prop) (H0 : Hp) (δ : DS) (g : Bag) (σ : L2.St) (H H1 : Hp) (x : EV) (v : V) (r : Rs EV) (g' : Bag), Sto ⟨K, cl, b, l⟩ B0 H0 δ g σ H1 → (∀ a, Bd B0 δ σ a → (H a).isSome = true) → EVok ⟨K, cl, b, l⟩ (Bd B0 δ σ) H H1 v x → f x g = some (r, g') → ∀ Q, Post ⟨K, cl, b, l⟩ (Bd B0 δ σ) W σ H1 g g' Q r → tf v H1 Q) :
    AE K cl W (fun σ H Q => ta σ H fun v H1 => tf v H1 Q) (e1 f ma) := by
  intro b l B0 H0 δ g σ H r g' S h Q q
  unfold e1 mbind at h
  cases e : ma δ g with
  | none => rw [e] at h; cases h
  | some p =>
    obtain ⟨r1, g1⟩ := p
    rw [e] at h
    cases r1 with
    | er x =>
      cases h
      exact ha b l B0 H0 δ g σ H _ _ S e _ q
    | ok x =>
      refine ha b l B0 H0 δ g σ H _ _ S e _ fun v H1 k1 b1 n1 h1 => ?_
      exact hf b l B0 H0 δ g1 σ H H1 x v r g' (S.kp k1 b1 n1) S.alB h1 h Q (post_then k1 b1 n1 q)
/-- a rule for two values -/
def R2ok (K : PySem.W.Frag) (cl : Str → Option Addr) (W : WX) (rr : R2) (f : EV → EV → M EV) : Prop :=
  ∀ (b l : Addr) (B0 : Addr → Prop) (H0 : Hp) (δ : DS) (g : Bag) (σ : L2.St) (H H1 : Hp) (x y : EV) (v w : V) (r : Rs EV) (g' : Bag), Sto ⟨K, cl, b, l⟩ B0 H0 δ g σ H1 → (∀ a, Bd B0 δ σ a → (H a).isSome = true) → Kp ⟨K, cl, b, l⟩ H H1 → EVok ⟨K, cl, b, l⟩ (Bd B0 δ σ) H H1 v x → EVok ⟨K, cl, b, l⟩ (Bd B0 δ σ) H H1 w y →
    f x y g = some (r, g') → ∀ Q, Post ⟨K, cl, b, l⟩ (Bd B0 δ σ) W σ H1 g g' Q r → rr v w H1 Q
theorem ae_2 {rr : R2} {f : EV → EV → M EV} (ha : AE K cl W ta ma) (hb : AE K cl W tb mb) (hr : R2ok K cl W rr f) : AE K cl W (tOp rr ta tb) (e2 f ma mb) := by
  intro b l B0 H0 δ g σ H r g' S h Q q
  unfold e2 mbind at h
  cases e : ma δ g with
  | none => rw [e] at h; cases h
  | some p =>
    obtain ⟨r1, g1⟩ := p
    rw [e] at h
    cases r1 with
    | er x =>
      cases h
      exact ha b l B0 H0 δ g σ H _ _ S e _ q
    | ok x =>
      refine ha b l B0 H0 δ g σ H _ _ S e _ fun v H1 k1 b1 n1 h1 => ?_
      dsimp only at h
      have S1 := S.kp k1 b1 n1
      cases e' : mb δ g1 with
      | none => rw [e'] at h; cases h
      | some p =>
        obtain ⟨r2, g2⟩ := p
        rw [e'] at h
        cases r2 with
        | er x =>
          cases h
          exact hb b l B0 H0 δ g1 σ H1 _ _ S1 e' _ (post_then k1 b1 n1 q)
        | ok y =>
          refine hb b l B0 H0 δ g1 σ H1 _ _ S1 e' _ fun w H2 k2 b2 n2 h2 => ?_
          exact hr b l B0 H0 δ g2 σ H H2 x y v w r g' (S1.kp k2 b2 n2) S.alB (k1.trans k2) (evok_kp S.bd S.bg.some k2 h1) (evok_from b1.some k1 h2) h Q (post_then (k1.trans k2) b2 (n2.trans n1) q)
theorem aa_nil : AA K cl W tNil aNil := by
  intro b l B0 H0 δ g σ H r g' S h Q q
  cases h
  exact q [] H .refl S.bg rfl .nil
theorem aa_cons {tr : TA} {mr : DA} (ha : AE K cl W ta ma) (hr : AA K cl W tr mr) : AA K cl W (tCons ta tr) (aCons ma mr) := by
  intro b l B0 H0 δ g σ H r g' S h Q q
  unfold aCons mbind at h
  cases e : ma δ g with
  | none => rw [e] at h; cases h
  | some p =>
    obtain ⟨r1, g1⟩ := p
    rw [e] at h
    cases r1 with
    | er x =>
      cases h
      exact ha b l B0 H0 δ g σ H _ _ S e _ q
    | ok x =>
      refine ha b l B0 H0 δ g σ H _ _ S e _ fun v H1 k1 b1 n1 h1 => ?_
      dsimp only at h
      have S1 := S.kp k1 b1 n1
      cases e' : mr δ g1 with
      | none => rw [e'] at h; cases h
      | some p =>
        obtain ⟨r2, g2⟩ := p
        rw [e'] at h
        cases r2 with
        | er x =>
          cases h
          exact hr b l B0 H0 δ g1 σ H1 _ _ S1 e' _ fun c d H' k b n h => q c d H' (k1.trans k) b (n.trans n1) h
        | ok ys =>
          cases h
          refine hr b l B0 H0 δ g1 σ H1 _ _ S1 e' _ fun ws H2 k2 b2 n2 h2 => ?_
          exact q (v :: ws) H2 (k1.trans k2) b2 (n2.trans n1) (.cons (evok_kp S.bd S.bg.some k2 h1) (evs_from b1.some k1 h2))
end
end Vi

set_option Elab.async false
set_option linter.all false
set_option maxRecDepth 100000
set_option maxHeartbeats 4000000
namespace Vi
open PySem PySem.Spec PyProof.Rows L2

/-! statements -/
inductive Ot where
  | nx (δ : DS)
  | rt (e : EV)
  | bk (δ : DS)
  | ct (δ : DS)
  | er (δ : DS) (x : Xn)
abbrev DT := DS → Bag → Option (Ot × Bag)
def PostS (G : Gd) (B0 : Addr → Prop) (H0 : Hp) (W : WX) (Dn : Ends) (g' : Bag) : Ot → Prop
  | .nx δ' => ∀ σ' H', Sto G B0 H0 δ' g' σ' H' → Dn.nx σ' H'
  | .bk δ' => ∀ σ' H', Sto G B0 H0 δ' g' σ' H' → Dn.bk σ' H'
  | .ct δ' => ∀ σ' H', Sto G B0 H0 δ' g' σ' H' → Dn.ct σ' H'
  | .rt e => ∀ v H', Kp G H0 H' → BagAt G H' g' → H0 G.l = some (.lst (g'.ns.map V.int)) → EVok G B0 H0 H' v e → Dn.rt v H'
  | .er δ' x => ∀ cls dx σ' H', Sto G B0 H0 δ' g' σ' H' → ExAt G (Bd B0 δ' σ') H' cls dx x → W cls dx σ' H'
def AS (K : PySem.W.Frag) (cl : Str → Option Addr) (W : WX) (ts : TS) (m : DT) : Prop := ∀ (b l : Addr) B0 H0 δ g σ H o g', Sto ⟨K, cl, b, l⟩ B0 H0 δ g σ H → m δ g = some (o, g') → ∀ Dn, PostS ⟨K, cl, b, l⟩ B0 H0 W Dn g' o → ts Dn σ H

section
variable {G : Gd} {B0 : Addr → Prop} {H0 H H' : Hp} {δ : DS} {g g' : Bag} {σ : L2.St}
theorem bd_set_sub {i : Nat} {x : Option SV} {v : V} (hx : ∀ ds, x ≠ some (.own ds)) {a : Addr} (h : Bd B0 (δ.set i x) (σ.set i (some v)) a) : Bd B0 δ σ a := by
  rcases h with h | ⟨j, ds, h1, h2⟩
  · exact Or.inl h
  · by_cases e : i = j
    · subst e
      by_cases hi : i < δ.length
      · rw [List.getElem?_set_self hi] at h1
        exact (hx ds (Option.some.inj h1)).elim
      · rw [List.getElem?_eq_none (by simpa using hi)] at h1
        cases h1
    · rw [List.getElem?_set_ne e] at h1 h2
      exact Or.inr ⟨j, ds, h1, h2⟩
/-- a slot gets a thing that is kept -/
theorem Sto.set (S : Sto G B0 H0 δ g σ H) {i : Nat} {v : V} {d : D} (h : Dat G (Bd B0 δ σ) H v d) : Sto G B0 H0 (δ.set i (some (.val d))) g (σ.set i (some v)) H := by
  have sub : ∀ a, Bd B0 (δ.set i (some (.val d))) (σ.set i (some v)) a → Bd B0 δ σ a := fun a => bd_set_sub (fun ds z => by cases z)
  refine ⟨by simp [S.len], S.ent, S.bg, S.lb, S.scr, S.b0, S.hb, S.al, fun j d' hj => ?_, fun j ds hj => ?_, fun j k ds es p hj hk h1 h2 => ?_, fun j hj => ?_, fun j x hj => ?_, fun j ds p hj hp => ?_⟩
  · by_cases e : i = j
    · subst e
      by_cases hi : i < δ.length
      · rw [List.getElem?_set_self hi] at hj
        cases hj
        exact ⟨v, List.getElem?_set_self (by rw [S.len]; exact hi), Dat.goes (goes_less sub) h⟩
      · rw [List.getElem?_eq_none (by simpa using hi)] at hj
        cases hj
    · rw [List.getElem?_set_ne e] at hj
      obtain ⟨u, h1, h2⟩ := S.val j d' hj
      exact ⟨u, by rw [List.getElem?_set_ne e]; exact h1, Dat.goes (goes_less sub) h2⟩
  · by_cases e : i = j
    · subst e
      by_cases hi : i < δ.length
      · rw [List.getElem?_set_self hi] at hj
        cases hj
      · rw [List.getElem?_eq_none (by simpa using hi)] at hj
        cases hj
    · rw [List.getElem?_set_ne e] at hj
      obtain ⟨p, vs, h1, h2, h3, h4⟩ := S.own j ds hj
      exact ⟨p, vs, by rw [List.getElem?_set_ne e]; exact h1, h2, h3, OwnD.goes (goes_less sub) h4⟩
  · have ne : ∀ {j : Nat} {ds : D}, (δ.set i (some (.val d)))[j]? = some (some (.own ds)) → i ≠ j := fun {j ds} hj z => by
      subst z
      by_cases hi : i < δ.length
      · rw [List.getElem?_set_self hi] at hj
        cases hj
      · rw [List.getElem?_eq_none (by simpa using hi)] at hj
        cases hj
    have e1 := ne hj
    have e2 := ne hk
    rw [List.getElem?_set_ne e1] at hj h1
    rw [List.getElem?_set_ne e2] at hk h2
    exact S.inj j k ds es p hj hk h1 h2
  · by_cases e : i = j
    · subst e
      by_cases hi : i < δ.length
      · rw [List.getElem?_set_self hi] at hj
        cases hj
      · rw [List.getElem?_eq_none (by simpa using hi)] at hj
        cases hj
    · rw [List.getElem?_set_ne e] at hj ⊢
      exact S.bag j hj
  · by_cases e : i = j
    · subst e
      by_cases hi : i < δ.length
      · rw [List.getElem?_set_self hi] at hj
        cases hj
      · rw [List.getElem?_eq_none (by simpa using hi)] at hj
        cases hj
    · rw [List.getElem?_set_ne e] at hj ⊢
      exact S.exc j x hj
  · by_cases e : i = j
    · subst e
      by_cases hi : i < δ.length
      · rw [List.getElem?_set_self hi] at hj
        cases hj
      · rw [List.getElem?_eq_none (by simpa using hi)] at hj
        cases hj
    · rw [List.getElem?_set_ne e] at hj hp
      exact S.nb j ds p hj hp
/-- a slot gets a new list of its own; S is the state ahead of its making -/
theorem Sto.setOwn (S : Sto G B0 H0 δ g σ H) (k : Kp G H H') (bg' : BagAt G H' g') (hn : g'.ns = g.ns) {i : Nat} {v : V} {ds : D} (h : EVok G (Bd B0 δ σ) H H' v (.nw ds)) : Sto G B0 H0 (δ.set i (some (.own ds))) g' (σ.set i (some v)) H' := by
  obtain ⟨p, vs, rfl, hp, h1, h2⟩ := h
  have sub : ∀ a, Bd B0 (δ.set i (some (.own ds))) (σ.set i (some (.ref p))) a → Bd B0 δ σ a ∨ a = p := fun a ha => by
    rcases ha with ha | ⟨j, es, a1, a2⟩
    · exact Or.inl (Or.inl ha)
    · by_cases e : i = j
      · subst e
        by_cases hi : i < δ.length
        · rw [List.getElem?_set_self (by rw [S.len]; exact hi)] at a2
          cases a2
          exact Or.inr rfl
        · rw [List.getElem?_eq_none (by simpa using hi)] at a1
          cases a1
      · rw [List.getElem?_set_ne e] at a1 a2
        exact Or.inl (Or.inr ⟨j, es, a1, a2⟩)
  have go : Goes (Bd B0 δ σ) (Bd B0 (δ.set i (some (.own ds))) (σ.set i (some (.ref p)))) H H' := fun a o n e => ⟨k a o (fun z => n (z ▸ S.bd)) e, fun z => by
    rcases sub a z with z | z
    · exact n z
    · subst z
      rw [hp] at e
      cases e⟩
  have S' := S.kp k bg' hn
  have pb : p ≠ G.b := fun z => by
    subst z
    have := S.bg.some
    rw [hp] at this
    cases this
  refine ⟨by simp [S.len], S'.ent, bg', S.lb, S'.scr, S.b0, S.hb, S'.al, fun j d' hj => ?_, fun j es hj => ?_, fun j k ds1 es q hj hk q1 q2 => ?_, fun j hj => ?_, fun j x hj => ?_, fun j es q hj hq => ?_⟩
  · by_cases e : i = j
    · subst e
      by_cases hi : i < δ.length
      · rw [List.getElem?_set_self hi] at hj
        cases hj
      · rw [List.getElem?_eq_none (by simpa using hi)] at hj
        cases hj
    · rw [List.getElem?_set_ne e] at hj
      obtain ⟨u, a1, a2⟩ := S.val j d' hj
      exact ⟨u, by rw [List.getElem?_set_ne e]; exact a1, Dat.goes go a2⟩
  · by_cases e : i = j
    · subst e
      by_cases hi : i < δ.length
      · rw [List.getElem?_set_self hi] at hj
        cases hj
        exact ⟨p, vs, List.getElem?_set_self (by rw [S.len]; exact hi), fresh_kp S.bg.some S.ent hp, h1, OwnD.goes (goes_less sub) h2⟩
      · rw [List.getElem?_eq_none (by simpa using hi)] at hj
        cases hj
    · rw [List.getElem?_set_ne e] at hj
      obtain ⟨q, ws, a1, a2, a3, a4⟩ := S.own j es hj
      exact ⟨q, ws, by rw [List.getElem?_set_ne e]; exact a1, a2, k q _ (S.ownb a2) a3, OwnD.goes go a4⟩
  · have oth : ∀ {j : Nat} {es : D}, i ≠ j → δ[j]? = some (some (.own es)) → σ[j]? = some (some (V.ref p)) → False := fun {j es} _ hj q => by
      obtain ⟨r, ws, a1, a2, a3, _⟩ := S.own j es hj
      rw [q] at a1
      cases a1
      rw [hp] at a3
      cases a3
    have at_i : ∀ {q : Addr}, (σ.set i (some (V.ref p)))[i]? = some (some (V.ref q)) → q = p := fun {q} h => by
      by_cases hi : i < σ.length
      · rw [List.getElem?_set_self hi] at h
        cases h
        rfl
      · rw [List.getElem?_eq_none (by simpa using hi)] at h
        cases h
    by_cases e1 : i = j
    · by_cases e2 : i = k
      · exact e1.symm.trans e2
      · subst e1
        have := at_i q1
        subst this
        rw [List.getElem?_set_ne e2] at hk q2
        exact (oth e2 hk q2).elim
    · by_cases e2 : i = k
      · subst e2
        have := at_i q2
        subst this
        rw [List.getElem?_set_ne e1] at hj q1
        exact (oth e1 hj q1).elim
      · rw [List.getElem?_set_ne e1] at hj q1
        rw [List.getElem?_set_ne e2] at hk q2
        exact S.inj j k ds1 es q hj hk q1 q2
  · by_cases e : i = j
    · subst e
      by_cases hi : i < δ.length
      · rw [List.getElem?_set_self hi] at hj
        cases hj
      · rw [List.getElem?_eq_none (by simpa using hi)] at hj
        cases hj
    · rw [List.getElem?_set_ne e] at hj ⊢
      exact S.bag j hj
  · by_cases e : i = j
    · subst e
      by_cases hi : i < δ.length
      · rw [List.getElem?_set_self hi] at hj
        cases hj
      · rw [List.getElem?_eq_none (by simpa using hi)] at hj
        cases hj
    · rw [List.getElem?_set_ne e] at hj ⊢
      exact S.exc j x hj
  · by_cases e : i = j
    · subst e
      by_cases hi : i < σ.length
      · rw [List.getElem?_set_self hi] at hq
        cases hq
        intro z
        have := S.al p z
        rw [hp] at this
        cases this
      · rw [List.getElem?_eq_none (by simpa using hi)] at hq
        cases hq
    · rw [List.getElem?_set_ne e] at hj hq
      exact S.nb j es q hj hq
/-- an owned list changes: its items become es -/
theorem Sto.wr (S : Sto G B0 H0 δ g σ H) {i : Nat} {ds es : D} {p : Addr} {ws : HO} (hi : δ[i]? = some (some (.own ds))) (hp : σ[i]? = some (some (.ref p))) (h : OwnD G (Bd B0 δ σ) H ws es) : Sto G B0 H0 (δ.set i (some (.own es))) g σ (upd H p ws) := by
  obtain ⟨p', vs, a1, a2, a3, a4⟩ := S.own i ds hi
  rw [hp] at a1
  cases a1
  have il : i < δ.length := (List.getElem?_eq_some_iff.mp hi).1
  have bde : ∀ a, Bd B0 (δ.set i (some (.own es))) σ a ↔ Bd B0 δ σ a := fun a => by
    constructor
    · rintro (h | ⟨j, e2, h1, h2⟩)
      · exact Or.inl h
      · by_cases e : i = j
        · subst e
          exact Or.inr ⟨i, ds, hi, h2⟩
        · rw [List.getElem?_set_ne e] at h1
          exact Or.inr ⟨j, e2, h1, h2⟩
    · rintro (h | ⟨j, e2, h1, h2⟩)
      · exact Or.inl h
      · by_cases e : i = j
        · subst e
          exact Or.inr ⟨i, es, List.getElem?_set_self il, h2⟩
        · exact Or.inr ⟨j, e2, by rw [List.getElem?_set_ne e]; exact h1, h2⟩
  have bp : Bd B0 δ σ p := Or.inr ⟨i, ds, hi, hp⟩
  have go : Goes (Bd B0 δ σ) (Bd B0 (δ.set i (some (.own es))) σ) H (upd H p ws) := fun a o n e => ⟨by rw [upd_ne (fun z => n (by rw [z]; exact bp))]; exact e, fun z => n ((bde a).mp z)⟩
  have pb := S.ownb a2
  refine ⟨by simp [S.len], fun a o n e => ?_, ?_, S.lb, S.scr, S.b0, S.hb, fun a ha => (by unfold upd; split <;> first | rfl | exact S.al a ha), fun j d' hj => ?_, fun j e2 hj => ?_, fun j k d1 d2 q hj hk q1 q2 => ?_, fun j hj => ?_, fun j x hj => ?_, fun j e2 q hj hq => ?_⟩
  · rw [upd_ne (ne_of_none e a2)]
    exact S.ent a o n e
  · show upd H p ws G.b = _
    rw [upd_ne (fun z => pb z.symm)]
    exact S.bg
  · by_cases e : i = j
    · subst e
      rw [List.getElem?_set_self il] at hj
      cases hj
    · rw [List.getElem?_set_ne e] at hj
      obtain ⟨u, b1, b2⟩ := S.val j d' hj
      exact ⟨u, b1, Dat.goes go b2⟩
  · by_cases e : i = j
    · subst e
      rw [List.getElem?_set_self il] at hj
      cases hj
      exact ⟨p, ws, hp, a2, upd_same, OwnD.goes go h⟩
    · rw [List.getElem?_set_ne e] at hj
      obtain ⟨q, us, b1, b2, b3, b4⟩ := S.own j e2 hj
      have qp : q ≠ p := fun z => by
        subst z
        exact e (S.inj i j ds e2 q hi hj hp b1)
      exact ⟨q, us, b1, b2, by rw [upd_ne qp]; exact b3, OwnD.goes go b4⟩
  · have back : ∀ {j : Nat} {e1 : D}, (δ.set i (some (.own es)))[j]? = some (some (.own e1)) → ∃ e0, δ[j]? = some (some (.own e0)) := fun {j e1} h => by
      by_cases e : i = j
      · subst e
        exact ⟨ds, hi⟩
      · rw [List.getElem?_set_ne e] at h
        exact ⟨_, h⟩
    obtain ⟨c1, f1⟩ := back hj
    obtain ⟨c2, f2⟩ := back hk
    exact S.inj j k c1 c2 q f1 f2 q1 q2
  · by_cases e : i = j
    · subst e
      rw [List.getElem?_set_self il] at hj
      cases hj
    · rw [List.getElem?_set_ne e] at hj
      exact S.bag j hj
  · by_cases e : i = j
    · subst e
      rw [List.getElem?_set_self il] at hj
      cases hj
    · rw [List.getElem?_set_ne e] at hj
      exact S.exc j x hj
  · by_cases e : i = j
    · subst e
      exact S.nb i ds q hi hq
    · rw [List.getElem?_set_ne e] at hj
      exact S.nb j e2 q hj hq

/-- an own object is given up: from now on it is kept -/
theorem Sto.rel (S : Sto G B0 H0 δ g σ H) {i : Nat} {d : D} (hi : δ[i]? = some (some (.own d))) : Sto G B0 H0 (δ.set i (some (.val d))) g σ H := by
  obtain ⟨p, o, a1, a2, a3, a4⟩ := S.own i d hi
  have il : i < δ.length := (List.getElem?_eq_some_iff.mp hi).1
  have ne : ∀ {j : Nat} {ds : D}, (δ.set i (some (.val d)))[j]? = some (some (.own ds)) → i ≠ j ∧ δ[j]? = some (some (.own ds)) := fun {j ds} hj => by
    by_cases e : i = j
    · subst e
      rw [List.getElem?_set_self il] at hj
      cases hj
    · rw [List.getElem?_set_ne e] at hj
      exact ⟨e, hj⟩
  have sub : ∀ a, Bd B0 (δ.set i (some (.val d))) σ a → Bd B0 δ σ a := fun a z => by
    rcases z with z | ⟨j, ds, h1, h2⟩
    · exact Or.inl z
    · exact Or.inr ⟨j, ds, (ne h1).2, h2⟩
  have np : ¬ Bd B0 (δ.set i (some (.val d))) σ p := fun z => by
    rcases z with z | ⟨j, ds, h1, h2⟩
    · exact S.nb i d p hi a1 z
    · exact (ne h1).1 (S.inj i j d ds p hi (ne h1).2 a1 h2)
  refine ⟨by simp [S.len], S.ent, S.bg, S.lb, S.scr, S.b0, S.hb, S.al, fun j d' hj => ?_, fun j ds hj => ?_, fun j k ds es q hj hk h1 h2 => S.inj j k ds es q (ne hj).2 (ne hk).2 h1 h2, fun j hj => ?_, fun j x hj => ?_, fun j ds q hj => S.nb j ds q (ne hj).2⟩
  · by_cases e : i = j
    · subst e
      rw [List.getElem?_set_self il] at hj
      cases hj
      exact ⟨_, a1, OwnD.dat np a3 (OwnD.goes (goes_less sub) a4)⟩
    · rw [List.getElem?_set_ne e] at hj
      obtain ⟨v, h1, h2⟩ := S.val j d' hj
      exact ⟨v, h1, Dat.goes (goes_less sub) h2⟩
  · obtain ⟨q, u, h1, h2, h3, h4⟩ := S.own j ds (ne hj).2
    exact ⟨q, u, h1, h2, h3, OwnD.goes (goes_less sub) h4⟩
  · by_cases e : i = j
    · subst e
      rw [List.getElem?_set_self il] at hj
      cases hj
    · rw [List.getElem?_set_ne e] at hj
      exact S.bag j hj
  · by_cases e : i = j
    · subst e
      rw [List.getElem?_set_self il] at hj
      cases hj
    · rw [List.getElem?_set_ne e] at hj
      exact S.exc j x hj

/-! all that stands but what is owned -/
open Classical in
noncomputable def ground (δ : DS) (σ : L2.St) (H : Hp) : Hp := fun a => if ∃ (i : Nat) (ds : D), δ[i]? = some (some (.own ds)) ∧ σ[i]? = some (some (V.ref a)) then none else H a
theorem ground_sub {a : Addr} {o : HO} (h : ground δ σ H a = some o) : H a = some o := by
  unfold ground at h
  split at h
  · cases h
  · exact h
theorem ground_of {a : Addr} {o : HO} (h : H a = some o) (n : ¬ Bd B0 δ σ a) : ground δ σ H a = some o := by
  unfold ground
  rw [if_neg (fun ⟨i, ds, z⟩ => n (Or.inr ⟨i, ds, z⟩))]
  exact h
theorem Sto.h0g (S : Sto G B0 H0 δ g σ H) {a : Addr} {o : HO} (hb : a ≠ G.b) (h : H0 a = some o) : ground δ σ H a = some o := by
  unfold ground
  rw [if_neg]
  · exact S.ent a o hb h
  · rintro ⟨i, ds, h1, h2⟩
    obtain ⟨p, vs, a1, a2, _, _⟩ := S.own i ds h1
    rw [h2] at a1
    cases a1
    rw [a2] at h
    cases h
theorem Sto.gb (S : Sto G B0 H0 δ g σ H) : ground δ σ H G.b = H G.b := by
  unfold ground
  rw [if_neg]
  rintro ⟨i, ds, h1, h2⟩
  obtain ⟨p, vs, a1, a2, _, _⟩ := S.own i ds h1
  rw [h2] at a1
  cases a1
  exact S.ownb a2 rfl
theorem Sto.rebase (S : Sto G B0 H0 δ g σ H) : Sto G B0 (ground δ σ H) δ g σ H := by
  refine ⟨S.len, fun a o _ e => ground_sub e, S.bg, S.lb, S.h0g S.lb S.scr, S.b0, ?_, S.al, S.val, fun i ds h => ?_, S.inj, S.bag, S.exc, S.nb⟩
  · rw [S.gb]
    exact S.bg.some
  · obtain ⟨p, vs, a1, a2, a3, a4⟩ := S.own i ds h
    refine ⟨p, vs, a1, ?_, a3, a4⟩
    unfold ground
    rw [if_pos ⟨i, ds, h, a1⟩]
theorem ground_none {H1 : Hp} (S : Sto G B0 H0 δ g σ H) {p : Addr} (h : ground δ σ H p = none) (pb : p ≠ G.b) : H0 p = none := by
  cases e : H0 p with
  | none => rfl
  | some o =>
    rw [S.h0g pb e] at h
    cases h
theorem Sto.unbase (S : Sto G B0 H0 δ g σ H) {δ' : DS} {σ' : L2.St} (S' : Sto G B0 (ground δ σ H) δ' g' σ' H') : Sto G B0 H0 δ' g' σ' H' := by
  refine ⟨S'.len, fun a o n e => S'.ent a o n (S.h0g n e), S'.bg, S.lb, ?_, S.b0, S.hb, S'.al, S'.val, fun i ds h => ?_, S'.inj, S'.bag, S'.exc, S'.nb⟩
  · have e1 := S'.scr
    rw [S.h0g S.lb S.scr] at e1
    rw [S.scr]
    exact e1
  · obtain ⟨p, vs, a1, a2, a3, a4⟩ := S'.own i ds h
    exact ⟨p, vs, a1, ground_none (H1 := H) S a2 (S'.ownb a2), a3, a4⟩
/-- what was apart from the owned ones stays so -/
theorem Sto.keepD (S : Sto G B0 H0 δ g σ H) {δ' : DS} {σ' : L2.St} (S' : Sto G B0 (ground δ σ H) δ' g' σ' H') {v : V} {d : D} (h : Dat G (Bd B0 δ σ) H v d) : Dat G (Bd B0 δ' σ') H' v d := by
  refine Dat.goes (fun a o n e => ?_) h
  have e0 := ground_of e n
  refine ⟨S'.ent a o (fun z => n (z ▸ S.bd)) e0, fun z => ?_⟩
  rcases z with z | ⟨i, ds, h1, h2⟩
  · exact n (Or.inl z)
  · obtain ⟨p, vs, a1, a2, _, _⟩ := S'.own i ds h1
    rw [h2] at a1
    cases a1
    rw [a2] at e0
    cases e0
theorem Sto.keepE (S : Sto G B0 H0 δ g σ H) {v : V} {e : EV} (h : EVok G B0 (ground δ σ H) H' v e) : EVok G B0 H0 H' v e := by
  cases e with
  | val d => exact h
  | nw ds =>
    obtain ⟨p, vs, rfl, h1, h2, h3⟩ := h
    refine ⟨p, vs, rfl, ground_none (H1 := H) S h1 (fun z => ?_), h2, h3⟩
    subst z
    rw [S.gb] at h1
    have := S.bg.some
    rw [h1] at this
    cases this
  | bw ds => exact h
  | bag => exact h
  | exc x => exact h
theorem Sto.postS (S : Sto G B0 H0 δ g σ H) {W : WX} {Dn : Ends} {o : Ot} (q : PostS G B0 H0 W Dn g' o) : PostS G B0 (ground δ σ H) W Dn g' o := by
  cases o with
  | nx δ' => exact fun σ' H' s => q σ' H' (S.unbase s)
  | bk δ' => exact fun σ' H' s => q σ' H' (S.unbase s)
  | ct δ' => exact fun σ' H' s => q σ' H' (S.unbase s)
  | rt e =>
    refine fun v H' k b sc h => q v H' (fun a o n e => k a o n (S.h0g n e)) b ?_ (S.keepE h)
    rw [S.h0g S.lb S.scr] at sc
    rw [S.scr]
    exact sc
  | er δ' x => exact fun c d σ' H' s h => q c d σ' H' (S.unbase s) h
end

/-! the statements' meanings -/
def sNext : DT := fun δ g => some (.nx δ, g)
def sSeq (a b : DT) : DT := fun δ g => match a δ g with
  | some (.nx δ', g') => b δ' g'
  | r => r
/-- an expression ahead of a statement -/
def sOn (m : DE) (f : EV → DT) : DT := fun δ g => match m δ g with
  | none => none
  | some (.er x, g') => some (.er δ x, g')
  | some (.ok e, g') => f e δ g'
def sOnB (m : DB) (f : Bool → DT) : DT := fun δ g => match m δ g with
  | none => none
  | some (.er x, g') => some (.er δ x, g')
  | some (.ok c, g') => f c δ g'
def retEv : EV → Option EV
  | .val d => some (.val d)
  | .nw ds => some (.nw ds)
  | _ => none
/-- return of a name whose list the def has changed -/
def sRetO (i : Nat) : DT := fun δ g => match δ[i]? with
  | some (some (.own ds)) => some (.rt (.nw ds), g)
  | some (some (.val d)) => some (.rt (.val d), g)
  | _ => none
def sRet (m : DE) : DT := sOn m fun e _ g => (retEv e).map fun r => (Ot.rt r, g)
def sRetN : DT := fun _ g => some (.rt (.val .non), g)
def sDrop (m : DE) : DT := sOn m fun _ δ g => some (.nx δ, g)
def sIf (c : DB) (a b : DT) : DT := sOnB c fun t => if t = true then a else b
/-- a name that is never changed behind -/
def sSet (i : Nat) (m : DE) : DT := sOn m fun e δ g => e.keep.map fun d => (Ot.nx (δ.set i (some (.val d))), g)
/-- a name whose list the def changes -/
def sSetO (i : Nat) (m : DE) : DT := sOn m fun e δ g => match e with
  | .nw ds => some (.nx (δ.set i (some (.own ds))), g)
  | .val d => some (.nx (δ.set i (some (.val d))), g)
  | _ => none
section
variable {K : PySem.W.Frag} {cl : Str → Option Addr} {W : WX} {te : TE} {tt : TT} {m : DE} {mc : DB} {t u : TS} {ma mb : DT}
theorem as_next : AS K cl W tNext sNext := by
  intro b l B0 H0 δ g σ H o g' S h Dn q
  cases h
  exact q σ H S
theorem as_seq (h1 : AS K cl W t ma) (h2 : AS K cl W u mb) : AS K cl W (tSeq t u) (sSeq ma mb) := by
  intro b l B0 H0 δ g σ H o g' S h Dn q
  unfold sSeq at h
  cases e : ma δ g with
  | none => rw [e] at h; cases h
  | some p =>
    obtain ⟨o1, g1⟩ := p
    rw [e] at h
    cases o1 with
    | nx δ1 => exact h1 b l B0 H0 δ g σ H _ _ S e _ fun σ' H' S' => h2 b l B0 H0 δ1 g1 σ' H' _ _ S' h Dn q
    | rt v => cases h; exact h1 b l B0 H0 δ g σ H _ _ S e _ q
    | bk δ1 => cases h; exact h1 b l B0 H0 δ g σ H _ _ S e _ q
    | ct δ1 => cases h; exact h1 b l B0 H0 δ g σ H _ _ S e _ q
    | er δ1 x => cases h; exact h1 b l B0 H0 δ g σ H _ _ S e _ q
/-- the general step: an expression, then what is done with its value -/
theorem as_on {f : EV → DT} {tf : V → TS} (hm : AE K cl W te m)
    (hf : ∀ (b l : Addr) (B0 : Addr → Prop) (H0 : Hp) (δ : DS) (g g1 : Bag) (σ : L2.St) (H H1 : Hp) (e : EV) (v : V) (o : Ot) (g' : Bag), Sto ⟨K, cl, b, l⟩ B0 H0 δ g σ H → Kp ⟨K, cl, b, l⟩ H H1 → BagAt ⟨K, cl, b, l⟩ H1 g1 → g1.ns = g.ns → EVok ⟨K, cl, b, l⟩ (Bd B0 δ σ) H H1 v e → f e δ g1 = some (o, g') →
      ∀ Dn, PostS ⟨K, cl, b, l⟩ B0 H0 W Dn g' o → tf v Dn σ H1) : AS K cl W (fun Dn σ H => te σ H fun v H1 => tf v Dn σ H1) (sOn m f) := by
  intro b l B0 H0 δ g σ H o g' S h Dn q
  unfold sOn at h
  cases e : m δ g with
  | none => rw [e] at h; cases h
  | some p =>
    obtain ⟨r, g1⟩ := p
    rw [e] at h
    cases r with
    | er x =>
      cases h
      exact hm b l B0 H0 δ g σ H _ _ S e _ fun c d H' k bg n hx => q c d σ H' (S.kp k bg n) hx
    | ok ev => exact hm b l B0 H0 δ g σ H _ _ S e _ fun v H1 k bg n hv => hf b l B0 H0 δ g g1 σ H H1 ev v o g' S k bg n hv h Dn q
theorem as_onB {f : Bool → DT} {tf : Bool → TS} (hm : AB K cl W tt mc)
    (hf : ∀ c, AS K cl W (tf c) (f c)) : AS K cl W (fun Dn σ H => tt σ H fun c H1 => tf c Dn σ H1) (sOnB mc f) := by
  intro b l B0 H0 δ g σ H o g' S h Dn q
  unfold sOnB at h
  cases e : mc δ g with
  | none => rw [e] at h; cases h
  | some p =>
    obtain ⟨r, g1⟩ := p
    rw [e] at h
    cases r with
    | er x =>
      cases h
      exact hm b l B0 H0 δ g σ H _ _ S e _ fun c d H' k bg n hx => q c d σ H' (S.kp k bg n) hx
    | ok c => exact hm b l B0 H0 δ g σ H _ _ S e _ fun H1 k bg n => hf c b l B0 H0 δ g1 σ H1 o g' (S.kp k bg n) h Dn q
theorem as_if (hc : AB K cl W tt mc) (ha : AS K cl W t ma) (hb : AS K cl W u mb) : AS K cl W (tIfS tt t u) (sIf mc ma mb) :=
  as_onB (tf := fun c Dn σ H1 => if c = true then t Dn σ H1 else u Dn σ H1) hc fun c => by
    cases c with
    | true => exact ha
    | false => exact hb
theorem as_ret (h : AE K cl W te m) : AS K cl W (tRet te) (sRet m) := by
  refine as_on (tf := fun v Dn _ H1 => Dn.rt v H1) h fun b l B0 H0 δ g g1 σ H H1 e v o g' S k bg n hv h Dn q => ?_
  have S' := S.kp k bg n
  have hb : ∀ a, B0 a → Bd B0 δ σ a := fun a z => Or.inl z
  cases e with
  | val d =>
    cases h
    exact q v H1 S'.ent bg S'.scr (Dat.goes (goes_less hb) hv)
  | nw ds =>
    cases h
    obtain ⟨p, vs, rfl, h1, h2, h3⟩ := hv
    exact q _ H1 S'.ent bg S'.scr ⟨p, vs, rfl, fresh_kp S.bg.some S.ent h1, h2, OwnD.goes (goes_less fun a z => z.elim (fun z => Or.inl (hb a z)) Or.inr) h3⟩
  | bw ds => cases h
  | bag => cases h
  | exc x => cases h
theorem as_retO {i : Nat} : AS K cl W (tRet (tVar i)) (sRetO i) := by
  intro b l B0 H0 δ g σ H o g' S h Dn q
  unfold sRetO at h
  have hb : ∀ a, B0 a → Bd B0 δ σ a := fun a z => Or.inl z
  split at h
  · rename_i ds e
    cases h
    obtain ⟨p, vs, h1, h2, h3, h4⟩ := S.own i ds e
    exact ⟨_, h1, q _ H S.ent S.bg S.scr ⟨p, vs, rfl, h2, h3, OwnD.goes (goes_less fun a z => z.elim (hb a) fun z => by rw [z]; exact Or.inr ⟨i, ds, e, h1⟩) h4⟩⟩
  · rename_i d e
    cases h
    obtain ⟨v, h1, h2⟩ := S.val i d e
    exact ⟨_, h1, q _ H S.ent S.bg S.scr (Dat.goes (goes_less hb) h2)⟩
  · cases h
theorem as_retN : AS K cl W tRetN sRetN := by
  intro b l B0 H0 δ g σ H o g' S h Dn q
  cases h
  exact q _ H S.ent S.bg S.scr (.non)
theorem as_drop (h : AE K cl W te m) : AS K cl W (tDrop te) (sDrop m) :=
  as_on (tf := fun _ Dn σ H1 => Dn.nx σ H1) h fun b l B0 H0 δ g g1 σ H H1 e v o g' S k bg n hv h Dn q => by
    cases h
    exact q σ H1 (S.kp k bg n)
theorem as_set {i : Nat} (h : AE K cl W te m) : AS K cl W (tAsg te (gName i)) (sSet i m) :=
  as_on (tf := fun v Dn σ H1 => Dn.nx (σ.set i (some v)) H1) h fun b l B0 H0 δ g g1 σ H H1 e v o g' S k bg n hv h Dn q => by
    cases hk : e.keep with
    | none => rw [hk] at h; cases h
    | some d =>
      rw [hk] at h
      cases h
      exact q _ H1 ((S.kp k bg n).set (evok_keep S.alB hv hk))
theorem as_setO {i : Nat} (h : AE K cl W te m) : AS K cl W (tAsg te (gName i)) (sSetO i m) :=
  as_on (tf := fun v Dn σ H1 => Dn.nx (σ.set i (some v)) H1) h fun b l B0 H0 δ g g1 σ H H1 e v o g' S k bg n hv h Dn q => by
    cases e with
    | val d =>
      cases h
      exact q _ H1 ((S.kp k bg n).set hv)
    | nw ds =>
      cases h
      exact q _ H1 (S.setOwn k bg n hv)
    | bw ds => cases h
    | bag => cases h
    | exc x => cases h
end
end Vi

set_option Elab.async false
set_option linter.all false
set_option maxRecDepth 100000
set_option maxHeartbeats 4000000
namespace Vi
open PySem PySem.Spec PyProof.Rows L2

/-! values, as data -/
mutual
def toPy : D → Option PyData
  | .non => some .none
  | .bl c => some (.bool c)
  | .int i => some (.int i)
  | .str s => some (.str s)
  | .lst ds => (toPyL ds).map .list
  | .tup ds => (toPyL ds).map .tuple
  | .dct _ => none
  | .obj _ _ => none
def toPyL : List D → Option (List PyData)
  | [] => some []
  | d :: ds => match toPy d, toPyL ds with
    | some p, some ps => some (p :: ps)
    | _, _ => none
end
mutual
theorem dp_of {G : Gd} {Bad : Addr → Prop} {H : Hp} : ∀ {v : V} {d : D} {p : PyData}, Dat G Bad H v d → toPy d = some p → Dp G.K H v p
  | _, _, _, .non, h => by cases h; exact .non
  | _, _, _, .bl c, h => by cases h; exact .bl c
  | _, _, _, .int i, h => by cases h; exact .int i
  | _, _, _, .str s, h => by cases h; exact .str s
  | _, _, _, .lstH n e r, h => by
    unfold toPy at h
    obtain ⟨ps, h1, h2⟩ := Option.map_eq_some_iff.mp h
    subst h2
    exact .lst (Or.inl (Or.inl e)) (dpl_of r h1)
  | _, _, _, .tupH n e r, h => by
    unfold toPy at h
    obtain ⟨ps, h1, h2⟩ := Option.map_eq_some_iff.mp h
    subst h2
    exact .tup (Or.inl (Or.inl e)) (dpl_of r h1)
  | _, _, _, .tupK e r, h => by
    unfold toPy at h
    obtain ⟨ps, h1, h2⟩ := Option.map_eq_some_iff.mp h
    subst h2
    exact .tup (sqT_no e) (dpl_of r h1)
  | _, _, _, .dct _ _ _, h => by unfold toPy at h; cases h
  | _, _, _, .obj _ _ _ _, h => by unfold toPy at h; cases h
theorem dpl_of {G : Gd} {Bad : Addr → Prop} {H : Hp} : ∀ {v : List V} {d : List D} {p : List PyData}, DatL G Bad H v d → toPyL d = some p → DpAll G.K H v p
  | _, _, _, .nil, h => by unfold toPyL at h; cases h; exact .nil
  | _, _, _, .cons a r, h => by
    unfold toPyL at h
    split at h
    · rename_i p ps h1 h2
      cases h
      exact .cons (dp_of a h1) (dpl_of r h2)
    · cases h
end

section
variable {K : PySem.W.Frag} {cl : Str → Option Addr} {W : WX} {ta tb te : TE} {tt tu : TT} {ma mb : DE} {mt mu : DB}

/-! truths -/
def bOf (m : DE) : DB := fun δ => mbind (m δ) fun e => match e with
  | .val (.bl c) => mret c
  | _ => mno
def bAnd (a b : DB) : DB := fun δ => mbind (a δ) fun c => if c = true then b δ else mret false
def bOr (a b : DB) : DB := fun δ => mbind (a δ) fun c => if c = true then mret true else b δ
def bNot (a : DB) : DB := fun δ => mbind (a δ) fun c => mret (!c)
def bYes : DB := fun _ => mret true
def eAnd (a b : DE) : DE := fun δ => mbind (a δ) fun e => match e with
  | .val (.bl c) => if c = true then b δ else mret (.val (.bl false))
  | _ => mno
def eOr (a b : DE) : DE := fun δ => mbind (a δ) fun e => match e with
  | .val (.bl c) => if c = true then mret (.val (.bl true)) else b δ
  | _ => mno
def eNot (a : DE) : DE := e1 (fun e => match e with
  | .val (.bl c) => mret (.val (.bl (!c)))
  | _ => mno) a
def eIf (c : DB) (a b : DE) : DE := fun δ => mbind (c δ) fun t => if t = true then a δ else b δ
theorem datbl {G : Gd} {Bad : Addr → Prop} {H : Hp} {v : V} {c : Bool} (h : Dat G Bad H v (.bl c)) : v = .bl c := by cases h; rfl
theorem datint {G : Gd} {Bad : Addr → Prop} {H : Hp} {v : V} {c : Int} (h : Dat G Bad H v (.int c)) : v = .int c := by cases h; rfl
theorem datstr {G : Gd} {Bad : Addr → Prop} {H : Hp} {v : V} {c : Str} (h : Dat G Bad H v (.str c)) : v = .str c := by cases h; rfl

/-- the two readings of a first part -/
theorem mb_cases {α β : Type} {m : M α} {f : α → M β} {g : Bag} {r : Rs β} {g' : Bag} (h : mbind m f g = some (r, g')) :
    (∃ x, m g = some (.er x, g') ∧ r = .er x) ∨ ∃ a g1, m g = some (.ok a, g1) ∧ f a g1 = some (r, g') := by
  unfold mbind at h
  split at h
  · cases h
  · rename_i x g1 e
    cases h
    exact Or.inl ⟨x, e, rfl⟩
  · rename_i a g1 e
    exact Or.inr ⟨a, g1, e, h⟩
theorem postb_then {G : Gd} {Bad : Addr → Prop} {σ : L2.St} {H : Hp} {g g1 g' : Bag} {Q : Bool → Hp → Prop} {r : Rs Bool} {H1 : Hp} (k1 : Kp G H H1) (n1 : g1.ns = g.ns) (q : PostB G Bad W σ H g g' Q r) : PostB G Bad W σ H1 g1 g' Q r := by
  cases r with
  | ok e => exact fun H' k b n => q H' (k1.trans k) b (n.trans n1)
  | er x => exact fun c d H' k b n h => q c d H' (k1.trans k) b (n.trans n1) h
theorem ab_of (h : AE K cl W te ma) : AB K cl W (tTest te) (bOf ma) := by
  intro b l B0 H0 δ g σ H r g' S hm Q q
  rcases mb_cases hm with ⟨x, e, rfl⟩ | ⟨a, g1, e, hm⟩
  · exact h b l B0 H0 δ g σ H _ _ S e _ q
  · refine h b l B0 H0 δ g σ H _ _ S e _ fun v H1 k1 b1 n1 hv => ?_
    split at hm
    · rename_i c
      cases hm
      exact ⟨c, datbl hv, q H1 k1 b1 n1⟩
    · cases hm
theorem ab_ofB (h : AE K cl W te ma) : AB K cl W (tB te) (bOf ma) := ab_of h
theorem ab_and (h1 : AB K cl W tt mt) (h2 : AB K cl W tu mu) : AB K cl W (tAnd tt tu) (bAnd mt mu) := by
  intro b l B0 H0 δ g σ H r g' S hm Q q
  rcases mb_cases hm with ⟨x, e, rfl⟩ | ⟨a, g1, e, hm⟩
  · exact h1 b l B0 H0 δ g σ H _ _ S e _ q
  · refine h1 b l B0 H0 δ g σ H _ _ S e _ fun H1 k1 b1 n1 => ?_
    cases a with
    | true => exact h2 b l B0 H0 δ g1 σ H1 _ _ (S.kp k1 b1 n1) hm Q (postb_then k1 n1 q)
    | false => cases hm; exact q H1 k1 b1 n1
theorem ab_or (h1 : AB K cl W tt mt) (h2 : AB K cl W tu mu) : AB K cl W (tOr tt tu) (bOr mt mu) := by
  intro b l B0 H0 δ g σ H r g' S hm Q q
  rcases mb_cases hm with ⟨x, e, rfl⟩ | ⟨a, g1, e, hm⟩
  · exact h1 b l B0 H0 δ g σ H _ _ S e _ q
  · refine h1 b l B0 H0 δ g σ H _ _ S e _ fun H1 k1 b1 n1 => ?_
    cases a with
    | false => exact h2 b l B0 H0 δ g1 σ H1 _ _ (S.kp k1 b1 n1) hm Q (postb_then k1 n1 q)
    | true => cases hm; exact q H1 k1 b1 n1
theorem ab_not (h1 : AB K cl W tt mt) : AB K cl W (tNot tt) (bNot mt) := by
  intro b l B0 H0 δ g σ H r g' S hm Q q
  rcases mb_cases hm with ⟨x, e, rfl⟩ | ⟨a, g1, e, hm⟩
  · exact h1 b l B0 H0 δ g σ H _ _ S e _ q
  · cases hm
    exact h1 b l B0 H0 δ g σ H _ _ S e _ fun H1 k1 b1 n1 => q H1 k1 b1 n1
theorem ab_yes : AB K cl W tYes bYes := by
  intro b l B0 H0 δ g σ H r g' S hm Q q
  cases hm
  exact q H .refl S.bg rfl
theorem ae_and (h1 : AE K cl W ta ma) (h2 : AE K cl W tb mb) : AE K cl W (tAndV ta tb) (eAnd ma mb) := by
  intro b l B0 H0 δ g σ H r g' S hm Q q
  rcases mb_cases hm with ⟨x, e, rfl⟩ | ⟨a, g1, e, hm⟩
  · exact h1 b l B0 H0 δ g σ H _ _ S e _ q
  · refine h1 b l B0 H0 δ g σ H _ _ S e _ fun v H1 k1 b1 n1 hv => ?_
    split at hm
    · rename_i c
      refine ⟨c, datbl hv, ?_⟩
      cases c with
      | true => exact h2 b l B0 H0 δ g1 σ H1 _ _ (S.kp k1 b1 n1) hm Q (post_then k1 b1 n1 q)
      | false => cases hm; exact q _ H1 k1 b1 n1 (.bl false)
    · cases hm
theorem ae_or (h1 : AE K cl W ta ma) (h2 : AE K cl W tb mb) : AE K cl W (tOrV ta tb) (eOr ma mb) := by
  intro b l B0 H0 δ g σ H r g' S hm Q q
  rcases mb_cases hm with ⟨x, e, rfl⟩ | ⟨a, g1, e, hm⟩
  · exact h1 b l B0 H0 δ g σ H _ _ S e _ q
  · refine h1 b l B0 H0 δ g σ H _ _ S e _ fun v H1 k1 b1 n1 hv => ?_
    split at hm
    · rename_i c
      refine ⟨c, datbl hv, ?_⟩
      cases c with
      | false => exact h2 b l B0 H0 δ g1 σ H1 _ _ (S.kp k1 b1 n1) hm Q (post_then k1 b1 n1 q)
      | true => cases hm; exact q _ H1 k1 b1 n1 (.bl true)
    · cases hm
theorem ae_not (h1 : AE K cl W ta ma) : AE K cl W (tNotV ta) (eNot ma) := by
  intro b l B0 H0 δ g σ H r g' S hm Q q
  rcases mb_cases hm with ⟨x, e, rfl⟩ | ⟨a, g1, e, hm⟩
  · exact h1 b l B0 H0 δ g σ H _ _ S e _ q
  · refine h1 b l B0 H0 δ g σ H _ _ S e _ fun v H1 k1 b1 n1 hv => ?_
    split at hm
    · rename_i c
      cases hm
      exact ⟨c, datbl hv, q _ H1 k1 b1 n1 (.bl _)⟩
    · cases hm
theorem ae_if (h0 : AB K cl W tt mt) (h1 : AE K cl W ta ma) (h2 : AE K cl W tb mb) : AE K cl W (tIf tt ta tb) (eIf mt ma mb) := by
  intro b l B0 H0 δ g σ H r g' S hm Q q
  rcases mb_cases hm with ⟨x, e, rfl⟩ | ⟨a, g1, e, hm⟩
  · exact h0 b l B0 H0 δ g σ H _ _ S e _ q
  · refine h0 b l B0 H0 δ g σ H _ _ S e _ fun H1 k1 b1 n1 => ?_
    cases a with
    | true => exact h1 b l B0 H0 δ g1 σ H1 _ _ (S.kp k1 b1 n1) hm Q (post_then k1 b1 n1 q)
    | false => exact h2 b l B0 H0 δ g1 σ H1 _ _ (S.kp k1 b1 n1) hm Q (post_then k1 b1 n1 q)

/-! two ints -/
def mI (F : Int → Int → D) : EV → EV → M EV := fun x y => match x, y with
  | .val (.int i), .val (.int j) => mret (.val (F i j))
  | _, _ => mno
def mIc (C : Int → Int → Bool) (F : Int → Int → D) : EV → EV → M EV := fun x y => match x, y with
  | .val (.int i), .val (.int j) => if C i j = true then mret (.val (F i j)) else mno
  | _, _ => mno
theorem r2_I0 {f : Int → Int → V} {F : Int → Int → D} (hF : ∀ G Bad H i j, Dat G Bad H (f i j) (F i j)) : R2ok K cl W (rI0 f) (mI F) := by
  intro b l B0 H0 δ g σ H H1 x y v w r g' S al k hv hw hm Q q
  unfold mI at hm
  split at hm
  · rename_i i j
    cases hm
    exact ⟨i, j, datint hv, datint hw, q _ H1 .refl S.bg rfl (hF _ _ _ i j)⟩
  · cases hm
theorem r2_I {f : Int → Int → V} {F : Int → Int → D} {C : Int → Int → Prop} {Cb : Int → Int → Bool} (hF : ∀ G Bad H i j, Dat G Bad H (f i j) (F i j)) (hC : ∀ i j, Cb i j = true → C i j) : R2ok K cl W (rI C f) (mIc Cb F) := by
  intro b l B0 H0 δ g σ H H1 x y v w r g' S al k hv hw hm Q q
  unfold mIc at hm
  split at hm
  · rename_i i j
    split at hm
    · rename_i hc
      cases hm
      exact ⟨i, j, datint hv, datint hw, hC i j hc, q _ H1 .refl S.bg rfl (hF _ _ _ i j)⟩
    · cases hm
  · cases hm
def mSub := mI fun i j => .int (i - j)
def mLt := mI fun i j => .bl (decide (i < j))
def mLe := mI fun i j => .bl (decide (i ≤ j))
def mGt := mI fun i j => .bl (decide (j < i))
def mGe := mI fun i j => .bl (decide (j ≤ i))
theorem r2_sub : R2ok K cl W (rI0 fun i j => .int (i - j)) mSub := r2_I0 fun _ _ _ _ _ => .int _
theorem r2_lt : R2ok K cl W (rI0 fun i j => .bl (decide (i < j))) mLt := r2_I0 fun _ _ _ _ _ => .bl _
theorem r2_le : R2ok K cl W (rI0 fun i j => .bl (decide (i ≤ j))) mLe := r2_I0 fun _ _ _ _ _ => .bl _
theorem r2_gt : R2ok K cl W (rI0 fun i j => .bl (decide (j < i))) mGt := r2_I0 fun _ _ _ _ _ => .bl _
theorem r2_ge : R2ok K cl W (rI0 fun i j => .bl (decide (j ≤ i))) mGe := r2_I0 fun _ _ _ _ _ => .bl _
def mPow := mIc (fun i j => decide (i = 10) && decide (0 ≤ j) && decide (j ≤ 100)) fun i j => .int (i ^ j.toNat)

/-! a new object -/
theorem bag_upd {G : Gd} {H : Hp} {g : Bag} {p : Addr} {o : HO} (b : BagAt G H g) (h : H p = none) : BagAt G (upd H p o) g := by
  show upd H p o G.b = _
  rw [upd_ne (ne_of_none b h)]
  exact b
theorem goes_new {Bad : Addr → Prop} {H : Hp} {p : Addr} {o : HO} (h : H p = none) : Goes Bad (With Bad p) H (upd H p o) := fun a u n e => ⟨by rw [upd_ne (ne_of_none e h)]; exact e, fun z => by
  rcases z with z | z
  · exact n z
  · subst z
    rw [h] at e
    cases e⟩
theorem goes_new' {Bad : Addr → Prop} {H : Hp} {p : Addr} {o : HO} (h : H p = none) : Goes Bad Bad H (upd H p o) := fun a u n e => ⟨by rw [upd_ne (ne_of_none e h)]; exact e, n⟩
def lineOk (n : Nat) : Bool := decide (n ≤ 100000)
theorem line_of {n : Nat} (h : lineOk n = true) : n ≤ sizeLine := Nat.le_trans (of_decide_eq_true h) (by decide)

/-! + -/
def rAddU (K : PySem.W.Frag) : R2 := fun x y H Q => rI0 (fun i j => .int (i + j)) x y H Q ∨ rCat x y H Q ∨ (∃ i j, x = .str i ∧ y = .str j ∧ i.length + j.length ≤ sizeLine ∧ Q (.str (i ++ j)) H)
/-- by what two values look like -/
def mL2 (f : D → D → Option EV) : EV → EV → M EV := fun x y => match x.look with
  | none => mno
  | some a => match y.look with
    | none => mno
    | some c => mof (f a c)
theorem mL2_cases {f : D → D → Option EV} {x y : EV} {g g' : Bag} {r : Rs EV} (h : mL2 f x y g = some (r, g')) : ∃ a c e, x.look = some a ∧ y.look = some c ∧ f a c = some e ∧ r = .ok e ∧ g' = g := by
  unfold mL2 at h
  cases hx : x.look with
  | none => rw [hx] at h; cases h
  | some a =>
    rw [hx] at h
    cases hy : y.look with
    | none => rw [hy] at h; cases h
    | some c =>
      rw [hy] at h
      dsimp only [mof] at h
      cases hf : f a c with
      | none => rw [hf] at h; cases h
      | some e =>
        rw [hf] at h
        cases h
        exact ⟨a, c, e, rfl, rfl, hf, rfl, rfl⟩
def addD : D → D → Option EV
  | .int i, .int j => some (.val (.int (i + j)))
  | .lst as, .lst bs => if lineOk (as.length + bs.length) = true then some (.nw (.lst (as ++ bs))) else none
  | .str a, .str c => if lineOk (a.length + c.length) = true then some (.val (.str (a ++ c))) else none
  | _, _ => none
def mAdd := mL2 addD
theorem look_int {G : Gd} {Bad : Addr → Prop} {H H' : Hp} {v : V} {e : EV} {i : Int} (h : EVok G Bad H H' v e) (k : e.look = some (.int i)) : v = .int i := datint (evok_look h k)
theorem look_str {G : Gd} {Bad : Addr → Prop} {H H' : Hp} {v : V} {e : EV} {i : Str} (h : EVok G Bad H H' v e) (k : e.look = some (.str i)) : v = .str i := datstr (evok_look h k)
theorem r2_add : R2ok K cl W (rAddU K) mAdd := by
  intro b l B0 H0 δ g σ H H1 x y v w r g' S al k hv hw hm Q q
  obtain ⟨dx, dy, e, ex, ey, hf, rfl, rfl⟩ := mL2_cases hm
  unfold addD at hf
  split at hf
  · rename_i i j
    cases hf
    exact Or.inl ⟨i, j, look_int hv ex, look_int hw ey, q _ H1 .refl S.bg rfl (.int _)⟩
  · rename_i as bs
    split at hf
    · rename_i hl
      cases hf
      obtain ⟨a, vs, rfl, h1, r1⟩ := (evok_items hv).1 ex
      obtain ⟨c, ws, rfl, h2, r2⟩ := (evok_items hw).1 ey
      refine Or.inr (Or.inl ⟨a, c, vs, ws, rfl, rfl, h1, h2, ?_, fun p hp => ?_⟩)
      · rw [r1.len, r2.len]
        exact line_of hl
      · exact q _ _ (Kp.new hp) (bag_upd S.bg hp) rfl ⟨p, _, rfl, hp, upd_same, .lst (DatL.goes (goes_new hp) (r1.append r2))⟩
    · cases hf
  · rename_i a c
    split at hf
    · rename_i hl
      cases hf
      exact Or.inr (Or.inr ⟨a, c, look_str hv ex, look_str hw ey, line_of hl, q _ H1 .refl S.bg rfl (.str _)⟩)
    · cases hf
  · cases hf
theorem opr_or {X : Cx} {f : Value → Value → Sem Value} {r r' : R2} (h : OpR X f r) (h' : OpR X f r') : OpR X f (fun x y H Q => r x y H Q ∨ r' x y H Q) := by
  intro pins s σ H x y v u Q I rx ry hq
  rcases hq with hq | hq
  · exact h pins s σ H x y v u Q I rx ry hq
  · exact h' pins s σ H x y v u Q I rx ry hq

/-! == of data -/
def eqD (a c : D) : Option Bool := match toPy a with
  | none => none
  | some p => match toPy c with
    | none => none
    | some q => if (SeqAt.shaped p && SeqAt.shaped q) = true then some (PyData.eqv p q) else none
theorem eqD_cases {a c : D} {t : Bool} (h : eqD a c = some t) : ∃ p q, toPy a = some p ∧ toPy c = some q ∧ SeqAt.shaped p = true ∧ SeqAt.shaped q = true ∧ PyData.eqv p q = t := by
  unfold eqD at h
  cases ha : toPy a with
  | none => rw [ha] at h; cases h
  | some p =>
    rw [ha] at h
    cases hc : toPy c with
    | none => rw [hc] at h; cases h
    | some q =>
      rw [hc] at h
      dsimp only at h
      split at h
      · rename_i hs
        rw [Bool.and_eq_true] at hs
        cases h
        exact ⟨p, q, rfl, rfl, hs.1, hs.2, rfl⟩
      · cases h
/-- of two strings all, else of what has a shape -/
def eqU (a c : D) : Option Bool := match a, c with
  | .str x, .str y => some (decide (x = y))
  | a, c => eqD a c
theorem eqU_cases {a c : D} {t : Bool} (h : eqU a c = some t) : (∃ x y, a = .str x ∧ c = .str y ∧ t = decide (x = y)) ∨ eqD a c = some t := by
  unfold eqU at h
  split at h
  · cases h
    exact Or.inl ⟨_, _, rfl, rfl, rfl⟩
  · exact Or.inr h
def rEqU (K : PySem.W.Frag) : R2 := fun x y H Q => rEq x y H Q ∨ rEqD K x y H Q
def rNeU (K : PySem.W.Frag) : R2 := fun x y H Q => rNe x y H Q ∨ rNeD K x y H Q
theorem op_eqU {X : Cx} (hu : X.A.units + 64 < cLine) : OpR X (compareOp .Eq) (rEqU X.K) := opr_or op_eq (op_eqD hu)
theorem op_neU {X : Cx} (hu : X.A.units + 64 < cLine) : OpR X (compareOp .NotEq) (rNeU X.K) := opr_or op_ne (op_neD hu)
theorem dec_str {x y : Str} : decide (V.str x = V.str y) = decide (x = y) := by
  rw [Bool.eq_iff_iff]
  simp
def mEq := mL2 fun a c => (eqU a c).map fun t => .val (.bl t)
def mNe := mL2 fun a c => (eqU a c).map fun t => .val (.bl (!t))
theorem r2_eq : R2ok K cl W (rEqU K) mEq := by
  intro b l B0 H0 δ g σ H H1 x y v w r g' S al k hv hw hm Q q
  obtain ⟨dx, dy, e, ex, ey, hf, rfl, rfl⟩ := mL2_cases hm
  obtain ⟨t, h1, h2⟩ := Option.map_eq_some_iff.mp hf
  subst h2
  rcases eqU_cases h1 with ⟨s, s', rfl, rfl, rfl⟩ | h1
  · obtain rfl := look_str hv ex
    obtain rfl := look_str hw ey
    refine Or.inl ⟨rfl, ?_⟩
    rw [dec_str]
    exact q _ H1 .refl S.bg rfl (.bl _)
  obtain ⟨p, p', hp, hp', s1, s2, rfl⟩ := eqD_cases h1
  exact Or.inr ⟨p, p', dp_of (evok_look hv ex) hp, dp_of (evok_look hw ey) hp', s1, s2, q _ H1 .refl S.bg rfl (.bl _)⟩
theorem r2_ne : R2ok K cl W (rNeU K) mNe := by
  intro b l B0 H0 δ g σ H H1 x y v w r g' S al k hv hw hm Q q
  obtain ⟨dx, dy, e, ex, ey, hf, rfl, rfl⟩ := mL2_cases hm
  obtain ⟨t, h1, h2⟩ := Option.map_eq_some_iff.mp hf
  subst h2
  rcases eqU_cases h1 with ⟨s, s', rfl, rfl, rfl⟩ | h1
  · obtain rfl := look_str hv ex
    obtain rfl := look_str hw ey
    refine Or.inl ⟨rfl, ?_⟩
    rw [dec_str]
    exact q _ H1 .refl S.bg rfl (.bl _)
  obtain ⟨p, p', hp, hp', s1, s2, rfl⟩ := eqD_cases h1
  exact Or.inr ⟨p, p', dp_of (evok_look hv ex) hp, dp_of (evok_look hw ey) hp', s1, s2, q _ H1 .refl S.bg rfl (.bl _)⟩

/-! a < b <= c -/
def eChain (f f' : EV → EV → M EV) (a c d : DE) : DE := fun δ => mbind (a δ) fun x => mbind (c δ) fun y => mbind (f x y) fun z => match z with
  | .val (.bl t) => if t = true then mbind (d δ) fun u => f' y u else mret (.val (.bl false))
  | _ => mno
theorem ae_chain {tc : TE} {mc : DE} {r r' : R2} {f f' : EV → EV → M EV} (ha : AE K cl W ta ma) (hb : AE K cl W tb mb) (hc : AE K cl W tc mc) (hr : R2ok K cl W r f) (hr' : R2ok K cl W r' f') : AE K cl W (tChain r r' ta tb tc) (eChain f f' ma mb mc) := by
  intro b l B0 H0 δ g σ H rr g' S hm Q q
  rcases mb_cases hm with ⟨x, e, rfl⟩ | ⟨x, g1, e, hm⟩
  · exact ha b l B0 H0 δ g σ H _ _ S e _ q
  refine ha b l B0 H0 δ g σ H _ _ S e _ fun v H1 k1 b1 n1 h1 => ?_
  have S1 := S.kp k1 b1 n1
  have q1 := post_then k1 b1 n1 q
  rcases mb_cases hm with ⟨xx, e', rfl⟩ | ⟨y, g2, e', hm⟩
  · exact hb b l B0 H0 δ g1 σ H1 _ _ S1 e' _ q1
  refine hb b l B0 H0 δ g1 σ H1 _ _ S1 e' _ fun w H2 k2 b2 n2 h2 => ?_
  have S2 := S1.kp k2 b2 n2
  have q2 := post_then k2 b2 n2 q1
  have e1 := evok_kp S.bd S.bg.some k2 h1
  have e2 := evok_from b1.some k1 h2
  rcases mb_cases hm with ⟨xx, e'', rfl⟩ | ⟨z, g3, e'', hm⟩
  · exact hr b l B0 H0 δ g2 σ H H2 x y v w _ _ S2 S.alB (k1.trans k2) e1 e2 e'' _ q2
  refine hr b l B0 H0 δ g2 σ H H2 x y v w _ _ S2 S.alB (k1.trans k2) e1 e2 e'' _ fun u H3 k3 b3 n3 h3 => ?_
  split at hm
  · rename_i t
    refine ⟨t, datbl h3, ?_⟩
    have S3 := S2.kp k3 b3 n3
    have q3 := post_then k3 b3 n3 q2
    cases t with
    | false =>
      cases hm
      exact q3 _ H3 .refl b3 rfl (.bl false)
    | true =>
      show tc σ H3 fun w' H4 => r' w w' H4 Q
      rcases mb_cases hm with ⟨xx, e3, rfl⟩ | ⟨u', g4, e3, hm⟩
      · exact hc b l B0 H0 δ g3 σ H3 _ _ S3 e3 _ q3
      refine hc b l B0 H0 δ g3 σ H3 _ _ S3 e3 _ fun w' H4 k4 b4 n4 h4 => ?_
      have k24 := k3.trans k4
      have k14 := (k1.trans k2).trans k24
      exact hr' b l B0 H0 δ g4 σ H H4 y u' w w' _ _ (S3.kp k4 b4 n4) S.alB k14 (evok_kp S.bd S.bg.some k24 e2) (evok_from b3.some ((k1.trans k2).trans k3) h4) hm Q (post_then k4 b4 n4 q3)
  · cases hm
end
end Vi

set_option Elab.async false
set_option linter.all false
set_option maxRecDepth 100000
set_option maxHeartbeats 4000000
namespace Vi
open PySem PySem.Spec PyProof.Rows L2

/-! what is walked -/
def ItW (J : It) (vs : List V) (st : Hp → Prop) : Prop :=
  (∀ i H, st H → i < vs.length → J.go i H ∧ ∀ x H', J.yld i H x H' → H' = H ∧ vs[i]? = some x) ∧ ∀ H, st H → J.stop vs.length H
theorem itw_list {K : PySem.W.Frag} {a : Addr} {vs : List V} : ItW (Itl K a) vs (fun H => SqL K H a vs) := by
  refine ⟨fun i H s h => ⟨⟨vs, vs[i], s, by simp [h]⟩, fun x H' y => ?_⟩, fun H s => ⟨vs, s, Nat.le_refl _⟩⟩
  obtain ⟨e, y⟩ := y
  exact ⟨e, y vs s⟩
theorem itw_tup {K : PySem.W.Frag} {a : Addr} {vs : List V} : ItW (Itt K a) vs (fun H => SqT K H a vs) := by
  refine ⟨fun i H s h => ⟨⟨vs, vs[i], s, by simp [h]⟩, fun x H' y => ?_⟩, fun H s => ⟨vs, s, Nat.le_refl _⟩⟩
  obtain ⟨e, y⟩ := y
  exact ⟨e, y vs s⟩
def rngV (lo : Int) (n : Nat) : List V := (List.range n).map fun i : Nat => V.int (lo + (i : Int))
def rngD (lo : Int) (n : Nat) : List D := (List.range n).map fun i : Nat => D.int (lo + (i : Int))
theorem rng_dat {G : Gd} {Bad : Addr → Prop} {H : Hp} {lo : Int} : ∀ ns : List Nat, DatL G Bad H (ns.map fun i : Nat => V.int (lo + (i : Int))) (ns.map fun i : Nat => D.int (lo + (i : Int)))
  | [] => .nil
  | _ :: r => .cons (.int _) (rng_dat r)
theorem itw_range {lo : Int} {n : Nat} : ItW (Itr lo n) (rngV lo n) (fun _ => True) := by
  have hl : (rngV lo n).length = n := by simp [rngV]
  refine ⟨fun i H _ h => ⟨by rw [hl] at h; exact h, fun x H' y => ?_⟩, fun H _ => by rw [hl]; exact Nat.le_refl n⟩
  obtain ⟨e, y⟩ := y
  subst y
  rw [hl] at h
  exact ⟨e, by simp [rngV, h]⟩
/-- nothing is new, or one thing -/
def Grow (H H' : Hp) : Prop := H' = H ∨ ∃ T o, H T = none ∧ H' = upd H T o
theorem Grow.sto {G : Gd} {B0 : Addr → Prop} {H0 H H' : Hp} {δ : DS} {g : Bag} {σ : L2.St} (w : Grow H H') (S : Sto G B0 H0 δ g σ H) : Sto G B0 H0 δ g σ H' ∧ Kp G H H' := by
  rcases w with rfl | ⟨T, o, h, rfl⟩
  · exact ⟨S, .refl⟩
  · exact ⟨S.kp (Kp.new h) (bag_upd S.bg h) rfl, Kp.new h⟩
/-- what a walk gives: at each later state -/
def ItOk (G : Gd) (Bad : Addr → Prop) (H : Hp) (J : It) (ds : List D) : Prop :=
  ∀ (Bad' : Addr → Prop) (H' : Hp), Goes Bad Bad' H H' → (∀ a, Bad' a → (H' a).isSome = true) → (∀ i d, ds[i]? = some d → J.go i H' ∧ ∀ x H'', J.yld i H' x H'' → Grow H' H'' ∧ Dat G Bad' H'' x d) ∧ J.stop ds.length H'
theorem Goes.trans {B B1 B2 : Addr → Prop} {H H1 H2 : Hp} (g : Goes B B1 H H1) (h : Goes B1 B2 H1 H2) : Goes B B2 H H2 := fun a o n e => h a o (g a o n e).2 (g a o n e).1
theorem ItOk.goes {G : Gd} {Bad Bad2 : Addr → Prop} {H H2 : Hp} {J : It} {ds : List D} (g : Goes Bad Bad2 H H2) (h : ItOk G Bad H J ds) : ItOk G Bad2 H2 J ds := fun B H' g' al => h B H' (g.trans g') al
theorem itok_W {G : Gd} {Bad : Addr → Prop} {H : Hp} {J : It} {ds : List D} {vs : List V} {st : Hp → Prop} (hW : ItW J vs st) (hD : DatL G Bad H vs ds) (hst : ∀ H' : Hp, (∀ a o, ¬ Bad a → H a = some o → H' a = some o) → st H') : ItOk G Bad H J ds := by
  intro Bad' H' gg al
  have s := hst H' fun a o n e => (gg a o n e).1
  refine ⟨fun i d hd => ?_, by rw [← hD.len]; exact hW.2 H' s⟩
  have hlt : i < vs.length := by rw [hD.len]; exact (List.getElem?_eq_some_iff.mp hd).1
  obtain ⟨hg, hy⟩ := hW.1 i H' s hlt
  refine ⟨hg, fun x H'' y => ?_⟩
  obtain ⟨rfl, hx⟩ := hy x H'' y
  obtain ⟨v, h1, h2⟩ := hD.at hd
  rw [hx] at h1
  cases h1
  exact ⟨Or.inl rfl, Dat.goes gg h2⟩
theorem drop_get {α : Type} {ds : List α} {i : Nat} (h : i < ds.length) : ∃ d, ds[i]? = some d ∧ ds.drop i = d :: ds.drop (i + 1) := ⟨ds[i], List.getElem?_eq_getElem h, List.drop_eq_getElem_cons h⟩
theorem Sto.goesG {G : Gd} {B0 : Addr → Prop} {H0 H H' : Hp} {δ : DS} {g g' : Bag} {σ : L2.St} (S : Sto G B0 H0 δ g σ H) {δ' : DS} {σ' : L2.St} (S' : Sto G B0 (ground δ σ H) δ' g' σ' H') : Goes (Bd B0 δ σ) (Bd B0 δ' σ') H H' := by
  intro a o n e
  have e0 := ground_of e n
  refine ⟨S'.ent a o (fun z => n (z ▸ S.bd)) e0, fun z => ?_⟩
  rcases z with z | ⟨i, ds, h1, h2⟩
  · exact n (Or.inl z)
  · obtain ⟨p, vs, a1, a2, _, _⟩ := S'.own i ds h1
    rw [h2] at a1
    cases a1
    rw [a2] at e0
    cases e0
abbrev DI := DS → M (List D)
def PostI (G : Gd) (B0 : Addr → Prop) (δ : DS) (W : WX) (σ : L2.St) (H : Hp) (g g' : Bag) (R : It → Hp → Prop) : Rs (List D) → Prop
  | .ok ds => ∀ J H', Kp G H H' → BagAt G H' g' → g'.ns = g.ns → ItOk G (Bd B0 δ σ) H' J ds → R J H'
  | .er x => ∀ cls dx H', Kp G H H' → BagAt G H' g' → g'.ns = g.ns → ExAt G (Bd B0 δ σ) H' cls dx x → W cls dx σ H'
def AI (K : PySem.W.Frag) (cl : Str → Option Addr) (W : WX) (wi : TI) (mi : DI) : Prop := ∀ (b l : Addr) B0 H0 δ g σ H r g', Sto ⟨K, cl, b, l⟩ B0 H0 δ g σ H → mi δ g = some (r, g') → ∀ R, PostI ⟨K, cl, b, l⟩ B0 δ W σ H g g' R r → wi σ H R

section
variable {K : PySem.W.Frag} {cl : Str → Option Addr} {W : WX} {te ta tb : TE} {tt : TT} {me ma mb : DE} {mt : DB}

/-- a list or a tuple that is kept -/
def iSeq (m : DE) : DI := fun δ => mbind (m δ) fun e => match e.keep with
  | some (.lst ds) => mret ds
  | some (.tup ds) => mret ds
  | _ => mno
def wSeq (K : PySem.W.Frag) (tl : TE) : TI := fun σ H R => tl σ H fun x H1 => (∃ a, x = .ref a ∧ (∃ xs, SqL K H1 a xs) ∧ R (Itl K a) H1) ∨ (∃ a, x = .ref a ∧ (∃ xs, SqT K H1 a xs) ∧ R (Itt K a) H1)
theorem pi_seq {X : Cx} {tg l : Expr} {tl : TE} (hl : PE X l tl) : PI X tg l (wSeq X.K tl) := by
  refine ⟨fun pins s σ H R I h => ?_⟩
  refine thn (hl.run pins s σ H _ I h) fun v s1 hv => ?_
  obtain ⟨x, H1, I1, r1, q1⟩ := hv
  have lift : ∀ {wi : TI}, (PE X l (fun _ _ Q => Q x H1) → PI X tg l wi) → True := fun _ => trivial
  rcases q1 with ⟨a, e, ⟨xs, hq⟩, q⟩ | ⟨a, e, ⟨xs, hq⟩, q⟩
  · subst e
    cases r1
    obtain ⟨its, rv, p, hz⟩ := I1.list hq
    refine wpAny_pyIter_list p.isList ?_
    refine ⟨s1.heap.objs.size, [s1.heap.objs.size], _, _, H1, rfl, I1.kept (t' := s1.toks) fun b o e => Heap.get?_push_of_some _ e,
      turn_list a _, ⟨_, Heap.get?_push_size _ rfl, rfl, rfl⟩, fun b hb => ?_, q⟩
    obtain rfl : b = s1.heap.objs.size := by simpa using hb
    exact I1.fpOk (Nat.le_refl _) (I1.hok.fresh (Nat.le_refl _))
  · subst e
    cases r1
    obtain ⟨its, rv, p, hz⟩ := I1.tuple hq
    refine wpAny_pyIter_tuple (show s1.heap.IsTuple a its.toArray from p) ?_
    refine ⟨s1.heap.objs.size, [s1.heap.objs.size], _, _, H1, rfl, I1.kept (t' := s1.toks) fun b o e => Heap.get?_push_of_some _ e,
      turn_tuple a _, ⟨_, Heap.get?_push_size _ rfl, rfl, rfl⟩, fun b hb => ?_, q⟩
    obtain rfl : b = s1.heap.objs.size := by simpa using hb
    exact I1.fpOk (Nat.le_refl _) (I1.hok.fresh (Nat.le_refl _))
theorem ai_seq (h : AE K cl W te me) : AI K cl W (wSeq K te) (iSeq me) := by
  intro b l B0 H0 δ g σ H r g' S hm R q
  rcases mb_cases hm with ⟨x, e, rfl⟩ | ⟨a, g1, e, hm⟩
  · exact h b l B0 H0 δ g σ H _ _ S e _ q
  · refine h b l B0 H0 δ g σ H _ _ S e _ fun v H1 k1 b1 n1 hv => ?_
    cases hk : a.keep with
    | none => rw [hk] at hm; cases hm
    | some d =>
      rw [hk] at hm
      have hd := evok_keep S.alB hv hk
      cases d with
      | lst ds =>
        cases hm
        cases hd with
        | lstH n e1 rr => exact Or.inl ⟨_, rfl, ⟨_, Or.inl (Or.inl e1)⟩, q _ H1 k1 b1 n1 (itok_W itw_list rr fun H' k => Or.inl (Or.inl (k _ _ n e1)))⟩
      | tup ds =>
        cases hm
        cases hd with
        | tupH n e1 rr => exact Or.inr ⟨_, rfl, ⟨_, Or.inl (Or.inl e1)⟩, q _ H1 k1 b1 n1 (itok_W itw_tup rr fun H' k => Or.inl (Or.inl (k _ _ n e1)))⟩
        | tupK e1 rr => exact Or.inr ⟨_, rfl, ⟨_, sqT_no e1⟩, q _ H1 k1 b1 n1 (itok_W itw_tup rr fun H' k => sqT_no e1)⟩
      | non => cases hm
      | bl c => cases hm
      | int i => cases hm
      | str s => cases hm
      | dct k => cases hm
      | obj c f => cases hm
def smallI (i : Int) : Bool := decide (-100000 ≤ i) && decide (i ≤ 100000)
def iRange1 (m : DE) : DI := fun δ => mbind (m δ) fun e => match e with
  | .val (.int j) => if smallI j = true then mret (rngD 0 j.toNat) else mno
  | _ => mno
theorem ai_range1 (h : AE K cl W te me) : AI K cl W (iRng1 (tCons te tNil)) (iRange1 me) := by
  intro b l B0 H0 δ g σ H r g' S hm R q
  rcases mb_cases hm with ⟨x, e, rfl⟩ | ⟨a, g1, e, hm⟩
  · exact h b l B0 H0 δ g σ H _ _ S e _ q
  · refine h b l B0 H0 δ g σ H _ _ S e _ fun v H1 k1 b1 n1 hv => ?_
    split at hm
    · rename_i j
      split at hm
      · rename_i hj
        cases hm
        have hj' : -100000 ≤ j ∧ j ≤ 100000 := by simpa [smallI] using hj
        rw [datint hv]
        exact ⟨j, rfl, by omega, by omega, q _ H1 k1 b1 n1 (itok_W itw_range (rng_dat _) fun _ _ => trivial)⟩
      · cases hm
    · cases hm
def rng2 : EV → EV → Option (List D)
  | .val (.int i), .val (.int j) => if (smallI i && smallI j) = true then some (rngD i (j - i).toNat) else none
  | _, _ => none
def iRange2 (m m' : DE) : DI := fun δ => mbind (m δ) fun e => mbind (m' δ) fun e' => mof (rng2 e e')
theorem rng2_cases {e e' : EV} {ds : List D} (h : rng2 e e' = some ds) : ∃ i j, e = .val (.int i) ∧ e' = .val (.int j) ∧ (-100000 ≤ i ∧ i ≤ 100000) ∧ (-100000 ≤ j ∧ j ≤ 100000) ∧ ds = rngD i (j - i).toNat := by
  unfold rng2 at h
  split at h
  · split at h
    · rename_i hj
      cases h
      have hj' := hj
      simp only [smallI, Bool.and_eq_true, decide_eq_true_eq] at hj'
      exact ⟨_, _, rfl, rfl, hj'.1, hj'.2, rfl⟩
    · cases h
  · cases h
theorem mof_cases {α : Type} {o : Option α} {g g' : Bag} {r : Rs α} (h : mof o g = some (r, g')) : ∃ a, o = some a ∧ r = .ok a ∧ g' = g := by
  cases o with
  | none => cases h
  | some a => cases h; exact ⟨a, rfl, rfl, rfl⟩
theorem ai_range2 (h : AE K cl W ta ma) (h2 : AE K cl W tb mb) : AI K cl W (iRng2 (tCons ta (tCons tb tNil))) (iRange2 ma mb) := by
  intro b l B0 H0 δ g σ H r g' S hm R q
  rcases mb_cases hm with ⟨x, e, rfl⟩ | ⟨a, g1, e, hm⟩
  · exact h b l B0 H0 δ g σ H _ _ S e _ q
  · refine h b l B0 H0 δ g σ H _ _ S e _ fun v H1 k1 b1 n1 hv => ?_
    have S1 := S.kp k1 b1 n1
    rcases mb_cases hm with ⟨x, e', rfl⟩ | ⟨a', g2, e', hm⟩
    · exact h2 b l B0 H0 δ g1 σ H1 _ _ S1 e' _ fun c d H' k bb n hx => q c d H' (k1.trans k) bb (n.trans n1) hx
    · refine h2 b l B0 H0 δ g1 σ H1 _ _ S1 e' _ fun v' H2 k2 b2 n2 hv' => ?_
      obtain ⟨ds, hf, rfl, rfl⟩ := mof_cases hm
      obtain ⟨i, j, rfl, rfl, hi, hj, rfl⟩ := rng2_cases hf
      rw [datint hv, datint hv']
      exact ⟨i, j, rfl, ⟨by omega, by omega, by omega, by omega⟩, q _ H2 (k1.trans k2) b2 (n2.trans n1) (itok_W itw_range (rng_dat _) fun _ _ => trivial)⟩

/-! targets -/
abbrev DG := D → DS → Option DS
def AG (K : PySem.W.Frag) (cl : Str → Option Addr) (js : List Nat) (tg : TG) (mg : DG) : Prop := ∀ (b l : Addr) B0 H0 δ g σ H v d δ', Sto ⟨K, cl, b, l⟩ B0 H0 δ g σ H → Dat ⟨K, cl, b, l⟩ (Bd B0 δ σ) H v d → mg d δ = some δ' →
  ∀ Q : L2.St → Hp → Prop, (∀ σ', Sto ⟨K, cl, b, l⟩ B0 H0 δ' g σ' H → (∀ a, Bd B0 δ' σ' a → Bd B0 δ σ a) → (σ'.length = σ.length ∧ ∀ k, k ∉ js → σ'[k]? = σ[k]? ∧ δ'[k]? = δ[k]?) → (∀ (k : Nat) (es : D), δ'[k]? = some (some (.own es)) → δ[k]? = some (some (.own es)) ∧ σ'[k]? = σ[k]?) → Q σ' H) → tg v σ H Q
abbrev DGs := List D → DS → Option DS
def AGs (K : PySem.W.Frag) (cl : Str → Option Addr) (js : List Nat) (tg : TGs) (mg : DGs) : Prop := ∀ (b l : Addr) B0 H0 δ g σ H vs ds δ', Sto ⟨K, cl, b, l⟩ B0 H0 δ g σ H → DatL ⟨K, cl, b, l⟩ (Bd B0 δ σ) H vs ds → mg ds δ = some δ' →
  ∀ Q : L2.St → Hp → Prop, (∀ σ', Sto ⟨K, cl, b, l⟩ B0 H0 δ' g σ' H → (∀ a, Bd B0 δ' σ' a → Bd B0 δ σ a) → (σ'.length = σ.length ∧ ∀ k, k ∉ js → σ'[k]? = σ[k]? ∧ δ'[k]? = δ[k]?) → (∀ (k : Nat) (es : D), δ'[k]? = some (some (.own es)) → δ[k]? = some (some (.own es)) ∧ σ'[k]? = σ[k]?) → Q σ' H) → tg vs σ H Q
def dName (i : Nat) : DG := fun d δ => some (δ.set i (some (.val d)))
def dNil : DGs := fun ds δ => match ds with
  | [] => some δ
  | _ => none
def dCons (a : DG) (r : DGs) : DGs := fun ds δ => match ds with
  | [] => none
  | d :: ds => (a d δ).bind fun δ' => r ds δ'
def dTup (n : Nat) (r : DGs) : DG := fun d δ => match d with
  | .tup ds => if ds.length = n then r ds δ else none
  | _ => none
theorem ag_name {i : Nat} : AG K cl [i] (gName i) (dName i) := by
  intro b l B0 H0 δ g σ H v d δ' S h hm Q q
  cases hm
  refine q _ (S.set h) (fun a => bd_set_sub (fun ds z => by cases z)) ⟨by simp, fun k hk => ?_⟩ fun k es hk => ?_
  · have nk : ¬ i = k := fun z => hk (by rw [z]; exact List.mem_singleton.mpr rfl)
    rw [List.getElem?_set_ne nk, List.getElem?_set_ne nk]
    exact ⟨rfl, rfl⟩
  · by_cases nk : i = k
    · subst nk
      by_cases hi : i < δ.length
      · rw [List.getElem?_set_self hi] at hk
        cases hk
      · rw [List.getElem?_eq_none (by simpa using hi)] at hk
        cases hk
    · rw [List.getElem?_set_ne nk] at hk ⊢
      exact ⟨hk, rfl⟩
theorem ags_nil : AGs K cl [] gNil dNil := by
  intro b l B0 H0 δ g σ H vs ds δ' S h hm Q q
  cases h with
  | nil =>
    cases hm
    exact ⟨rfl, q σ S (fun _ z => z) ⟨rfl, fun _ _ => ⟨rfl, rfl⟩⟩ fun _ _ z => ⟨z, rfl⟩⟩
  | cons _ _ => cases hm
theorem ags_cons {js js' : List Nat} {t : TG} {u : TGs} {m : DG} {r : DGs} (h1 : AG K cl js t m) (h2 : AGs K cl js' u r) : AGs K cl (js ++ js') (gCons t u) (dCons m r) := by
  intro b l B0 H0 δ g σ H vs ds δ' S h hm Q q
  cases h with
  | nil => cases hm
  | cons a rr =>
    obtain ⟨δ1, e1, e2⟩ := Option.bind_eq_some_iff.mp hm
    refine ⟨_, _, rfl, h1 b l B0 H0 δ g σ H _ _ δ1 S a e1 _ fun σ1 S1 sub1 ag1 ow1 => ?_⟩
    refine h2 b l B0 H0 δ1 g σ1 H _ _ δ' S1 (DatL.goes (goes_less sub1) rr) e2 _ fun σ2 S2 sub2 ag2 ow2 => ?_
    refine q σ2 S2 (fun a z => sub1 a (sub2 a z)) ⟨ag2.1.trans ag1.1, fun k hk => ?_⟩ fun k es hk => (by obtain ⟨x1, x2⟩ := ow2 k es hk; obtain ⟨y1, y2⟩ := ow1 k es x1; exact ⟨y1, x2.trans y2⟩)
    have a2 := ag2.2 k (fun z => hk (List.mem_append_right _ z))
    have a1 := ag1.2 k (fun z => hk (List.mem_append_left _ z))
    exact ⟨a2.1.trans a1.1, a2.2.trans a1.2⟩
theorem ag_tup {js : List Nat} {n : Nat} {u : TGs} {r : DGs} (h : AGs K cl js u r) : AG K cl js (gTup K n u) (dTup n r) := by
  intro b l B0 H0 δ g σ H v d δ' S hd hm Q q
  unfold dTup at hm
  split at hm
  · rename_i ds
    split at hm
    · rename_i hl
      cases hd with
      | tupH nb e rr => exact ⟨_, _, rfl, Or.inl (Or.inl e), rr.len.trans hl, h b l B0 H0 δ g σ H _ _ δ' S rr hm Q q⟩
      | tupK e rr => exact ⟨_, _, rfl, sqT_no e, rr.len.trans hl, h b l B0 H0 δ g σ H _ _ δ' S rr hm Q q⟩
    · cases hm
  · cases hm
/-- x = .. by a target -/
def sAsg (m : DE) (t : DG) : DT := sOn m fun e δ g => match e.keep with
  | none => none
  | some d => (t d δ).map fun δ' => (Ot.nx δ', g)
theorem as_asg {js : List Nat} {tg : TG} {mg : DG} (h : AE K cl W te me) (hg : AG K cl js tg mg) : AS K cl W (tAsg te tg) (sAsg me mg) :=
  as_on (tf := fun v Dn σ H1 => tg v σ H1 Dn.nx) h fun b l B0 H0 δ g g1 σ H H1 e v o g' S k bg n hv h Dn q => by
    cases hk : e.keep with
    | none => rw [hk] at h; cases h
    | some d =>
      rw [hk] at h
      obtain ⟨δ', e1, e2⟩ := Option.map_eq_some_iff.mp h
      cases e2
      exact hg b l B0 H0 δ g1 σ H1 v d δ' (S.kp k bg n) (evok_keep S.alB hv hk) e1 _ fun σ' S' _ _ _ => q σ' H1 S'

/-! for -/
def sLoop (mg : DG) (body : DT) : List D → DT
  | [] => fun δ g => some (.nx δ, g)
  | d :: ds => fun δ g => match mg d δ with
    | none => none
    | some δ1 => match body δ1 g with
      | some (.nx δ2, g2) => sLoop mg body ds δ2 g2
      | some (.ct δ2, g2) => sLoop mg body ds δ2 g2
      | some (.bk δ2, g2) => some (.nx δ2, g2)
      | r => r
def sFor (mi : DI) (mg : DG) (body : DT) : DT := fun δ g => match mi δ g with
  | none => none
  | some (.er x, g') => some (.er δ x, g')
  | some (.ok ds, g') => sLoop mg body ds δ g'
theorem datl_drop {G : Gd} {Bad : Addr → Prop} {H : Hp} : ∀ (i : Nat) {vs : List V} {ds : List D} {v : V}, DatL G Bad H vs ds → vs[i]? = some v → ∃ d, ds[i]? = some d ∧ ds.drop i = d :: ds.drop (i + 1) ∧ Dat G Bad H v d
  | _, _, _, _, .nil, h => by simp at h
  | 0, _, _, _, .cons a r, h => by
    simp at h
    subst h
    exact ⟨_, rfl, rfl, a⟩
  | i + 1, _, _, _, .cons a r, h => by
    obtain ⟨d, h1, h2, h3⟩ := datl_drop i r (by simpa using h)
    exact ⟨d, by simpa using h1, by simpa using h2, h3⟩
/-- the walk at one state -/
def AIat (G : Gd) (B0 : Addr → Prop) (W : WX) (δ : DS) (g : Bag) (σ : L2.St) (H : Hp) (wi : TI) (mi : DI) : Prop := ∀ r g', mi δ g = some (r, g') → ∀ R, PostI G B0 δ W σ H g g' R r → wi σ H R
theorem as_for_at {b l : Addr} {B0 : Addr → Prop} {H0 : Hp} {δ : DS} {g : Bag} {σ : L2.St} {H : Hp} {wi : TI} {mi : DI} {js : List Nat} {tg : TG} {mg : DG} {ts : TS} {mb : DT} (S : Sto ⟨K, cl, b, l⟩ B0 H0 δ g σ H) (hi : AIat ⟨K, cl, b, l⟩ B0 W δ g σ H wi mi) (hg : AG K cl js tg mg) (hb : AS K cl W ts mb)
    {o : Ot} {g' : Bag} (hm : sFor mi mg mb δ g = some (o, g')) (Dn : Ends) (q : PostS ⟨K, cl, b, l⟩ B0 H0 W Dn g' o) : tFor wi tg ts Dn σ H := by
  unfold sFor at hm
  cases e : mi δ g with
  | none => rw [e] at hm; cases hm
  | some p =>
    obtain ⟨r, g1⟩ := p
    rw [e] at hm
    cases r with
    | er x =>
      cases hm
      exact hi _ _ e _ fun c d H' k bg n hx => q c d σ H' (S.kp k bg n) hx
    | ok ds =>
      refine hi _ _ e _ fun J H1 k1 b1 n1 hJ => ?_
      have S1 := S.kp k1 b1 n1
      dsimp only at hm
      refine ⟨fun i m σ' H' => m = ds.length - i ∧ i ≤ ds.length ∧ ∃ δ' g2, Sto ⟨K, cl, b, l⟩ B0 (ground δ σ H1) δ' g2 σ' H' ∧ sLoop mg mb (ds.drop i) δ' g2 = some (o, g'), ⟨ds.length, rfl, Nat.zero_le _, δ, g1, S1.rebase, hm⟩, ?_⟩
      rintro i m σ' H' ⟨rfl, hle, δ', g2, S2, hl⟩
      obtain ⟨hgo', hstop⟩ := hJ _ H' (S1.goesG S2) S2.alB
      by_cases hlt : i < ds.length
      · obtain ⟨d, hd1, hd2⟩ := drop_get hlt
        obtain ⟨hgo, hy⟩ := hgo' i d hd1
        refine Or.inr ⟨hgo, fun σ3 H3 => ∃ δ3 g3, Sto ⟨K, cl, b, l⟩ B0 (ground δ σ H1) δ3 g3 σ3 H3 ∧ sLoop mg mb (ds.drop (i + 1)) δ3 g3 = some (o, g'), fun σ3 H3 ⟨δ3, g3, S3, h3⟩ => ⟨ds.length - (i + 1), by omega, rfl, hlt, δ3, g3, S3, h3⟩, fun x H3 y => ?_⟩
        obtain ⟨w, hd3⟩ := hy x H3 y
        have S3 := (w.sto S2).1
        rw [hd2] at hl
        unfold sLoop at hl
        cases em : mg d δ' with
        | none => rw [em] at hl; cases hl
        | some δ1 =>
          rw [em] at hl
          dsimp only at hl
          refine hg b l B0 (ground δ σ H1) δ' g2 σ' H3 x d δ1 S3 hd3 em _ fun σ4 S4 _ _ _ => ?_
          cases eb : mb δ1 g2 with
          | none => rw [eb] at hl; cases hl
          | some pr =>
            obtain ⟨o1, g3⟩ := pr
            rw [eb] at hl
            refine hb b l B0 (ground δ σ H1) δ1 g2 σ4 H3 o1 g3 S4 eb _ ?_
            cases o1 with
            | nx δ2 => exact fun σ5 H5 S5 => ⟨δ2, g3, S5, hl⟩
            | ct δ2 => exact fun σ5 H5 S5 => ⟨δ2, g3, S5, hl⟩
            | bk δ2 => cases hl; exact fun σ5 H5 S5 => q σ5 H5 (S1.unbase S5)
            | rt v => cases hl; exact S1.postS q
            | er δ2 x => cases hl; exact S1.postS q
      · have ei : i = ds.length := by omega
        subst ei
        refine Or.inl ⟨hstop, ?_⟩
        rw [List.drop_length] at hl
        cases hl
        exact q σ' H' (S1.unbase S2)
theorem as_for {wi : TI} {mi : DI} {js : List Nat} {tg : TG} {mg : DG} {ts : TS} {mb : DT} (hi : AI K cl W wi mi) (hg : AG K cl js tg mg) (hb : AS K cl W ts mb) : AS K cl W (tFor wi tg ts) (sFor mi mg mb) := by
  intro b l B0 H0 δ g σ H o g' S hm Dn q
  exact as_for_at S (fun r g' e R p => hi b l B0 H0 δ g σ H r g' S e R p) hg hb hm Dn q

/-! own lists changed -/
def sOwn (i : Nat) (f : List D → EV → Option (List D)) (m : DE) : DT := fun δ g => match δ[i]? with
  | some (some (.own (.lst ds))) => sOn m (fun e δ g => (f ds e).map fun es => (Ot.nx (δ.set i (some (.own (.lst es)))), g)) δ g
  | _ => none
/-- the step: an owned list, an argument, a change -/
theorem as_own {i : Nat} {r : V → List V → Hp → VK → Prop} {f : List D → EV → Option (List D)} (h : AE K cl W te me)
    (hr : ∀ (b l : Addr) (B0 : Addr → Prop) (H0 : Hp) (δ : DS) (g : Bag) (σ : L2.St) (H H1 : Hp) (e : EV) (v : V) (p : Addr) (vs : List V) (ds es : List D), Sto ⟨K, cl, b, l⟩ B0 H0 δ g σ H1 → (∀ a, Bd B0 δ σ a → (H a).isSome = true) → EVok ⟨K, cl, b, l⟩ (Bd B0 δ σ) H H1 v e →
      H1 p = some (.lst vs) → DatL ⟨K, cl, b, l⟩ (Bd B0 δ σ) H1 vs ds → f ds e = some es → ∀ Q : VK, (∀ ws w, DatL ⟨K, cl, b, l⟩ (Bd B0 δ σ) H1 ws es → Q w (upd H1 p (.lst ws))) → r (.ref p) [v] H1 Q) :
    AS K cl W (tDrop (tBM K "list" r (tVar i) (tCons te tNil))) (sOwn i f me) := by
  intro b l B0 H0 δ g σ H o g' S hm Dn q
  unfold sOwn at hm
  split at hm
  · rename_i ds hd
    obtain ⟨p, vs, a1, a2, a3, a4⟩ := S.own i _ hd
    obtain ⟨vs, rfl, _⟩ := a4.fst
    refine ⟨.ref p, a1, Or.inl ⟨rfl, vs, Or.inl (Or.inl a3)⟩, ?_⟩
    show te σ H fun v H1 => r (.ref p) [v] H1 fun _ H2 => Dn.nx σ H2
    unfold sOn at hm
    cases e : me δ g with
    | none => rw [e] at hm; cases hm
    | some pr =>
      obtain ⟨rs, g1⟩ := pr
      rw [e] at hm
      cases rs with
      | er x =>
        cases hm
        exact h b l B0 H0 δ g σ H _ _ S e _ fun c d H' k bg n hx => q c d σ H' (S.kp k bg n) hx
      | ok ev =>
        obtain ⟨es, h1, h2⟩ := Option.map_eq_some_iff.mp hm
        cases h2
        refine h b l B0 H0 δ g σ H _ _ S e _ fun v H1 k1 b1 n1 hv => ?_
        have S1 := S.kp k1 b1 n1
        obtain ⟨p', vs', c1, c2, c3, c4⟩ := S1.own i _ hd
        rw [a1] at c1
        cases c1
        obtain ⟨vs', rfl, c4'⟩ := c4.fst
        exact hr b l B0 H0 δ g' σ H H1 ev v p vs' ds es S1 S.alB hv c3 c4' h1 _ fun ws w hws => q σ _ (S1.wr hd a1 (.lst hws))
  · cases hm
def fApp : List D → EV → Option (List D) := fun ds e => if lineOk (ds.length + 1) = true then e.keep.map fun d => ds ++ [d] else none
def sApp (i : Nat) (m : DE) : DT := sOwn i fApp m
theorem as_app {i : Nat} (h : AE K cl W te me) : AS K cl W (tDrop (tBM K "list" rAppend (tVar i) (tCons te tNil))) (sApp i me) := by
  refine as_own h fun b l B0 H0 δ g σ H H1 e v p vs ds es S al hv hp hd hf Q q => ?_
  unfold fApp at hf
  split at hf
  · rename_i hl
    obtain ⟨d, h1, h2⟩ := Option.map_eq_some_iff.mp hf
    subst h2
    have hk := evok_keep al hv h1
    refine ⟨p, vs, v, rfl, rfl, hp, ?_, q _ _ (hd.append (.cons hk .nil))⟩
    have := line_of hl
    have := hd.len
    omega
  · cases hf
def fExt : List D → EV → Option (List D) := fun ds e => match e.look with
  | some (.lst es) => if lineOk (ds.length + es.length) = true then some (ds ++ es) else none
  | _ => none
def sExt (i : Nat) (m : DE) : DT := sOwn i fExt m
theorem as_ext {i : Nat} (h : AE K cl W te me) : AS K cl W (tDrop (tBM K "list" rExtend (tVar i) (tCons te tNil))) (sExt i me) := by
  refine as_own h fun b l B0 H0 δ g σ H H1 e v p vs ds es S al hv hp hd hf Q q => ?_
  unfold fExt at hf
  cases hk : e.look with
  | none => rw [hk] at hf; cases hf
  | some d =>
    rw [hk] at hf
    cases d with
    | lst fs =>
      dsimp only at hf
      split at hf
      · rename_i hl
        cases hf
        obtain ⟨a, ws, rfl, h1, r1⟩ := (evok_items hv).1 hk
        refine ⟨p, a, vs, ws, rfl, rfl, hp, h1, ?_, q _ _ (hd.append r1)⟩
        rw [hd.len, r1.len]
        exact line_of hl
      · cases hf
    | non => cases hf
    | bl c => cases hf
    | int i => cases hf
    | str s => cases hf
    | tup ds => cases hf
    | dct k => cases hf
    | obj c f => cases hf

/-! displays, subscripts, built-ins -/
theorem evs_keep {G : Gd} {Bad : Addr → Prop} {H H' : Hp} (hB : ∀ a, Bad a → (H a).isSome = true) : ∀ {vs : List V} {es : List EV} {ds : List D}, EVs G Bad H H' vs es → es.mapM EV.keep = some ds → DatL G Bad H' vs ds
  | _, _, _, .nil, h => by
    simp at h
    subst h
    exact .nil
  | _, _, _, .cons a r, h => by
    rw [List.mapM_cons] at h
    obtain ⟨d, h1, h2⟩ := Option.bind_eq_some_iff.mp h
    obtain ⟨ds, h3, h4⟩ := Option.bind_eq_some_iff.mp h2
    cases h4
    exact .cons (evok_keep hB a h1) (evs_keep hB r h3)
def keepL : List EV → Option (List D)
  | [] => some []
  | e :: es => match e.keep with
    | none => none
    | some d => match keepL es with
      | none => none
      | some ds => some (d :: ds)
theorem evs_keepL {G : Gd} {Bad : Addr → Prop} {H H' : Hp} (hB : ∀ a, Bad a → (H a).isSome = true) : ∀ {vs : List V} {es : List EV} {ds : List D}, EVs G Bad H H' vs es → keepL es = some ds → DatL G Bad H' vs ds
  | _, _, _, .nil, h => by
    cases h
    exact .nil
  | _, _, _, .cons (e := e) (es := es) a r, h => by
    unfold keepL at h
    cases hk : e.keep with
    | none => rw [hk] at h; cases h
    | some d =>
      rw [hk] at h
      cases hl : keepL es with
      | none => rw [hl] at h; cases h
      | some ds =>
        rw [hl] at h
        cases h
        exact .cons (evok_keep hB a hk) (evs_keepL hB r hl)
def eTup (m : DA) : DE := fun δ => mbind (m δ) fun es => match keepL es with
  | some ds => if lineOk ds.length = true then mret (.val (.tup ds)) else mno
  | none => mno
def eLst (m : DA) : DE := fun δ => mbind (m δ) fun es => match keepL es with
  | some ds => if lineOk ds.length = true then mret (.nw (.lst ds)) else mno
  | none => mno
theorem ae_tup {ta : TA} {ma : DA} (h : AA K cl W ta ma) : AE K cl W (tTup ta) (eTup ma) := by
  intro b l B0 H0 δ g σ H r g' S hm Q q
  rcases mb_cases hm with ⟨x, e, rfl⟩ | ⟨es, g1, e, hm⟩
  · exact h b l B0 H0 δ g σ H _ _ S e _ q
  · refine h b l B0 H0 δ g σ H _ _ S e _ fun vs H1 k1 b1 n1 hv => ?_
    cases hk : keepL es with
    | none => rw [hk] at hm; cases hm
    | some ds =>
      rw [hk] at hm
      dsimp only at hm
      split at hm
      · rename_i hl
        cases hm
        have hd := evs_keepL S.alB hv hk
        refine ⟨by rw [hd.len]; exact line_of hl, fun p hp => q _ _ (k1.trans (Kp.new hp)) (bag_upd b1 hp) n1 ?_⟩
        exact .tupH (fun z => by have := S.alB p z; rw [fresh_kp b1.some k1 hp] at this; cases this) upd_same (DatL.goes (goes_new' hp) hd)
      · cases hm
theorem ae_lst {ta : TA} {ma : DA} (h : AA K cl W ta ma) : AE K cl W (tLst ta) (eLst ma) := by
  intro b l B0 H0 δ g σ H r g' S hm Q q
  rcases mb_cases hm with ⟨x, e, rfl⟩ | ⟨es, g1, e, hm⟩
  · exact h b l B0 H0 δ g σ H _ _ S e _ q
  · refine h b l B0 H0 δ g σ H _ _ S e _ fun vs H1 k1 b1 n1 hv => ?_
    cases hk : keepL es with
    | none => rw [hk] at hm; cases hm
    | some ds =>
      rw [hk] at hm
      dsimp only at hm
      split at hm
      · rename_i hl
        cases hm
        have hd := evs_keepL S.alB hv hk
        refine ⟨by rw [hd.len]; exact line_of hl, fun p hp => q _ _ (k1.trans (Kp.new hp)) (bag_upd b1 hp) n1 ?_⟩
        exact ⟨p, _, rfl, fresh_kp b1.some k1 hp, upd_same, .lst (DatL.goes (goes_new hp) hd)⟩
      · cases hm
theorem datl_ixN {G : Gd} {Bad : Addr → Prop} {H : Hp} {vs : List V} {ds : List D} {i : Int} {d : D} (h : DatL G Bad H vs ds) (k : atI ds i = some d) : ∃ v, atI vs i = some v ∧ Dat G Bad H v d := by
  unfold atI at k ⊢
  rw [h.len]
  obtain ⟨j, h1, h2⟩ := Option.bind_eq_some_iff.mp k
  obtain ⟨v, h3, h4⟩ := h.at h2
  exact ⟨v, by rw [h1]; exact h3, h4⟩
def ixD : D → D → Option EV
  | .lst ds, .int i => (atI ds i).map .val
  | .tup ds, .int i => (atI ds i).map .val
  | _, _ => none
def mIx := mL2 ixD
theorem r2_ix : R2ok K cl W (rIx K) mIx := by
  intro b l B0 H0 δ g σ H H1 x y v w r g' S al k hv hw hm Q q
  obtain ⟨dx, dy, e, ex, ey, hf, rfl, rfl⟩ := mL2_cases hm
  unfold ixD at hf
  split at hf
  · rename_i ds i
    obtain ⟨d, h1, h2⟩ := Option.map_eq_some_iff.mp hf
    subst h2
    obtain ⟨a, vs, rfl, e1, r1⟩ := (evok_items hv).1 ex
    obtain ⟨u, h3, h4⟩ := datl_ixN r1 h1
    exact Or.inl ⟨a, vs, i, u, rfl, look_int hw ey, Or.inl (Or.inl e1), h3, q u H1 .refl S.bg rfl h4⟩
  · rename_i ds i
    obtain ⟨d, h1, h2⟩ := Option.map_eq_some_iff.mp hf
    subst h2
    obtain ⟨a, vs, rfl, e1, r1⟩ := (evok_items hv).2 ex
    obtain ⟨u, h3, h4⟩ := datl_ixN r1 h1
    exact Or.inr (Or.inl ⟨a, vs, i, u, rfl, look_int hw ey, e1, h3, q u H1 .refl S.bg rfl h4⟩)
  · cases hf
/-- a built-in of one argument -/
def R1ok (K : PySem.W.Frag) (cl : Str → Option Addr) (W : WX) (rr : List V → Hp → VK → Prop) (f : EV → Option EV) : Prop :=
  ∀ (b l : Addr) (B0 : Addr → Prop) (H0 : Hp) (δ : DS) (g : Bag) (σ : L2.St) (H H1 : Hp) (x e : EV) (v : V), Sto ⟨K, cl, b, l⟩ B0 H0 δ g σ H1 → (∀ a, Bd B0 δ σ a → (H a).isSome = true) → Kp ⟨K, cl, b, l⟩ H H1 → EVok ⟨K, cl, b, l⟩ (Bd B0 δ σ) H H1 v x → f x = some e →
    ∀ Q, (∀ w H', Kp ⟨K, cl, b, l⟩ H1 H' → BagAt ⟨K, cl, b, l⟩ H' g → EVok ⟨K, cl, b, l⟩ (Bd B0 δ σ) H1 H' w e → Q w H') → rr [v] H1 Q
def eB1 (f : EV → Option EV) (m : DE) : DE := fun δ => mbind (m δ) fun x => mof (f x)
theorem ae_B1 {rr : List V → Hp → VK → Prop} {f : EV → Option EV} (h : AE K cl W te me) (hr : R1ok K cl W rr f) : AE K cl W (tCB rr (tCons te tNil)) (eB1 f me) := by
  intro b l B0 H0 δ g σ H r g' S hm Q q
  rcases mb_cases hm with ⟨x, e, rfl⟩ | ⟨x, g1, e, hm⟩
  · exact h b l B0 H0 δ g σ H _ _ S e _ q
  · refine h b l B0 H0 δ g σ H _ _ S e _ fun v H1 k1 b1 n1 hv => ?_
    obtain ⟨a, ha, rfl, rfl⟩ := mof_cases hm
    exact hr b l B0 H0 δ g' σ H H1 x a v (S.kp k1 b1 n1) S.alB k1 hv ha _ fun w H2 k2 b2 hw => q w H2 (k1.trans k2) b2 n1 (evok_from b1.some k1 hw)
def rLenU (K : PySem.W.Frag) : List V → Hp → VK → Prop := fun xs H Q => (∃ p ys, xs = [.ref p] ∧ (SqL K H p ys ∨ SqT K H p ys) ∧ Q (.int ys.length) H) ∨ (∃ z, xs = [.str z] ∧ z.length ≤ sizeLine ∧ Q (.int z.length) H)
def lenE (e : EV) : Option EV := match e.look with
  | some (.lst ds) => some (.val (.int ds.length))
  | some (.tup ds) => some (.val (.int ds.length))
  | some (.str s) => if lineOk s.length = true then some (.val (.int s.length)) else none
  | _ => none
theorem r1_len : R1ok K cl W (rLenU K) lenE := by
  intro b l B0 H0 δ g σ H H1 x e v S al k hv hf Q q
  unfold lenE at hf
  cases hk : x.look with
  | none => rw [hk] at hf; cases hf
  | some d =>
    rw [hk] at hf
    cases d with
    | lst ds =>
      cases hf
      obtain ⟨a, vs, rfl, e1, r1⟩ := (evok_items hv).1 hk
      exact Or.inl ⟨a, vs, rfl, Or.inl (Or.inl (Or.inl e1)), q _ H1 .refl S.bg (by rw [r1.len]; exact Dat.int _)⟩
    | tup ds =>
      cases hf
      obtain ⟨a, vs, rfl, e1, r1⟩ := (evok_items hv).2 hk
      exact Or.inl ⟨a, vs, rfl, Or.inr e1, q _ H1 .refl S.bg (by rw [r1.len]; exact Dat.int _)⟩
    | str s =>
      dsimp only at hf
      split at hf
      · rename_i hl
        cases hf
        rw [look_str hv hk]
        exact Or.inr ⟨s, rfl, line_of hl, q _ H1 .refl S.bg (.int _)⟩
      · cases hf
    | non => cases hf
    | bl c => cases hf
    | int i => cases hf
    | dct k => cases hf
    | obj c f => cases hf
end
end Vi

set_option Elab.async false
set_option linter.all false
set_option maxRecDepth 100000
set_option maxHeartbeats 4000000
namespace Vi
open PySem PySem.Spec PyProof.Rows L2

/-! comprehensions -/
def wipeD (δ : DS) : List Nat → DS
  | [] => δ
  | v :: vs => (wipeD δ vs).set v none
def noOwn (vs : List Nat) (δ : DS) : Bool := vs.all fun k => match δ[k]? with
  | some (some (.own _)) => false
  | _ => true
theorem wipeD_at {δ : DS} {k : Nat} {x : SV} : ∀ {vs : List Nat}, (wipeD δ vs)[k]? = some (some x) → k ∉ vs ∧ δ[k]? = some (some x)
  | [], h => ⟨by simp, h⟩
  | v :: vs, h => by
    unfold wipeD at h
    by_cases e : v = k
    · subst e
      by_cases hl : v < (wipeD δ vs).length
      · rw [List.getElem?_set_self hl] at h
        cases h
      · rw [List.getElem?_eq_none (by simpa using hl)] at h
        cases h
    · rw [List.getElem?_set_ne e] at h
      obtain ⟨h1, h2⟩ := wipeD_at (vs := vs) h
      exact ⟨fun z => by rcases List.mem_cons.mp z with z | z; exact e z.symm; exact h1 z, h2⟩
theorem wipeD_ne {δ : DS} {k : Nat} : ∀ {vs : List Nat}, k ∉ vs → (wipeD δ vs)[k]? = δ[k]?
  | [], _ => rfl
  | v :: vs, h => by
    unfold wipeD
    rw [List.getElem?_set_ne (fun z => h (by rw [z]; exact List.mem_cons_self)), wipeD_ne fun z => h (List.mem_cons_of_mem _ z)]
section
variable {G : Gd} {B0 : Addr → Prop} {H0 H H' : Hp} {δ : DS} {g g' : Bag} {σ : L2.St}
/-- a slot is forgotten -/
theorem Sto.clear (S : Sto G B0 H0 δ g σ H) {k : Nat} (hk : ∀ ds, δ[k]? ≠ some (some (.own ds))) : Sto G B0 H0 (δ.set k none) g (σ.set k none) H ∧ ∀ a, Bd B0 (δ.set k none) (σ.set k none) a ↔ Bd B0 δ σ a := by
  have ne : ∀ {j : Nat} {x : SV}, (δ.set k none)[j]? = some (some x) → k ≠ j ∧ δ[j]? = some (some x) := fun {j x} h => by
    by_cases e : k = j
    · subst e
      by_cases hl : k < δ.length
      · rw [List.getElem?_set_self hl] at h
        cases h
      · rw [List.getElem?_eq_none (by simpa using hl)] at h
        cases h
    · rw [List.getElem?_set_ne e] at h
      exact ⟨e, h⟩
  have bde : ∀ a, Bd B0 (δ.set k none) (σ.set k none) a ↔ Bd B0 δ σ a := fun a => by
    constructor
    · rintro (h | ⟨j, ds, h1, h2⟩)
      · exact Or.inl h
      · obtain ⟨e, h1⟩ := ne h1
        rw [List.getElem?_set_ne e] at h2
        exact Or.inr ⟨j, ds, h1, h2⟩
    · rintro (h | ⟨j, ds, h1, h2⟩)
      · exact Or.inl h
      · have e : k ≠ j := fun z => by
          subst z
          exact hk ds h1
        exact Or.inr ⟨j, ds, by rw [List.getElem?_set_ne e]; exact h1, by rw [List.getElem?_set_ne e]; exact h2⟩
  refine ⟨⟨by simp [S.len], S.ent, S.bg, S.lb, S.scr, S.b0, S.hb, S.al, fun j d hj => ?_, fun j ds hj => ?_, fun i j ds es p hi hj h1 h2 => ?_, fun j hj => ?_, fun j x hj => ?_, fun j ds p hj hp => ?_⟩, bde⟩
  · obtain ⟨e, hj⟩ := ne hj
    obtain ⟨v, h1, h2⟩ := S.val j d hj
    exact ⟨v, by rw [List.getElem?_set_ne e]; exact h1, Dat.goes (goes_less fun a z => (bde a).mp z) h2⟩
  · obtain ⟨e, hj⟩ := ne hj
    obtain ⟨p, vs, h1, h2, h3, h4⟩ := S.own j ds hj
    exact ⟨p, vs, by rw [List.getElem?_set_ne e]; exact h1, h2, h3, OwnD.goes (goes_less fun a z => (bde a).mp z) h4⟩
  · obtain ⟨e, hi⟩ := ne hi
    obtain ⟨e', hj⟩ := ne hj
    rw [List.getElem?_set_ne e] at h1
    rw [List.getElem?_set_ne e'] at h2
    exact S.inj i j ds es p hi hj h1 h2
  · obtain ⟨e, hj⟩ := ne hj
    rw [List.getElem?_set_ne e]
    exact S.bag j hj
  · obtain ⟨e, hj⟩ := ne hj
    rw [List.getElem?_set_ne e]
    exact S.exc j x hj
  · obtain ⟨e, hj⟩ := ne hj
    rw [List.getElem?_set_ne e] at hp
    exact S.nb j ds p hj hp
theorem Sto.wipe (S : Sto G B0 H0 δ g σ H) : ∀ {vs : List Nat}, noOwn vs δ = true → Sto G B0 H0 (wipeD δ vs) g (L2.wipe σ vs) H ∧ ∀ a, Bd B0 (wipeD δ vs) (L2.wipe σ vs) a ↔ Bd B0 δ σ a
  | [], _ => ⟨S, fun _ => Iff.rfl⟩
  | v :: vs, h => by
    have h' : noOwn vs δ = true := by
      unfold noOwn at h ⊢
      rw [List.all_cons, Bool.and_eq_true] at h
      exact h.2
    have hv : ∀ ds, δ[v]? ≠ some (some (.own ds)) := fun ds z => by
      unfold noOwn at h
      rw [List.all_cons, Bool.and_eq_true] at h
      have := h.1
      rw [z] at this
      cases this
    obtain ⟨S1, b1⟩ := Sto.wipe S h'
    obtain ⟨S2, b2⟩ := S1.clear (k := v) fun ds z => hv ds (wipeD_at z).2
    exact ⟨S2, fun a => (b2 a).trans (b1 a)⟩
/-- a new object, that is not to be seen -/
theorem Sto.box (S : Sto G B0 H0 δ g σ H) {p : Addr} {o : HO} (hp : H p = none) : Sto G (With B0 p) (ground δ σ H) δ g σ (upd H p o) := by
  have R := S.rebase
  have go : Goes (Bd B0 δ σ) (Bd (With B0 p) δ σ) H (upd H p o) := fun a u n e => ⟨by rw [upd_ne (ne_of_none e hp)]; exact e, fun z => by
    rcases z with (z | z) | z
    · exact n (Or.inl z)
    · subst z
      rw [hp] at e
      cases e
    · exact n (Or.inr z)⟩
  refine ⟨S.len, fun a u n e => ?_, bag_upd S.bg hp, S.lb, R.scr, Or.inl S.b0, R.hb, fun a h => ?_, fun i d h => ?_, fun i ds h => ?_, S.inj, S.bag, S.exc, fun i ds q h1 h2 z => z.elim (S.nb i ds q h1 h2) fun z => ?_⟩
  · have e' := ground_sub e
    rw [upd_ne (ne_of_none e' hp)]
    exact e'
  · unfold upd
    split
    · rfl
    · rcases h with h | h
      · exact S.al a h
      · contradiction
  · obtain ⟨v, h1, h2⟩ := S.val i d h
    exact ⟨v, h1, Dat.goes go h2⟩
  · obtain ⟨q, vs, h1, h2, h3, h4⟩ := R.own i ds h
    exact ⟨q, vs, h1, h2, by rw [upd_ne (ne_of_none h3 hp)]; exact h3, OwnD.goes go h4⟩
  · subst z
    obtain ⟨q', vs, c1, c2, c3, c4⟩ := S.own i ds h1
    rw [h2] at c1
    cases c1
    rw [hp] at c3
    cases c3
/-- what is not to be seen may change -/
theorem Sto.poke (S : Sto G B0 H0 δ g σ H) {p : Addr} {o : HO} (hp : B0 p) (pb : p ≠ G.b) (h0 : H0 p = none) (ho : ∀ (i : Nat) (ds : D), δ[i]? = some (some (.own ds)) → σ[i]? ≠ some (some (V.ref p))) : Sto G B0 H0 δ g σ (upd H p o) := by
  have go : Goes (Bd B0 δ σ) (Bd B0 δ σ) H (upd H p o) := fun a u n e => ⟨by rw [upd_ne (fun z => n (by rw [z]; exact Or.inl hp))]; exact e, n⟩
  refine ⟨S.len, fun a u n e => ?_, ?_, S.lb, S.scr, S.b0, S.hb, fun a h => ?_, fun i d h => ?_, fun i ds h => ?_, S.inj, S.bag, S.exc, S.nb⟩
  · rw [upd_ne (ne_of_none e h0)]
    exact S.ent a u n e
  · show upd H p o G.b = _
    rw [upd_ne (fun z => pb z.symm)]
    exact S.bg
  · unfold upd
    split
    · rfl
    · exact S.al a h
  · obtain ⟨v, h1, h2⟩ := S.val i d h
    exact ⟨v, h1, Dat.goes go h2⟩
  · obtain ⟨q, vs, h1, h2, h3, h4⟩ := S.own i ds h
    exact ⟨q, vs, h1, h2, by rw [upd_ne (fun z => ho i ds h (by rw [← z]; exact h1))]; exact h3, OwnD.goes go h4⟩
end
theorem wipe_len (σ : L2.St) (vs : List Nat) : (L2.wipe σ vs).length = σ.length := L2.wipe_length σ vs
theorem wipe_at (σ : L2.St) : ∀ (vs : List Nat) (k : Nat), (L2.wipe σ vs)[k]? = if k ∈ vs then (if k < σ.length then some none else none) else σ[k]?
  | [], k => by simp [L2.wipe]
  | v :: vs, k => by
    unfold L2.wipe
    by_cases e : v = k
    · subst e
      rw [if_pos List.mem_cons_self]
      by_cases hl : v < σ.length
      · rw [if_pos hl, List.getElem?_set_self (by rw [wipe_len]; exact hl)]
      · rw [if_neg hl, List.getElem?_eq_none (by rw [List.length_set, wipe_len]; omega)]
    · rw [List.getElem?_set_ne e, wipe_at σ vs k]
      by_cases hm : k ∈ vs
      · rw [if_pos hm, if_pos (List.mem_cons_of_mem _ hm)]
      · rw [if_neg hm, if_neg (fun z => by rcases List.mem_cons.mp z with z | z; exact e z.symm; exact hm z)]
theorem wipe_back {σ σ2 : L2.St} {vs js : List Nat} (hl : σ2.length = σ.length) (hj : ∀ k, k ∉ js → σ2[k]? = (L2.wipe σ vs)[k]?) (hs : ∀ k ∈ js, k ∈ vs) : L2.wipe σ2 vs = L2.wipe σ vs := by
  apply List.ext_getElem?
  intro k
  rw [wipe_at σ2]
  by_cases hm : k ∈ vs
  · rw [if_pos hm, wipe_at, if_pos hm, hl]
  · rw [if_neg hm, hj k (fun z => hm (hs k z))]

def WF : WX := fun _ _ _ _ => False
/-- the items of a comprehension -/
def lcGo (mg : DG) (mt : DB) (me : DE) (δ : DS) : List D → List D → Bag → Option (List D × Bag)
  | [], acc, g => some (acc, g)
  | d :: ds, acc, g => match mg d δ with
    | none => none
    | some δ2 => match mt δ2 g with
      | some (.ok true, g1) => match me δ2 g1 with
        | some (.ok e, g2) => match e.keep with
          | some x => if lineOk (acc.length + 1) = true then lcGo mg mt me δ ds (acc ++ [x]) g2 else none
          | none => none
        | _ => none
      | some (.ok false, g1) => lcGo mg mt me δ ds acc g1
      | _ => none
section
variable {K : PySem.W.Frag} {cl : Str → Option Addr} {W : WX} {te ta tb : TE} {tt : TT} {me ma mb : DE} {mt : DB}
theorem Sto.goes0 {G : Gd} {B0 : Addr → Prop} {H0 H : Hp} {δ : DS} {g : Bag} {σ : L2.St} (S : Sto G B0 H0 δ g σ H) : Goes B0 (Bd B0 δ σ) H0 H := fun a o n e => ⟨S.ent a o (fun z => n (by rw [z]; exact S.b0)) e, fun z => by
  rcases z with z | ⟨j, es, a1, a2⟩
  · exact n z
  · obtain ⟨q, ws, c1, c2, _, _⟩ := S.own j es a1
    rw [a2] at c1
    cases c1
    rw [c2] at e
    cases e⟩
theorem lc_walk {b l : Addr} {B0 : Addr → Prop} {H0 Hs : Hp} {δp : DS} {σ : L2.St} {vs js : List Nat} {tg : TG} {mg : DG} {J : It} {ds : List D} {p : Addr} {Nx : Hp → Prop}
    (hg : AG K cl js tg mg) (ht : AB K cl WF tt mt) (he : AE K cl WF te me) (hjs : ∀ k ∈ js, k ∈ vs) (hJ : ItOk ⟨K, cl, b, l⟩ B0 H0 J ds) (hp : B0 p) (pb : p ≠ b) (h0 : H0 p = none) (ho : ∀ (i : Nat) (es : D), (wipeD δp vs)[i]? = some (some (.own es)) → (L2.wipe σ vs)[i]? ≠ some (some (V.ref p))) (hsp : Hs p = none)
    {g0 gF : Bag} {acc0 accF : List D} {v0 : List V} {H : Hp} (S : Sto ⟨K, cl, b, l⟩ B0 H0 (wipeD δp vs) g0 (L2.wipe σ vs) H) (kp : Kp ⟨K, cl, b, l⟩ Hs H) (hv : H p = some (.lst v0)) (dv : DatL ⟨K, cl, b, l⟩ (Bd B0 (wipeD δp vs) (L2.wipe σ vs)) H v0 acc0)
    (hr : lcGo mg mt me (wipeD δp vs) ds acc0 g0 = some (accF, gF))
    (hN : ∀ H' vF, Sto ⟨K, cl, b, l⟩ B0 H0 (wipeD δp vs) gF (L2.wipe σ vs) H' → Kp ⟨K, cl, b, l⟩ Hs H' → H' p = some (.lst vF) → DatL ⟨K, cl, b, l⟩ (Bd B0 (wipeD δp vs) (L2.wipe σ vs)) H' vF accF → gF.ns = g0.ns → Nx H') :
    ∃ WW : Nat → Nat → Hp → Prop, (∃ m, WW 0 m H) ∧ ∀ i m H, WW i m H →
      (J.stop i H ∧ Nx H) ∨ (J.go i H ∧ ∃ Ny : Hp → Prop, (∀ H', Ny H' → ∃ m', m' < m ∧ WW (i + 1) m' H') ∧ ∀ x H', J.yld i H x H' → tg x (L2.wipe σ vs) H' fun σ2 H2 => L2.wipe σ2 vs = L2.wipe σ vs ∧ tt σ2 H2 fun c H3 =>
        if c = true then te σ2 H3 fun y H4 => ∃ acc, H4 p = some (.lst acc) ∧ acc.length < sizeLine ∧ Ny (upd H4 p (.lst (acc ++ [y]))) else Ny H3) := by
  refine ⟨fun i m H' => m = ds.length - i ∧ i ≤ ds.length ∧ ∃ g2 acc v2, Sto ⟨K, cl, b, l⟩ B0 H0 (wipeD δp vs) g2 (L2.wipe σ vs) H' ∧ Kp ⟨K, cl, b, l⟩ Hs H' ∧ H' p = some (.lst v2) ∧ DatL ⟨K, cl, b, l⟩ (Bd B0 (wipeD δp vs) (L2.wipe σ vs)) H' v2 acc ∧ lcGo mg mt me (wipeD δp vs) (ds.drop i) acc g2 = some (accF, gF) ∧ g2.ns = g0.ns,
    ⟨ds.length, rfl, Nat.zero_le _, g0, acc0, v0, S, kp, hv, dv, hr, rfl⟩, ?_⟩
  rintro i m H1 ⟨rfl, hle, g1, acc, v1, S1, k1, hv1, d1, h1, n1⟩
  obtain ⟨hgo', hstop⟩ := hJ _ H1 S1.goes0 S1.alB
  by_cases hlt : i < ds.length
  · obtain ⟨d, e1, e2⟩ := drop_get hlt
    obtain ⟨hgo, hy⟩ := hgo' i d e1
    refine Or.inr ⟨hgo, fun H' => ∃ g2 acc v2, Sto ⟨K, cl, b, l⟩ B0 H0 (wipeD δp vs) g2 (L2.wipe σ vs) H' ∧ Kp ⟨K, cl, b, l⟩ Hs H' ∧ H' p = some (.lst v2) ∧ DatL ⟨K, cl, b, l⟩ (Bd B0 (wipeD δp vs) (L2.wipe σ vs)) H' v2 acc ∧ lcGo mg mt me (wipeD δp vs) (ds.drop (i + 1)) acc g2 = some (accF, gF) ∧ g2.ns = g0.ns,
      fun H' ⟨g2, acc2, v2, z⟩ => ⟨ds.length - (i + 1), by omega, rfl, hlt, g2, acc2, v2, z⟩, fun x H2 y => ?_⟩
    obtain ⟨ww, dx⟩ := hy x H2 y
    obtain ⟨S1', kw⟩ := ww.sto S1
    replace hv1 := kw p _ pb hv1
    replace d1 := DatL.goes (kw.goes S1.bd) d1
    replace k1 := k1.trans kw
    replace S1 := S1'
    rw [e2] at h1
    unfold lcGo at h1
    cases em : mg d (wipeD δp vs) with
    | none => rw [em] at h1; cases h1
    | some δ2 =>
      rw [em] at h1
      dsimp only at h1
      refine hg b l B0 H0 _ g1 _ H2 x d δ2 S1 dx em _ fun σ2 S2 sub ag ow => ?_
      have back : L2.wipe σ2 vs = L2.wipe σ vs := wipe_back (ag.1.trans (wipe_len σ vs)) (fun k hk => (ag.2 k hk).1) hjs
      have bd2 : ∀ a, Bd B0 (wipeD δp vs) (L2.wipe σ vs) a → Bd B0 δ2 σ2 a := fun a z => by
        rcases z with z | ⟨j, es, a1, a2⟩
        · exact Or.inl z
        · have nj : j ∉ js := fun z => (wipeD_at a1).1 (hjs j z)
          exact Or.inr ⟨j, es, by rw [(ag.2 j nj).2]; exact a1, by rw [(ag.2 j nj).1]; exact a2⟩
      refine ⟨back, ?_⟩
      cases et : mt δ2 g1 with
      | none => rw [et] at h1; cases h1
      | some pr =>
        obtain ⟨r, g2⟩ := pr
        rw [et] at h1
        cases r with
        | er z => cases h1
        | ok c =>
          refine ht b l B0 H0 δ2 g1 σ2 H2 _ g2 S2 et _ fun H3 k3 b3 n3 => ?_
          cases c with
          | false =>
            show ∃ g2 acc v2, _
            exact ⟨g2, acc, v1, S1.kp k3 b3 n3, k1.trans k3, k3 p _ pb hv1, DatL.goes (k3.goes S1.bd) d1, h1, n3.trans n1⟩
          | true =>
            dsimp only at h1
            have S3 := S2.kp k3 b3 n3
            cases ee : me δ2 g2 with
            | none => rw [ee] at h1; cases h1
            | some pr =>
              obtain ⟨r, g3⟩ := pr
              rw [ee] at h1
              cases r with
              | er z => cases h1
              | ok ev =>
                dsimp only at h1
                cases hk : ev.keep with
                | none => rw [hk] at h1; cases h1
                | some w =>
                  rw [hk] at h1
                  dsimp only at h1
                  split at h1
                  · rename_i hl
                    show te σ2 H3 fun y H4 => ∃ acc, H4 p = some (.lst acc) ∧ acc.length < sizeLine ∧ _
                    refine he b l B0 H0 δ2 g2 σ2 H3 _ g3 S3 ee _ fun y H4 k4 b4 n4 hy4 => ?_
                    have k24 := k3.trans k4
                    have dy : Dat ⟨K, cl, b, l⟩ (Bd B0 (wipeD δp vs) (L2.wipe σ vs)) H4 y w := Dat.goes (goes_less bd2) (evok_keep S3.alB hy4 hk)
                    have d4 : DatL ⟨K, cl, b, l⟩ (Bd B0 (wipeD δp vs) (L2.wipe σ vs)) H4 v1 acc := DatL.goes (k24.goes S1.bd) d1
                    have hl' := line_of hl
                    have := d1.len
                    refine ⟨v1, k24 p _ pb hv1, by omega, g3, acc ++ [w], v1 ++ [y], (S1.kp k24 b4 (n4.trans n3)).poke hp pb h0 ho, ?_, upd_same, ?_, h1, (n4.trans n3).trans n1⟩
                    · intro a u n e
                      rw [upd_ne (ne_of_none e hsp)]
                      exact (k1.trans k24) a u n e
                    · exact DatL.goes (fun a u n e => ⟨by rw [upd_ne (fun z => n (by rw [z]; exact Or.inl hp))]; exact e, n⟩) (d4.append (.cons dy .nil))
                  · cases h1
  · have ei : i = ds.length := by omega
    subst ei
    rw [List.drop_length] at h1
    cases h1
    exact Or.inl ⟨hstop, hN H1 v1 S1 k1 hv1 d1 n1⟩

/-- fewer slots -/
theorem Sto.less {G : Gd} {B0 : Addr → Prop} {H0 H : Hp} {δ δ' : DS} {g : Bag} {σ σ' : L2.St} (S : Sto G B0 H0 δ' g σ' H) (hl : σ.length = δ.length) (h1 : ∀ (k : Nat) (x : SV), δ[k]? = some (some x) → δ'[k]? = some (some x) ∧ σ'[k]? = σ[k]?)
    (h2 : ∀ (k : Nat) (ds : D), δ'[k]? = some (some (.own ds)) → δ[k]? = some (some (.own ds))) : Sto G B0 H0 δ g σ H ∧ ∀ a, Bd B0 δ σ a ↔ Bd B0 δ' σ' a := by
  have bde : ∀ a, Bd B0 δ σ a ↔ Bd B0 δ' σ' a := fun a => by
    constructor
    · rintro (h | ⟨j, ds, a1, a2⟩)
      · exact Or.inl h
      · obtain ⟨b1, b2⟩ := h1 j _ a1
        exact Or.inr ⟨j, ds, b1, b2.trans a2⟩
    · rintro (h | ⟨j, ds, a1, a2⟩)
      · exact Or.inl h
      · have b1 := h2 j ds a1
        exact Or.inr ⟨j, ds, b1, by rw [← (h1 j _ b1).2]; exact a2⟩
  refine ⟨⟨hl, S.ent, S.bg, S.lb, S.scr, S.b0, S.hb, S.al, fun i d h => ?_, fun i ds h => ?_, fun i j ds es p hi hj a1 a2 => ?_, fun i h => ?_, fun i x h => ?_, fun i ds p hi hp => ?_⟩, bde⟩
  · obtain ⟨b1, b2⟩ := h1 i _ h
    obtain ⟨v, c1, c2⟩ := S.val i d b1
    exact ⟨v, b2 ▸ c1, Dat.goes (goes_less fun a z => (bde a).mp z) c2⟩
  · obtain ⟨b1, b2⟩ := h1 i _ h
    obtain ⟨p, vs, c1, c2, c3, c4⟩ := S.own i ds b1
    exact ⟨p, vs, b2 ▸ c1, c2, c3, OwnD.goes (goes_less fun a z => (bde a).mp z) c4⟩
  · obtain ⟨b1, b2⟩ := h1 i _ hi
    obtain ⟨c1, c2⟩ := h1 j _ hj
    exact S.inj i j ds es p b1 c1 (b2.trans a1) (c2.trans a2)
  · obtain ⟨b1, b2⟩ := h1 i _ h
    rw [← b2]
    exact S.bag i b1
  · obtain ⟨b1, b2⟩ := h1 i _ h
    rw [← b2]
    exact S.exc i x b1
  · obtain ⟨b1, b2⟩ := h1 i _ hi
    exact S.nb i ds p b1 (b2.trans hp)
/-- less is known of the entry -/
theorem Sto.weak0 {G : Gd} {B0 : Addr → Prop} {H0 Hx H : Hp} {δ : DS} {g : Bag} {σ : L2.St} (S : Sto G B0 Hx δ g σ H) (sub : ∀ a o, a ≠ G.b → H0 a = some o → Hx a = some o) (hb : (H0 G.b).isSome = true) (hl : (H0 G.l).isSome = true) : Sto G B0 H0 δ g σ H := by
  refine ⟨S.len, fun a o n e => S.ent a o n (sub a o n e), S.bg, S.lb, ?_, S.b0, hb, S.al, S.val, fun i ds h => ?_, S.inj, S.bag, S.exc, S.nb⟩
  · cases e : H0 G.l with
    | none => rw [e] at hl; cases hl
    | some o => rw [← sub _ o S.lb e]; exact S.scr
  · obtain ⟨p, vs, a1, a2, a3, a4⟩ := S.own i ds h
    refine ⟨p, vs, a1, ?_, a3, a4⟩
    cases e : H0 p with
    | none => rfl
    | some o => rw [sub p o (S.ownb a2) e] at a2; cases a2
open Classical in
noncomputable def without (H : Hp) (p : Addr) : Hp := fun a => if a = p then none else H a
theorem without_some {H : Hp} {p a : Addr} {o : HO} (h : without H p a = some o) : H a = some o := by
  unfold without at h
  split at h
  · cases h
  · exact h
theorem without_of {H : Hp} {p a : Addr} {o : HO} (h : H a = some o) (n : a ≠ p) : without H p a = some o := by
  unfold without
  rw [if_neg n]
  exact h

def eLc (vs : List Nat) (mi : DI) (mg : DG) (mt : DB) (me : DE) : DE := fun δ => mbind (mi δ) fun ds g => if noOwn vs δ = true then (match lcGo mg mt me (wipeD δ vs) ds [] g with
  | some (es, g') => some (.ok (.nw (.lst es)), g')
  | none => none) else none
theorem ae_lc_at {b l : Addr} {B0 : Addr → Prop} {H0 : Hp} {δ : DS} {g : Bag} {σ : L2.St} {H : Hp} {vs js : List Nat} {wi : TI} {mi : DI} {tg : TG} {mg : DG} (S : Sto ⟨K, cl, b, l⟩ B0 H0 δ g σ H) (hi : AIat ⟨K, cl, b, l⟩ B0 W δ g σ H wi mi) (hg : AG K cl js tg mg) (ht : AB K cl WF tt mt) (he : AE K cl WF te me) (hjs : ∀ k ∈ js, k ∈ vs)
    {r : Rs EV} {g' : Bag} (hm : eLc vs mi mg mt me δ g = some (r, g')) (Q : VK) (q : Post ⟨K, cl, b, l⟩ (Bd B0 δ σ) W σ H g g' Q r) : tLc wi tg tt te vs σ H Q := by
  rcases mb_cases hm with ⟨x, e, rfl⟩ | ⟨ds, g1, e, hm⟩
  · exact hi _ _ e _ q
  · refine hi _ _ e _ fun J H1 k1 b1 n1 hJ => ?_
    have S1 := S.kp k1 b1 n1
    split at hm
    · rename_i hno
      cases hr : lcGo mg mt me (wipeD δ vs) ds [] g1 with
      | none => rw [hr] at hm; cases hm
      | some pr =>
        obtain ⟨es, g2⟩ := pr
        rw [hr] at hm
        cases hm
        intro p hp
        obtain ⟨Sw, bw⟩ := S1.wipe hno
        have Sb := Sw.box (o := .lst []) hp
        have pb : p ≠ b := fun z => by
          subst z
          have := S1.bg.some
          rw [hp] at this
          cases this
        have hp0 : H p = none := fresh_kp b1.some k1 hp
        have gp : ground (wipeD δ vs) (L2.wipe σ vs) H1 p = none := by
          cases z : ground (wipeD δ vs) (L2.wipe σ vs) H1 p with
          | none => rfl
          | some o => rw [ground_sub z] at hp; cases hp
        have up : ∀ a, With (Bd B0 δ σ) p a → Bd (With B0 p) (wipeD δ vs) (L2.wipe σ vs) a := fun a z => by
          rcases z with z | z
          · rcases (bw a).mpr z with z | z
            · exact Or.inl (Or.inl z)
            · exact Or.inr z
          · exact Or.inl (Or.inr z)
        refine lc_walk (K := K) (cl := cl) (b := b) (l := l) (B0 := With B0 p) (H0 := ground (wipeD δ vs) (L2.wipe σ vs) H1) (Hs := H) hg ht he hjs (hJ.goes fun a o n e => ⟨ground_of (B0 := B0) e fun z => n ((bw a).mp z), fun z => ?_⟩) (Or.inr rfl) pb gp (fun i es h z => ?_) hp0 Sb (k1.trans (Kp.new hp)) upd_same .nil hr fun H' vF S' k' hv dv nn => ?_
        · rcases z with z | z
          · exact n (Or.inl z)
          · subst z
            rw [hp] at e
            cases e
        · obtain ⟨q', ws, c1, c2, c3, _⟩ := Sw.own i es h
          rw [z] at c1
          cases c1
          rw [hp] at c3
          cases c3
        · exact q _ H' k' S'.bg (nn.trans n1) ⟨p, _, rfl, hp0, hv, .lst (DatL.goes (goes_less up) dv)⟩
    · cases hm

theorem ae_lc {vs js : List Nat} {wi : TI} {mi : DI} {tg : TG} {mg : DG} (hi : AI K cl W wi mi) (hg : AG K cl js tg mg) (ht : AB K cl WF tt mt) (he : AE K cl WF te me) (hjs : ∀ k ∈ js, k ∈ vs) : AE K cl W (tLc wi tg tt te vs) (eLc vs mi mg mt me) := by
  intro b l B0 H0 δ g σ H r g' S hm Q q
  exact ae_lc_at S (fun r g' e R p => hi b l B0 H0 δ g σ H r g' S e R p) hg ht he hjs hm Q q
def lc2Go (mg : DG) (mt : DB) (mi1 : DI) (vs1 : List Nat) (mg1 : DG) (mt1 : DB) (me : DE) (δ : DS) : List D → List D → Bag → Option (List D × Bag)
  | [], acc, g => some (acc, g)
  | d :: ds, acc, g => match mg d δ with
    | none => none
    | some δ2 => match mt δ2 g with
      | some (.ok true, g1) => match mi1 δ2 g1 with
        | some (.ok ds1, g2) => if noOwn vs1 δ2 = true then (match lcGo mg1 mt1 me (wipeD δ2 vs1) ds1 acc g2 with
          | some (acc', g3) => lc2Go mg mt mi1 vs1 mg1 mt1 me δ ds acc' g3
          | none => none) else none
        | _ => none
      | some (.ok false, g1) => lc2Go mg mt mi1 vs1 mg1 mt1 me δ ds acc g1
      | _ => none
def eLc2 (vs vs1 : List Nat) (mi : DI) (mg : DG) (mt : DB) (mi1 : DI) (mg1 : DG) (mt1 : DB) (me : DE) : DE := fun δ => mbind (mi δ) fun ds g => if noOwn vs δ = true then (match lc2Go mg mt mi1 vs1 mg1 mt1 me (wipeD δ vs) ds [] g with
  | some (es, g') => some (.ok (.nw (.lst es)), g')
  | none => none) else none
theorem ae_lc2_at {b l : Addr} {B0 : Addr → Prop} {H0 : Hp} {δ : DS} {g : Bag} {σ : L2.St} {H : Hp} {vs vs1 js js1 : List Nat} {wi wi1 : TI} {mi mi1 : DI} {tg tg1 : TG} {mg mg1 : DG} {tt1 : TT} {mt1 : DB} (S : Sto ⟨K, cl, b, l⟩ B0 H0 δ g σ H) (hi : AIat ⟨K, cl, b, l⟩ B0 W δ g σ H wi mi) (hg : AG K cl js tg mg) (ht : AB K cl WF tt mt) (hi1 : AI K cl WF wi1 mi1) (hg1 : AG K cl js1 tg1 mg1) (ht1 : AB K cl WF tt1 mt1) (he : AE K cl WF te me)
    (hjs : ∀ k ∈ js, k ∈ vs) (hjs1 : ∀ k ∈ js1, k ∈ vs1) (hv1 : ∀ k ∈ vs1, k ∈ vs)
    {r : Rs EV} {g' : Bag} (hm : eLc2 vs vs1 mi mg mt mi1 mg1 mt1 me δ g = some (r, g')) (Q : VK) (q : Post ⟨K, cl, b, l⟩ (Bd B0 δ σ) W σ H g g' Q r) : tLc2 wi tg tt wi1 tg1 tt1 te vs vs1 σ H Q := by
  rcases mb_cases hm with ⟨x, e, rfl⟩ | ⟨ds, g1, e, hm⟩
  · exact hi _ _ e _ q
  refine hi _ _ e _ fun J H1 k1 b1 n1 hJ => ?_
  have S1 := S.kp k1 b1 n1
  split at hm
  case isFalse => cases hm
  rename_i hno
  cases hr : lc2Go mg mt mi1 vs1 mg1 mt1 me (wipeD δ vs) ds [] g1 with
  | none => rw [hr] at hm; cases hm
  | some pr =>
  obtain ⟨es, g2⟩ := pr
  rw [hr] at hm
  cases hm
  intro p hp
  obtain ⟨Sw, bw⟩ := S1.wipe hno
  have Sb := Sw.box (o := .lst []) hp
  have pb : p ≠ b := fun z => by
    subst z
    have := S1.bg.some
    rw [hp] at this
    cases this
  have hp0 : H p = none := fresh_kp b1.some k1 hp
  have pl : p ≠ l := fun z => by
    subst z
    have := S1.ent p _ S1.lb S1.scr
    rw [hp] at this
    cases this
  have gp : ground (wipeD δ vs) (L2.wipe σ vs) H1 p = none := by
    cases z : ground (wipeD δ vs) (L2.wipe σ vs) H1 p with
    | none => rfl
    | some o => rw [ground_sub z] at hp; cases hp
  have up : ∀ a, With (Bd B0 δ σ) p a → Bd (With B0 p) (wipeD δ vs) (L2.wipe σ vs) a := fun a z => by
    rcases z with z | z
    · rcases (bw a).mpr z with z | z
      · exact Or.inl (Or.inl z)
      · exact Or.inr z
    · exact Or.inl (Or.inr z)
  have ho : ∀ (i : Nat) (es : D), (wipeD δ vs)[i]? = some (some (.own es)) → (L2.wipe σ vs)[i]? ≠ some (some (V.ref p)) := fun i es h z => by
    obtain ⟨q', ws, c1, c2, c3, _⟩ := Sw.own i es h
    rw [z] at c1
    cases c1
    rw [hp] at c3
    cases c3
  have hJ0 : ItOk ⟨K, cl, b, l⟩ (With B0 p) (ground (wipeD δ vs) (L2.wipe σ vs) H1) J ds := hJ.goes fun a o n e => ⟨ground_of (B0 := B0) e fun z => n ((bw a).mp z), fun z => by
    rcases z with z | z
    · exact n (Or.inl z)
    · subst z
      rw [hp] at e
      cases e⟩
  -- the outer walk
  generalize hH0 : ground (wipeD δ vs) (L2.wipe σ vs) H1 = Hb at Sb gp hJ0
  refine ⟨fun i m H' => m = ds.length - i ∧ i ≤ ds.length ∧ ∃ g2' acc v2, Sto ⟨K, cl, b, l⟩ (With B0 p) Hb (wipeD δ vs) g2' (L2.wipe σ vs) H' ∧ Kp ⟨K, cl, b, l⟩ H H' ∧ H' p = some (.lst v2) ∧ DatL ⟨K, cl, b, l⟩ (Bd (With B0 p) (wipeD δ vs) (L2.wipe σ vs)) H' v2 acc ∧ lc2Go mg mt mi1 vs1 mg1 mt1 me (wipeD δ vs) (ds.drop i) acc g2' = some (es, g') ∧ g2'.ns = g1.ns,
    ⟨ds.length, rfl, Nat.zero_le _, g1, [], [], Sb, k1.trans (Kp.new hp), upd_same, .nil, hr, rfl⟩, ?_⟩
  rintro i m H2 ⟨rfl, hle, g3, acc, v2, S2, k2, hv2, d2, h2, n2⟩
  obtain ⟨hgo', hstop⟩ := hJ0 _ H2 S2.goes0 S2.alB
  by_cases hlt : i < ds.length
  case neg =>
    have ei : i = ds.length := by omega
    subst ei
    rw [List.drop_length] at h2
    cases h2
    exact Or.inl ⟨hstop, q _ H2 k2 S2.bg (n2.trans n1) ⟨p, _, rfl, hp0, hv2, .lst (DatL.goes (goes_less up) d2)⟩⟩
  obtain ⟨d, e1, e2⟩ := drop_get hlt
  obtain ⟨hgo, hy⟩ := hgo' i d e1
  refine Or.inr ⟨hgo, fun H' => ∃ g2' acc v2, Sto ⟨K, cl, b, l⟩ (With B0 p) Hb (wipeD δ vs) g2' (L2.wipe σ vs) H' ∧ Kp ⟨K, cl, b, l⟩ H H' ∧ H' p = some (.lst v2) ∧ DatL ⟨K, cl, b, l⟩ (Bd (With B0 p) (wipeD δ vs) (L2.wipe σ vs)) H' v2 acc ∧ lc2Go mg mt mi1 vs1 mg1 mt1 me (wipeD δ vs) (ds.drop (i + 1)) acc g2' = some (es, g') ∧ g2'.ns = g1.ns,
    fun H' ⟨g4, acc4, v4, z⟩ => ⟨ds.length - (i + 1), by omega, rfl, hlt, g4, acc4, v4, z⟩, fun x H3 y => ?_⟩
  obtain ⟨ww, dx⟩ := hy x H3 y
  obtain ⟨S2', kw⟩ := ww.sto S2
  replace hv2 := kw p _ pb hv2
  replace d2 := DatL.goes (kw.goes S2.bd) d2
  replace k2 := k2.trans kw
  replace S2 := S2'
  rw [e2] at h2
  unfold lc2Go at h2
  cases em : mg d (wipeD δ vs) with
  | none => rw [em] at h2; cases h2
  | some δ2 =>
  rw [em] at h2
  dsimp only at h2
  refine hg b l _ Hb _ g3 _ H3 x d δ2 S2 dx em _ fun σ2 S3 sub ag ow => ?_
  have back : L2.wipe σ2 vs = L2.wipe σ vs := wipe_back (ag.1.trans (wipe_len σ vs)) (fun k hk => (ag.2 k hk).1) hjs
  have bd2 : ∀ a, Bd (With B0 p) (wipeD δ vs) (L2.wipe σ vs) a → Bd (With B0 p) δ2 σ2 a := fun a z => by
    rcases z with z | ⟨j, es, a1, a2⟩
    · exact Or.inl z
    · have nj : j ∉ js := fun z => (wipeD_at a1).1 (hjs j z)
      exact Or.inr ⟨j, es, by rw [(ag.2 j nj).2]; exact a1, by rw [(ag.2 j nj).1]; exact a2⟩
  refine ⟨back, ?_⟩
  cases et : mt δ2 g3 with
  | none => rw [et] at h2; cases h2
  | some pr =>
  obtain ⟨rr, g4⟩ := pr
  rw [et] at h2
  cases rr with
  | er z => cases h2
  | ok c =>
  refine ht b l _ Hb δ2 g3 σ2 H3 _ g4 S3 et _ fun H4 k4 b4 n4 => ?_
  cases c with
  | false => exact ⟨g4, acc, v2, S2.kp k4 b4 n4, k2.trans k4, k4 p _ pb hv2, DatL.goes (k4.goes S2.bd) d2, h2, n4.trans n2⟩
  | true =>
  dsimp only at h2
  have S4 := S3.kp k4 b4 n4
  show wi1 σ2 H4 _
  cases ei1 : mi1 δ2 g4 with
  | none => rw [ei1] at h2; cases h2
  | some pr =>
  obtain ⟨rr, g5⟩ := pr
  rw [ei1] at h2
  cases rr with
  | er z => cases h2
  | ok ds1 =>
  dsimp only at h2
  refine hi1 b l _ Hb δ2 g4 σ2 H4 _ g5 S4 ei1 _ fun J1 H5 k5 b5 n5 hJ1 => ?_
  have S5 := S4.kp k5 b5 n5
  have S5w := (S2.kp k4 b4 n4).kp k5 b5 n5
  split at h2
  case isFalse => cases h2
  rename_i hno1
  cases hr1 : lcGo mg1 mt1 me (wipeD δ2 vs1) ds1 acc g5 with
  | none => rw [hr1] at h2; cases h2
  | some pr =>
  obtain ⟨acc', g6⟩ := pr
  rw [hr1] at h2
  dsimp only at h2
  obtain ⟨Sx, bx⟩ := S5.wipe hno1
  have k45 := k4.trans k5
  -- what the inner walk keeps
  have sub0 : ∀ a o, a ≠ b → Hb a = some o → without (ground δ2 σ2 H5) p a = some o := fun a o n e => without_of (S5.h0g n e) fun z => by
    subst z
    rw [gp] at e
    cases e
  have Hin : Sto ⟨K, cl, b, l⟩ (With B0 p) (without (ground δ2 σ2 H5) p) (wipeD δ2 vs1) g5 (L2.wipe σ2 vs1) H5 := by
    have R := S5.rebase
    have R' : Sto ⟨K, cl, b, l⟩ (With B0 p) (ground δ2 σ2 H5) (wipeD δ2 vs1) g5 (L2.wipe σ2 vs1) H5 := (R.wipe hno1).1
    refine R'.weak0 (fun a o n e => without_some e) ?_ ?_
    · have := R.hb
      cases z : ground δ2 σ2 H5 b with
      | none => rw [z] at this; cases this
      | some o => rw [without_of z (fun z => pb z.symm)]; rfl
    · rw [without_of R.scr (fun z => pl z.symm)]
      rfl
  refine lc_walk (K := K) (cl := cl) (b := b) (l := l) (B0 := With B0 p) (H0 := without (ground δ2 σ2 H5) p) (Hs := H) hg1 ht1 he hjs1 (hJ1.goes fun a o n e => ⟨without_of (ground_of (B0 := With B0 p) e n) fun z => n (by rw [z]; exact Or.inl (Or.inr rfl)), fun z => n (Or.inl z)⟩) (Or.inr rfl) pb (by unfold without; rw [if_pos rfl]) (fun i es h z => ?_) hp0 Hin (k2.trans k45) (k45 p _ pb hv2) ?_ hr1 fun H' vF S' k' hv dv nn => ?_
  · obtain ⟨n1', n2'⟩ := wipeD_at h
    rw [wipe_at, if_neg n1'] at z
    obtain ⟨y1, y2⟩ := ow i es n2'
    exact ho i es y1 (y2 ▸ z)
  · exact DatL.goes (goes_less fun a z => sub a ((bx a).mp z)) (DatL.goes (k45.goes S2.bd) d2)
  · have Sy : Sto ⟨K, cl, b, l⟩ (With B0 p) Hb (wipeD δ2 vs1) g6 (L2.wipe σ2 vs1) H' := S'.weak0 sub0 S2.hb (by rw [S2.scr]; rfl)
    obtain ⟨Sz, bz⟩ := Sy.less (δ := wipeD δ vs) (σ := L2.wipe σ vs) S2.len (fun k y hk => by
      obtain ⟨nv, _⟩ := wipeD_at hk
      have nj : k ∉ js := fun z => nv (hjs k z)
      have n1' : k ∉ vs1 := fun z => nv (hv1 k z)
      rw [wipeD_ne n1', wipe_at, if_neg n1', (ag.2 k nj).1, (ag.2 k nj).2]
      exact ⟨hk, rfl⟩) (fun k es hk => (ow k es (wipeD_at hk).2).1)
    exact ⟨g6, acc', vF, Sz, k', hv, DatL.goes (goes_less fun a z => (bz a).mp z) dv, h2, nn.trans (n5.trans (n4.trans n2))⟩
theorem ae_lc2 {vs vs1 js js1 : List Nat} {wi wi1 : TI} {mi mi1 : DI} {tg tg1 : TG} {mg mg1 : DG} {tt1 : TT} {mt1 : DB} (hi : AI K cl W wi mi) (hg : AG K cl js tg mg) (ht : AB K cl WF tt mt) (hi1 : AI K cl WF wi1 mi1) (hg1 : AG K cl js1 tg1 mg1) (ht1 : AB K cl WF tt1 mt1) (he : AE K cl WF te me)
    (hjs : ∀ k ∈ js, k ∈ vs) (hjs1 : ∀ k ∈ js1, k ∈ vs1) (hv1 : ∀ k ∈ vs1, k ∈ vs) : AE K cl W (tLc2 wi tg tt wi1 tg1 tt1 te vs vs1) (eLc2 vs vs1 mi mg mt mi1 mg1 mt1 me) := by
  intro b l B0 H0 δ g σ H r g' S hm Q q
  exact ae_lc2_at S (fun r g' e R p => hi b l B0 H0 δ g σ H r g' S e R p) hg ht hi1 hg1 ht1 he hjs hjs1 hv1 hm Q q
end
end Vi

set_option Elab.async false
set_option linter.all false
set_option maxRecDepth 100000
set_option maxHeartbeats 4000000
namespace Vi
open PySem PySem.Spec PyProof.Rows L2

/-! defs: as the layer's promises, with what repr wants of the stack -/
structure GRoom (k : Nat) (A : Around) : Prop where
  r : Room k A
  gd : A.guards = some []
theorem GRoom.mono {j k : Nat} {A : Around} (r : GRoom k A) (h : j ≤ k) : GRoom j A := ⟨r.r.mono h, r.gd⟩
theorem GRoom.deeper {k : Nat} {A : Around} (r : GRoom (k + 1) A) (env : Env) : GRoom k (A.deeper env) := ⟨r.r.deeper env, r.gd⟩
structure FnG (P : Program) (w : World) (K : PySem.W.Frag) (mg : Str → Option Value) (base : Heap) (k : Nat) (f : Addr) (fd : FuncData) (ps : List Str) (sp : Sp) : Prop where
  len : ∀ vs H Q E, sp vs H Q E → vs.length = ps.length
  run : ∀ (A : Around) (outer : List Env) (s : Shared) (H : Hp) (args : Args) (us : List Value) (vs : List V) (Q : VK) (E : XK), GRoom k A → Env0 P w K mg base A outer s H → BindsTo s fd args (ps.zip us) →
    Vals vs us → sp vs H Q E → codeAny (model P w) A (.call (.ref f) args) (CR (L2.CX P w) outer P w H s Q E) s
section
variable {P : Program} {w : World} {K : PySem.W.Frag} {mg : Str → Option Value} {base : Heap}
theorem FnG.mono {j k : Nat} {f : Addr} {fd : FuncData} {ps : List Str} {sp : Sp} (F : FnG P w K mg base j f fd ps sp) (h : j ≤ k) : FnG P w K mg base k f fd ps sp :=
  ⟨F.len, fun A outer s H args us vs Q E hr => F.run A outer s H args us vs Q E (hr.mono h)⟩
theorem fnG_of {x qual : Str} {st : Stmt} {f : Addr} {fd : FuncData} {N ps : List Str} {k : Nat} {sp : Sp} (F : Fun K x qual st f fd) (S : FnScope N ps (defScope st)) (len : ∀ vs H Q E, sp vs H Q E → vs.length = ps.length)
    (hbody : ∀ (cdv : Value) (A : Around) (outer : List Env) (s : Shared) (H : Hp) (vs : List V) (Q : VK) (E : XK), GRoom k (A.deeper (envOfC qual (defScope st) s.heap.objs.size f cdv)) → sp vs H Q E →
      ∃ t, PSs (cxOf (L2.CX P w) P w K mg base N qual (defScope st) f cdv A outer s H E) (defBody st) t ∧ t { nx := fun _ H' => Q .non H', rt := Q } (L2.start N vs) H) : FnG P w K mg base (k + 1) f fd ps sp := by
  obtain ⟨oc, od, kV, doc, pm, an, cdv, ct, osl, rfl, lk, hcd⟩ := F.ex
  refine ⟨len, fun A outer s H args us vs Q E hr e0 hb r hsp => ?_⟩
  have hl := len _ _ _ _ hsp
  have kin : K.In s.heap := e0.mod.kin.keeps fun b o e => (e0.bs b o e).1
  have lim : s.heap.NoLimit := e0.mod.nolimit.keeps fun b o e => (e0.bs b o e).1
  have kinds : ∀ y ∈ ps.zip us, (defScope st).names.lookup y.1 = some .local ∨ ((defScope st).names.lookup y.1 = some .cell ∧ ((cellsFrom (s.heap.objs.size + 1) (defScope st).names []).lookup y.1).isSome = true) := by
    rintro ⟨n, v⟩ hy
    rcases S.par n (List.of_mem_zip hy).1 with q | q
    · exact Or.inl q
    · exact Or.inr ⟨q, PySem.W.cellsFrom_some _ _ _ (Or.inl q)⟩
  refine codeAny_call_function hr.r.depth (kin _ _ lk) rfl S.co S.gen rfl (PySem.W.codeRec_of kin hcd) (hb _ _ _ _ ?_)
  refine wpAny_newFunctionEnv_cells S.kind kinds fun env he s1 xc => ?_
  subst he
  refine ⟨lim.keeps xc.toInCall.keep, codeAny_func ?_⟩
  obtain ⟨t, ht, hq⟩ := hbody cdv A outer s H vs Q E (hr.deeper _) hsp
  have I := inv_start (CX := L2.CX P w) (N := N) (qual := qual) (f := f) (cd := cdv) (E := E) S hr.r.hd e0 hl r xc
  refine wpAny_mono (ht.run [] s1 (L2.start N vs) H _ I hq) (fun fl s' hs => ?_) fun e s' hs => hs
  cases fl with
  | ret u =>
    obtain ⟨v, σ', H', J, rv, q⟩ := hs
    exact ⟨v, H', J.os, J.bare, J.base, J.hok, rv, q⟩
  | next =>
    obtain ⟨σ', H', J, q⟩ := hs
    exact ⟨.non, H', J.os, J.bare, J.base, J.hok, rfl, q⟩
  | brk =>
    obtain ⟨_, _, _, q⟩ := hs
    exact q.elim
  | cont =>
    obtain ⟨_, _, _, q⟩ := hs
    exact q.elim
end
section
variable {X : Cx} {k : Nat} {f : Addr} {fd : FuncData} {ps : List Str} {sp : Sp} {x : Str} {p pos : Pos} {e : Expr} {es : List Expr} {t : TA} {W : WX}
def tCallG (sp : Sp) (W : WX) (t : TA) : TE := fun σ H Q => t σ H fun vs H1 => sp vs H1 Q (fun cls d H' => W cls d σ H')
theorem run_G {pins : List (Addr × Obj)} {σ : L2.St} {H : Hp} {s : Shared} {Q : VK} {us : List Value} {vs : List V} (F : FnG X.prog X.w X.K X.mg X.base k f fd ps sp) (hr : GRoom k X.A) (hb : Binds X.K fd ps []) (tk : Takes X W)
    (I : Inv X pins σ H s) (r : Vals vs us) (h : sp vs H Q (fun cls d H' => W cls d σ H')) : wpAny (model X.prog X.w) X.A (call (.ref f) us) (EP X pins σ Q) X.xe s := by
  have hl : us.length = ps.length := by rw [← r.length]; exact F.len _ _ _ _ h
  have bb := hb s us I.kIn (by rw [List.append_nil]; exact hl)
  rw [List.append_nil] at bb
  refine wpAny_call (codeAny_mono (F.run X.A X.stack s H ⟨us, []⟩ us vs Q _ hr I.env0 bb r h) fun r s' hq => ?_)
  cases r with
  | error e => exact passAt tk σ pins H s e s' I hq
  | ok fl =>
    cases fl with
    | ret u => exact I.after hq
    | next => exact hq.elim
    | brk => exact hq.elim
    | cont => exact hq.elim
theorem pe_callG (F : FnG X.prog X.w X.K X.mg X.base k f fd ps sp) (hr : GRoom k X.A) (hg : Gl X x) (hm : X.mg x = some (.ref f)) (hk : PySem.W.keepIn X.K (.ref f) = true) (hb : Binds X.K fd ps []) (tk : Takes X W)
    (ha : PA X (e :: es) t) (hdb : (x == ("__debug__" : Str)) = false := by decide) (he : starEach (e :: es) X.env = (false, eval e X.env) :: starEach es X.env := by rfl) (hpl : (backTo pos (starEach es X.env)).any (·.1) = false := by rfl) :
    PE X (.Call (.Name x p) (e :: es) [] pos) (tCallG sp W t) :=
  ⟨fun pins s σ H Q I h => wpAny_Call_Name_kw (ld_glob I hg hm (PySem.W.callWith_K (h₀ := X.base) I.ok.mod.kin hk (thn (ha.run pos pins s σ H _ I h) fun us s1 ⟨vs, H1, I1, r, q⟩ => ⟨I1.kIn, run_G F hr hb tk I1 r q⟩) he hpl) hdb)⟩
theorem pe_callG0 (F : FnG X.prog X.w X.K X.mg X.base k f fd ps sp) (hr : GRoom k X.A) (hg : Gl X x) (hm : X.mg x = some (.ref f)) (hk : PySem.W.keepIn X.K (.ref f) = true) (hb : Binds X.K fd ps []) (tk : Takes X W)
    (hdb : (x == ("__debug__" : Str)) = false := by decide) : PE X (.Call (.Name x p) [] [] pos) (tCallG sp W tNil) :=
  ⟨fun pins s σ H Q I h => wpAny_Call_Name_kw (ld_glob I hg hm (PySem.W.callWith_K0 I.kIn hk (run_G (us := []) F hr hb tk I .nil h)) hdb)⟩
/-- raise C() of an own class without __init__ -/
theorem pmk_0 {C : Addr} {bmB : List Value} {B newId initId : String} (F : ExcBaseFacts B newId initId bmB) (q : PySem.W.excIn X.K C bmB newId = true) (gC : X.mg x = some (.ref C)) (kC : PySem.W.keepIn X.K (.ref C) = true) (r : Raises X (.ref C)) (hg : Gl X x)
    (hdb : (x == ("__debug__" : Str)) = false := by decide) : PMk X (.Call (.Name x p) [] [] pos) (fun _ H Q => Q (.ref C) none H) := by
  intro pins s σ H Q I h
  refine wpAny_Call_Name_kw (ld_glob I hg gC ?_ hdb)
  refine PySem.W.callWith_K0 I.kIn kC ?_
  show wpAny _ _ (call (.ref C) []) _ _ _
  obtain ⟨bm, N, nm, qn, bs, hdct, sn, sub, ab, col, dd, k0, k1, k2, k3, k5, mN, hC, hN, hni, T⟩ := exc_obj I.kIn q
  refine wpAny_call_exc_subT F T hC hN hni (fun h' e hm => ?_) (by show 0 ≤ sizeLine; exact Nat.zero_le _)
  exact mk_of I hm r h (I.hok.gone hm.new)
end

/-! repr of data -/
section
variable {X : Cx} {pins : List (Addr × Obj)} {σ : L2.St} {H : Hp} {s : Shared}
def reprOk (p : PyData) : Bool := p.showable && !p.hasDict && decide (p.depth ≤ 60) && lineOk p.shown.length
def rRepr (K : PySem.W.Frag) : List V → Hp → VK → Prop := fun xs H Q => ∃ x d, xs = [x] ∧ Dp K H x d ∧ reprOk d = true ∧ Q (.str d.shown) H
theorem call_reprD (hg : X.A.guards = some []) (hu : X.A.units + 64 < cLine) : CallR X (.builtin "repr") (rRepr X.K) := by
  intro pins s σ H xs us Q I r h
  obtain ⟨x, d, rfl, hd, hok, q⟩ := h
  obtain ⟨u, rfl, rx⟩ := vals1 r
  obtain ⟨as, rd⟩ := Dp.reads I d x u hd rx
  simp only [reprOk, Bool.and_eq_true, Bool.not_eq_true', decide_eq_true_eq] at hok
  obtain ⟨⟨⟨h1, h2⟩, h3⟩, h4⟩ := hok
  have hz := line_of h4
  have fin : ∀ (h' : Heap) (tk : Nat) (t : Tok), (∀ b o, s.heap.get? b = some o → h'.get? b = some o) → EP X pins σ Q (.str d.shown t) { s with heap := h', toks := tk } := fun h' tk t k =>
    ⟨.str d.shown, H, I.kept k, ⟨t, rfl⟩, q⟩
  have road : ∀ a, u = .ref a → wpAny (model X.prog X.w) X.A (call (.builtin "repr") [u]) (EP X pins σ Q) X.xe s := fun a e => by
    subst e
    exact repr_of_reads' (h₀ := s.heap) rd h1 (PyData.noDict_hsm h2) hg (by omega) (fun _ _ e => e) (fun h' t tk k => fin h' tk t k) hz
  cases rd with
  | list _ _ _ _ => exact road _ rfl
  | tuple _ _ _ _ => exact road _ rfl
  | dict _ _ _ _ _ => exact road _ rfl
  | none => exact P.repr_of_none (fin s.heap _ _ fun _ _ e => e)
  | bool c => exact P.repr_of_bool (fin s.heap _ _ fun _ _ e => e)
  | int i t => exact P.repr_of_int (by simpa [PyData.showable] using h1) (fin s.heap _ _ fun _ _ e => e)
  | str z t => exact P.repr_of_str (fin s.heap _ _ fun _ _ e => e) hz
end
def reprE (e : EV) : Option EV := match e.look with
  | none => none
  | some d => match toPy d with
    | none => none
    | some p => if reprOk p = true then some (.val (.str p.shown)) else none
theorem r1_repr {K : PySem.W.Frag} {cl : Str → Option Addr} {W : WX} : R1ok K cl W (rRepr K) reprE := by
  intro b l B0 H0 δ g σ H H1 x e v S al k hv hf Q q
  unfold reprE at hf
  cases hk : x.look with
  | none => rw [hk] at hf; cases hf
  | some d =>
    rw [hk] at hf
    dsimp only at hf
    cases hp : toPy d with
    | none => rw [hp] at hf; cases hf
    | some p =>
      rw [hp] at hf
      dsimp only at hf
      split at hf
      · rename_i hok
        cases hf
        exact ⟨v, p, rfl, dp_of (evok_look hv hk) hp, hok, q _ H1 .refl S.bg (.str _)⟩
      · cases hf

/-! what a def gives -/
inductive AV where
  | val (d : D)
  | bag
  | slf (a : Addr)
def AV.sv : AV → SV
  | .val d => .val d
  | .bag => .bag
  | .slf a => .exc a
def AVok (G : Gd) (Bad : Addr → Prop) (H : Hp) (v : V) : AV → Prop
  | .val d => Dat G Bad H v d
  | .bag => v = .ref G.b
  | .slf a => v = .ref a
inductive AVs (G : Gd) (Bad : Addr → Prop) (H : Hp) : List V → List AV → Prop
  | nil : AVs G Bad H [] []
  | cons {v : V} {vs : List V} {a : AV} {as : List AV} : AVok G Bad H v a → AVs G Bad H vs as → AVs G Bad H (v :: vs) (a :: as)
theorem AVs.len {G : Gd} {Bad : Addr → Prop} {H : Hp} {vs : List V} {as : List AV} (h : AVs G Bad H vs as) : vs.length = as.length := by
  induction h with
  | nil => rfl
  | cons _ _ ih => exact congrArg Nat.succ ih
abbrev MF := List AV → M EV
/-- a def's promise: what its meaning says -/
def spM (K : PySem.W.Frag) (cl : Str → Option Addr) (n : Nat) (m : MF) : Sp := fun vs H Q E =>
  ∃ (b l : Addr) (B0 : Addr → Prop) (g g' : Bag) (as : List AV) (r : Rs EV), as.length = n ∧ AVs ⟨K, cl, b, l⟩ B0 H vs as ∧ B0 b ∧ (∀ a, B0 a → (H a).isSome = true) ∧ BagAt ⟨K, cl, b, l⟩ H g ∧ l ≠ b ∧ H l = some (.lst (g.ns.map V.int)) ∧
    m as g = some (r, g') ∧ (match r with
      | .ok e => ∀ v H', Kp ⟨K, cl, b, l⟩ H H' → BagAt ⟨K, cl, b, l⟩ H' g' → g'.ns = g.ns → EVok ⟨K, cl, b, l⟩ B0 H H' v e → Q v H'
      | .er x => ∀ c d H', Kp ⟨K, cl, b, l⟩ H H' → BagAt ⟨K, cl, b, l⟩ H' g' → g'.ns = g.ns → ExAt ⟨K, cl, b, l⟩ B0 H' c d x → E c d H')
theorem spM_len {K : PySem.W.Frag} {cl : Str → Option Addr} {n : Nat} {m : MF} : ∀ vs H Q E, spM K cl n m vs H Q E → vs.length = n := fun vs H Q E h => by
  obtain ⟨b, l, B0, g, g', as, r, h1, h2, _⟩ := h
  rw [h2.len, h1]
/-- the meaning of a body, from the arguments -/
def startD (n : Nat) (as : List AV) : DS := as.map (fun a => some a.sv) ++ List.replicate (n - as.length) none
def mBody (n : Nat) (m : DT) : MF := fun as g => match m (startD n as) g with
  | some (.rt e, g') => some (.ok e, g')
  | some (.nx _, g') => some (.ok (.val .non), g')
  | some (.er _ x, g') => some (.er x, g')
  | _ => none
theorem av_sto {G : Gd} {B0 : Addr → Prop} {H : Hp} {g : Bag} {vs : List V} {as : List AV} {n : Nat} (h : AVs G B0 H vs as) (hb : B0 G.b) (al : ∀ a, B0 a → (H a).isSome = true) (bg : BagAt G H g) (lb : G.l ≠ G.b) (sc : H G.l = some (.lst (g.ns.map V.int))) :
    Sto G B0 H (as.map (fun a => some a.sv) ++ List.replicate n none) g (vs.map some ++ List.replicate n none) H := by
  have noown : ∀ (i : Nat) (ds : D), (as.map (fun a => some a.sv) ++ List.replicate n none)[i]? ≠ some (some (SV.own ds)) := fun i ds z => by
    by_cases hi : i < as.length
    · rw [List.getElem?_append_left (by simpa using hi), List.getElem?_map] at z
      cases e : as[i]? with
      | none => rw [e] at z; cases z
      | some a =>
        rw [e] at z
        cases a <;> cases z
    · rw [List.getElem?_append_right (by simpa using hi), List.getElem?_replicate] at z
      split at z <;> cases z
  have bde : ∀ a, Bd B0 (as.map (fun a => some a.sv) ++ List.replicate n none) (vs.map some ++ List.replicate n none) a → B0 a := fun a z => by
    rcases z with z | ⟨i, ds, z, _⟩
    · exact z
    · exact (noown i ds z).elim
  have at_i : ∀ (i : Nat) (sv : SV), (as.map (fun a => some a.sv) ++ List.replicate n none)[i]? = some (some sv) → ∃ a v, sv = a.sv ∧ (vs.map some ++ List.replicate n none)[i]? = some (some v) ∧ AVok G B0 H v a := fun i sv z => by
    by_cases hi : i < as.length
    · rw [List.getElem?_append_left (by simpa using hi), List.getElem?_map] at z
      cases e : as[i]? with
      | none => rw [e] at z; cases z
      | some a =>
        rw [e] at z
        cases z
        have : ∀ {vs : List V} {as : List AV} (i : Nat), AVs G B0 H vs as → as[i]? = some a → ∃ v, vs[i]? = some v ∧ AVok G B0 H v a := by
          intro vs as i h
          induction h generalizing i with
          | nil => intro e; simp at e
          | cons x _ ih =>
            intro e
            cases i with
            | zero =>
              simp at e
              subst e
              exact ⟨_, rfl, x⟩
            | succ i => exact ih i (by simpa using e)
        obtain ⟨v, h1, h2⟩ := this i h e
        refine ⟨a, v, rfl, ?_, h2⟩
        rw [List.getElem?_append_left (by rw [List.length_map, h.len]; exact hi), List.getElem?_map, h1]
        rfl
    · rw [List.getElem?_append_right (by simpa using hi), List.getElem?_replicate] at z
      split at z <;> cases z
  refine ⟨by simp [h.len], .refl, bg, lb, sc, hb, al _ hb, al, fun i d z => ?_, fun i ds z => (noown i ds z).elim, fun i j ds es p z _ _ _ => (noown i ds z).elim, fun i z => ?_, fun i x z => ?_, fun i ds p z => (noown i ds z).elim⟩
  · obtain ⟨a, v, e, h1, h2⟩ := at_i i _ z
    cases a with
    | val d' =>
      cases e
      exact ⟨v, h1, Dat.goes (goes_less bde) h2⟩
    | bag => cases e
    | slf x => cases e
  · obtain ⟨a, v, e, h1, h2⟩ := at_i i _ z
    cases a with
    | val d' => cases e
    | bag =>
      have h2' : v = V.ref G.b := h2
      rw [h1, h2']
    | slf x => cases e
  · obtain ⟨a, v, e, h1, h2⟩ := at_i i _ z
    cases a with
    | val d' => cases e
    | bag => cases e
    | slf y =>
      cases e
      have h2' : v = V.ref x := h2
      rw [h1, h2']
section
variable {P : Program} {w : World} {K : PySem.W.Frag} {cl : Str → Option Addr} {mg : Str → Option Value} {base : Heap}
/-- THE RULE for a def: its body's meaning is what it promises -/
theorem fnM {x qual : Str} {st : Stmt} {f : Addr} {fd : FuncData} {N ps : List Str} {k n : Nat} {m : DT} (F : Fun K x qual st f fd) (S : FnScope N ps (defScope st)) (hn : ps.length = n)
    (hbody : ∀ (cdv : Value) (A : Around) (outer : List Env) (s : Shared) (H : Hp) (E : XK), GRoom k (A.deeper (envOfC qual (defScope st) s.heap.objs.size f cdv)) →
      ∃ t, PSs (cxOf (L2.CX P w) P w K mg base N qual (defScope st) f cdv A outer s H E) (defBody st) t ∧ AS K cl (fun c d _ H' => E c d H') t m) : FnG P w K mg base (k + 1) f fd ps (spM K cl n (mBody N.length m)) := by
  refine fnG_of F S (fun vs H Q E h => by rw [spM_len vs H Q E h, hn]) fun cdv A outer s H vs Q E hr h => ?_
  obtain ⟨b, l, B0, g, g', as, r, h1, h2, h3, h4, h5, h6, h7, h8, h9⟩ := h
  obtain ⟨t, ht, ha⟩ := hbody cdv A outer s H E hr
  refine ⟨t, ht, ?_⟩
  have S0 : Sto ⟨K, cl, b, l⟩ B0 H (startD N.length as) g (L2.start N vs) H := by
    have := av_sto (n := N.length - as.length) h2 h3 h4 h5 h6 h7
    unfold startD L2.start
    rw [h2.len]
    exact this
  have nsq : ∀ {g2 : Bag}, H l = some (.lst (g2.ns.map V.int)) → g2.ns = g.ns := fun {g2} e => by
    rw [h7] at e
    have e' := HO.lst.inj (Option.some.inj e)
    have inj : ∀ (xs ys : List Int), xs.map V.int = ys.map V.int → xs = ys := by
      intro xs
      induction xs with
      | nil =>
        intro ys h
        cases ys with
        | nil => rfl
        | cons y ys => cases h
      | cons x xs ih =>
        intro ys h
        cases ys with
        | nil => cases h
        | cons y ys =>
          rw [List.map_cons, List.map_cons] at h
          injection h with h1 h2
          injection h1 with h1
          rw [h1, ih ys h2]
    exact inj _ _ e'.symm
  unfold mBody at h8
  have noown : ∀ {a : Addr}, Bd B0 (startD N.length as) (L2.start N vs) a → (H a).isSome = true := S0.alB _
  cases e : m (startD N.length as) g with
  | none => rw [e] at h8; cases h8
  | some pr =>
    obtain ⟨o, g1⟩ := pr
    rw [e] at h8
    refine ha b l B0 H _ g (L2.start N vs) H o g1 S0 e _ ?_
    cases o with
    | rt ev =>
      cases h8
      exact fun v H' k bg sc hv => h9 v H' k bg (nsq sc) hv
    | nx δ' =>
      cases h8
      exact fun σ' H' S' => h9 .non H' S'.ent S'.bg (nsq S'.scr) .non
    | bk δ' => cases h8
    | ct δ' => cases h8
    | er δ' x =>
      cases h8
      intro c d σ' H' S' hx
      refine h9 c d H' S'.ent S'.bg (nsq S'.scr) ?_
      obtain ⟨C, c1, c2, c3⟩ := hx
      refine ⟨C, c1, c2, ?_⟩
      cases d with
      | none => exact c3
      | some a =>
        obtain ⟨ne, fs, d1, d2, d3⟩ := c3
        exact ⟨ne, fs, d1, fun z => d2 (Or.inl z), DatF.goes (goes_less fun a z => Or.inl z) d3⟩
end

/-! calls -/
def argOf : EV → Option AV
  | .val d => some (.val d)
  | .nw d => some (.val d)
  | .bag => some .bag
  | _ => none
def argsOf : List EV → Option (List AV)
  | [] => some []
  | e :: es => match argOf e with
    | none => none
    | some a => match argsOf es with
      | none => none
      | some as => some (a :: as)
def eCall (n : Nat) (f : MF) (m : DA) : DE := fun δ => mbind (m δ) fun es => match argsOf es with
  | some as => if as.length = n then f as else mno
  | none => mno
theorem args_ok {G : Gd} {Bad : Addr → Prop} {H H' : Hp} (hB : ∀ a, Bad a → (H a).isSome = true) : ∀ {vs : List V} {es : List EV} {as : List AV}, EVs G Bad H H' vs es → argsOf es = some as → AVs G Bad H' vs as
  | _, _, _, .nil, h => by
    cases h
    exact .nil
  | _, _, _, .cons (e := e) (es := es) a r, h => by
    unfold argsOf at h
    cases he : argOf e with
    | none => rw [he] at h; cases h
    | some x =>
      rw [he] at h
      cases hs : argsOf es with
      | none => rw [hs] at h; cases h
      | some as =>
        rw [hs] at h
        cases h
        refine .cons ?_ (args_ok hB r hs)
        cases e with
        | val d => cases he; exact a
        | nw ds => cases he; exact evok_keep hB a rfl
        | bw ds => cases he
        | bag => cases he; exact a
        | exc y => cases he
theorem ae_call {K : PySem.W.Frag} {cl : Str → Option Addr} {W : WX} {ta : TA} {ma : DA} {n : Nat} {f : MF} (h : AA K cl W ta ma) : AE K cl W (tCallG (spM K cl n f) W ta) (eCall n f ma) := by
  intro b l B0 H0 δ g σ H r g' S hm Q q
  rcases mb_cases hm with ⟨x, e, rfl⟩ | ⟨es, g1, e, hm⟩
  · exact h b l B0 H0 δ g σ H _ _ S e _ q
  · refine h b l B0 H0 δ g σ H _ _ S e _ fun vs H1 k1 b1 n1 hv => ?_
    have S1 := S.kp k1 b1 n1
    cases ha : argsOf es with
    | none => rw [ha] at hm; cases hm
    | some as =>
      rw [ha] at hm
      dsimp only at hm
      split at hm
      · rename_i hn
        have hl : H1 l = some (.lst (g1.ns.map V.int)) := S1.ent l _ S1.lb S1.scr
        refine ⟨b, l, Bd B0 δ σ, g1, g', as, r, hn, args_ok S.alB hv ha, S1.bd, S1.alB, b1, S1.lb, hl, hm, ?_⟩
        cases r with
        | ok ev => exact fun v H2 k2 b2 n2 h2 => q v H2 (k1.trans k2) b2 (n2.trans n1) (evok_from b1.some k1 h2)
        | er x => exact fun c d H2 k2 b2 n2 h2 => q c d H2 (k1.trans k2) b2 (n2.trans n1) h2
      · cases hm
/-- a call that only looks at lists of the def's own, and gives a plain value -/
def lookOf : EV → Option AV
  | .val d => some (.val d)
  | .nw d => some (.val d)
  | .bw d => some (.val d)
  | .bag => some .bag
  | .exc _ => none
def looksOf : List EV → Option (List AV)
  | [] => some []
  | e :: es => match lookOf e with
    | none => none
    | some a => match looksOf es with
      | none => none
      | some as => some (a :: as)
def plainE : EV → Bool
  | .val .non => true
  | .val (.bl _) => true
  | .val (.int _) => true
  | .val (.str _) => true
  | _ => false
def mPlain (m : M EV) : M EV := fun g => match m g with
  | some (.ok e, g') => if plainE e = true then some (.ok e, g') else none
  | _ => none
def eCallB (n : Nat) (f : MF) (m : DA) : DE := fun δ => mbind (m δ) fun es => match looksOf es with
  | some as => if as.length = n then mPlain (f as) else mno
  | none => mno
theorem looks_ok {G : Gd} {Bad : Addr → Prop} {H H' : Hp} (hb : Bad G.b) (bg : (H G.b).isSome = true) : ∀ {vs : List V} {es : List EV} {as : List AV}, EVs G Bad H H' vs es → looksOf es = some as → AVs G (fun a => a = G.b) H' vs as
  | _, _, _, .nil, h => by
    cases h
    exact .nil
  | _, _, _, .cons (e := e) (es := es) a r, h => by
    unfold looksOf at h
    cases he : lookOf e with
    | none => rw [he] at h; cases h
    | some x =>
      rw [he] at h
      cases hs : looksOf es with
      | none => rw [hs] at h; cases h
      | some as =>
        rw [hs] at h
        cases h
        refine .cons ?_ (looks_ok hb bg r hs)
        have less : ∀ a, a = G.b → Bad a := fun a z => by rw [z]; exact hb
        cases e with
        | val d => cases he; exact Dat.goes (goes_less less) a
        | nw ds =>
          cases he
          obtain ⟨p, vs, rfl, h1, h2, h3⟩ := a
          exact OwnD.dat (fun z => by rw [z] at h1; rw [h1] at bg; cases bg) h2 (OwnD.goes (goes_less fun a z => Or.inl (less a z)) h3)
        | bw ds =>
          cases he
          obtain ⟨p, vs, rfl, h1, h2, h3, h4⟩ := a
          exact OwnD.dat h2 h3 (OwnD.goes (goes_less less) h4)
        | bag => cases he; exact a
        | exc y => cases he
theorem plain_any {G : Gd} {Bad Bad' : Addr → Prop} {H H' H2 H3 : Hp} {v : V} {e : EV} (h : EVok G Bad H H' v e) (p : plainE e = true) : EVok G Bad' H2 H3 v e := by
  cases e with
  | val d =>
    have h' : Dat G Bad H' v d := h
    cases h' with
    | non => exact Dat.non
    | bl c => exact Dat.bl c
    | int i => exact Dat.int i
    | str s => exact Dat.str s
    | lstH _ _ _ => cases p
    | tupH _ _ _ => cases p
    | tupK _ _ => cases p
    | dct _ _ _ => cases p
    | obj _ _ _ _ => cases p
  | nw ds => cases p
  | bw ds => cases p
  | bag => cases p
  | exc x => cases p
theorem ae_callB {K : PySem.W.Frag} {cl : Str → Option Addr} {W : WX} {ta : TA} {ma : DA} {n : Nat} {f : MF} (h : AA K cl W ta ma) : AE K cl W (tCallG (spM K cl n f) W ta) (eCallB n f ma) := by
  intro b l B0 H0 δ g σ H r g' S hm Q q
  rcases mb_cases hm with ⟨x, e, rfl⟩ | ⟨es, g1, e, hm⟩
  · exact h b l B0 H0 δ g σ H _ _ S e _ q
  · refine h b l B0 H0 δ g σ H _ _ S e _ fun vs H1 k1 b1 n1 hv => ?_
    have S1 := S.kp k1 b1 n1
    cases ha : looksOf es with
    | none => rw [ha] at hm; cases hm
    | some as =>
      rw [ha] at hm
      dsimp only at hm
      split at hm
      · rename_i hn
        have hl : H1 l = some (.lst (g1.ns.map V.int)) := S1.ent l _ S1.lb S1.scr
        unfold mPlain at hm
        cases ef : f as g1 with
        | none => rw [ef] at hm; cases hm
        | some pr =>
          obtain ⟨r1, g2⟩ := pr
          rw [ef] at hm
          cases r1 with
          | er x => cases hm
          | ok ev =>
            dsimp only at hm
            split at hm
            · rename_i hp
              cases hm
              refine ⟨b, l, fun a => a = b, g1, g', as, .ok ev, hn, looks_ok S.bd S.bg.some hv ha, rfl, fun a z => by subst z; exact b1.some, b1, S1.lb, hl, ef, ?_⟩
              exact fun v H2 k2 b2 n2 h2 => q v H2 (k1.trans k2) b2 (n2.trans n1) (plain_any h2 hp)
            · cases hm
      · cases hm
end Vi

set_option Elab.async false
set_option linter.all false
set_option maxRecDepth 100000
set_option maxHeartbeats 4000000
namespace Vi
open PySem PySem.Spec PyProof.Rows L2
section
variable {K : PySem.W.Frag} {cl : Str → Option Addr} {W : WX} {te ta tb : TE} {tt tu : TT} {me ma mb : DE}
def negE : EV → Option EV
  | .val (.int i) => some (.val (.int (-i)))
  | _ => none
theorem ae_neg (h : AE K cl W te me) : AE K cl W (tUn (rU fun i => .int (-i)) te) (eB1 negE me) := by
  intro b l B0 H0 δ g σ H r g' S hm Q q
  rcases mb_cases hm with ⟨x, e, rfl⟩ | ⟨x, g1, e, hm⟩
  · exact h b l B0 H0 δ g σ H _ _ S e _ q
  · refine h b l B0 H0 δ g σ H _ _ S e _ fun v H1 k1 b1 n1 hv => ?_
    obtain ⟨a, ha, rfl, rfl⟩ := mof_cases hm
    unfold negE at ha
    split at ha
    · rename_i i
      cases ha
      exact ⟨i, datint hv, q _ H1 k1 b1 n1 (.int _)⟩
    · cases ha
/-! * of ints, of a list -/
def rMulU : R2 := fun x y H Q => rI CMul (fun i j => .int (i * j)) x y H Q ∨ rRep x y H Q
def repD (n : Nat) (ds : List D) : List D := (List.replicate n ds).flatten
def mulD : D → D → Option EV
  | .int i, .int j => if (decide (-(2 ^ 63) < i) && decide (i < 2 ^ 63)) = true then some (.val (.int (i * j))) else none
  | .lst ds, .int k => if (smallI k && lineOk (ds.length * k.toNat)) = true then some (.nw (.lst (repD k.toNat ds))) else none
  | _, _ => none
def mMul := mL2 mulD
theorem rep_dat {G : Gd} {Bad : Addr → Prop} {H : Hp} {vs : List V} {ds : List D} (h : DatL G Bad H vs ds) : ∀ n, DatL G Bad H (List.replicate n vs).flatten (repD n ds)
  | 0 => .nil
  | n + 1 => by
    unfold repD
    rw [List.replicate_succ, List.replicate_succ, List.flatten_cons, List.flatten_cons]
    exact h.append (rep_dat h n)
theorem mulD_int {i j : Int} {e : EV} (h : mulD (.int i) (.int j) = some e) : (-(2 ^ 63) < i ∧ i < 2 ^ 63) ∧ e = .val (.int (i * j)) := by
  have h' : (if (decide (-(2 ^ 63) < i) && decide (i < 2 ^ 63)) = true then some (EV.val (D.int (i * j))) else none) = some e := h
  split at h'
  · rename_i hc
    cases h'
    exact ⟨by simpa using hc, rfl⟩
  · cases h'
theorem mulD_rep {ds : List D} {k : Int} {e : EV} (h : mulD (.lst ds) (.int k) = some e) : (-100000 ≤ k ∧ k ≤ 100000) ∧ ds.length * k.toNat ≤ sizeLine ∧ e = .nw (.lst (repD k.toNat ds)) := by
  have h' : (if (smallI k && lineOk (ds.length * k.toNat)) = true then some (EV.nw (.lst (repD k.toNat ds))) else none) = some e := h
  split at h'
  · rename_i hc
    cases h'
    rw [Bool.and_eq_true] at hc
    exact ⟨by simpa [smallI] using hc.1, line_of hc.2, rfl⟩
  · cases h'
theorem r2_mul : R2ok K cl W rMulU mMul := by
  intro b l B0 H0 δ g σ H H1 x y v w r g' S al k hv hw hm Q q
  obtain ⟨dx, dy, e, ex, ey, hf, rfl, rfl⟩ := mL2_cases hm
  cases dx with
  | int i =>
    cases dy with
    | int j =>
      obtain ⟨hc, rfl⟩ := mulD_int hf
      exact Or.inl ⟨i, j, look_int hv ex, look_int hw ey, Or.inl ⟨by omega, by omega⟩, q _ H1 .refl S.bg rfl (.int _)⟩
    | non => cases hf
    | bl c => cases hf
    | str s => cases hf
    | lst ds => cases hf
    | tup ds => cases hf
    | dct k => cases hf
    | obj c f => cases hf
  | lst ds =>
    cases dy with
    | int j =>
      obtain ⟨hc, hl, rfl⟩ := mulD_rep hf
      obtain ⟨a, vs, rfl, e1, r1⟩ := (evok_items hv).1 ex
      refine Or.inr ⟨a, j, vs, rfl, look_int hw ey, e1, by omega, by omega, by rw [r1.len]; exact hl, fun p hp => ?_⟩
      exact q _ _ (Kp.new hp) (bag_upd S.bg hp) rfl ⟨p, _, rfl, hp, upd_same, .lst (DatL.goes (goes_new hp) (rep_dat r1 _))⟩
    | non => cases hf
    | bl c => cases hf
    | str s => cases hf
    | lst ds => cases hf
    | tup ds => cases hf
    | dct k => cases hf
    | obj c f => cases hf
  | non => cases hf
  | bl c => cases hf
  | str s => cases hf
  | tup ds => cases hf
  | dct k => cases hf
  | obj c f => cases hf
/-! 10 ** n -/
theorem r2_pow {C : Int → Int → Prop} (hC : ∀ j, 0 ≤ j → j ≤ 100 → C 10 j) : R2ok K cl W (rI C fun i j => .int (i ^ j.toNat)) mPow :=
  r2_I (fun _ _ _ _ _ => .int _) fun i j h => by
    simp only [Bool.and_eq_true, decide_eq_true_eq] at h
    obtain ⟨⟨rfl, h1⟩, h2⟩ := h
    exact hC j h1 h2
/-! a tuple from behind -/
def tRevT (K : PySem.W.Frag) (te : TE) : TE := fun σ H Q => te σ H fun x H1 => ∃ a xs, x = .ref a ∧ SqT K H1 a xs ∧ 2 ≤ xs.length ∧ ∀ p, H1 p = none → Q (.ref p) (upd H1 p (.tup xs.reverse))
def revE (e : EV) : Option EV := match e.look with
  | some (.tup ds) => if 2 ≤ ds.length then some (.val (.tup ds.reverse)) else none
  | _ => none
theorem datl_rev {G : Gd} {Bad : Addr → Prop} {H : Hp} : ∀ {vs : List V} {ds : List D}, DatL G Bad H vs ds → DatL G Bad H vs.reverse ds.reverse
  | _, _, .nil => .nil
  | _, _, .cons a r => by
    rw [List.reverse_cons, List.reverse_cons]
    exact (datl_rev r).append (.cons a .nil)
theorem ae_revT (h : AE K cl W te me) : AE K cl W (tRevT K te) (eB1 revE me) := by
  intro b l B0 H0 δ g σ H r g' S hm Q q
  rcases mb_cases hm with ⟨x, e, rfl⟩ | ⟨x, g1, e, hm⟩
  · exact h b l B0 H0 δ g σ H _ _ S e _ q
  · refine h b l B0 H0 δ g σ H _ _ S e _ fun v H1 k1 b1 n1 hv => ?_
    obtain ⟨a, ha, rfl, rfl⟩ := mof_cases hm
    unfold revE at ha
    cases hk : x.look with
    | none => rw [hk] at ha; cases ha
    | some d =>
      rw [hk] at ha
      cases d with
      | tup ds =>
        dsimp only at ha
        split at ha
        · rename_i hl
          cases ha
          obtain ⟨c, vs, rfl, e1, r1⟩ := (evok_items hv).2 hk
          refine ⟨c, vs, rfl, e1, by rw [r1.len]; exact hl, fun p hp => q _ _ (k1.trans (Kp.new hp)) (bag_upd b1 hp) n1 ?_⟩
          exact .tupH (fun z => by have := S.alB p z; rw [fresh_kp b1.some k1 hp] at this; cases this) upd_same (DatL.goes (goes_new' hp) (datl_rev r1))
        · cases ha
      | non => cases ha
      | bl c => cases ha
      | int i => cases ha
      | str s => cases ha
      | lst ds => cases ha
      | dct k => cases ha
      | obj c f => cases ha
/-! dicts -/
def eD0 : DE := fun _ => mret (.nw (.dct []))
theorem ae_d0 : AE K cl W tDNewK eD0 := by
  intro b l B0 H0 δ g σ H r g' S hm Q q
  cases hm
  intro p hp
  exact q _ _ (Kp.new hp) (bag_upd S.bg hp) rfl ⟨p, _, rfl, hp, upd_same, .dct .nil⟩
def keyE : EV → Option Key
  | .val (.int i) => some (.inl i)
  | .val (.str s) => some (.inr s)
  | _ => none
/-- {k: v} -/
def eD1 (mk mv : DE) : DE := fun δ => mbind (mk δ) fun k => mbind (mv δ) fun v => match keyE k, v.keep with
  | some k, some d => mret (.nw (.dct [(k, d)]))
  | _, _ => mno
theorem eD1_end {k v : EV} {g g' : Bag} {r : Rs EV} (h : (match keyE k, v.keep with
  | some k, some d => mret (EV.nw (.dct [(k, d)]))
  | _, _ => mno : M EV) g = some (r, g')) : ∃ k' d, keyE k = some k' ∧ v.keep = some d ∧ r = .ok (.nw (.dct [(k', d)])) ∧ g' = g := by
  cases hk : keyE k with
  | none => rw [hk] at h; cases h
  | some k' =>
    rw [hk] at h
    cases hv : v.keep with
    | none => rw [hv] at h; cases h
    | some d =>
      rw [hv] at h
      cases h
      exact ⟨k', d, rfl, rfl, rfl, rfl⟩
theorem keyE_v {G : Gd} {Bad : Addr → Prop} {H H' : Hp} {v : V} {e : EV} {k : Key} (h : EVok G Bad H H' v e) (hk : keyE e = some k) : v = kV k := by
  unfold keyE at hk
  split at hk
  · cases hk
    exact datint h
  · cases hk
    exact datstr h
  · cases hk
theorem ex_less {G : Gd} {Bad Bad' : Addr → Prop} {H : Hp} {c : Value} {d : Option Addr} {x : Xn} (h : ExAt G Bad H c d x) (s : ∀ a, Bad' a → Bad a) : ExAt G Bad' H c d x := by
  obtain ⟨C, c1, c2, c3⟩ := h
  refine ⟨C, c1, c2, ?_⟩
  cases d with
  | none => exact c3
  | some a =>
    obtain ⟨ne, fs, d1, d2, d3⟩ := c3
    exact ⟨ne, fs, d1, fun z => d2 (s a z), DatF.goes (goes_less s) d3⟩
theorem ae_d1 (h1 : AE K cl W ta ma) (h2 : AE K cl W tb mb) : AE K cl W (tDisp [(ta, tb)]) (eD1 ma mb) := by
  intro b l B0 H0 δ g σ H r g' S hm Q q p hp
  have S0 := S.box (o := .dK []) hp
  have k0 : Kp ⟨K, cl, b, l⟩ H (upd H p (.dK [])) := Kp.new hp
  have pb : p ≠ b := fun z => by
    subst z
    have := S.bg.some
    rw [hp] at this
    cases this
  have less : ∀ a, Bd B0 δ σ a → Bd (With B0 p) δ σ a := fun a z => z.elim (fun z => Or.inl (Or.inl z)) Or.inr
  rcases mb_cases hm with ⟨x, e, rfl⟩ | ⟨kx, g1, e, hm⟩
  · exact h1 b l _ _ δ g σ _ _ _ S0 e _ fun c d H' k bb n hx => q c d H' (k0.trans k) bb n (ex_less hx less)
  refine h1 b l _ _ δ g σ _ _ _ S0 e _ fun kv H1 k1 b1 n1 hk => ?_
  have S1 := S0.kp k1 b1 n1
  rcases mb_cases hm with ⟨x, e', rfl⟩ | ⟨vx, g2, e', hm⟩
  · exact h2 b l _ _ δ g1 σ H1 _ _ S1 e' _ fun c d H' k bb n hx => q c d H' (k0.trans (k1.trans k)) bb (n.trans n1) (ex_less hx less)
  refine h2 b l _ _ δ g1 σ H1 _ _ S1 e' _ fun vv H2 k2 b2 n2 hv => ?_
  obtain ⟨k', d, hk', hd, rfl, rfl⟩ := eD1_end hm
  have hp2 : H2 p = some (.dK []) := k2 p _ pb (k1 p _ pb upd_same)
  have hkv := keyE_v hk hk'
  subst hkv
  refine ⟨hp2, [(k', vv)], rfl, by show 1 ≤ 15; decide, ?_⟩
  have hdd := evok_keep S1.alB hv hd
  have npB : ¬ Bd B0 δ σ p := fun z => by have := S.alB p z; rw [hp] at this; cases this
  refine q _ _ (fun a o n e => ?_) ?_ (n2.trans n1) ?_
  · rw [upd_ne (ne_of_none e hp)]
    exact k2 a o n (k1 a o n (k0 a o n e))
  · show upd H2 p _ b = _
    rw [upd_ne (fun z => pb z.symm)]
    exact b2
  · have hdd' : Dat ⟨K, cl, b, l⟩ (With (Bd B0 δ σ) p) (upd H2 p (.dK (mergeK [] [(k', vv)]))) vv d := Dat.goes (fun a o n e => ⟨by rw [upd_ne (fun z => n (by rw [z]; exact Or.inl (Or.inr rfl)))]; exact e, fun z => n (z.elim (less a) fun z => Or.inl (Or.inr z))⟩) hdd
    exact ⟨p, _, rfl, hp, upd_same, .dct (.cons hdd' .nil)⟩
/-! isinstance -/
def tyName : D → Option String
  | .non => some "NoneType"
  | .bl _ => some "bool"
  | .int _ => some "int"
  | .str _ => some "str"
  | .lst _ => some "list"
  | .tup _ => some "tuple"
  | .dct _ => some "dict"
  | .obj _ _ => none
theorem tyx_of {G : Gd} {Bad : Addr → Prop} {H : Hp} {v : V} {d : D} {n : String} (h : Dat G Bad H v d) (k : tyName d = some n) : TyX G.K H v (.type n) := by
  cases h with
  | non => cases k; exact .base .non
  | bl c => cases k; exact .base (.bl c)
  | int i => cases k; exact .base (.int i)
  | str s => cases k; exact .base (.str s)
  | lstH _ e _ => cases k; exact .base (.lst e)
  | tupH _ e _ => cases k; exact .base (.tup e)
  | tupK e _ =>
    cases k
    rcases e with (e | ⟨o, e⟩) | ⟨o, its, n, e1, e2, _⟩
    · cases e
    · cases e
    · exact .kTuple e1 e2
  | dct _ e _ =>
    cases k
    rcases e with e | ⟨o, e⟩
    · exact .base (.dK e)
    · exact .fDict e
  | obj _ _ _ _ => cases k
def isiD (T : String) (d : D) : Option Bool := (tyName d).bind fun n => kitB n T
def isiE (T : String) (e : EV) : Option EV := match e.look with
  | none => none
  | some d => (isiD T d).map fun c => .val (.bl c)
theorem ae_isi {T : String} (h : AE K cl W te me) : AE K cl W (tCB (rIsi K) (tCons te (tCons (tC (.ty T)) tNil))) (eB1 (isiE T) me) := by
  intro b l B0 H0 δ g σ H r g' S hm Q q
  rcases mb_cases hm with ⟨x, e, rfl⟩ | ⟨x, g1, e, hm⟩
  · exact h b l B0 H0 δ g σ H _ _ S e _ q
  · refine h b l B0 H0 δ g σ H _ _ S e _ fun v H1 k1 b1 n1 hv => ?_
    obtain ⟨a, ha, rfl, rfl⟩ := mof_cases hm
    unfold isiE at ha
    cases hk : x.look with
    | none => rw [hk] at ha; cases ha
    | some d =>
      rw [hk] at ha
      obtain ⟨c, h1, h2⟩ := Option.map_eq_some_iff.mp ha
      subst h2
      obtain ⟨n, h3, h4⟩ := Option.bind_eq_some_iff.mp h1
      exact ⟨v, .ty T, .type n, .type T, c, rfl, .ty T, tyx_of (evok_look hv hk) h3, kit_ty h4, q _ H1 k1 b1 n1 (.bl _)⟩
def isi2E (T T' : String) (e : EV) : Option EV := match e.look with
  | none => none
  | some d => match isiD T d with
    | none => none
    | some c => match isiD T' d with
      | none => none
      | some c' => some (.val (.bl (c || c')))
theorem ae_isi2 {T T' : String} (h : AE K cl W te me) : AE K cl W (tCB (rIsiT K) (tCons te (tCons (tTup (tCons (tC (.ty T)) (tCons (tC (.ty T')) tNil))) tNil))) (eB1 (isi2E T T') me) := by
  intro b l B0 H0 δ g σ H r g' S hm Q q
  rcases mb_cases hm with ⟨x, e, rfl⟩ | ⟨x, g1, e, hm⟩
  · exact h b l B0 H0 δ g σ H _ _ S e _ q
  · refine h b l B0 H0 δ g σ H _ _ S e _ fun v H1 k1 b1 n1 hv => ?_
    obtain ⟨a, ha, rfl, rfl⟩ := mof_cases hm
    unfold isi2E at ha
    cases hk : x.look with
    | none => rw [hk] at ha; cases ha
    | some d =>
      rw [hk] at ha
      dsimp only at ha
      cases h1 : isiD T d with
      | none => rw [h1] at ha; cases ha
      | some c =>
        rw [h1] at ha
        dsimp only at ha
        cases h2 : isiD T' d with
        | none => rw [h2] at ha; cases ha
        | some c' =>
          rw [h2] at ha
          cases ha
          obtain ⟨n, h3, h4⟩ := Option.bind_eq_some_iff.mp h1
          obtain ⟨n', h3', h4'⟩ := Option.bind_eq_some_iff.mp h2
          rw [h3] at h3'
          cases h3'
          refine ⟨by show 2 ≤ sizeLine; decide, fun p hp => ?_⟩
          have up := Kp.new (G := ⟨K, cl, b, l⟩) (o := .tup [.ty T, .ty T']) hp
          have ty := tyx_of (Dat.goes (goes_new' (o := .tup [.ty T, .ty T']) hp) (evok_look hv hk)) h3
          refine ⟨v, p, [.ty T, .ty T'], .type n, [.type T, .type T'], c || c', rfl, upd_same, .cons (.ty T) (.cons (.ty T') .nil), ty, ?_, q _ _ (k1.trans up) (bag_upd b1 hp) n1 (.bl _)⟩
          refine kitAny_cons (kit_ty h4) (fun z => ?_) (fun z => by rw [z]; rfl)
          subst z
          refine kitAny_cons (kit_ty h4') (fun z => by subst z; rfl) (fun z => by rw [z]; rfl)
/-! raise C(), try .. except -/
def tRaise0 (C : Addr) (W : WX) : TS := fun _ σ H => (fun (_ : L2.St) (H : Hp) (Q : XK) => Q (.ref C) none H) σ H fun cls d H' => W cls d σ H'
def sRaise0 (c : Str) : DT := fun δ g => some (.er δ ⟨c, []⟩, g)
theorem as_raise0 {C : Addr} {c : Str} (hc : cl c = some C) : AS K cl W (tRaise0 C W) (sRaise0 c) := by
  intro b l B0 H0 δ g σ H o g' S h Dn q
  cases h
  exact q (.ref C) none σ H S ⟨C, hc, rfl, rfl⟩
abbrev DX := Xn → DT
def AX (K : PySem.W.Frag) (cl : Str → Option Addr) (i : Nat) (ts : Addr → Value → Option Addr → TS) (mx : DX) : Prop := ∀ (b l : Addr) B0 H0 δ g σ H x cls dx a o g', Sto ⟨K, cl, b, l⟩ B0 H0 δ g σ H → ExAt ⟨K, cl, b, l⟩ (Bd B0 δ σ) H cls dx x → H a = none →
  mx x δ g = some (o, g') → ∀ Dn, PostS ⟨K, cl, b, l⟩ B0 H0 WF Dn g' o → ts a cls dx { nx := fun σ' H' => Dn.nx (σ'.set i none) H', rt := Dn.rt, bk := fun σ' H' => Dn.bk (σ'.set i none) H', ct := fun σ' H' => Dn.ct (σ'.set i none) H' } (σ.set i (some (.ref a))) H
def sTry (mb : DT) (hand : Str → Option Bool) (mx : DX) : DT := fun δ g => match mb δ g with
  | some (.er δ' x, g') => match hand x.c with
    | some true => mx x δ' g'
    | some false => some (.er δ' x, g')
    | none => none
  | r => r
theorem as_try {c : Value} {i : Nat} {tb : WX → TS} {ts : Addr → Value → Option Addr → TS} {mb : DT} {hand : Str → Option Bool} {mx : DX} (hb : ∀ W, AS K cl W (tb W) mb) (hx : AX K cl i ts mx) (hh : ∀ n C t, cl n = some C → hand n = some t → PySem.W.exmOne K (.ref C) c = some t)
    (hno : ∀ x δ g o g', mx x δ g = some (o, g') → match o with
      | .er _ _ => False
      | _ => True) : AS K cl W (fun D σ H => tb (wAs K c i ts W D) D σ H) (sTry mb hand mx) := by
  intro b l B0 H0 δ g σ H o g' S hm Dn q
  unfold sTry at hm
  cases e : mb δ g with
  | none => rw [e] at hm; cases hm
  | some pr =>
    obtain ⟨o1, g1⟩ := pr
    rw [e] at hm
    refine hb _ b l B0 H0 δ g σ H o1 g1 S e Dn ?_
    cases o1 with
    | nx δ' => cases hm; exact q
    | rt v => cases hm; exact q
    | bk δ' => cases hm; exact q
    | ct δ' => cases hm; exact q
    | er δ' x =>
      intro cls dx σ' H' S' hx'
      dsimp only at hm
      obtain ⟨C, c1, c2, c3⟩ := id hx'
      cases hd : hand x.c with
      | none => rw [hd] at hm; cases hm
      | some t =>
        rw [hd] at hm
        have h1 := hh x.c C t c1 hd
        subst c2
        refine ⟨t, h1, fun ht a ha => ?_, fun ht => ?_⟩
        · subst ht
          refine hx b l B0 H0 δ' g1 σ' H' x _ dx a o g' S' hx' ha hm Dn ?_
          cases o with
          | nx δ2 => exact q
          | rt v => exact q
          | bk δ2 => exact q
          | ct δ2 => exact q
          | er δ2 y => exact (hno _ _ _ _ _ hm).elim
        · subst ht
          cases hm
          exact q _ dx σ' H' S' hx'
end
end Vi

set_option Elab.async false
set_option linter.all false
set_option maxRecDepth 100000
set_option maxHeartbeats 4000000
namespace Vi
open PySem PySem.Spec PyProof.Rows L2

/-! the law's own end -/
theorem law_G {P : Program} {w : World} {K : PySem.W.Frag} {mg mb : Str → Option Value} {k : Nat} {fa a : Addr} {fd : FuncData} {x : Str} {sp : Sp} {s₁ : Shared} {vs : List Value} {ns : List Int}
    (kx : K.In s₁.heap) (hns : s₁.heap.Ns mainGlobals mg) (hbn : s₁.heap.Ns builtinsNs mb) (hbb : ∀ x : Str, x ≠ "__name__" → mb x = bootBuiltins x) (hlim : s₁.heap.NoLimit) (hgn : s₁.gens = #[])
    (ha : s₁.heap.get? a = some { cls := .type "list", data := .seq vs.toArray }) (hi : IntsAre vs ns) (hl : ns.length ≤ sizeLine) (hr : GRoom k callerA)
    (F : ∀ base : Heap, K.In base → base.Ns mainGlobals mg → FnG P w K mg base k fa fd [x] sp) (hbind : ∀ (s : Shared) (u : Value), BindsTo s fd ⟨[u], []⟩ [(x, u)])
    (hsp : ∀ H : Hp, Only H → SqL K H a (ns.map V.int) → sp [.ref a] H (fun v _ => v = .bl true) fun _ _ _ => False) :
    codeAny (model P w) callerA (.call (.ref fa) ⟨[.ref a], []⟩) (fun r s' => r = .ok (.ret (.bool true)) ∧ OldK s₁.heap s'.heap ∧ s'.os = s₁.os ∧ AllBare s'.gens) s₁ := by
  have rv := vals_ints hi
  have lenV := hi.length
  have main : ∀ H : Hp, Only H → SqL K H a (ns.map V.int) → HOk P w H s₁.heap → (∀ b, H b ≠ none → b = a) → (H a ≠ none → K.lookup a = none) →
      codeAny (model P w) callerA (.call (.ref fa) ⟨[.ref a], []⟩) (fun r s' => r = .ok (.ret (.bool true)) ∧ OldK s₁.heap s'.heap ∧ s'.os = s₁.os ∧ AllBare s'.gens) s₁ := by
    intro H hO hS hok hA hK
    have dictless : ∀ {b : Addr} {o : Obj} {es : Array DictEntry} {ep : Nat}, s₁.heap.get? b = some o → o.data = .dict es ep → H b = none := by
      intro b o es ep e d
      cases q : H b with
      | none => rfl
      | some u =>
        obtain rfl : b = a := hA b (by rw [q]; simp)
        rw [ha] at e
        cases e
        have d' : Data.seq vs.toArray _ = Data.dict es ep := d
        cases d'
    have nsB : ∀ {b : Addr} {m : Str → Option Value}, s₁.heap.Ns b m → (hidT s₁.heap H).Ns b m := by
      rintro b m ⟨o, es, ep, e, d, r⟩
      exact ⟨o, es, ep, hidT_get e (dictless e d), d, r⟩
    have kb : K.In (hidT s₁.heap H) := by
      intro b o e
      refine hidT_get (kx b o e) ?_
      cases q : H b with
      | none => rfl
      | some u =>
        obtain rfl : b = a := hA b (by rw [q]; simp)
        rw [hK (by rw [q]; simp)] at e
        cases e
    have hM : Mod K mg (hidT s₁.heap H) := by
      obtain ⟨mc, l1, l2⟩ := hlim
      exact ⟨kb, nsB hns, ⟨mb, nsB hbn, hbb⟩, ⟨mc, nsB l1, l2⟩⟩
    have e0 : Env0 P w K mg (hidT s₁.heap H) callerA [] s₁ H :=
      ⟨rfl, hM, fun b o e => of_hidT e, Nat.le_of_eq (hidT_size _ _), trivial, fun b hb => absurd (show b ∈ ([] : List Addr) from hb) (by simp), hok, .of_eq hgn⟩
    refine codeAny_mono ((F _ kb (nsB hns)).run callerA [] s₁ H ⟨[.ref a], []⟩ [.ref a] [.ref a] _ _ hr e0 (hbind s₁ (.ref a)) (.cons rfl .nil) (hsp H hO hS)) fun r s' h => ?_
    cases r with
    | error e =>
      obtain ⟨_, _, _, _, _, _, _, _, _, _, _, _, z⟩ := h
      exact z.elim
    | ok fl =>
      cases fl with
      | next => exact h.elim
      | brk => exact h.elim
      | cont => exact h.elim
      | ret u =>
        obtain ⟨v, H', os, bare, un, hok', r', q⟩ := h
        obtain rfl : v = .bl true := q
        obtain rfl : u = Value.bool true := r'
        refine ⟨rfl, OldK.of_keep fun b o e => ?_, os, bare⟩
        cases q : H b with
        | none => exact un.keep b o e q (by intro z; exact absurd (show b ∈ ([] : List Addr) from z) (by simp)) (by simp)
        | some u =>
          rcases hO b with z | ⟨ob, xs, z⟩
          · rw [q] at z
            cases z
          · obtain ⟨e1, _⟩ := hok b _ z
            obtain ⟨e2, _⟩ := hok' b _ (un.frzs b ob _ z)
            rw [e] at e1
            cases e1
            exact e2
  cases hk : K.lookup a with
  | some o =>
    have e := kx a o hk
    rw [ha] at e
    cases e
    exact main (fun _ => none) (fun _ => .inl rfl) (.inr ⟨_, vs.toArray, _, hk, rfl, rfl, rfl, by rw [List.size_toArray, lenV]; exact hl, by simpa using rv⟩) (fun b u z => by cases z) (fun b z => absurd rfl z) fun z => absurd rfl z
  | none =>
    refine main (fun b => if b = a then some (.frz { cls := .type "list", data := .seq vs.toArray } (.lst (ns.map V.int))) else none) (fun b => ?_) (.inl (.inr ⟨{ cls := .type "list", data := .seq vs.toArray }, if_pos rfl⟩)) (fun b u z => ?_) (fun b z => ?_) fun _ => hk
    · by_cases hb : b = a
      · exact .inr ⟨_, _, if_pos hb⟩
      · exact .inl (if_neg hb)
    · by_cases hb : b = a
      · have z' := (if_pos hb).symm.trans z
        cases z'
        subst hb
        exact ⟨ha, by rw [List.length_map]; exact hl, vs, _, rv, ha⟩
      · have z' := (if_neg hb).symm.trans z
        cases z'
    · by_cases hb : b = a
      · exact hb
      · exact absurd (if_neg hb) z
/-- a script handed in, True comes out -/
def spLaw (K : PySem.W.Frag) : Sp := fun vs H Q _ => ∃ (a : Addr) (ns : List Int), vs = [.ref a] ∧ SqL K H a (ns.map V.int) ∧ ns.length ≤ 63 ∧ ∀ H', Q (.bl true) H'
theorem walk_G {l : PySem.W.OpenLaw} {k : Nat} {q : Program} {loose : List Str} {XP : (Str → Option Value) → Heap → Prop} {YP : World → Heap → Prop} {d : DefRec} {K : Params → PySem.W.Frag} {x : Str}
    (hn : l.most = some 63) (hdf : d.params.defaults = []) (hr : GRoom k callerA) (hY : ∀ (w : World) (h : Heap), YP w h → (K w.params).In h)
    (F : ∀ (w : World) (mg : Str → Option Value) (fa : Addr) (h : Heap), (K w.params).In h → h.Ns mainGlobals mg → mg d.name = some (.ref fa) →
      ∃ fd : FuncData, (∀ (s : Shared) (u : Value), BindsTo s fd ⟨[u], []⟩ [(x, u)]) ∧ ∀ base : Heap, (K w.params).In base → base.Ns mainGlobals mg → FnG l.prog w (K w.params) mg base k fa fd [x] (spLaw (K w.params))) :
    PySem.W.WalkO q loose XP YP l.row.toRowW d [] (fun f vs => PySem.call f vs) := by
  refine Att.attach_call hn hdf fun w s₀ s₁ mg mb fa o pm cd doc a vs ns G Y ho hd hcd hmg hobj hints hlen hg => ?_
  have kx := hY w _ Y
  obtain ⟨fd, hb, hF⟩ := F w mg fa _ kx G.T.g hmg
  exact law_G kx G.T.g G.T.b G.T.builtins G.T.nolimit hg hobj hints (Nat.le_trans hlen (by decide)) hr hF hb fun H hO hS => ⟨a, ns, rfl, hS, hlen, fun _ => rfl⟩

/-! a tuple from behind -/
section
variable {prog : Program} {w : World} {A : Around} {E : Value → Shared → Prop} {s : Shared}
theorem applied_rev {sl : Addr} {vl vu vs : Value} {n : Nat} {Q : Int × Int × Nat → Shared → Prop} (hs : s.heap.IsSliceOf sl vl vu vs) (pl : IsPart vl none) (pu : IsPart vu none) (ps : IsPart vs (some (-1))) (h2 : 2 ≤ n)
    (h : Q ((n : Int) - 1, -1, n) s) : wpAny (model prog w) A (Builtin.Slice.sliceApplied (.ref sl) (pure (n : Int))) Q E s := by
  obtain ⟨os, hos, hcs, hds⟩ := id hs
  unfold Builtin.Slice.sliceApplied Builtin.Slice.sliceFields
  refine wpAny_bind (wpAny_bind (wpAny_field hos hds (x := vl) rfl (wpAny_bind (wpAny_field hos hds (x := vu) rfl (wpAny_bind (wpAny_field hos hds (x := vs) rfl (wpAny_pure ?_)))))))
  refine wpAny_bind (HT.slicePart_ ps ?_)
  show wpAny _ _ (if ((-1 : Int) == 0) = true then _ else _) _ _ s
  rw [if_neg (by decide)]
  refine wpAny_bind (HT.slicePart_ pl (wpAny_bind (HT.slicePart_ pu (wpAny_bind (wpAny_pure ?_)))))
  show wpAny _ _ (pure ((n : Int) - 1, (-1 : Int), Builtin.Slice.slicePlaces ((n : Int) - 1) (-1) (-1))) _ _ s
  have e : Builtin.Slice.slicePlaces ((n : Int) - 1) (-1) (-1) = n := by
    unfold Builtin.Slice.slicePlaces
    rw [if_neg (by decide), if_pos (by omega)]
    have : ((n : Int) - 1 - -1 - 1) / (- -1) + 1 = (n : Int) := by
      rw [show (- -1 : Int) = 1 by decide, Int.ediv_one]
      omega
    rw [this]
    omega
  rw [e]
  exact wpAny_pure h
theorem pick_rev (xs : Array Value) : ((List.range xs.size).filterMap fun (m : Nat) => xs[((xs.size : Int) - 1 + (m : Int) * (-1)).toNat]?).toArray = xs.toList.reverse.toArray := by
  have e := PySem.W.krv_pick xs
  unfold slicePick at e
  rw [PySem.W.krv_bounds] at e
  rw [← e]
  show _ = ((sliceRange ((xs.size : Int) - 1) (-1) (-1)).filterMap (xs[·]?)).toArray
  rw [PySem.W.krv_sliceRange, List.filterMap_map]
  congr 1
  have go : ∀ ms : List Nat, (∀ m ∈ ms, m < xs.size) → ms.filterMap (fun (m : Nat) => xs[((xs.size : Int) - 1 + (m : Int) * (-1)).toNat]?) = ms.filterMap ((fun (i : Nat) => xs[i]?) ∘ fun k => xs.size - 1 - k) := by
    intro ms
    induction ms with
    | nil => intro _; rfl
    | cons m ms ih =>
      intro hm
      have e1 : ((xs.size : Int) - 1 + (m : Int) * (-1)).toNat = xs.size - 1 - m := by
        have := hm m List.mem_cons_self
        omega
      rw [List.filterMap_cons, List.filterMap_cons, ih fun k hk => hm k (List.mem_cons_of_mem _ hk), e1]
      rfl
  exact go _ fun m hm => List.mem_range.mp hm
theorem getItem_rev {t sl : Addr} {items : Array Value} {vl vu vs : Value} {Q : Value → Shared → Prop} (ht : IsTup s.heap t items) (hs : s.heap.IsSliceOf sl vl vu vs) (pl : IsPart vl none) (pu : IsPart vu none) (ps : IsPart vs (some (-1))) (h2 : 2 ≤ items.size)
    (h : Q (.ref s.heap.objs.size) { s with heap := s.heap.push { cls := .type "tuple", data := .seq items.toList.reverse.toArray } }) (hsz : items.size ≤ sizeLine) : wpAny (model prog w) A (getItem (.ref t) (.ref sl)) Q E s := by
  have hok : sizeOk (.seq items.toList.reverse.toArray) := by
    show items.toList.reverse.toArray.size ≤ sizeLine
    rw [List.size_toArray, List.length_reverse, Array.length_toList]
    exact hsz
  obtain ⟨os, hos, hcs, hds⟩ := id hs
  have hTs : s.TypeIs (.ref sl) "slice" := ⟨os, hos, hcs⟩
  unfold getItem
  try with_reducible refine wpAny_holding ?_
  first | refine wpAny_bind (wpAny_pure ?_) | skip
  refine wpAny_bind (wpAny_sequenceKey ht.typeIs (by decide) ?_)
  refine wpAny_bind (wpAny_callSpecial?_slot (name := Str.ofString "__getitem__") ht.typeIs PyProof.Rows.slot_tuple_getitem (wpAny_call_entry PyProof.Rows.slot_tuple_getitem ht.typeIs entry_tuple_getitem ?_ (args_tuple_getitem _ _)))
  show wpAny _ _ (Builtin.Tuple.tupleItemsOf (.ref t) >>= _) _ _ s
  refine wpAny_bind (PyProof.Rows.tupleItemsOf_ ht ?_)
  refine wpAny_bind (wpAny_typeOf hTs ?_)
  rw [if_pos (by decide)]
  refine wpAny_bind (applied_rev hs pl pu ps h2 ?_)
  have hno : ¬ (((items.size : Int) - 1 == 0 && (-1 : Int) == 1 && items.size == items.size) = true) := by
    intro q
    rw [Bool.and_eq_true, Bool.and_eq_true] at q
    exact absurd q.1.2 (by decide)
  show wpAny _ _ (if ((items.size : Int) - 1 == 0 && (-1 : Int) == 1 && items.size == items.size) = true then _ else _) _ _ s
  rw [if_neg hno, pick_rev]
  first
    | exact wpAny_bind (m := Builtin.Tuple.tupleExact _) (wpAny_newObj_type (wpAny_pure ⟨_, rfl, wpAny_pure h⟩) hok)
    | exact wpAny_bind (m := Builtin.Tuple.tupleExact _) (wpAny_newObj_type (wpAny_bind (wpAny_pure (wpAny_pure ⟨_, rfl, wpAny_pure h⟩))) hok)
    | exact wpAny_bind (wpAny_bind (m := Builtin.Tuple.tupleExact _) (wpAny_newObj_type (wpAny_pure (wpAny_pure ⟨_, rfl, wpAny_pure h⟩)) hok))
    | exact wpAny_bind (wpAny_bind (m := Builtin.Tuple.tupleExact _) (wpAny_newObj_type (wpAny_pure ⟨_, rfl, wpAny_pure h⟩) hok))
end
theorem pe_revT {X : Cx} {e : Expr} {te : TE} {k : Nat} {p1 p2 p3 pos : Pos} (he : PE X e te) : PE X (.Subscript e (.Slice none none (some (.UnaryOp .USub (.Constant (.int 1) k p1) p2)) p3) pos) (tRevT X.K te) := by
  refine ⟨fun pins s σ H Q I h => Subscript_ (thn (he.run pins s σ H _ I h) fun v s1 hv => ?_)⟩
  obtain ⟨x, H1, I1, r1, a, xs, rfl, hx, h2, q⟩ := hv
  cases r1
  have hst : PO X (some (.UnaryOp .USub (.Constant (.int 1) k p1) p2)) (tPart (tUn (rU fun i => .int (-i)) (tC (.int 1)))) := po_some (pe_un un_neg pe_int)
  refine wpAny_Slice (thn (po_none.run pins s1 σ H1 (fun o H2 => o = none ∧ H2 = H1) I1 ⟨rfl, rfl⟩) fun vl s2 hl => ?_)
  obtain ⟨l, H2, I2, pl, rfl, rfl⟩ := hl
  refine thn (po_none.run pins s2 σ H2 (fun o H3 => o = none ∧ H3 = H2) I2 ⟨rfl, rfl⟩) fun vu s3 hu => ?_
  obtain ⟨u, H3, I3, pu, rfl, rfl⟩ := hu
  refine thn (hst.run pins s3 σ H3 (fun o H4 => o = some (-1) ∧ H4 = H3) I3 ⟨1, rfl, -1, rfl, rfl, rfl⟩) fun vs s4 hs => ?_
  obtain ⟨o, H4, I4, ps, rfl, rfl⟩ := hs
  have I5 : Inv X pins σ H4 { s4 with heap := s4.heap.push { cls := .type "slice", data := .fields #[vl, vu, vs] } } := I4.kept (t' := s4.toks) fun b ob q => Heap.get?_push_of_some _ q
  obtain ⟨its, r, ht, hz⟩ := I5.tuple hx
  have hlen := r.length
  show wpAny (model X.prog X.w) X.A (subscriptTail e (.Slice none none (some (.UnaryOp .USub (.Constant (.int 1) k p1) p2)) p3) (.ref a) (.ref s4.heap.objs.size)) (EP X pins σ Q) X.xe { s4 with heap := s4.heap.push { cls := .type "slice", data := .fields #[vl, vu, vs] } }
  refine tail_any (ops := [.ref a, .ref s4.heap.objs.size]) ht.typeIs (PyProof.Rows.slot_tuple_getitem.lookup) ?_ (by with_unfolding_all rfl)
  refine getItem_rev ht (Heap.IsSliceOf.new _ vl vu vs) pl pu ps (by rw [List.size_toArray]; omega) ?_ (by rw [List.size_toArray]; omega)
  refine ⟨.ref _, _, I5.laid (t' := s4.toks) (o := .tup xs.reverse) (fun b ob q => Heap.get?_push_of_some _ q) (Nat.le_refl _) ?_, rfl, q _ (I5.hok.fresh (Nat.le_refl _))⟩
  exact ⟨by rw [List.length_reverse]; exact hz, _, r.reverse, IsTup.new _ _⟩
end Vi

set_option Elab.async false
set_option linter.all false
set_option maxRecDepth 100000
set_option maxHeartbeats 4000000
namespace Vi
open PySem PySem.Spec PyProof.Rows L2
section
variable {X : Cx}
theorem pe_gC {x : Str} {v : V} {pos : Pos} (hg : Gl X x) (h : ∃ u, X.mg x = some u ∧ RelV v u) (hd : (x == ("__debug__" : Str)) = false := by decide) : PE X (.Name x pos) (tC v) := by
  obtain ⟨u, h1, h2⟩ := h
  exact pe_glob hg h1 h2 hd
theorem pi_seqK {tg l : Expr} {tl : TE} {K : PySem.W.Frag} (hl : PE X l tl) (hK : X.K = K := by rfl) : PI X tg l (wSeq K tl) := by
  subst hK
  exact pi_seq hl
theorem pe_revTK {e : Expr} {te : TE} {k : Nat} {p1 p2 p3 pos : Pos} {K : PySem.W.Frag} (he : PE X e te) (hK : X.K = K := by rfl) : PE X (.Subscript e (.Slice none none (some (.UnaryOp .USub (.Constant (.int 1) k p1) p2)) p3) pos) (tRevT K te) := by
  subst hK
  exact pe_revT he
theorem pg_tupK {es : List Expr} {k : Nat} {t : TGs} {n : Nat} {pos : Pos} {K : PySem.W.Frag} (hc : X.calm = true) (h : PGs X es t) (hn : (assignEach es X.env).length = n := by rfl) (hst : (assignEach es X.env).findIdx? (·.1) = none := by rfl) (hK : X.K = K := by rfl) : PG X (.Tuple es k pos) (gTup K n t) := by
  subst hK
  exact pg_tup hc h hn hst
theorem op_addU : OpR X (binaryOp .Add) (rAddU X.K) := fun pins s σ H x y v u Q I rx ry h => h.elim (fun h => op_add pins s σ H x y v u Q I rx ry h) fun h => h.elim (fun h => op_cat pins s σ H x y v u Q I rx ry h) fun h => op_add_str pins s σ H x y v u Q I rx ry h
theorem pe_disp1 {k v : Expr} {tk tv : TE} {pos : Pos} (hk : PE X k tk) (hv : PE X v tv) : PE X (.Dict [some k] [v] pos) (tDisp [(tk, tv)]) := pe_disp (pps_cons hk hv pps_nil) rfl rfl (by simp) (by show 1 ≤ 15; decide)
theorem op_mulU : OpR X (binaryOp .Mult) rMulU := opr_or op_mul op_rep
theorem r2_powU {K : PySem.W.Frag} {cl : Str → Option Addr} {W : WX} : R2ok K cl W (rI CPow fun i j => .int (i ^ j.toNat)) mPow := r2_pow fun j h1 h2 => ⟨h1, by omega, by decide⟩
theorem call_lenU : CallR X (.builtin "len") (rLenU X.K) := fun pins s σ H xs us Q I r h => h.elim (fun h => call_len_seq pins s σ H xs us Q I r h) fun h => call_len_str pins s σ H xs us Q I r h
theorem bt_int : bootBuiltins "int" = some (.type "int") := by decide +kernel
theorem bt_bool : bootBuiltins "bool" = some (.type "bool") := by decide +kernel
theorem bt_str : bootBuiltins "str" = some (.type "str") := by decide +kernel
theorem bt_list : bootBuiltins "list" = some (.type "list") := by decide +kernel
theorem bt_tuple : bootBuiltins "tuple" = some (.type "tuple") := by decide +kernel
theorem bt_dict : bootBuiltins "dict" = some (.type "dict") := by decide +kernel
end
theorem ae_cK {K : PySem.W.Frag} {cl : Str → Option Addr} {W : WX} {v : V} {d : D} (h : ∀ b l Bad H, Dat ⟨K, cl, b, l⟩ Bad H v d) : AE K cl W (tC v) (eC d) := by
  intro b l B0 H0 δ g σ H r g' S h' Q q
  cases h'
  exact q v H .refl S.bg rfl (h _ _ _ _)
/-- a def of the text, its name, how it is bound -/
structure Df (K : PySem.W.Frag) (mg : Str → Option Value) (x : Str) (st : Stmt) (ps : List Str) (f : Addr) (fd : FuncData) : Prop where
  F : Fun K x x st f fd
  b : Binds K fd ps []
  mg : mg x = some (.ref f)
  kp : PySem.W.keepIn K (.ref f) = true
/-- an own error without __init__ -/
structure Xc (K : PySem.W.Frag) (mg : Str → Option Value) (cl : Str → Option Addr) (x : Str) (c : Addr) : Prop where
  mg : mg x = some (.ref c)
  ex : PySem.W.excIn K c [.type "ValueError", .type "Exception", .type "BaseException", .type "object"] "ValueError.__new__" = true
  kp : PySem.W.keepIn K (.ref c) = true
  sub : PySem.W.subIn K (.ref c) (.type "BaseException") = some true
  ty : PySem.W.typeIn K (.ref c) = some (.type "type")
  cl : cl x = some c
end Vi

set_option Elab.async false
set_option linter.all false
set_option maxRecDepth 100000
set_option maxHeartbeats 4000000
namespace Vi
open PySem PySem.Spec PyProof.Rows L2

/-! the draws -/
def bagOk (g : Bag) : Bool := decide (0 ≤ g.x0) && decide (0 ≤ g.x1) && decide (g.x1 ≤ 2147483647) && decide (0 ≤ g.x2) && g.ns.all fun c => decide (0 ≤ c)
def manyOk (many : Int) : Bool := decide (1 ≤ many) && decide (many ≤ 1000000)
/-- the cell that is read -/
def cellOf (g : Bag) : Int := if g.x2 < g.ns.length then g.ns.getD g.x2.toNat 0 else 0
/-- the bag behind the first part -/
def bag1 (g : Bag) : Bag := if g.x0 = 0 then
    { x0 := if 10 ^ 18 ≤ cellOf g then cellOf g else g.x0, x1 := (g.x1 * 48271 + cellOf g % 2147483647 + 7919 * (g.x2 + 1)) % 2147483647, x2 := g.x2 + 1, ns := g.ns }
  else g
def tailOf (x1 many : Int) : Int :=
  ((x1 + 1) * 39373 % 1000000007 * ((x1 + 1) * 39373 % 1000000007) % 998244353 * 30011 % 998244353) / 7 % many
def takeV (many : Int) (g : Bag) : Int × Bag := if 0 < (bag1 g).x0 then ((bag1 g).x0 % many, { bag1 g with x0 := (bag1 g).x0 / many }) else (tailOf (bag1 g).x1 many, bag1 g)
def takeM (many : Int) : M EV := fun g => if (bagOk g && manyOk many) = true then some (.ok (.val (.int (takeV many g).1)), (takeV many g).2) else none
def mTake : MF := fun as => match as with
  | [.bag, .val (.int many)] => takeM many
  | _ => mno
theorem bagOk_iff {g : Bag} : bagOk g = true ↔ 0 ≤ g.x0 ∧ 0 ≤ g.x1 ∧ g.x1 ≤ 2147483647 ∧ 0 ≤ g.x2 ∧ ∀ c ∈ g.ns, 0 ≤ c := by
  unfold bagOk
  simp only [Bool.and_eq_true, decide_eq_true_eq, List.all_eq_true]
  constructor
  · rintro ⟨⟨⟨⟨h1, h2⟩, h3⟩, h4⟩, h5⟩
    exact ⟨h1, h2, h3, h4, h5⟩
  · rintro ⟨h1, h2, h3, h4, h5⟩
    exact ⟨⟨⟨⟨h1, h2⟩, h3⟩, h4⟩, h5⟩
theorem cell_nn {g : Bag} (h : bagOk g = true) : 0 ≤ cellOf g := by
  obtain ⟨_, _, _, h4, h5⟩ := bagOk_iff.mp h
  unfold cellOf
  split
  · rename_i hl
    have hi : g.x2.toNat < g.ns.length := by omega
    rw [List.getD_eq_getElem?_getD, List.getElem?_eq_getElem hi]
    exact h5 _ (List.getElem_mem hi)
  · exact Int.le_refl 0
theorem bag1_ok {g : Bag} (h : bagOk g = true) : bagOk (bag1 g) = true ∧ (bag1 g).ns = g.ns := by
  have hc := cell_nn h
  obtain ⟨h1, h2, h3, h4, h5⟩ := bagOk_iff.mp h
  unfold bag1
  split
  · refine ⟨bagOk_iff.mpr ⟨?_, ?_, ?_, ?_, h5⟩, rfl⟩
    · show 0 ≤ (if 10 ^ 18 ≤ cellOf g then cellOf g else g.x0)
      split <;> omega
    · exact Int.emod_nonneg _ (by decide)
    · have := Int.emod_lt_of_pos (g.x1 * 48271 + cellOf g % 2147483647 + 7919 * (g.x2 + 1)) (show (0 : Int) < 2147483647 by decide)
      show (g.x1 * 48271 + cellOf g % 2147483647 + 7919 * (g.x2 + 1)) % 2147483647 ≤ 2147483647
      omega
    · show 0 ≤ g.x2 + 1
      omega
  · exact ⟨h, rfl⟩
theorem take_spec {g : Bag} {many : Int} (h : bagOk g = true) (hm : 1 ≤ many) (hm2 : many ≤ 1000000) : ∃ r g', takeM many g = some (.ok (.val (.int r)), g') ∧ 0 ≤ r ∧ r < many ∧ bagOk g' = true ∧ g'.ns = g.ns := by
  have hb := bag1_ok h
  obtain ⟨h1, h2, h3, h4, h5⟩ := bagOk_iff.mp hb.1
  refine ⟨(takeV many g).1, (takeV many g).2, ?_, ?_, ?_, ?_, ?_⟩
  · unfold takeM manyOk
    rw [h, decide_eq_true hm, decide_eq_true hm2]
    rfl
  · unfold takeV
    split
    · exact Int.emod_nonneg _ (by omega)
    · exact Int.emod_nonneg _ (by omega)
  · unfold takeV
    split
    · exact Int.emod_lt_of_pos _ (by omega)
    · exact Int.emod_lt_of_pos _ (by omega)
  · unfold takeV
    split
    · exact bagOk_iff.mpr ⟨Int.ediv_nonneg h1 (by omega), h2, h3, h4, h5⟩
    · exact hb.1
  · unfold takeV
    split
    · exact hb.2
    · exact hb.2

section
variable {X : Cx}
/-- xs[i] read for a store by an operator -/
def rGetL (K : PySem.W.Frag) : V → V → Hp → VK → Prop := fun x y H Q => ∃ p xs i v, x = .ref p ∧ y = .int i ∧ SqL K H p xs ∧ 0 ≤ i ∧ i < 1000 ∧ xs[i.toNat]? = some v ∧ Q v H
theorem pget_L : PGet X (rGetL X.K) := by
  intro pins s σ H o i ov iv Q I ro ri h
  obtain ⟨p, xs, k, v, rfl, rfl, hq, h0, h1, hx, q⟩ := h
  cases ro
  obtain ⟨t, rfl⟩ := ri
  obtain ⟨its, r, pl, hz⟩ := I.list hq
  obtain ⟨u, hu, ru⟩ := r.get hx
  exact wpAny_getItem_list pl.isList h0 (by omega) (by simpa using hu) ⟨v, H, I, ru, q⟩
end
/-- the script's cells, without signs -/
def absL (ns : List Int) : List Int := (ns.take 63).map fun i => if i < 0 then -i else i
def bag0 (ns : List Int) : Bag := { x0 := 0, x1 := 1234567891, x2 := 0, ns := absL ns }
theorem bag0_ok (ns : List Int) : bagOk (bag0 ns) = true := by
  refine bagOk_iff.mpr ⟨by show (0 : Int) ≤ 0; decide, by show (0 : Int) ≤ 1234567891; decide, by show (1234567891 : Int) ≤ 2147483647; decide, by show (0 : Int) ≤ 0; decide, fun c hc => ?_⟩
  obtain ⟨i, _, rfl⟩ := List.mem_map.mp hc
  split <;> omega
/-- a bag made -/
def spBag (K : PySem.W.Frag) : Sp := fun vs H Q _ => ∃ (a : Addr) (ns : List Int), vs = [.ref a] ∧ SqL K H a (ns.map V.int) ∧ ns.length ≤ 63 ∧ ∀ (b l : Addr) (H' : Hp), H b = none → H l = none → l ≠ b →
  (∀ c o, H c = some o → H' c = some o) → H' b = some (.lst [.int 0, .int 1234567891, .int 0, .ref l]) → H' l = some (.lst ((absL ns).map V.int)) → Q (.ref b) H'

/-! the reading of the draw -/
def rInt1 : List V → Hp → VK → Prop := fun xs H Q => (∃ i, xs = [.int i] ∧ Q (.int i) H) ∨ ∃ k, xs = [.bl k] ∧ Q (.int (if k then 1 else 0)) H
abbrev ixB (K : PySem.W.Frag) (k : Int) : TE := tOp (rIxL K) (tVar 0) (tC (.int k))
abbrev intT (te : TE) : TE := tCB rInt1 (tCons te tNil)
abbrev opAddT (a c : TE) : TE := tOp (rI0 fun i j => .int (i + j)) a c
abbrev opMulT (a c : TE) : TE := tOp (rI CMul fun i j => .int (i * j)) a c
abbrev opModT (a c : TE) : TE := tOp (rI (fun _ j => 0 < j) fun i j => .int (i % j)) a c
abbrev opDivT (a c : TE) : TE := tOp (rI CDiv fun i j => .int (i / j)) a c
abbrev stT (i : Nat) (te : TE) : TS := tAsg te (gName i)
abbrev subT (k : Int) (te : TE) : TS := tAsg te (gSub (tVar 0) (tC (.int k)) rSetL)
abbrev rLen1 (K : PySem.W.Frag) : List V → Hp → VK → Prop := fun xs H Q => ∃ p ys, xs = [.ref p] ∧ (SqL K H p ys ∨ SqT K H p ys) ∧ Q (.int ys.length) H
def tTake1 (K : PySem.W.Frag) : TS :=
  tSeq (stT 2 (tC (.int 0)))
    (Evl.tCut (tIfS (tTest (tOp (rI0 fun i j => .bl (decide (i < j))) (ixB K 2) (tCB (rLen1 K) (tCons (ixB K 3) tNil)))) (stT 2 (tOp (rIxL K) (ixB K 3) (ixB K 2))) tNext)
    (tSeq (tAugS (tVar 0) (tC (.int 2)) (tC (.int 1)) (rGetL K) (ipI fun i j => i + j) rSetL)
    (Evl.tCut (tIfS (tTest (tOp (rI0 fun i j => .bl (decide (j ≤ i))) (tVar 2) (tOp (rI CPow fun i j => .int (i ^ j.toNat)) (tC (.int 10)) (tC (.int 18))))) (subT 0 (tVar 2)) tNext)
    (tSeq (stT 3 (opAddT (opAddT (opMulT (ixB K 1) (tC (.int 48271))) (opModT (intT (tVar 2)) (tC (.int 2147483647)))) (opMulT (tC (.int 7919)) (ixB K 2))))
    (subT 1 (opModT (intT (tVar 3)) (tC (.int 2147483647))))))))
def tTake (K : PySem.W.Frag) : TS :=
  Evl.tCut (tIfS (tTest (tOp rEq (ixB K 0) (tC (.int 0)))) (tTake1 K) tNext)
    (tSeq (tIfS (tTest (tOp (rI0 fun i j => .bl (decide (j < i))) (ixB K 0) (tC (.int 0)))) (tSeq (stT 4 (opModT (intT (ixB K 0)) (tVar 1))) (tSeq (subT 0 (opDivT (ixB K 0) (tVar 1))) (tRet (tVar 4)))) tNext)
    (tSeq (stT 5 (opModT (intT (opMulT (opAddT (ixB K 1) (tC (.int 1))) (tC (.int 39373)))) (tC (.int 1000000007))))
    (tSeq (stT 6 (opModT (intT (opMulT (opModT (intT (opMulT (tVar 5) (tVar 5))) (tC (.int 998244353))) (tC (.int 30011)))) (tC (.int 998244353))))
    (tRet (opModT (intT (opDivT (tVar 6) (tC (.int 7)))) (tVar 1))))))
abbrev bagV (x0 x1 x2 : Int) (l : Addr) : List V := [.int x0, .int x1, .int x2, .ref l]
/-- all but the bag is as it was -/
abbrev But (b : Addr) (H H' : Hp) : Prop := ∀ c, c ≠ b → H' c = H c
theorem but_upd {b : Addr} {H H' : Hp} {o : HO} (h : But b H H') : But b H (upd H' b o) := fun c n => by rw [upd_ne n]; exact h c n
theorem sq_b {K : PySem.W.Frag} {H : Hp} {b : Addr} {xs : List V} (h : H b = some (.lst xs)) : SqL K H b xs := Or.inl (Or.inl h)
theorem take1_reads {K : PySem.W.Frag} {b l : Addr} {g : Bag} {many : Int} {H : Hp} {D : Ends} (hb : H b = some (.lst (bagV g.x0 g.x1 g.x2 l))) (hl : H l = some (.lst (g.ns.map V.int))) (lb : l ≠ b) (ok : bagOk g = true) (h0 : g.x0 = 0)
    (q : ∀ v2 v3 H', But b H H' → H' b = some (.lst (bagV (bag1 g).x0 (bag1 g).x1 (bag1 g).x2 l)) → D.nx [some (.ref b), some (.int many), v2, v3, none, none, none] H') :
    tTake1 K D [some (.ref b), some (.int many), none, none, none, none, none] H := by
  obtain ⟨n0, n1, n2, n3, n4⟩ := bagOk_iff.mp ok
  have hc0 := cell_nn ok
  show Evl.tCut _ _ _ _ _
  -- the cell
  refine ⟨fun σ' H' => σ' = [some (.ref b), some (.int many), some (.int (cellOf g)), none, none, none, none] ∧ H' = H, ?_, ?_⟩
  · refine ⟨_, rfl, b, _, 2, _, rfl, rfl, sq_b hb, rfl, _, rfl, b, _, 3, _, rfl, rfl, sq_b hb, rfl, l, _, rfl, Or.inl (sq_b hl), _, _, rfl, rfl, _, rfl, ?_⟩
    rw [List.length_map]
    refine ite2 (fun hlt => ?_) (fun hge => ?_)
    · have hlt' : g.x2 < (g.ns.length : Int) := of_decide_eq_true hlt
      have hi : g.x2.toNat < g.ns.length := by omega
      have hat : atI (g.ns.map V.int) g.x2 = some (.int (cellOf g)) := by
        have e : (g.x2 : Int) = ((g.x2.toNat : Nat) : Int) := by omega
        rw [e]
        refine atI_nat ?_
        rw [List.getElem?_map, List.getElem?_eq_getElem hi]
        unfold cellOf
        rw [if_pos hlt', List.getD_eq_getElem?_getD, List.getElem?_eq_getElem hi]
        rfl
      refine ⟨_, rfl, b, _, 3, _, rfl, rfl, sq_b hb, rfl, _, rfl, b, _, 2, _, rfl, rfl, sq_b hb, rfl, l, _, _, _, rfl, rfl, sq_b hl, hat, ?_⟩
      exact ⟨rfl, rfl⟩
    · have e : cellOf g = 0 := by
        unfold cellOf
        rw [if_neg (fun z => hge (decide_eq_true z))]
      rw [e]
      exact ⟨rfl, rfl⟩
  rintro σ' Ha ⟨rfl, rfl⟩
  -- the place
  refine ⟨_, rfl, b, _, 2, _, rfl, rfl, sq_b hb, by decide, by decide, rfl, g.x2, 1, rfl, rfl, b, _, 2, 2, rfl, rfl, hb, rfl, ?_⟩
  refine ⟨fun σ' H' => σ' = [some (.ref b), some (.int many), some (.int (cellOf g)), none, none, none, none] ∧ H' b = some (.lst (bagV (bag1 g).x0 g.x1 (g.x2 + 1) l)) ∧ But b Ha H', ?_, ?_⟩
  · refine ⟨_, rfl, 10, 18, rfl, rfl, ⟨by decide, by decide, by decide⟩, _, _, rfl, rfl, _, rfl, ?_⟩
    have e18 : (10 : Int) ^ (18 : Int).toNat = 10 ^ 18 := rfl
    refine ite2 (fun hge => ?_) (fun hlt => ?_)
    · have hge' : (10 : Int) ^ 18 ≤ cellOf g := of_decide_eq_true hge
      refine ⟨_, rfl, _, rfl, b, _, 0, 0, rfl, rfl, upd_same, rfl, rfl, ?_, but_upd (but_upd fun _ _ => rfl)⟩
      rw [upd_same]
      unfold bag1
      rw [if_pos h0]
      dsimp only
      rw [if_pos hge']
      rfl
    · have hlt' : ¬ (10 : Int) ^ 18 ≤ cellOf g := fun z => hlt (decide_eq_true z)
      refine ⟨rfl, ?_, but_upd fun _ _ => rfl⟩
      rw [upd_same]
      unfold bag1
      rw [if_pos h0]
      dsimp only
      rw [if_neg hlt']
      rfl
  rintro σ' H' ⟨rfl, hb', hk⟩
  refine ⟨_, rfl, b, _, 1, _, rfl, rfl, sq_b hb', rfl, _, _, rfl, rfl, Or.inl ⟨by omega, by omega⟩, _, rfl, Or.inl ⟨_, rfl, _, _, rfl, rfl, (by show (0 : Int) < 2147483647; decide), _, _, rfl, rfl, _, rfl, b, _, 2, _, rfl, rfl, sq_b hb', rfl, _, _, rfl, rfl, Or.inl ⟨by decide, by decide⟩, _, _, rfl, rfl, ?_⟩⟩
  refine ⟨_, rfl, Or.inl ⟨_, rfl, _, _, rfl, rfl, (by show (0 : Int) < 2147483647; decide), _, rfl, b, _, 1, 1, rfl, rfl, hb', rfl, ?_⟩⟩
  refine q _ _ _ (but_upd hk) ?_
  rw [upd_same]
  unfold bag1
  rw [if_pos h0]
  rfl
theorem take_reads {K : PySem.W.Frag} {cl : Str → Option Addr} {vs : List V} {H : Hp} {Q : VK} {E : XK} (h : spM K cl 2 mTake vs H Q E) : tTake K { nx := fun _ H' => Q .non H', rt := Q } (vs.map some ++ [none, none, none, none, none]) H := by
  obtain ⟨b, l, B0, g, g', as, r, h1, h2, h3, h4, h5, h6, h7, h8, h9⟩ := h
  unfold mTake at h8
  split at h8
  case h_2 => cases h8
  rename_i many
  unfold takeM at h8
  split at h8
  case isFalse => cases h8
  rename_i hok
  rw [Bool.and_eq_true] at hok
  obtain ⟨ok, hm⟩ := hok
  have hm' : 1 ≤ many ∧ many ≤ 1000000 := by simpa [manyOk] using hm
  cases h8
  cases h2 with
  | cons a1 r1 =>
  cases r1 with
  | cons a2 r2 =>
  cases r2
  obtain rfl : _ = V.ref b := a1
  obtain rfl := datint (show Dat _ _ _ _ (.int many) from a2)
  have hb : H b = some (.lst (bagV g.x0 g.x1 g.x2 l)) := h5
  have done : ∀ (H' : Hp) (xs : Int × Bag), But b H H' → xs = takeV many g → H' b = some (.lst (bagV xs.2.x0 xs.2.x1 xs.2.x2 l)) → Q (.int xs.1) H' := fun H' xs hk hx hv => by
    subst hx
    refine h9 _ H' (fun a o n e => by rw [hk a n]; exact e) hv ?_ (Dat.int _)
    unfold takeV
    split
    · exact (bag1_ok ok).2
    · exact (bag1_ok ok).2
  obtain ⟨o0, o1, o2, o3, o4⟩ := bagOk_iff.mp (bag1_ok ok).1
  show Evl.tCut _ _ _ _ _
  refine ⟨fun σ' H' => ∃ v2 v3, σ' = [some (.ref b), some (.int many), v2, v3, none, none, none] ∧ But b H H' ∧ H' b = some (.lst (bagV (bag1 g).x0 (bag1 g).x1 (bag1 g).x2 l)), ?_, ?_⟩
  · refine ⟨_, rfl, b, _, 0, _, rfl, rfl, sq_b hb, rfl, rfl, _, rfl, ?_⟩
    refine ite2 (fun hz => ?_) (fun hnz => ?_)
    · have hz' : g.x0 = 0 := V.int.inj (of_decide_eq_true hz)
      exact take1_reads hb h7 h6 ok hz' fun v2 v3 H' k e => ⟨v2, v3, rfl, k, e⟩
    · have hnz' : ¬ g.x0 = 0 := fun z => hnz (decide_eq_true (by rw [z]))
      refine ⟨none, none, rfl, fun _ _ => rfl, ?_⟩
      have e : bag1 g = g := by
        unfold bag1
        rw [if_neg hnz']
      rw [e]
      exact hb
  rintro σ' H1 ⟨v2, v3, rfl, hk, hb1⟩
  refine ⟨_, rfl, b, _, 0, _, rfl, rfl, sq_b hb1, rfl, _, _, rfl, rfl, _, rfl, ?_⟩
  refine ite2 (fun hp => ?_) (fun hn => ?_)
  · have hp' : 0 < (bag1 g).x0 := of_decide_eq_true hp
    refine ⟨_, rfl, b, _, 0, _, rfl, rfl, sq_b hb1, rfl, Or.inl ⟨_, rfl, _, rfl, _, _, rfl, rfl, (by show (0 : Int) < many; omega), ?_⟩⟩
    refine ⟨_, rfl, b, _, 0, _, rfl, rfl, sq_b hb1, rfl, _, rfl, _, _, rfl, rfl, ⟨by omega, by omega⟩, _, rfl, b, _, 0, 0, rfl, rfl, hb1, rfl, ?_⟩
    refine ⟨_, rfl, ?_⟩
    refine done _ ((bag1 g).x0 % many, { bag1 g with x0 := (bag1 g).x0 / many }) (but_upd hk) ?_ upd_same
    unfold takeV
    rw [if_pos hp']
  · have hn' : ¬ 0 < (bag1 g).x0 := fun z => hn (decide_eq_true z)
    have m1 := Int.emod_nonneg (((bag1 g).x1 + 1) * 39373) (show (1000000007 : Int) ≠ 0 by decide)
    have m2 := Int.emod_lt_of_pos (((bag1 g).x1 + 1) * 39373) (show (0 : Int) < 1000000007 by decide)
    refine ⟨_, rfl, b, _, 1, _, rfl, rfl, sq_b hb1, rfl, _, _, rfl, rfl, _, _, rfl, rfl, Or.inr ⟨by decide, by decide⟩, Or.inl ⟨_, rfl, _, _, rfl, rfl, (by show (0 : Int) < 1000000007; decide), ?_⟩⟩
    refine ⟨_, rfl, _, rfl, _, _, rfl, rfl, Or.inl ⟨by omega, by omega⟩, Or.inl ⟨_, rfl, _, _, rfl, rfl, (by show (0 : Int) < 998244353; decide), _, _, rfl, rfl, Or.inr ⟨by decide, by decide⟩, Or.inl ⟨_, rfl, _, _, rfl, rfl, (by show (0 : Int) < 998244353; decide), ?_⟩⟩⟩
    refine ⟨_, rfl, _, _, rfl, rfl, ⟨by decide, by decide⟩, Or.inl ⟨_, rfl, _, rfl, _, _, rfl, rfl, (by show (0 : Int) < many; omega), ?_⟩⟩
    refine done _ (tailOf (bag1 g).x1 many, bag1 g) hk ?_ hb1
    unfold takeV
    rw [if_neg hn']

/-! the reading of the bag's making -/
def rAbs : List V → Hp → VK → Prop := fun xs H Q => ∃ i, xs = [.int i] ∧ Q (.int (if i < 0 then -i else i)) H
def tBag (K : PySem.W.Frag) : TS := tRet (tLst (tCons (tC (.int 0)) (tCons (tC (.int 1234567891)) (tCons (tC (.int 0)) (tCons (tLc (iList K (tSl (rSlL K) (tVar 0) tNoPart (tPart (tC (.int 63))))) (gName 1) tYes (tCB rAbs (tCons (tVar 1) tNil)) [1]) tNil)))))
theorem cut63 (ns : List Int) (h : ns.length ≤ 63) : cutV (ns.map V.int) none (some 63) = (ns.take 63).map V.int := by
  unfold cutV
  have e : HT.sIx (ns.map V.int).length (ns.map V.int).length (some 63) = ns.length := by
    have := HT.sIx_nat (ns.map V.int).length (ns.map V.int).length 63
    rw [show ((63 : Nat) : Int) = 63 from rfl] at this
    rw [this, List.length_map]
    omega
  rw [e, HT.sIx_none, List.drop_zero, Nat.sub_zero, List.map_take, List.take_of_length_le (by simp), List.take_of_length_le (by simpa using h)]
theorem bag_reads {K : PySem.W.Frag} {vs : List V} {H : Hp} {Q : VK} {E : XK} (h : spBag K vs H Q E) : tBag K { nx := fun _ H' => Q .non H', rt := Q } (vs.map some ++ [none]) H := by
  obtain ⟨a, ns, rfl, hS, hlen, k⟩ := h
  refine ⟨_, rfl, 63, rfl, a, _, rfl, hS, fun p hp => ?_⟩
  rw [cut63 ns hlen]
  refine ⟨p, rfl, ⟨_, Or.inl (Or.inl upd_same)⟩, fun l hl => ?_⟩
  have lp : l ≠ p := fun z => by
    subst z
    rw [upd_same] at hl
    cases hl
  have hl0 : H l = none := by rw [upd_ne lp] at hl; exact hl
  refine lc_list (xs := (ns.take 63).map V.int) (fun i H' => (∀ c o, H c = some o → H' c = some o) ∧ H' p = some (.lst ((ns.take 63).map V.int)) ∧ H' l = some (.lst (((absL ns).take i).map V.int))) ⟨fun c o e => ?_, ?_, ?_⟩ (fun i H' _ z => Or.inl (Or.inl z.2.1)) (fun i x H' hx z => ?_) fun H' z => ?_
  · rw [upd_ne (ne_of_none e hl0), upd_ne (ne_of_none e hp)]
    exact e
  · rw [upd_ne lp.symm, upd_same]
  · rw [upd_same]
    rfl
  · obtain ⟨z1, z2, z3⟩ := z
    rw [List.getElem?_map] at hx
    obtain ⟨n, hn, rfl⟩ := Option.map_eq_some_iff.mp hx
    have hi : i < (absL ns).length := by
      have := (List.getElem?_eq_some_iff.mp hn).1
      unfold absL
      rw [List.length_map]
      exact this
    refine ⟨rfl, ?_⟩
    show ∃ v, _ ∧ _
    refine ⟨_, rfl, n, rfl, _, z3, ?_, fun c o e => ?_, ?_, ?_⟩
    · rw [List.length_map, List.length_take]
      have : (absL ns).length ≤ 63 := by
        unfold absL
        rw [List.length_map, List.length_take]
        omega
      exact Nat.lt_of_le_of_lt (Nat.min_le_right _ _) (Nat.lt_of_le_of_lt this (by decide))
    · rw [upd_ne (ne_of_none e hl0)]
      exact z1 c o e
    · rw [upd_ne lp.symm]
      exact z2
    · rw [upd_same, List.take_add_one, List.map_append]
      have e : (absL ns)[i]? = some (if n < 0 then -n else n) := by
        unfold absL
        rw [List.getElem?_map, hn]
        rfl
      rw [e]
      rfl
  · obtain ⟨z1, z2, z3⟩ := z
    show [V.int 0, V.int 1234567891, V.int 0, V.ref l].length ≤ sizeLine ∧ _
    refine ⟨by show 4 ≤ sizeLine; decide, fun b hb => ?_⟩
    have bl : l ≠ b := fun e => by
      subst e
      rw [z3] at hb
      cases hb
    have hb0 : H b = none := by
      cases e : H b with
      | none => rfl
      | some o => rw [z1 b o e] at hb; cases hb
    refine k b l _ hb0 hl0 bl (fun c o e => ?_) upd_same ?_
    · rw [upd_ne (ne_of_none e hb0)]
      exact z1 c o e
    · rw [upd_ne bl, z3, List.length_map, show (ns.take 63).length = (absL ns).length by simp [absL], List.take_length]
end Vi

set_option Elab.async false
set_option linter.all false
set_option maxRecDepth 100000
set_option maxHeartbeats 4000000
namespace Vi
open PySem PySem.Spec PyProof.Rows L2
section
variable {P : Program} {w : World} {K : PySem.W.Frag} {cl : Str → Option Addr} {mg : Str → Option Value} {base : Heap}
/-- the law: a bag of the script, then the rest -/
theorem fnLaw {x qual : Str} {st : Stmt} {f : Addr} {fd : FuncData} {N ps : List Str} {k i n : Nat} {m : DT} (F : Fun K x qual st f fd) (S : FnScope N ps (defScope st)) (hps : ps.length = 1) (hn : N.length = n + 1)
    (hbody : ∀ (cdv : Value) (A : Around) (outer : List Env) (s : Shared) (H : Hp) (E : XK), GRoom k (A.deeper (envOfC qual (defScope st) s.heap.objs.size f cdv)) →
      ∃ t, PSs (cxOf (L2.CX P w) P w K mg base N qual (defScope st) f cdv A outer s H E) (defBody st) (tSeq (tAsg (tCallG (spBag K) (fun c d _ H' => E c d H') (tCons (tVar 0) tNil)) (gName i)) t) ∧ AS K cl (fun c d _ H' => E c d H') t m)
    (hm : ∀ ns : List Int, ∃ g', m ((List.replicate (n + 1) none).set i (some .bag)) (bag0 ns) = some (.rt (.val (.bl true)), g')) (hi : 1 ≤ i) : FnG P w K mg base (k + 1) f fd ps (spLaw K) := by
  refine fnG_of F S (fun vs H Q E h => by obtain ⟨a, ns, rfl, _⟩ := h; rw [hps]; rfl) fun cdv A outer s H vs Q E hr h => ?_
  obtain ⟨a, ns, rfl, hS, hlen, q⟩ := h
  obtain ⟨t, ht, ha⟩ := hbody cdv A outer s H E hr
  refine ⟨_, ht, ?_⟩
  have st0 : L2.start N [V.ref a] = some (V.ref a) :: List.replicate n none := by
    unfold L2.start
    rw [hn]
    rfl
  rw [st0]
  refine ⟨_, rfl, a, ns, rfl, hS, hlen, fun b l H' hb hl lb keep eb el => ?_⟩
  obtain ⟨g', hg⟩ := hm ns
  have at0 : ∀ (j : Nat) (sv : SV), ((List.replicate (n + 1) none).set i (some SV.bag))[j]? = some (some sv) → j = i ∧ sv = .bag ∧ i < n + 1 := fun j sv z => by
    by_cases e : i = j
    · subst e
      by_cases hl : i < n + 1
      · rw [List.getElem?_set_self (by simpa using hl)] at z
        cases z
        exact ⟨rfl, rfl, hl⟩
      · rw [List.getElem?_eq_none (by simpa using hl)] at z
        cases z
    · rw [List.getElem?_set_ne e, List.getElem?_replicate] at z
      split at z <;> cases z
  have S0 : Sto ⟨K, cl, b, l⟩ (fun a => a = b) H' ((List.replicate (n + 1) none).set i (some .bag)) (bag0 ns) ((some (V.ref a) :: List.replicate n none).set i (some (.ref b))) H' := by
    refine ⟨by simp, .refl, eb, lb, el, rfl, by show (H' b).isSome = true; rw [eb]; rfl, fun c z => by subst z; rw [eb]; rfl, fun j d z => ?_, fun j ds z => ?_, fun j j' ds es p z _ _ _ => ?_, fun j z => ?_, fun j x z => ?_, fun j ds p z => ?_⟩
    · cases (at0 j _ z).2.1
    · cases (at0 j _ z).2.1
    · cases (at0 j _ z).2.1
    · obtain ⟨rfl, _, hl'⟩ := at0 j _ z
      exact List.getElem?_set_self (by simpa using hl')
    · cases (at0 j _ z).2.1
    · cases (at0 j _ z).2.1
  refine ha b l _ H' _ (bag0 ns) _ H' _ g' S0 hg _ fun v H2 _ _ _ hv => ?_
  obtain rfl := datbl (show Dat _ _ _ _ (.bl true) from hv)
  exact q H2
end
end Vi

set_option Elab.async false
set_option linter.all false
set_option maxRecDepth 100000
set_option maxHeartbeats 4000000
namespace Vi
open PySem PySem.Spec PyProof.Rows L2

/-! running a meaning -/
def Ok {α : Type} (m : M α) (g : Bag) (R : α → Bag → Prop) : Prop := ∃ a g', m g = some (.ok a, g') ∧ R a g'
def Okn (m : DT) (δ : DS) (g : Bag) (R : Ot → Bag → Prop) : Prop := ∃ o g', m δ g = some (o, g') ∧ R o g'
section
variable {α β : Type} {g : Bag}
theorem ok_ret {a : α} {R : α → Bag → Prop} (h : R a g) : Ok (mret a) g R := ⟨a, g, rfl, h⟩
theorem ok_bind {m : M α} {f : α → M β} {R : β → Bag → Prop} (h : Ok m g fun a g1 => Ok (f a) g1 R) : Ok (mbind m f) g R := by
  obtain ⟨a, g1, e, b, g2, e2, r⟩ := h
  refine ⟨b, g2, ?_, r⟩
  unfold mbind
  rw [e]
  exact e2
theorem ok_of {o : Option α} {a : α} {R : α → Bag → Prop} (e : o = some a) (h : R a g) : Ok (mof o) g R := by
  subst e
  exact ⟨a, g, rfl, h⟩
theorem ok_imp {m : M α} {R S : α → Bag → Prop} (h : Ok m g R) (i : ∀ a g', R a g' → S a g') : Ok m g S := by
  obtain ⟨a, g', e, r⟩ := h
  exact ⟨a, g', e, i a g' r⟩
theorem okn_imp {m : DT} {δ : DS} {R S : Ot → Bag → Prop} (h : Okn m δ g R) (i : ∀ a g', R a g' → S a g') : Okn m δ g S := by
  obtain ⟨a, g', e, r⟩ := h
  exact ⟨a, g', e, i a g' r⟩
theorem ok_eq {m : M α} {a : α} {g' : Bag} {R : α → Bag → Prop} (e : m g = some (.ok a, g')) (h : R a g') : Ok m g R := ⟨a, g', e, h⟩
/-! statements -/
variable {δ : DS} {R : Ot → Bag → Prop}
theorem okn_next (h : R (.nx δ) g) : Okn sNext δ g R := ⟨_, _, rfl, h⟩
theorem okn_seq {a b : DT} (h : Okn a δ g fun o g1 => match o with
    | .nx δ1 => Okn b δ1 g1 R
    | o => R o g1) : Okn (sSeq a b) δ g R := by
  obtain ⟨o, g1, e, r⟩ := h
  unfold Okn sSeq
  rw [e]
  cases o with
  | nx δ1 => exact r
  | rt v => exact ⟨_, _, rfl, r⟩
  | bk δ1 => exact ⟨_, _, rfl, r⟩
  | ct δ1 => exact ⟨_, _, rfl, r⟩
  | er δ1 x => exact ⟨_, _, rfl, r⟩
theorem okn_on {m : DE} {f : EV → DT} (h : Ok (m δ) g fun e g1 => Okn (f e) δ g1 R) : Okn (sOn m f) δ g R := by
  obtain ⟨a, g1, e, b, g2, e2, r⟩ := h
  refine ⟨b, g2, ?_, r⟩
  unfold sOn
  rw [e]
  exact e2
theorem okn_onB {m : DB} {f : Bool → DT} (h : Ok (m δ) g fun e g1 => Okn (f e) δ g1 R) : Okn (sOnB m f) δ g R := by
  obtain ⟨a, g1, e, b, g2, e2, r⟩ := h
  refine ⟨b, g2, ?_, r⟩
  unfold sOnB
  rw [e]
  exact e2
theorem okn_if {c : DB} {a b : DT} (h : Ok (c δ) g fun t g1 => Okn (if t = true then a else b) δ g1 R) : Okn (sIf c a b) δ g R := okn_onB h
theorem okn_ret {m : DE} (h : Ok (m δ) g fun e g1 => ∃ r, retEv e = some r ∧ R (.rt r) g1) : Okn (sRet m) δ g R :=
  okn_on (ok_imp h fun e g1 ⟨r, h1, h2⟩ => ⟨_, _, by rw [h1]; rfl, h2⟩)
theorem okn_set {i : Nat} {m : DE} (h : Ok (m δ) g fun e g1 => ∃ d, e.keep = some d ∧ R (.nx (δ.set i (some (.val d)))) g1) : Okn (sSet i m) δ g R :=
  okn_on (ok_imp h fun e g1 ⟨r, h1, h2⟩ => ⟨_, _, by rw [h1]; rfl, h2⟩)
theorem okn_setO {i : Nat} {m : DE} (h : Ok (m δ) g fun e g1 => ∃ ds, e = .nw ds ∧ R (.nx (δ.set i (some (.own ds)))) g1) : Okn (sSetO i m) δ g R :=
  okn_on (ok_imp h fun e g1 ⟨r, h1, h2⟩ => ⟨_, _, by subst h1; rfl, h2⟩)
theorem okn_asg {m : DE} {t : DG} (h : Ok (m δ) g fun e g1 => ∃ d δ', e.keep = some d ∧ t d δ = some δ' ∧ R (.nx δ') g1) : Okn (sAsg m t) δ g R :=
  okn_on (ok_imp h fun e g1 ⟨d, δ', h1, h2, h3⟩ => ⟨_, _, by rw [h1]; show (t d δ).map _ = _; rw [h2]; rfl, h3⟩)
theorem okn_app {i : Nat} {m : DE} {ds : List D} (h0 : δ[i]? = some (some (.own (.lst ds)))) (hl : lineOk (ds.length + 1) = true) (h : Ok (m δ) g fun e g1 => ∃ d, e.keep = some d ∧ R (.nx (δ.set i (some (.own (.lst (ds ++ [d])))))) g1) : Okn (sApp i m) δ g R := by
  unfold Okn sApp sOwn
  rw [h0]
  refine okn_on (ok_imp h fun e g1 ⟨d, h1, h2⟩ => ⟨_, _, ?_, h2⟩)
  unfold fApp
  rw [if_pos hl, h1]
  rfl
theorem okn_ext {i : Nat} {m : DE} {ds : List D} (h0 : δ[i]? = some (some (.own (.lst ds)))) (h : Ok (m δ) g fun e g1 => ∃ es, e.look = some (.lst es) ∧ lineOk (ds.length + es.length) = true ∧ R (.nx (δ.set i (some (.own (.lst (ds ++ es)))))) g1) : Okn (sExt i m) δ g R := by
  unfold Okn sExt sOwn
  rw [h0]
  refine okn_on (ok_imp h fun e g1 ⟨d, h1, h2, h3⟩ => ⟨_, _, ?_, h3⟩)
  unfold fExt
  rw [h1]
  dsimp only
  rw [if_pos h2]
  rfl
theorem okn_for {mi : DI} {mg : DG} {body : DT} (h : Ok (mi δ) g fun ds g1 => Okn (sLoop mg body ds) δ g1 R) : Okn (sFor mi mg body) δ g R := by
  obtain ⟨a, g1, e, b, g2, e2, r⟩ := h
  refine ⟨b, g2, ?_, r⟩
  unfold sFor
  rw [e]
  exact e2
/-- what a loop keeps -/
theorem okn_loop {mg : DG} {body : DT} (I : DS → Bag → Prop) : ∀ (ds : List D) (δ : DS) (g : Bag), (∀ d ∈ ds, ∀ δ g, I δ g → ∃ δ1, mg d δ = some δ1 ∧ Okn body δ1 g fun o g2 => ∃ δ2, o = .nx δ2 ∧ I δ2 g2) → I δ g → (∀ δ' g', I δ' g' → R (.nx δ') g') → Okn (sLoop mg body ds) δ g R
  | [], δ, g, _, h0, h => ⟨_, _, rfl, h δ g h0⟩
  | d :: ds, δ, g, hs, h0, h => by
    obtain ⟨δ1, e1, o, g2, e2, δ2, rfl, h2⟩ := hs d List.mem_cons_self δ g h0
    obtain ⟨o', g', e3, r⟩ := okn_loop I ds δ2 g2 (fun d' m => hs d' (List.mem_cons_of_mem _ m)) h2 h
    refine ⟨o', g', ?_, r⟩
    show sLoop mg body (d :: ds) δ g = _
    unfold sLoop
    rw [e1]
    dsimp only
    rw [e2]
    exact e3
/-- the loop that returns early or goes on -/
theorem okn_loop1 {mg : DG} {body : DT} {d : D} {ds : List D} {δ1 : DS} (e1 : mg d δ = some δ1) (h : Okn body δ1 g fun o g2 => ∃ δ2, o = .nx δ2 ∧ Okn (sLoop mg body ds) δ2 g2 R) : Okn (sLoop mg body (d :: ds)) δ g R := by
  obtain ⟨o, g2, e2, δ2, rfl, o', g', e3, r⟩ := h
  refine ⟨o', g', ?_, r⟩
  show sLoop mg body (d :: ds) δ g = _
  unfold sLoop
  rw [e1]
  dsimp only
  rw [e2]
  exact e3
/-- a def that returns -/
theorem ok_body {n : Nat} {m : DT} {as : List AV} {R : EV → Bag → Prop} (h : Okn m (startD n as) g fun o g' => ∃ e, o = .rt e ∧ R e g') : Ok (mBody n m as) g R := by
  obtain ⟨o, g', e, v, rfl, r⟩ := h
  refine ⟨v, g', ?_, r⟩
  unfold mBody
  rw [e]
theorem ok_take {many : Int} {R : EV → Bag → Prop} (hg : bagOk g = true) (h1 : 1 ≤ many) (h2 : many ≤ 1000000) (h : ∀ (r : Int) g', 0 ≤ r → r < many → bagOk g' = true → R (.val (.int r)) g') : Ok (mTake [.bag, .val (.int many)]) g R := by
  obtain ⟨r, g', e, a, b, c, _⟩ := take_spec hg h1 h2
  exact ⟨_, g', e, h r g' a b c⟩
end

/-! a value beside itself -/
mutual
def szD : D → Option Nat
  | .non => some 5
  | .bl _ => some 5
  | .int i => if (decide (-999999999999 ≤ i) && decide (i ≤ 999999999999)) = true then some 13 else none
  | .str s => if PyData.strOk s = true then some (10 * s.length + 2) else none
  | .lst ds => (szL ds).map (· + 3)
  | .tup ds => (szL ds).map (· + 3)
  | .dct _ => none
  | .obj _ _ => none
def szL : List D → Option Nat
  | [] => some 0
  | d :: ds => match szD d, szL ds with
    | some m, some n => some (m + n + 2)
    | _, _ => none
end
mutual
def dpD : D → Nat
  | .lst ds => dpL ds + 1
  | .tup ds => dpL ds + 1
  | .non => 0
  | .bl _ => 0
  | .int _ => 0
  | .str _ => 0
  | .dct _ => 0
  | .obj _ _ => 0
def dpL : List D → Nat
  | [] => 0
  | d :: ds => max (dpD d) (dpL ds)
end
theorem int_ok {i : Int} (h : (decide (-999999999999 ≤ i) && decide (i ≤ 999999999999)) = true) : (PyData.shown (.int i)).length ≤ 13 ∧ PyData.showable (.int i) = true := by
  have h' : -999999999999 ≤ i ∧ i ≤ 999999999999 := by simpa using h
  have hn : i.natAbs < 10 ^ 12 := by omega
  refine ⟨PyData.shown_int_le hn, ?_⟩
  show decide (i.natAbs.log2 < 1920) = true
  refine decide_eq_true ?_
  by_cases z : i.natAbs = 0
  · rw [z]; decide
  · exact Nat.lt_trans ((Nat.log2_lt z).mpr (Nat.lt_trans hn (by decide : 10 ^ 12 < 2 ^ 40))) (by decide)
mutual
theorem szD_py : ∀ {d : D} {n : Nat}, szD d = some n → ∃ p, toPy d = some p ∧ p.canLay0 = true ∧ p.showable = true ∧ p.hasDict = false ∧ p.shown.length ≤ n ∧ p.depth = dpD d
  | .non, n, h => by cases h; exact ⟨.none, rfl, rfl, rfl, rfl, by decide, rfl⟩
  | .bl c, n, h => by cases h; exact ⟨.bool c, rfl, rfl, rfl, rfl, by cases c <;> decide, rfl⟩
  | .int i, n, h => by
    unfold szD at h
    split at h
    · rename_i hi
      cases h
      exact ⟨.int i, rfl, rfl, (int_ok hi).2, rfl, (int_ok hi).1, rfl⟩
    · cases h
  | .str s, n, h => by
    unfold szD at h
    split at h
    · rename_i hi
      cases h
      exact ⟨.str s, rfl, hi, rfl, rfl, StrLaws.reprText_len s (fun c hc => by
        have hs : PyData.strOk s = true := hi
        unfold PyData.strOk at hs
        have h2 := (Array.all_eq_true'.mp hs) c (by simpa using hc)
        have h3 : c < 0x110000 := by simpa using h2
        exact Nat.lt_trans h3 (by decide)), rfl⟩
    · cases h
  | .lst ds, n, h => by
    unfold szD at h
    cases e : szL ds with
    | none => rw [e] at h; cases h
    | some m =>
      rw [e] at h
      cases h
      obtain ⟨ps, h1, h2, h3, h4, h5, h6⟩ := szL_py e
      refine ⟨.list ps, by show (toPyL ds).map _ = _; rw [h1]; rfl, h2, h3, h4, ?_, by show PyData.depthAll ps + 1 = dpL ds + 1; rw [h6]⟩
      show (listText (PyData.shownAll ps)).length ≤ m + 3
      have := listText_len_le (PyData.shownAll ps)
      omega
  | .tup ds, n, h => by
    unfold szD at h
    cases e : szL ds with
    | none => rw [e] at h; cases h
    | some m =>
      rw [e] at h
      cases h
      obtain ⟨ps, h1, h2, h3, h4, h5, h6⟩ := szL_py e
      refine ⟨.tuple ps, by show (toPyL ds).map _ = _; rw [h1]; rfl, h2, h3, h4, ?_, by show PyData.depthAll ps + 1 = dpL ds + 1; rw [h6]⟩
      show (tupleText (PyData.shownAll ps)).length ≤ m + 3
      have := tupleText_len_le (PyData.shownAll ps)
      omega
  | .dct _, n, h => by cases h
  | .obj _ _, n, h => by cases h
theorem szL_py : ∀ {ds : List D} {n : Nat}, szL ds = some n → ∃ ps, toPyL ds = some ps ∧ PyData.canLayAll0 ps = true ∧ PyData.showableAll ps = true ∧ PyData.hasDictAll ps = false ∧ ((PyData.shownAll ps).map (·.length)).sum + 2 * (PyData.shownAll ps).length ≤ n ∧ PyData.depthAll ps = dpL ds
  | [], n, h => by cases h; exact ⟨[], rfl, rfl, rfl, rfl, by decide, rfl⟩
  | d :: ds, n, h => by
    unfold szL at h
    cases e1 : szD d with
    | none => rw [e1] at h; cases h
    | some m =>
      cases e2 : szL ds with
      | none => rw [e1, e2] at h; cases h
      | some k =>
        rw [e1, e2] at h
        cases h
        obtain ⟨p, a1, a2, a3, a4, a5, a6⟩ := szD_py e1
        obtain ⟨ps, b1, b2, b3, b4, b5, b6⟩ := szL_py e2
        refine ⟨p :: ps, by show (match toPy d, toPyL ds with | some p, some ps => some (p :: ps) | _, _ => none) = _; rw [a1, b1], by show (p.canLay0 && PyData.canLayAll0 ps) = true; rw [a2, b2]; rfl, by show (p.showable && PyData.showableAll ps) = true; rw [a3, b3]; rfl, by show (p.hasDict || PyData.hasDictAll ps) = false; rw [a4, b4]; rfl, ?_, by show max p.depth (PyData.depthAll ps) = max (dpD d) (dpL ds); rw [a6, b6]⟩
        show ((p.shown :: PyData.shownAll ps).map (·.length)).sum + 2 * (p.shown :: PyData.shownAll ps).length ≤ _
        simp only [List.map_cons, List.sum_cons, List.length_cons]
        omega
end
def alikeOk (d : D) : Bool := (match szD d with
  | some n => lineOk n
  | none => false) && decide (dpD d ≤ 60)
theorem alike_py {d : D} (h : alikeOk d = true) : ∃ p, toPy d = some p ∧ SeqAt.shaped p = true ∧ reprOk p = true ∧ PyData.eqv p p = true := by
  unfold alikeOk at h
  cases e : szD d with
  | none => rw [e] at h; simp at h
  | some n =>
    rw [e] at h
    have h' : lineOk n = true ∧ dpD d ≤ 60 := by simpa using h
    obtain ⟨p, h1, h2, h3, h4, h5, h6⟩ := szD_py e
    have hn : n ≤ 100000 := of_decide_eq_true h'.1
    refine ⟨p, h1, ?_, ?_, SeqAt.eqv_refl_plain p (PyData.plain_of_canLay0 p h2)⟩
    · unfold SeqAt.shaped
      rw [h2, h6]
      have : dpD d ≤ 64 := by omega
      rw [decide_eq_true this]
      rfl
    · unfold reprOk lineOk
      rw [h3, h4, h6, decide_eq_true h'.2, decide_eq_true (show p.shown.length ≤ 100000 by omega)]
      rfl
def bdAlike : DT := sRet (eAnd (e2 mEq (eVar 0) (eVar 1)) (e2 mEq (eB1 reprE (eVar 0)) (eB1 reprE (eVar 1))))
theorem eqU_self {d : D} (h : alikeOk d = true) : eqU d d = some true := by
  obtain ⟨p, h1, h2, h3, h4⟩ := alike_py h
  unfold eqU
  split
  · simp
  · unfold eqD
    rw [h1]
    dsimp only
    rw [h2, h4]
    rfl
theorem reprE_self {d : D} (h : alikeOk d = true) : ∃ s, reprE (.val d) = some (.val (.str s)) := by
  obtain ⟨p, h1, h2, h3, h4⟩ := alike_py h
  refine ⟨p.shown, ?_⟩
  unfold reprE
  show (match some d with | none => none | some d => match toPy d with | none => none | some p => if reprOk p = true then some (EV.val (.str p.shown)) else none) = _
  dsimp only
  rw [h1]
  dsimp only
  rw [if_pos h3]
theorem ok_alike {d : D} {g : Bag} {R : EV → Bag → Prop} (h : alikeOk d = true) (r : R (.val (.bl true)) g) : Ok (mBody 2 bdAlike [.val d, .val d]) g R := by
  obtain ⟨s, hs⟩ := reprE_self h
  refine ok_body (okn_ret (ok_bind (m := e2 mEq (eVar 0) (eVar 1) _) (ok_bind (m := eVar 0 _) (ok_ret (a := EV.val d) (ok_bind (m := eVar 1 _) (ok_ret (a := EV.val d) ?_))))))
  refine ok_of (o := (eqU d d).map fun t => EV.val (.bl t)) (a := .val (.bl true)) (by rw [eqU_self h]; rfl) ?_
  refine ok_bind (m := eB1 reprE (eVar 0) _) (ok_bind (m := eVar 0 _) (ok_ret (a := EV.val d) (ok_of hs ?_)))
  refine ok_bind (m := eB1 reprE (eVar 1) _) (ok_bind (m := eVar 1 _) (ok_ret (a := EV.val d) (ok_of hs ?_)))
  refine ok_of (o := (eqU (.str s) (.str s)).map fun t => EV.val (.bl t)) (a := .val (.bl true)) (by show (some (decide (s = s))).map _ = _; simp) ?_
  exact ⟨_, rfl, _, rfl, r⟩
end Vi

set_option Elab.async false
set_option linter.all false
set_option maxRecDepth 100000
set_option maxHeartbeats 4000000
namespace Vi
open PySem PySem.Spec PyProof.Rows L2
/-! equations of meanings -/
section
variable {α β : Type}
theorem q_ret {a : α} {f : α → M β} : mbind (mret a) f = f a := rfl
theorem q_no {f : α → M β} : mbind mno f = mno := rfl
theorem q_er {x : Xn} {f : α → M β} : mbind (merr x) f = merr x := rfl
theorem q_of {a : α} : mof (some a) = mret a := rfl
theorem q_of0 : mof (none : Option α) = mno := rfl
abbrev DM := Bag → Option (Ot × Bag)
def dret (o : Ot) : DM := fun g => some (o, g)
def dno : DM := fun _ => none
def sK (m : M EV) (k : EV → DM) (δ : DS) : DM := fun g => match m g with
  | none => none
  | some (.er x, g') => some (.er δ x, g')
  | some (.ok e, g') => k e g'
def sKB (m : M Bool) (k : Bool → DM) (δ : DS) : DM := fun g => match m g with
  | none => none
  | some (.er x, g') => some (.er δ x, g')
  | some (.ok e, g') => k e g'
def dB (a : DM) (b : DT) : DM := fun g => match a g with
  | some (.nx δ', g') => b δ' g'
  | r => r
def mB (a : DM) : M EV := fun g => match a g with
  | some (.rt e, g') => some (.ok e, g')
  | some (.nx _, g') => some (.ok (.val .non), g')
  | some (.er _ x, g') => some (.er x, g')
  | _ => none
def rK : EV → DM
  | .val d => dret (.rt (.val d))
  | .nw ds => dret (.rt (.nw ds))
  | _ => dno
def setK (i : Nat) (δ : DS) (e : EV) : DM := match e.keep with
  | some d => dret (.nx (δ.set i (some (.val d))))
  | none => dno
def asgK (t : DG) (δ : DS) (e : EV) : DM := match e.keep with
  | none => dno
  | some d => match t d δ with
    | some δ' => dret (.nx δ')
    | none => dno
variable {δ : DS} {m : DE} {mb : DB} {a b : DT}
theorem q_next : sNext δ = dret (.nx δ) := rfl
theorem q_seq : sSeq a b δ = dB (a δ) b := rfl
theorem q_seq1 {δ' : DS} : dB (dret (.nx δ')) b = b δ' := rfl
theorem q_seq2 {e : EV} : dB (dret (.rt e)) b = dret (.rt e) := rfl
theorem q_seq3 {x : Xn} : dB (dret (.er δ x)) b = dret (.er δ x) := rfl
theorem q_retS : sRet m δ = sK (m δ) rK δ := by
  funext g
  show sOn m _ δ g = sK (m δ) rK δ g
  unfold sOn sK
  cases m δ g with
  | none => rfl
  | some p =>
    obtain ⟨r, g'⟩ := p
    cases r with
    | er x => rfl
    | ok e => cases e <;> rfl
theorem q_set {i : Nat} : sSet i m δ = sK (m δ) (setK i δ) δ := by
  funext g
  show sOn m _ δ g = sK (m δ) (setK i δ) δ g
  unfold sOn sK
  cases m δ g with
  | none => rfl
  | some p =>
    obtain ⟨r, g'⟩ := p
    cases r with
    | er x => rfl
    | ok e =>
      dsimp only
      unfold setK
      cases e.keep <;> rfl
theorem q_asg {t : DG} : sAsg m t δ = sK (m δ) (asgK t δ) δ := by
  funext g
  show sOn m _ δ g = sK (m δ) (asgK t δ) δ g
  unfold sOn sK
  cases m δ g with
  | none => rfl
  | some p =>
    obtain ⟨r, g'⟩ := p
    cases r with
    | er x => rfl
    | ok e =>
      dsimp only
      unfold asgK
      cases e.keep with
      | none => rfl
      | some d =>
        dsimp only
        cases t d δ <;> rfl
theorem q_if : sIf mb a b δ = sKB (mb δ) (fun t => if t = true then a δ else b δ) δ := by
  funext g
  show sOnB mb _ δ g = sKB (mb δ) _ δ g
  unfold sOnB sKB
  cases mb δ g with
  | none => rfl
  | some p =>
    obtain ⟨r, g'⟩ := p
    cases r with
    | er x => rfl
    | ok e => cases e <;> rfl
theorem q_k {e : EV} {k : EV → DM} : sK (mret e) k δ = k e := rfl
theorem q_kB {e : Bool} {k : Bool → DM} : sKB (mret e) k δ = k e := rfl
theorem q_ke {x : Xn} {k : EV → DM} : sK (merr x) k δ = dret (.er δ x) := rfl
theorem q_raise {c : Str} : sRaise0 c δ = dret (.er δ ⟨c, []⟩) := rfl
theorem q_body {n : Nat} {as : List AV} : mBody n a as = mB (a (startD n as)) := rfl
theorem q_b1 {e : EV} : mB (dret (.rt e)) = mret e := rfl
theorem q_b2 : mB (dret (.nx δ)) = mret (.val .non) := rfl
theorem q_b3 {x : Xn} : mB (dret (.er δ x)) = merr x := rfl
end
/-! own classes and isinstance -/
theorem kit_self {K : PySem.W.Frag} {C : Addr} : PySem.W.kitOne K (.ref C) (.ref C) = some true := by
  unfold PySem.W.kitOne
  rw [if_pos (by simp)]
theorem kit_not {K : PySem.W.Frag} {C N : Addr} (hd : PySem.W.hasDictIn K N = true) (ht : PySem.W.typeIn K (.ref N) = some (.type "type")) (h1 : PySem.W.subIn K (.ref C) (.ref C) = some true) (h2 : PySem.W.subIn K (.ref C) (.ref N) = some false) : PySem.W.kitOne K (.ref C) (.ref N) = some false := by
  have ne : C ≠ N := fun z => by
    subst z
    rw [h1] at h2
    cases h2
  obtain ⟨cd, hc, _⟩ := PySem.W.any_some hd
  unfold PySem.W.kitOne
  rw [if_neg (by simpa using ne)]
  unfold PySem.W.kitCls
  dsimp only
  rw [hc, ht]
  simpa using h2
end Vi

set_option Elab.async false
set_option linter.all false
set_option maxRecDepth 100000
set_option maxHeartbeats 8000000
namespace K12
open PySem PySem.Spec PyProof.Rows L2 Vi
def top (i : Nat) : Stmt := PySem.Challenge.pw_loneseats_k12_parts_of_stretches.main.body.getD i (.Pass ⟨0, 0, 0, 0⟩)
def meth (i j : Nat) : Stmt := match top i with
  | .ClassDef _ _ _ b _ _ _ _ _ _ _ => b.getD j (.Pass ⟨0, 0, 0, 0⟩)
  | s => s
structure Bn (mg : Str → Option Value) : Prop where
  b_isinstance : mg "isinstance" = none
  b_int : mg "int" = none
  b_bool : mg "bool" = none
  b_abs : mg "abs" = none
  b_len : mg "len" = none
  b_repr : mg "repr" = none
  b_range : mg "range" = none
structure Cn (K : PySem.W.Frag) (mg : Str → Option Value) (a_ENDS : Addr) : Prop where
  GREATEST_SIZE : ∃ u, mg "GREATEST_SIZE" = some u ∧ RelV (.int 5) u
  ENDS : ∃ u, mg "ENDS" = some u ∧ RelV (.ref a_ENDS) u
  t_ENDS : SqT K NoH a_ENDS [.str "pillar", .str "sold", .str "wall"]
def d_ENDS : D := .tup [.str "pillar", .str "sold", .str "wall"]
theorem dat_ENDS {G : Gd} {Bad : Addr → Prop} {H : Hp} {mg : Str → Option Value} {a_ENDS : Addr} (C : Cn G.K mg a_ENDS) : Dat G Bad H (.ref a_ENDS) d_ENDS := .tupK C.t_ENDS (.cons (.str _) (.cons (.str _) (.cons (.str _) (.nil))))
section
variable {P : Program} {w : World} {K : PySem.W.Frag} {mg : Str → Option Value} {base : Heap} {cl : Str → Option Addr}
abbrev s_is_integer : Stmt := top 7
theorem sc_is_integer : FnScope ["thing"] ["thing"] (defScope s_is_integer) := ⟨rfl, rfl, rfl, by decide +kernel, rfl, by decide +kernel, by decide +kernel⟩
def bd_is_integer : DT := sRet (eAnd (eB1 (isiE "int") (eVar 0)) (eNot (eB1 (isiE "bool") (eVar 0))))
def m_is_integer : MF := mBody 1 bd_is_integer
theorem ok_is_integer {f : Addr} {fd : FuncData} (F : Fun K "is_integer" "is_integer" s_is_integer f fd)
    (B : Bn mg) : FnG P w K mg base 1 f fd ["thing"] (spM K cl 1 m_is_integer) := by
  refine fnM (n := 1) (N := ["thing"]) (m := bd_is_integer) F sc_is_integer rfl fun cdv A outer s H E hr => ⟨_, pss_one (ps_ret (pe_and (pe_callB (r := rIsi K) call_isi (by rfl) B.b_isinstance PyProof.Rows.boot_isinstance (pa_cons (pv 0) (pa_cons (pe_bltn (v := .ty "int") (by rfl) B.b_int bt_int rfl) pa_nil))) (pe_one (pe_not (pe_callB (r := rIsi K) call_isi (by rfl) B.b_isinstance PyProof.Rows.boot_isinstance (pa_cons (pv 0) (pa_cons (pe_bltn (v := .ty "bool") (by rfl) B.b_bool bt_bool rfl) pa_nil))))))), ?_⟩
  exact as_ret (ae_and (ae_isi (ae_var)) (ae_not (ae_isi (ae_var))))
abbrev s_is_number : Stmt := top 8
theorem sc_is_number : FnScope ["thing"] ["thing"] (defScope s_is_number) := ⟨rfl, rfl, rfl, by decide +kernel, rfl, by decide +kernel, by decide +kernel⟩
def bd_is_number : DT := sRet (eAnd (eCall 1 m_is_integer (aCons (eVar 0) (aNil))) (e2 (mGe) (eVar 0) (eC (.int 0))))
def m_is_number : MF := mBody 1 bd_is_number
theorem ok_is_number {f : Addr} {fd : FuncData} (F : Fun K "is_number" "is_number" s_is_number f fd)
    {f_is_integer : Addr} {fd_is_integer : FuncData} (D_is_integer : Df K mg "is_integer" s_is_integer ["thing"] f_is_integer fd_is_integer) (G_is_integer : FnG P w K mg base 1 f_is_integer fd_is_integer ["thing"] (spM K cl 1 m_is_integer)) : FnG P w K mg base 2 f fd ["thing"] (spM K cl 1 m_is_number) := by
  refine fnM (n := 1) (N := ["thing"]) (m := bd_is_number) F sc_is_number rfl fun cdv A outer s H E hr => ⟨_, pss_one (ps_ret (pe_and (pe_callG G_is_integer (hr.mono (by decide)) (by rfl) D_is_integer.mg D_is_integer.kp D_is_integer.b (takes_of rfl rfl rfl rfl) (pa_cons (pv 0) (pa_nil))) (pe_one (pe_cmpR op_ge (pv 0) (pe_int) (nomark _))))), ?_⟩
  exact as_ret (ae_and (ae_call (aa_cons (ae_var) (aa_nil))) (ae_2 (ae_var) (ae_c fun _ _ _ => .int _) r2_ge))
abbrev s_is_size : Stmt := top 9
theorem sc_is_size : FnScope ["thing"] ["thing"] (defScope s_is_size) := ⟨rfl, rfl, rfl, by decide +kernel, rfl, by decide +kernel, by decide +kernel⟩
def bd_is_size : DT := sRet (eAnd (eCall 1 m_is_integer (aCons (eVar 0) (aNil))) (eChain mLe mLe (eC (.int 1)) (eVar 0) (eC (.int 5))))
def m_is_size : MF := mBody 1 bd_is_size
theorem ok_is_size {a_ENDS : Addr} {f : Addr} {fd : FuncData} (F : Fun K "is_size" "is_size" s_is_size f fd)
    {f_is_integer : Addr} {fd_is_integer : FuncData} (D_is_integer : Df K mg "is_integer" s_is_integer ["thing"] f_is_integer fd_is_integer) (G_is_integer : FnG P w K mg base 1 f_is_integer fd_is_integer ["thing"] (spM K cl 1 m_is_integer))
    (C : Cn K mg a_ENDS) : FnG P w K mg base 2 f fd ["thing"] (spM K cl 1 m_is_size) := by
  refine fnM (n := 1) (N := ["thing"]) (m := bd_is_size) F sc_is_size rfl fun cdv A outer s H E hr => ⟨_, pss_one (ps_ret (pe_and (pe_callG G_is_integer (hr.mono (by decide)) (by rfl) D_is_integer.mg D_is_integer.kp D_is_integer.b (takes_of rfl rfl rfl rfl) (pa_cons (pv 0) (pa_nil))) (pe_one (pe_chain op_le op_le (pe_int) (pv 0) (pe_gC (v := .int 5) (by rfl) C.GREATEST_SIZE))))), ?_⟩
  exact as_ret (ae_and (ae_call (aa_cons (ae_var) (aa_nil))) (ae_chain (ae_c fun _ _ _ => .int _) (ae_var) (ae_c fun _ _ _ => .int _) r2_le r2_le))
abbrev s_fits : Stmt := top 11
theorem sc_fits : FnScope ["stretch", "size", "before"] ["stretch", "size", "before"] (defScope s_fits) := ⟨rfl, rfl, rfl, by decide +kernel, rfl, by decide +kernel, by decide +kernel⟩
def bd_fits : DT := sRet (eAnd (eCall 1 m_is_size (aCons (eVar 1) (aNil))) (eAnd (eCall 1 m_is_number (aCons (eVar 2) (aNil))) (e2 (mLe) (e2 mAdd (eVar 1) (eVar 2)) (e2 mIx (eVar 0) (eC (.int 1))))))
def m_fits : MF := mBody 3 bd_fits
theorem ok_fits {f : Addr} {fd : FuncData} (F : Fun K "fits" "fits" s_fits f fd)
    {f_is_size : Addr} {fd_is_size : FuncData} (D_is_size : Df K mg "is_size" s_is_size ["thing"] f_is_size fd_is_size) (G_is_size : FnG P w K mg base 2 f_is_size fd_is_size ["thing"] (spM K cl 1 m_is_size))
    {f_is_number : Addr} {fd_is_number : FuncData} (D_is_number : Df K mg "is_number" s_is_number ["thing"] f_is_number fd_is_number) (G_is_number : FnG P w K mg base 2 f_is_number fd_is_number ["thing"] (spM K cl 1 m_is_number)) : FnG P w K mg base 3 f fd ["stretch", "size", "before"] (spM K cl 3 m_fits) := by
  refine fnM (n := 3) (N := ["stretch", "size", "before"]) (m := bd_fits) F sc_fits rfl fun cdv A outer s H E hr => ⟨_, pss_one (ps_ret (pe_and (pe_callG G_is_size (hr.mono (by decide)) (by rfl) D_is_size.mg D_is_size.kp D_is_size.b (takes_of rfl rfl rfl rfl) (pa_cons (pv 1) (pa_nil))) (pe_and (pe_callG G_is_number (hr.mono (by decide)) (by rfl) D_is_number.mg D_is_number.kp D_is_number.b (takes_of rfl rfl rfl rfl) (pa_cons (pv 2) (pa_nil))) (pe_one (pe_cmpR op_le (pe_op (r := rAddU K) op_addU (pv 1) (pv 2)) (pe_ix (r := rIx K) ix_seq (pv 0) (pe_int) (fun _ _ => rfl)) (nomark _)))))), ?_⟩
  exact as_ret (ae_and (ae_call (aa_cons (ae_var) (aa_nil))) (ae_and (ae_call (aa_cons (ae_var) (aa_nil))) (ae_2 (ae_2 (ae_var) (ae_var) r2_add) (ae_2 (ae_var) (ae_c fun _ _ _ => .int _) r2_ix) r2_le)))
abbrev s_parts : Stmt := top 12
theorem sc_parts : FnScope ["stretch", "size", "before", "left", "length", "right"] ["stretch", "size", "before"] (defScope s_parts) := ⟨rfl, rfl, rfl, by decide +kernel, rfl, by decide +kernel, by decide +kernel⟩
def bd_parts : DT := sSeq (sIf (bNot (bOf (eCall 3 m_fits (aCons (eVar 0) (aCons (eVar 1) (aCons (eVar 2) (aNil))))))) (sRaise0 "NoChoice") (sNext))
    (sSeq (sAsg (eVar 0) (dTup 3 (dCons (dName 3) (dCons (dName 4) (dCons (dName 5) (dNil))))))
    (sRet (eTup (aCons (eTup (aCons (eVar 3) (aCons (eVar 2) (aCons (eC (.str "sold")) (aNil))))) (aCons (eTup (aCons (eC (.str "sold")) (aCons (e2 mSub (e2 mSub (eVar 4) (eVar 1)) (eVar 2)) (aCons (eVar 5) (aNil))))) (aNil))))))
def m_parts : MF := mBody 6 bd_parts
theorem ok_parts {c_NoChoice : Addr} {f : Addr} {fd : FuncData} (F : Fun K "parts" "parts" s_parts f fd)
    {f_fits : Addr} {fd_fits : FuncData} (D_fits : Df K mg "fits" s_fits ["stretch", "size", "before"] f_fits fd_fits) (G_fits : FnG P w K mg base 3 f_fits fd_fits ["stretch", "size", "before"] (spM K cl 3 m_fits))
    (X_NoChoice : Xc K mg cl "NoChoice" c_NoChoice) : FnG P w K mg base 4 f fd ["stretch", "size", "before"] (spM K cl 3 m_parts) := by
  refine fnM (n := 3) (N := ["stretch", "size", "before", "left", "length", "right"]) (m := bd_parts) F sc_parts rfl fun cdv A outer s H E hr => ⟨_, pss_cons (ps_if (pt_not (pt_val (pe_callG G_fits (hr.mono (by decide)) (by rfl) D_fits.mg D_fits.kp D_fits.b (takes_of rfl rfl rfl rfl) (pa_cons (pv 0) (pa_cons (pv 1) (pa_cons (pv 2) (pa_nil))))))) (pss_one (ps_raise rfl (takes_of rfl rfl rfl rfl) (pmk_0 PySem.F.excBase_ValueError X_NoChoice.ex X_NoChoice.mg X_NoChoice.kp (raises_own X_NoChoice.sub X_NoChoice.ty) (by rfl)))) (pss_nil))
    (pss_cons (ps_asg (pv 0) (pg_tupK (K := K) (n := 3) rfl (pgs_cons (pg_name (i := 3) sc_parts.nd rfl (by first | exact Or.inl rfl | exact Or.inr rfl)) (pgs_cons (pg_name (i := 4) sc_parts.nd rfl (by first | exact Or.inl rfl | exact Or.inr rfl)) (pgs_cons (pg_name (i := 5) sc_parts.nd rfl (by first | exact Or.inl rfl | exact Or.inr rfl)) (pgs_nil))))))
    (pss_one (ps_ret (pe_tup (pa_cons (pe_tup (pa_cons (pv 3) (pa_cons (pv 2) (pa_cons (pe_str) (pa_nil))))) (pa_cons (pe_tup (pa_cons (pe_str) (pa_cons (pe_op op_sub (pe_op op_sub (pv 4) (pv 1)) (pv 2)) (pa_cons (pv 5) (pa_nil))))) (pa_nil))))))), ?_⟩
  exact as_seq (as_if (ab_not (ab_ofB (ae_call (aa_cons (ae_var) (aa_cons (ae_var) (aa_cons (ae_var) (aa_nil))))))) (as_raise0 X_NoChoice.cl) (as_next))
    (as_seq (as_asg (ae_var) (ag_tup (ags_cons (ag_name) (ags_cons (ag_name) (ags_cons (ag_name) (ags_nil))))))
    (as_ret (ae_tup (aa_cons (ae_tup (aa_cons (ae_var) (aa_cons (ae_var) (aa_cons (ae_c fun _ _ _ => .str _) (aa_nil))))) (aa_cons (ae_tup (aa_cons (ae_c fun _ _ _ => .str _) (aa_cons (ae_2 (ae_2 (ae_var) (ae_var) r2_sub) (ae_var) r2_sub) (aa_cons (ae_var) (aa_nil))))) (aa_nil))))))
abbrev s_turned : Stmt := top 13
theorem sc_turned : FnScope ["stretch", "left", "length", "right"] ["stretch"] (defScope s_turned) := ⟨rfl, rfl, rfl, by decide +kernel, rfl, by decide +kernel, by decide +kernel⟩
def bd_turned : DT := sSeq (sAsg (eVar 0) (dTup 3 (dCons (dName 1) (dCons (dName 2) (dCons (dName 3) (dNil))))))
    (sRet (eTup (aCons (eVar 3) (aCons (eVar 2) (aCons (eVar 1) (aNil))))))
def m_turned : MF := mBody 4 bd_turned
theorem ok_turned {f : Addr} {fd : FuncData} (F : Fun K "turned" "turned" s_turned f fd)
     : FnG P w K mg base 1 f fd ["stretch"] (spM K cl 1 m_turned) := by
  refine fnM (n := 1) (N := ["stretch", "left", "length", "right"]) (m := bd_turned) F sc_turned rfl fun cdv A outer s H E hr => ⟨_, pss_cons (ps_asg (pv 0) (pg_tupK (K := K) (n := 3) rfl (pgs_cons (pg_name (i := 1) sc_turned.nd rfl (by first | exact Or.inl rfl | exact Or.inr rfl)) (pgs_cons (pg_name (i := 2) sc_turned.nd rfl (by first | exact Or.inl rfl | exact Or.inr rfl)) (pgs_cons (pg_name (i := 3) sc_turned.nd rfl (by first | exact Or.inl rfl | exact Or.inr rfl)) (pgs_nil))))))
    (pss_one (ps_ret (pe_tup (pa_cons (pv 3) (pa_cons (pv 2) (pa_cons (pv 1) (pa_nil))))))), ?_⟩
  exact as_seq (as_asg (ae_var) (ag_tup (ags_cons (ag_name) (ags_cons (ag_name) (ags_cons (ag_name) (ags_nil))))))
    (as_ret (ae_tup (aa_cons (ae_var) (aa_cons (ae_var) (aa_cons (ae_var) (aa_nil))))))
abbrev s_wholes : Stmt := top 14
theorem sc_wholes : FnScope ["length", "left", "right"] ["length"] (defScope s_wholes) := ⟨rfl, rfl, rfl, by decide +kernel, rfl, by decide +kernel, by decide +kernel⟩
def bd_wholes : DT := sRet (eLc2 [1, 2] [2] (iSeq (eC d_ENDS)) (dName 1) (bYes) (iSeq (eC d_ENDS)) (dName 2) (bYes) (eTup (aCons (eVar 1) (aCons (eVar 0) (aCons (eVar 2) (aNil))))))
def m_wholes : MF := mBody 3 bd_wholes
theorem ok_wholes {a_ENDS : Addr} {f : Addr} {fd : FuncData} (F : Fun K "wholes" "wholes" s_wholes f fd)
    (C : Cn K mg a_ENDS) : FnG P w K mg base 1 f fd ["length"] (spM K cl 1 m_wholes) := by
  refine fnM (n := 1) (N := ["length", "left", "right"]) (m := bd_wholes) F sc_wholes rfl fun cdv A outer s H E hr => ⟨_, pss_one (ps_ret (pe_lc2 rfl sc_wholes.nd (pi_seqK (K := K) (pe_gC (v := .ref a_ENDS) (by rfl) C.ENDS)) (blkOk_by (N := ["length", "left", "right"]) (sc := defScope s_wholes) (own := [("left", 1), ("right", 2)]) (by decide +kernel)) (vs1 := [2]) (by decide) (fun _ _ _ _ _ => pg_name (i := 1) sc_wholes.nd rfl (by first | exact Or.inl rfl | exact Or.inr rfl)) (fun _ _ _ _ _ => pts_nil) (fun _ _ _ _ _ => pi_seqK (K := K) (pe_gC (v := .ref a_ENDS) (by rfl) C.ENDS)) (fun _ _ _ _ _ => pg_name (i := 2) sc_wholes.nd rfl (by first | exact Or.inl rfl | exact Or.inr rfl)) (fun _ _ _ _ _ => pts_nil) (fun _ _ _ _ _ => pe_tup (pa_cons (pv 1) (pa_cons (pv 0) (pa_cons (pv 2) (pa_nil))))))), ?_⟩
  exact as_ret (ae_lc2 (ai_seq (ae_cK fun b l Bad H => dat_ENDS (G := ⟨K, cl, b, l⟩) C)) (ag_name) (ab_yes) (ai_seq (ae_cK fun b l Bad H => dat_ENDS (G := ⟨K, cl, b, l⟩) C)) (ag_name) (ab_yes) (ae_tup (aa_cons (ae_var) (aa_cons (ae_var) (aa_cons (ae_var) (aa_nil))))) (by decide) (by decide) (by decide))
abbrev s__law_bag : Stmt := top 16
theorem sc__law_bag : FnScope ["_law_script", "_law_cell"] ["_law_script"] (defScope s__law_bag) := ⟨rfl, rfl, rfl, by decide +kernel, rfl, by decide +kernel, by decide +kernel⟩
theorem ok__law_bag {f : Addr} {fd : FuncData} (F : Fun K "_law_bag" "_law_bag" s__law_bag f fd) (B : Bn mg) : FnG P w K mg base 1 f fd ["_law_script"] (spBag K) := by
  refine fnG_of F sc__law_bag (fun vs H Q E h => by obtain ⟨a, ns, rfl, _⟩ := h; rfl) fun cdv A outer s H vs Q E hr h => ?_
  have nd := sc__law_bag.nd
  refine ⟨_, pss_one (ps_ret (pe_lst (pa_cons pe_int (pa_cons pe_int (pa_cons pe_int (pa_cons (pe_lc rfl nd (pi_list (pe_slice (r := rSlL K) sl_list (pv 0) po_none (po_some pe_int))) (blkOk_by (N := ["_law_script", "_law_cell"]) (sc := defScope s__law_bag) (own := [("_law_cell", 1)]) (by decide +kernel)) (fun _ _ _ _ _ => pg_name (i := 1) nd rfl (by first | exact Or.inl rfl | exact Or.inr rfl)) (fun _ _ _ _ _ => pts_nil) (fun _ _ _ _ _ => pe_callB (r := rAbs) call_abs (by rfl) B.b_abs PyProof.Rows.boot_abs (pa_cons (pv 1) pa_nil))) pa_nil)))))), ?_⟩
  obtain ⟨a, ns, rfl, h'⟩ := h
  exact bag_reads (E := E) ⟨a, ns, rfl, h'⟩
abbrev s__law_take : Stmt := top 17
theorem sc__law_take : FnScope ["_law_bag_here", "_law_many", "_law_cell", "_law_mixed", "_law_drawn", "_law_begin", "_law_second"] ["_law_bag_here", "_law_many"] (defScope s__law_take) := ⟨rfl, rfl, rfl, by decide +kernel, rfl, by decide +kernel, by decide +kernel⟩
def m__law_take : MF := mTake
theorem ok__law_take {f : Addr} {fd : FuncData} (F : Fun K "_law_take" "_law_take" s__law_take f fd) (B : Bn mg) : FnG P w K mg base 1 f fd ["_law_bag_here", "_law_many"] (spM K cl 2 m__law_take) := by
  refine fnG_of F sc__law_take (fun vs H Q E h => by rw [spM_len vs H Q E h]; rfl) fun cdv A outer s H vs Q E hr h => ?_
  have nd := sc__law_take.nd
  refine ⟨_, Evl.pss_cut (ps_if (pt_cmpR op_eq (pe_ix (r := rIxL K) ix_list (pv 0) pe_int (fun _ _ => rfl)) pe_int (nomark _)) (pss_cons (ps_set (i := 2) nd rfl (by first | exact Or.inl rfl | exact Or.inr rfl) (pe_int))
      (Evl.pss_cut (ps_if (pt_cmpR op_lt (pe_ix (r := rIxL K) ix_list (pv 0) pe_int (fun _ _ => rfl)) (pe_callB call_len_seq (by rfl) B.b_len PySem.boot_len (pa_cons (pe_ix (r := rIxL K) ix_list (pv 0) pe_int (fun _ _ => rfl)) pa_nil)) (nomark _)) (pss_one (ps_set (i := 2) nd rfl (by first | exact Or.inl rfl | exact Or.inr rfl) (pe_ix (r := rIxL K) ix_list (pe_ix (r := rIxL K) ix_list (pv 0) pe_int (fun _ _ => rfl)) (pe_ix (r := rIxL K) ix_list (pv 0) pe_int (fun _ _ => rfl)) (fun _ _ => rfl)))) pss_nil)
      (pss_cons (ps_augS (pv 0) pe_int (tget := rGetL K) pget_L pe_int ip_add set_list)
      (Evl.pss_cut (ps_if (pt_cmpR op_ge (pv 2) (pe_op op_pow pe_int pe_int) (nomark _)) (pss_one (ps_asg (pv 2) (pg_sub (pv 0) pe_int set_list))) pss_nil)
      (pss_cons (ps_set (i := 3) nd rfl (by first | exact Or.inl rfl | exact Or.inr rfl) (pe_op op_add (pe_op op_add (pe_op op_mul (pe_ix (r := rIxL K) ix_list (pv 0) pe_int (fun _ _ => rfl)) pe_int) (pe_op op_mod (pe_callTy call_int1 (by rfl) B.b_int bt_int (pa_cons (pv 2) pa_nil)) pe_int)) (pe_op op_mul pe_int (pe_ix (r := rIxL K) ix_list (pv 0) pe_int (fun _ _ => rfl)))))
      (pss_one (ps_asg (pe_op op_mod (pe_callTy call_int1 (by rfl) B.b_int bt_int (pa_cons (pv 3) pa_nil)) pe_int) (pg_sub (pv 0) pe_int set_list)))))))) pss_nil)
    (pss_cons (ps_if (pt_cmpR op_gt (pe_ix (r := rIxL K) ix_list (pv 0) pe_int (fun _ _ => rfl)) pe_int (nomark _)) (pss_cons (ps_set (i := 4) nd rfl (by first | exact Or.inl rfl | exact Or.inr rfl) (pe_op op_mod (pe_callTy call_int1 (by rfl) B.b_int bt_int (pa_cons ((pe_ix (r := rIxL K) ix_list (pv 0) pe_int (fun _ _ => rfl))) pa_nil)) (pv 1))) (pss_cons (ps_asg (pe_op op_fdiv (pe_ix (r := rIxL K) ix_list (pv 0) pe_int (fun _ _ => rfl)) (pv 1)) (pg_sub (pv 0) pe_int set_list)) (pss_one (ps_ret (pv 4))))) pss_nil)
    (pss_cons (ps_set (i := 5) nd rfl (by first | exact Or.inl rfl | exact Or.inr rfl) (pe_op op_mod (pe_callTy call_int1 (by rfl) B.b_int bt_int (pa_cons (pe_op op_mul (pe_op op_add (pe_ix (r := rIxL K) ix_list (pv 0) pe_int (fun _ _ => rfl)) pe_int) pe_int) pa_nil)) pe_int)) (pss_cons (ps_set (i := 6) nd rfl (by first | exact Or.inl rfl | exact Or.inr rfl) (pe_op op_mod (pe_callTy call_int1 (by rfl) B.b_int bt_int (pa_cons (pe_op op_mul (pe_op op_mod (pe_callTy call_int1 (by rfl) B.b_int bt_int (pa_cons (pe_op op_mul (pv 5) (pv 5)) pa_nil)) pe_int) pe_int) pa_nil)) pe_int)) (pss_one (ps_ret (pe_op op_mod (pe_callTy call_int1 (by rfl) B.b_int bt_int (pa_cons (pe_op op_fdiv (pv 6) pe_int) pa_nil)) (pv 1))))))), ?_⟩
  have hl := spM_len vs H Q E h
  obtain ⟨v1, v2, rfl⟩ : ∃ v1 v2, vs = [v1, v2] := by match vs, hl with | [a, b], _ => exact ⟨a, b, rfl⟩
  exact take_reads h
abbrev s__law_alike : Stmt := top 18
theorem sc__law_alike : FnScope ["_law_found", "_law_due"] ["_law_found", "_law_due"] (defScope s__law_alike) := ⟨rfl, rfl, rfl, by decide +kernel, rfl, by decide +kernel, by decide +kernel⟩
def bd__law_alike : DT := sRet (eAnd (e2 (mEq) (eVar 0) (eVar 1)) (e2 (mEq) (eB1 reprE (eVar 0)) (eB1 reprE (eVar 1))))
def m__law_alike : MF := mBody 2 bd__law_alike
theorem ok__law_alike {f : Addr} {fd : FuncData} (F : Fun K "_law_alike" "_law_alike" s__law_alike f fd)
    (B : Bn mg) : FnG P w K mg base 1 f fd ["_law_found", "_law_due"] (spM K cl 2 m__law_alike) := by
  refine fnM (n := 2) (N := ["_law_found", "_law_due"]) (m := bd__law_alike) F sc__law_alike rfl fun cdv A outer s H E hr => ⟨_, pss_one (ps_ret (pe_and (pe_cmpR (r := rEqU K) (op_eqU hr.r.units) (pv 0) (pv 1) (nomark _)) (pe_one (pe_cmpR (r := rEqU K) (op_eqU hr.r.units) (pe_callB (r := rRepr K) (call_reprD hr.gd hr.r.units) (by rfl) B.b_repr PyProof.Rows.boot_repr (pa_cons (pv 0) pa_nil)) (pe_callB (r := rRepr K) (call_reprD hr.gd hr.r.units) (by rfl) B.b_repr PyProof.Rows.boot_repr (pa_cons (pv 1) pa_nil)) (nomark _))))), ?_⟩
  exact as_ret (ae_and (ae_2 (ae_var) (ae_var) r2_eq) (ae_2 (ae_B1 (ae_var) r1_repr) (ae_B1 (ae_var) r1_repr) r2_eq))
abbrev s__law_one : Stmt := top 19
theorem sc__law_one : FnScope ["_law_bag_here", "_law_things"] ["_law_bag_here", "_law_things"] (defScope s__law_one) := ⟨rfl, rfl, rfl, by decide +kernel, rfl, by decide +kernel, by decide +kernel⟩
def bd__law_one : DT := sRet (e2 mIx (eVar 1) (eCall 2 m__law_take (aCons (eVar 0) (aCons (eB1 lenE (eVar 1)) (aNil)))))
def m__law_one : MF := mBody 2 bd__law_one
theorem ok__law_one {f : Addr} {fd : FuncData} (F : Fun K "_law_one" "_law_one" s__law_one f fd)
    {f__law_take : Addr} {fd__law_take : FuncData} (D__law_take : Df K mg "_law_take" s__law_take ["_law_bag_here", "_law_many"] f__law_take fd__law_take) (G__law_take : FnG P w K mg base 1 f__law_take fd__law_take ["_law_bag_here", "_law_many"] (spM K cl 2 m__law_take))
    (B : Bn mg) : FnG P w K mg base 2 f fd ["_law_bag_here", "_law_things"] (spM K cl 2 m__law_one) := by
  refine fnM (n := 2) (N := ["_law_bag_here", "_law_things"]) (m := bd__law_one) F sc__law_one rfl fun cdv A outer s H E hr => ⟨_, pss_one (ps_ret (pe_ix (r := rIx K) ix_seq (pv 1) (pe_callG G__law_take (hr.mono (by decide)) (by rfl) D__law_take.mg D__law_take.kp D__law_take.b (takes_of rfl rfl rfl rfl) (pa_cons (pv 0) (pa_cons (pe_callB (r := rLenU K) call_lenU (by rfl) B.b_len PySem.boot_len (pa_cons (pv 1) pa_nil)) (pa_nil)))) (fun _ _ => rfl))), ?_⟩
  exact as_ret (ae_2 (ae_var) (ae_call (aa_cons (ae_var) (aa_cons (ae_B1 (ae_var) r1_len) (aa_nil)))) r2_ix)
abbrev s__law_ends : Stmt := top 20
theorem sc__law_ends : FnScope [] [] (defScope s__law_ends) := ⟨rfl, rfl, rfl, by decide +kernel, rfl, by decide +kernel, by decide +kernel⟩
def bd__law_ends : DT := sRet (eLst (aCons (eC (.str "pillar")) (aCons (eC (.str "sold")) (aCons (eC (.str "wall")) (aNil)))))
def m__law_ends : MF := mBody 0 bd__law_ends
theorem ok__law_ends {f : Addr} {fd : FuncData} (F : Fun K "_law_ends" "_law_ends" s__law_ends f fd)
     : FnG P w K mg base 1 f fd [] (spM K cl 0 m__law_ends) := by
  refine fnM (n := 0) (N := []) (m := bd__law_ends) F sc__law_ends rfl fun cdv A outer s H E hr => ⟨_, pss_one (ps_ret (pe_lst (pa_cons (pe_str) (pa_cons (pe_str) (pa_cons (pe_str) (pa_nil)))))), ?_⟩
  exact as_ret (ae_lst (aa_cons (ae_c fun _ _ _ => .str _) (aa_cons (ae_c fun _ _ _ => .str _) (aa_cons (ae_c fun _ _ _ => .str _) (aa_nil)))))
abbrev s__law_end : Stmt := top 21
theorem sc__law_end : FnScope ["_law_bag_here"] ["_law_bag_here"] (defScope s__law_end) := ⟨rfl, rfl, rfl, by decide +kernel, rfl, by decide +kernel, by decide +kernel⟩
def bd__law_end : DT := sRet (eCall 2 m__law_one (aCons (eVar 0) (aCons (eCall 0 m__law_ends aNil) (aNil))))
def m__law_end : MF := mBody 1 bd__law_end
theorem ok__law_end {f : Addr} {fd : FuncData} (F : Fun K "_law_end" "_law_end" s__law_end f fd)
    {f__law_one : Addr} {fd__law_one : FuncData} (D__law_one : Df K mg "_law_one" s__law_one ["_law_bag_here", "_law_things"] f__law_one fd__law_one) (G__law_one : FnG P w K mg base 2 f__law_one fd__law_one ["_law_bag_here", "_law_things"] (spM K cl 2 m__law_one))
    {f__law_ends : Addr} {fd__law_ends : FuncData} (D__law_ends : Df K mg "_law_ends" s__law_ends [] f__law_ends fd__law_ends) (G__law_ends : FnG P w K mg base 1 f__law_ends fd__law_ends [] (spM K cl 0 m__law_ends)) : FnG P w K mg base 3 f fd ["_law_bag_here"] (spM K cl 1 m__law_end) := by
  refine fnM (n := 1) (N := ["_law_bag_here"]) (m := bd__law_end) F sc__law_end rfl fun cdv A outer s H E hr => ⟨_, pss_one (ps_ret (pe_callG G__law_one (hr.mono (by decide)) (by rfl) D__law_one.mg D__law_one.kp D__law_one.b (takes_of rfl rfl rfl rfl) (pa_cons (pv 0) (pa_cons (pe_callG0 G__law_ends (hr.mono (by decide)) (by rfl) D__law_ends.mg D__law_ends.kp D__law_ends.b (takes_of rfl rfl rfl rfl)) (pa_nil))))), ?_⟩
  exact as_ret (ae_call (aa_cons (ae_var) (aa_cons (ae_call aa_nil) (aa_nil))))
abbrev s__law_stretch : Stmt := top 22
theorem sc__law_stretch : FnScope ["_law_bag_here", "_law_upto"] ["_law_bag_here", "_law_upto"] (defScope s__law_stretch) := ⟨rfl, rfl, rfl, by decide +kernel, rfl, by decide +kernel, by decide +kernel⟩
def bd__law_stretch : DT := sRet (eTup (aCons (eCall 1 m__law_end (aCons (eVar 0) (aNil))) (aCons (eCall 2 m__law_take (aCons (eVar 0) (aCons (e2 mAdd (eVar 1) (eC (.int 1))) (aNil)))) (aCons (eCall 1 m__law_end (aCons (eVar 0) (aNil))) (aNil)))))
def m__law_stretch : MF := mBody 2 bd__law_stretch
theorem ok__law_stretch {f : Addr} {fd : FuncData} (F : Fun K "_law_stretch" "_law_stretch" s__law_stretch f fd)
    {f__law_end : Addr} {fd__law_end : FuncData} (D__law_end : Df K mg "_law_end" s__law_end ["_law_bag_here"] f__law_end fd__law_end) (G__law_end : FnG P w K mg base 3 f__law_end fd__law_end ["_law_bag_here"] (spM K cl 1 m__law_end))
    {f__law_take : Addr} {fd__law_take : FuncData} (D__law_take : Df K mg "_law_take" s__law_take ["_law_bag_here", "_law_many"] f__law_take fd__law_take) (G__law_take : FnG P w K mg base 1 f__law_take fd__law_take ["_law_bag_here", "_law_many"] (spM K cl 2 m__law_take)) : FnG P w K mg base 4 f fd ["_law_bag_here", "_law_upto"] (spM K cl 2 m__law_stretch) := by
  refine fnM (n := 2) (N := ["_law_bag_here", "_law_upto"]) (m := bd__law_stretch) F sc__law_stretch rfl fun cdv A outer s H E hr => ⟨_, pss_one (ps_ret (pe_tup (pa_cons (pe_callG G__law_end (hr.mono (by decide)) (by rfl) D__law_end.mg D__law_end.kp D__law_end.b (takes_of rfl rfl rfl rfl) (pa_cons (pv 0) (pa_nil))) (pa_cons (pe_callG G__law_take (hr.mono (by decide)) (by rfl) D__law_take.mg D__law_take.kp D__law_take.b (takes_of rfl rfl rfl rfl) (pa_cons (pv 0) (pa_cons (pe_op (r := rAddU K) op_addU (pv 1) (pe_int)) (pa_nil)))) (pa_cons (pe_callG G__law_end (hr.mono (by decide)) (by rfl) D__law_end.mg D__law_end.kp D__law_end.b (takes_of rfl rfl rfl rfl) (pa_cons (pv 0) (pa_nil))) (pa_nil)))))), ?_⟩
  exact as_ret (ae_tup (aa_cons (ae_call (aa_cons (ae_var) (aa_nil))) (aa_cons (ae_call (aa_cons (ae_var) (aa_cons (ae_2 (ae_var) (ae_c fun _ _ _ => .int _) r2_add) (aa_nil)))) (aa_cons (ae_call (aa_cons (ae_var) (aa_nil))) (aa_nil)))))
abbrev s__law_parted : Stmt := top 23
theorem sc__law_parted : FnScope ["_law_stretch_here", "_law_size", "_law_before", "_law_left", "_law_length", "_law_right"] ["_law_stretch_here", "_law_size", "_law_before"] (defScope s__law_parted) := ⟨rfl, rfl, rfl, by decide +kernel, rfl, by decide +kernel, by decide +kernel⟩
def bd__law_parted : DT := sSeq (sAsg (eVar 0) (dTup 3 (dCons (dName 3) (dCons (dName 4) (dCons (dName 5) (dNil))))))
    (sRet (eTup (aCons (eTup (aCons (eVar 3) (aCons (eVar 2) (aCons (eC (.str "sold")) (aNil))))) (aCons (eTup (aCons (eC (.str "sold")) (aCons (e2 mSub (e2 mSub (eVar 4) (eVar 1)) (eVar 2)) (aCons (eVar 5) (aNil))))) (aNil)))))
def m__law_parted : MF := mBody 6 bd__law_parted
theorem ok__law_parted {f : Addr} {fd : FuncData} (F : Fun K "_law_parted" "_law_parted" s__law_parted f fd)
     : FnG P w K mg base 1 f fd ["_law_stretch_here", "_law_size", "_law_before"] (spM K cl 3 m__law_parted) := by
  refine fnM (n := 3) (N := ["_law_stretch_here", "_law_size", "_law_before", "_law_left", "_law_length", "_law_right"]) (m := bd__law_parted) F sc__law_parted rfl fun cdv A outer s H E hr => ⟨_, pss_cons (ps_asg (pv 0) (pg_tupK (K := K) (n := 3) rfl (pgs_cons (pg_name (i := 3) sc__law_parted.nd rfl (by first | exact Or.inl rfl | exact Or.inr rfl)) (pgs_cons (pg_name (i := 4) sc__law_parted.nd rfl (by first | exact Or.inl rfl | exact Or.inr rfl)) (pgs_cons (pg_name (i := 5) sc__law_parted.nd rfl (by first | exact Or.inl rfl | exact Or.inr rfl)) (pgs_nil))))))
    (pss_one (ps_ret (pe_tup (pa_cons (pe_tup (pa_cons (pv 3) (pa_cons (pv 2) (pa_cons (pe_str) (pa_nil))))) (pa_cons (pe_tup (pa_cons (pe_str) (pa_cons (pe_op op_sub (pe_op op_sub (pv 4) (pv 1)) (pv 2)) (pa_cons (pv 5) (pa_nil))))) (pa_nil)))))), ?_⟩
  exact as_seq (as_asg (ae_var) (ag_tup (ags_cons (ag_name) (ags_cons (ag_name) (ags_cons (ag_name) (ags_nil))))))
    (as_ret (ae_tup (aa_cons (ae_tup (aa_cons (ae_var) (aa_cons (ae_var) (aa_cons (ae_c fun _ _ _ => .str _) (aa_nil))))) (aa_cons (ae_tup (aa_cons (ae_c fun _ _ _ => .str _) (aa_cons (ae_2 (ae_2 (ae_var) (ae_var) r2_sub) (ae_var) r2_sub) (aa_cons (ae_var) (aa_nil))))) (aa_nil)))))
abbrev s__law_is_whole_number : Stmt := top 24
theorem sc__law_is_whole_number : FnScope ["_law_thing"] ["_law_thing"] (defScope s__law_is_whole_number) := ⟨rfl, rfl, rfl, by decide +kernel, rfl, by decide +kernel, by decide +kernel⟩
def bd__law_is_whole_number : DT := sRet (eAnd (eB1 (isiE "int") (eVar 0)) (eNot (eB1 (isiE "bool") (eVar 0))))
def m__law_is_whole_number : MF := mBody 1 bd__law_is_whole_number
theorem ok__law_is_whole_number {f : Addr} {fd : FuncData} (F : Fun K "_law_is_whole_number" "_law_is_whole_number" s__law_is_whole_number f fd)
    (B : Bn mg) : FnG P w K mg base 1 f fd ["_law_thing"] (spM K cl 1 m__law_is_whole_number) := by
  refine fnM (n := 1) (N := ["_law_thing"]) (m := bd__law_is_whole_number) F sc__law_is_whole_number rfl fun cdv A outer s H E hr => ⟨_, pss_one (ps_ret (pe_and (pe_callB (r := rIsi K) call_isi (by rfl) B.b_isinstance PyProof.Rows.boot_isinstance (pa_cons (pv 0) (pa_cons (pe_bltn (v := .ty "int") (by rfl) B.b_int bt_int rfl) pa_nil))) (pe_one (pe_not (pe_callB (r := rIsi K) call_isi (by rfl) B.b_isinstance PyProof.Rows.boot_isinstance (pa_cons (pv 0) (pa_cons (pe_bltn (v := .ty "bool") (by rfl) B.b_bool bt_bool rfl) pa_nil))))))), ?_⟩
  exact as_ret (ae_and (ae_isi (ae_var)) (ae_not (ae_isi (ae_var))))
abbrev s__law_pairs : Stmt := top 25
theorem sc__law_pairs : FnScope ["_law_found", "_law_left", "_law_right"] [] (defScope s__law_pairs) := ⟨rfl, rfl, rfl, by decide +kernel, rfl, by decide +kernel, by decide +kernel⟩
def bd__law_pairs : DT := sSeq (sSetO 0 (eLst (aNil)))
    (sSeq (sFor (iSeq (eCall 0 m__law_ends aNil)) (dName 1) (sExt 0 (eLc [2] (iSeq (eCall 0 m__law_ends aNil)) (dName 2) (bYes) (eTup (aCons (eVar 1) (aCons (eVar 2) (aNil)))))))
    (sRetO 0))
def m__law_pairs : MF := mBody 3 bd__law_pairs
theorem ok__law_pairs {f : Addr} {fd : FuncData} (F : Fun K "_law_pairs" "_law_pairs" s__law_pairs f fd)
    {f__law_ends : Addr} {fd__law_ends : FuncData} (D__law_ends : Df K mg "_law_ends" s__law_ends [] f__law_ends fd__law_ends) (G__law_ends : FnG P w K mg base 1 f__law_ends fd__law_ends [] (spM K cl 0 m__law_ends)) : FnG P w K mg base 2 f fd [] (spM K cl 0 m__law_pairs) := by
  refine fnM (n := 0) (N := ["_law_found", "_law_left", "_law_right"]) (m := bd__law_pairs) F sc__law_pairs rfl fun cdv A outer s H E hr => ⟨_, pss_cons (ps_set (i := 0) sc__law_pairs.nd rfl (by first | exact Or.inl rfl | exact Or.inr rfl) (pe_lst (pa_nil)))
    (pss_cons (ps_for (passes_of rfl) rfl (pi_seqK (K := K) (pe_callG0 G__law_ends (hr.mono (by decide)) (by rfl) D__law_ends.mg D__law_ends.kp D__law_ends.b (takes_of rfl rfl rfl rfl))) (pg_name (i := 1) sc__law_pairs.nd rfl (by first | exact Or.inl rfl | exact Or.inr rfl)) (pss_one (ps_expr (pe_bm PySem.F.plainAttrs_list PySem.F.slot_list_extend PySem.F.type_list_extend mt_extend (pv 0) (pa_cons (pe_lc rfl sc__law_pairs.nd (pi_seqK (K := K) (pe_callG0 G__law_ends (hr.mono (by decide)) (by rfl) D__law_ends.mg D__law_ends.kp D__law_ends.b (takes_of rfl rfl rfl rfl))) (blkOk_by (N := ["_law_found", "_law_left", "_law_right"]) (sc := defScope s__law_pairs) (own := [("_law_right", 2)]) (by decide +kernel)) (fun _ _ _ _ _ => pg_name (i := 2) sc__law_pairs.nd rfl (by first | exact Or.inl rfl | exact Or.inr rfl)) (fun _ _ _ _ _ => pts_nil) (fun _ _ _ _ _ => pe_tup (pa_cons (pv 1) (pa_cons (pv 2) (pa_nil))))) pa_nil)))))
    (pss_one (ps_ret (pv 0)))), ?_⟩
  exact as_seq (as_setO (ae_lst (aa_nil)))
    (as_seq (as_for (ai_seq (ae_call aa_nil)) (ag_name) (as_ext (ae_lc (ai_seq (ae_call aa_nil)) (ag_name) (ab_yes) (ae_tup (aa_cons (ae_var) (aa_cons (ae_var) (aa_nil)))) (by decide))))
    (as_retO))
abbrev s__law_deep : Stmt := top 26
theorem sc__law_deep : FnScope ["_law_found", "_law_k"] [] (defScope s__law_deep) := ⟨rfl, rfl, rfl, by decide +kernel, rfl, by decide +kernel, by decide +kernel⟩
def bd__law_deep : DT := sSeq (sSet 0 (eLst (aNil)))
    (sSeq (sFor (iRange1 (eC (.int 6))) (dName 1) (sSet 0 (eLst (aCons (eVar 0) (aNil)))))
    (sRet (eVar 0)))
def m__law_deep : MF := mBody 2 bd__law_deep
theorem ok__law_deep {f : Addr} {fd : FuncData} (F : Fun K "_law_deep" "_law_deep" s__law_deep f fd)
    (B : Bn mg) : FnG P w K mg base 1 f fd [] (spM K cl 0 m__law_deep) := by
  refine fnM (n := 0) (N := ["_law_found", "_law_k"]) (m := bd__law_deep) F sc__law_deep rfl fun cdv A outer s H E hr => ⟨_, pss_cons (ps_set (i := 0) sc__law_deep.nd rfl (by first | exact Or.inl rfl | exact Or.inr rfl) (pe_lst (pa_nil)))
    (pss_cons (ps_for (passes_of rfl) rfl (pi_range1 (by rfl) B.b_range (pa_cons (pe_int) pa_nil)) (pg_name (i := 1) sc__law_deep.nd rfl (by first | exact Or.inl rfl | exact Or.inr rfl)) (pss_one (ps_set (i := 0) sc__law_deep.nd rfl (by first | exact Or.inl rfl | exact Or.inr rfl) (pe_lst (pa_cons (pv 0) (pa_nil))))))
    (pss_one (ps_ret (pv 0)))), ?_⟩
  exact as_seq (as_set (ae_lst (aa_nil)))
    (as_seq (as_for (ai_range1 (ae_c fun _ _ _ => .int _)) (ag_name) (as_set (ae_lst (aa_cons (ae_var) (aa_nil)))))
    (as_ret (ae_var)))
abbrev s__law_odd : Stmt := top 27
theorem sc__law_odd : FnScope ["_law_bag_here", "_law_menu"] ["_law_bag_here"] (defScope s__law_odd) := ⟨rfl, rfl, rfl, by decide +kernel, rfl, by decide +kernel, by decide +kernel⟩
def bd__law_odd : DT := sSeq (sSet 1 (eLst (aCons (eC .non) (aCons (eC (.bl true)) (aCons (eC (.bl false)) (aCons (eC (.int 0)) (aCons (eC (.int 1)) (aCons (eC (.int 2)) (aCons (eC (.int 3)) (aCons (eC (.int 5)) (aCons (eC (.int 6)) (aCons (eB1 negE (eC (.int 1))) (aCons (eC (.int 400)) (aCons (e2 mPow (eC (.int 10)) (eC (.int 39))) (aCons (eC (.str "")) (aCons (eC (.str "a")) (aCons (eC (.str "wall")) (aCons (eC (.str "pillar")) (aCons (eC (.str "sold")) (aCons (eC (.str "Wall")) (aCons (eC (.str "walls")) (aNil))))))))))))))))))))))
    (sSeq (sSet 1 (e2 mAdd (eVar 1) (eLst (aCons (eC (.str "any")) (aCons (eC (.str "side")) (aCons (eC (.str "Any")) (aCons (eC (.str "wall ")) (aCons (eC (.str "a\n")) (aCons (eTup (aNil)) (aCons (eLst (aNil)) (aCons (eD0) (aCons (eTup (aCons (eC (.int 0)) (aNil))) (aCons (eLst (aCons (eC (.int 0)) (aNil))) (aCons (eLst (aCons (eC (.int 1)) (aNil))) (aCons (eTup (aCons (eC (.int 2)) (aCons (eC (.int 3)) (aNil)))) (aCons (eLst (aCons (eC (.int 2)) (aCons (eC (.int 2)) (aNil)))) (aCons (eLst (aCons (eC (.int 0)) (aCons (eC (.int 1)) (aNil)))) (aCons (eLst (aCons (eC (.int 1)) (aCons (eC (.int 6)) (aNil)))) (aNil)))))))))))))))))))
    (sSeq (sSet 1 (e2 mAdd (eVar 1) (eLst (aCons (eLst (aCons (eC (.bl true)) (aNil))) (aCons (eLst (aCons (eC (.int 1)) (aCons (eC .non) (aNil)))) (aCons (eLst (aCons (eC (.str "1")) (aNil))) (aCons (eTup (aCons (eC (.str "wall")) (aCons (eC (.int 3)) (aCons (eC (.str "sold")) (aNil))))) (aCons (eLst (aCons (eC (.str "wall")) (aCons (eC (.int 3)) (aCons (eC (.str "sold")) (aNil))))) (aCons (eTup (aCons (eC (.str "wall")) (aCons (eB1 negE (eC (.int 1))) (aCons (eC (.str "sold")) (aNil))))) (aNil))))))))))
    (sSeq (sSet 1 (e2 mAdd (eVar 1) (eLst (aCons (eTup (aCons (eC (.str "wall")) (aCons (eC (.int 0)) (aNil)))) (aCons (eTup (aCons (eC (.str "wall")) (aCons (eC (.bl true)) (aCons (eC (.str "sold")) (aNil))))) (aCons (eTup (aCons (eC (.str "sold")) (aCons (eC (.int 3)) (aCons (eC (.str "Wall")) (aNil))))) (aCons (eTup (aCons (eC (.int 2)) (aCons (eC (.int 0)) (aNil)))) (aCons (eTup (aCons (eC (.int 2)) (aCons (eB1 negE (eC (.int 1))) (aNil)))) (aCons (eTup (aCons (eC (.int 0)) (aCons (eC (.int 0)) (aNil)))) (aCons (eTup (aCons (eC (.bl true)) (aCons (eC (.int 0)) (aNil)))) (aNil)))))))))))
    (sSeq (sSet 1 (e2 mAdd (eVar 1) (eLst (aCons (eTup (aCons (eC (.int 2)) (aCons (eC (.bl false)) (aNil)))) (aCons (eTup (aCons (eC (.int 0)) (aCons (eC (.int 4)) (aCons (eC (.int 2)) (aNil))))) (aCons (eTup (aCons (eC (.int 0)) (aCons (eC (.int 4)) (aCons (eC (.int 6)) (aNil))))) (aCons (eTup (aCons (eC (.int 0)) (aCons (eB1 negE (eC (.int 1))) (aCons (eC (.int 2)) (aNil))))) (aCons (eD1 (eC (.str "wall")) (eLst (aCons (eC (.int 1)) (aNil)))) (aCons (eD1 (eC (.str "sold")) (eTup (aCons (eC (.int 1)) (aCons (eC (.int 2)) (aNil))))) (aCons (eD1 (eC (.str "Wall")) (eLst (aCons (eC (.int 1)) (aNil)))) (aNil)))))))))))
    (sSeq (sSet 1 (e2 mAdd (eVar 1) (eLst (aCons (eD1 (eC (.str "wall")) (eC (.int 1))) (aCons (eD1 (eC (.int 0)) (eLst (aCons (eC (.int 1)) (aNil)))) (aCons (eD1 (eC (.str "wall")) (eC .non)) (aCons (e2 mMul (eLst (aCons (eC .non) (aNil))) (eC (.int 1900))) (aCons (eCall 0 m__law_deep aNil) (aCons (eTup (aCons (eLst (aNil)) (aCons (eC (.int 0)) (aCons (eC (.int 1)) (aNil))))) (aCons (eTup (aCons (eD0) (aCons (eC (.int 0)) (aNil)))) (aCons (eLst (aCons (eLst (aCons (eC (.int 1)) (aNil))) (aNil))) (aNil))))))))))))
    (sRet (e2 mIx (eVar 1) (eCall 2 m__law_take (aCons (eVar 0) (aCons (eC (.int 62)) (aNil)))))))))))
def m__law_odd : MF := mBody 2 bd__law_odd
theorem ok__law_odd {f : Addr} {fd : FuncData} (F : Fun K "_law_odd" "_law_odd" s__law_odd f fd)
    {f__law_take : Addr} {fd__law_take : FuncData} (D__law_take : Df K mg "_law_take" s__law_take ["_law_bag_here", "_law_many"] f__law_take fd__law_take) (G__law_take : FnG P w K mg base 1 f__law_take fd__law_take ["_law_bag_here", "_law_many"] (spM K cl 2 m__law_take))
    {f__law_deep : Addr} {fd__law_deep : FuncData} (D__law_deep : Df K mg "_law_deep" s__law_deep [] f__law_deep fd__law_deep) (G__law_deep : FnG P w K mg base 1 f__law_deep fd__law_deep [] (spM K cl 0 m__law_deep)) : FnG P w K mg base 2 f fd ["_law_bag_here"] (spM K cl 1 m__law_odd) := by
  refine fnM (n := 1) (N := ["_law_bag_here", "_law_menu"]) (m := bd__law_odd) F sc__law_odd rfl fun cdv A outer s H E hr => ⟨_, pss_cons (ps_set (i := 1) sc__law_odd.nd rfl (by first | exact Or.inl rfl | exact Or.inr rfl) (pe_lst (pa_cons (pe_non) (pa_cons (pe_bl) (pa_cons (pe_bl) (pa_cons (pe_int) (pa_cons (pe_int) (pa_cons (pe_int) (pa_cons (pe_int) (pa_cons (pe_int) (pa_cons (pe_int) (pa_cons (pe_un un_neg (pe_int)) (pa_cons (pe_int) (pa_cons (pe_op op_pow (pe_int) (pe_int)) (pa_cons (pe_str) (pa_cons (pe_str) (pa_cons (pe_str) (pa_cons (pe_str) (pa_cons (pe_str) (pa_cons (pe_str) (pa_cons (pe_str) (pa_nil))))))))))))))))))))))
    (pss_cons (ps_set (i := 1) sc__law_odd.nd rfl (by first | exact Or.inl rfl | exact Or.inr rfl) (pe_op (r := rAddU K) op_addU (pv 1) (pe_lst (pa_cons (pe_str) (pa_cons (pe_str) (pa_cons (pe_str) (pa_cons (pe_str) (pa_cons (pe_str) (pa_cons (pe_tup (pa_nil)) (pa_cons (pe_lst (pa_nil)) (pa_cons (pe_dnewK) (pa_cons (pe_tup (pa_cons (pe_int) (pa_nil))) (pa_cons (pe_lst (pa_cons (pe_int) (pa_nil))) (pa_cons (pe_lst (pa_cons (pe_int) (pa_nil))) (pa_cons (pe_tup (pa_cons (pe_int) (pa_cons (pe_int) (pa_nil)))) (pa_cons (pe_lst (pa_cons (pe_int) (pa_cons (pe_int) (pa_nil)))) (pa_cons (pe_lst (pa_cons (pe_int) (pa_cons (pe_int) (pa_nil)))) (pa_cons (pe_lst (pa_cons (pe_int) (pa_cons (pe_int) (pa_nil)))) (pa_nil)))))))))))))))))))
    (pss_cons (ps_set (i := 1) sc__law_odd.nd rfl (by first | exact Or.inl rfl | exact Or.inr rfl) (pe_op (r := rAddU K) op_addU (pv 1) (pe_lst (pa_cons (pe_lst (pa_cons (pe_bl) (pa_nil))) (pa_cons (pe_lst (pa_cons (pe_int) (pa_cons (pe_non) (pa_nil)))) (pa_cons (pe_lst (pa_cons (pe_str) (pa_nil))) (pa_cons (pe_tup (pa_cons (pe_str) (pa_cons (pe_int) (pa_cons (pe_str) (pa_nil))))) (pa_cons (pe_lst (pa_cons (pe_str) (pa_cons (pe_int) (pa_cons (pe_str) (pa_nil))))) (pa_cons (pe_tup (pa_cons (pe_str) (pa_cons (pe_un un_neg (pe_int)) (pa_cons (pe_str) (pa_nil))))) (pa_nil))))))))))
    (pss_cons (ps_set (i := 1) sc__law_odd.nd rfl (by first | exact Or.inl rfl | exact Or.inr rfl) (pe_op (r := rAddU K) op_addU (pv 1) (pe_lst (pa_cons (pe_tup (pa_cons (pe_str) (pa_cons (pe_int) (pa_nil)))) (pa_cons (pe_tup (pa_cons (pe_str) (pa_cons (pe_bl) (pa_cons (pe_str) (pa_nil))))) (pa_cons (pe_tup (pa_cons (pe_str) (pa_cons (pe_int) (pa_cons (pe_str) (pa_nil))))) (pa_cons (pe_tup (pa_cons (pe_int) (pa_cons (pe_int) (pa_nil)))) (pa_cons (pe_tup (pa_cons (pe_int) (pa_cons (pe_un un_neg (pe_int)) (pa_nil)))) (pa_cons (pe_tup (pa_cons (pe_int) (pa_cons (pe_int) (pa_nil)))) (pa_cons (pe_tup (pa_cons (pe_bl) (pa_cons (pe_int) (pa_nil)))) (pa_nil)))))))))))
    (pss_cons (ps_set (i := 1) sc__law_odd.nd rfl (by first | exact Or.inl rfl | exact Or.inr rfl) (pe_op (r := rAddU K) op_addU (pv 1) (pe_lst (pa_cons (pe_tup (pa_cons (pe_int) (pa_cons (pe_bl) (pa_nil)))) (pa_cons (pe_tup (pa_cons (pe_int) (pa_cons (pe_int) (pa_cons (pe_int) (pa_nil))))) (pa_cons (pe_tup (pa_cons (pe_int) (pa_cons (pe_int) (pa_cons (pe_int) (pa_nil))))) (pa_cons (pe_tup (pa_cons (pe_int) (pa_cons (pe_un un_neg (pe_int)) (pa_cons (pe_int) (pa_nil))))) (pa_cons (pe_disp1 (pe_str) (pe_lst (pa_cons (pe_int) (pa_nil)))) (pa_cons (pe_disp1 (pe_str) (pe_tup (pa_cons (pe_int) (pa_cons (pe_int) (pa_nil))))) (pa_cons (pe_disp1 (pe_str) (pe_lst (pa_cons (pe_int) (pa_nil)))) (pa_nil)))))))))))
    (pss_cons (ps_set (i := 1) sc__law_odd.nd rfl (by first | exact Or.inl rfl | exact Or.inr rfl) (pe_op (r := rAddU K) op_addU (pv 1) (pe_lst (pa_cons (pe_disp1 (pe_str) (pe_int)) (pa_cons (pe_disp1 (pe_int) (pe_lst (pa_cons (pe_int) (pa_nil)))) (pa_cons (pe_disp1 (pe_str) (pe_non)) (pa_cons (pe_op op_mulU (pe_lst (pa_cons (pe_non) (pa_nil))) (pe_int)) (pa_cons (pe_callG0 G__law_deep (hr.mono (by decide)) (by rfl) D__law_deep.mg D__law_deep.kp D__law_deep.b (takes_of rfl rfl rfl rfl)) (pa_cons (pe_tup (pa_cons (pe_lst (pa_nil)) (pa_cons (pe_int) (pa_cons (pe_int) (pa_nil))))) (pa_cons (pe_tup (pa_cons (pe_dnewK) (pa_cons (pe_int) (pa_nil)))) (pa_cons (pe_lst (pa_cons (pe_lst (pa_cons (pe_int) (pa_nil))) (pa_nil))) (pa_nil))))))))))))
    (pss_one (ps_ret (pe_ix (r := rIx K) ix_seq (pv 1) (pe_callG G__law_take (hr.mono (by decide)) (by rfl) D__law_take.mg D__law_take.kp D__law_take.b (takes_of rfl rfl rfl rfl) (pa_cons (pv 0) (pa_cons (pe_int) (pa_nil)))) (fun _ _ => rfl))))))))), ?_⟩
  exact as_seq (as_set (ae_lst (aa_cons (ae_c fun _ _ _ => .non) (aa_cons (ae_c fun _ _ _ => .bl _) (aa_cons (ae_c fun _ _ _ => .bl _) (aa_cons (ae_c fun _ _ _ => .int _) (aa_cons (ae_c fun _ _ _ => .int _) (aa_cons (ae_c fun _ _ _ => .int _) (aa_cons (ae_c fun _ _ _ => .int _) (aa_cons (ae_c fun _ _ _ => .int _) (aa_cons (ae_c fun _ _ _ => .int _) (aa_cons (ae_neg (ae_c fun _ _ _ => .int _)) (aa_cons (ae_c fun _ _ _ => .int _) (aa_cons (ae_2 (ae_c fun _ _ _ => .int _) (ae_c fun _ _ _ => .int _) r2_powU) (aa_cons (ae_c fun _ _ _ => .str _) (aa_cons (ae_c fun _ _ _ => .str _) (aa_cons (ae_c fun _ _ _ => .str _) (aa_cons (ae_c fun _ _ _ => .str _) (aa_cons (ae_c fun _ _ _ => .str _) (aa_cons (ae_c fun _ _ _ => .str _) (aa_cons (ae_c fun _ _ _ => .str _) (aa_nil))))))))))))))))))))))
    (as_seq (as_set (ae_2 (ae_var) (ae_lst (aa_cons (ae_c fun _ _ _ => .str _) (aa_cons (ae_c fun _ _ _ => .str _) (aa_cons (ae_c fun _ _ _ => .str _) (aa_cons (ae_c fun _ _ _ => .str _) (aa_cons (ae_c fun _ _ _ => .str _) (aa_cons (ae_tup (aa_nil)) (aa_cons (ae_lst (aa_nil)) (aa_cons (ae_d0) (aa_cons (ae_tup (aa_cons (ae_c fun _ _ _ => .int _) (aa_nil))) (aa_cons (ae_lst (aa_cons (ae_c fun _ _ _ => .int _) (aa_nil))) (aa_cons (ae_lst (aa_cons (ae_c fun _ _ _ => .int _) (aa_nil))) (aa_cons (ae_tup (aa_cons (ae_c fun _ _ _ => .int _) (aa_cons (ae_c fun _ _ _ => .int _) (aa_nil)))) (aa_cons (ae_lst (aa_cons (ae_c fun _ _ _ => .int _) (aa_cons (ae_c fun _ _ _ => .int _) (aa_nil)))) (aa_cons (ae_lst (aa_cons (ae_c fun _ _ _ => .int _) (aa_cons (ae_c fun _ _ _ => .int _) (aa_nil)))) (aa_cons (ae_lst (aa_cons (ae_c fun _ _ _ => .int _) (aa_cons (ae_c fun _ _ _ => .int _) (aa_nil)))) (aa_nil))))))))))))))))) r2_add))
    (as_seq (as_set (ae_2 (ae_var) (ae_lst (aa_cons (ae_lst (aa_cons (ae_c fun _ _ _ => .bl _) (aa_nil))) (aa_cons (ae_lst (aa_cons (ae_c fun _ _ _ => .int _) (aa_cons (ae_c fun _ _ _ => .non) (aa_nil)))) (aa_cons (ae_lst (aa_cons (ae_c fun _ _ _ => .str _) (aa_nil))) (aa_cons (ae_tup (aa_cons (ae_c fun _ _ _ => .str _) (aa_cons (ae_c fun _ _ _ => .int _) (aa_cons (ae_c fun _ _ _ => .str _) (aa_nil))))) (aa_cons (ae_lst (aa_cons (ae_c fun _ _ _ => .str _) (aa_cons (ae_c fun _ _ _ => .int _) (aa_cons (ae_c fun _ _ _ => .str _) (aa_nil))))) (aa_cons (ae_tup (aa_cons (ae_c fun _ _ _ => .str _) (aa_cons (ae_neg (ae_c fun _ _ _ => .int _)) (aa_cons (ae_c fun _ _ _ => .str _) (aa_nil))))) (aa_nil)))))))) r2_add))
    (as_seq (as_set (ae_2 (ae_var) (ae_lst (aa_cons (ae_tup (aa_cons (ae_c fun _ _ _ => .str _) (aa_cons (ae_c fun _ _ _ => .int _) (aa_nil)))) (aa_cons (ae_tup (aa_cons (ae_c fun _ _ _ => .str _) (aa_cons (ae_c fun _ _ _ => .bl _) (aa_cons (ae_c fun _ _ _ => .str _) (aa_nil))))) (aa_cons (ae_tup (aa_cons (ae_c fun _ _ _ => .str _) (aa_cons (ae_c fun _ _ _ => .int _) (aa_cons (ae_c fun _ _ _ => .str _) (aa_nil))))) (aa_cons (ae_tup (aa_cons (ae_c fun _ _ _ => .int _) (aa_cons (ae_c fun _ _ _ => .int _) (aa_nil)))) (aa_cons (ae_tup (aa_cons (ae_c fun _ _ _ => .int _) (aa_cons (ae_neg (ae_c fun _ _ _ => .int _)) (aa_nil)))) (aa_cons (ae_tup (aa_cons (ae_c fun _ _ _ => .int _) (aa_cons (ae_c fun _ _ _ => .int _) (aa_nil)))) (aa_cons (ae_tup (aa_cons (ae_c fun _ _ _ => .bl _) (aa_cons (ae_c fun _ _ _ => .int _) (aa_nil)))) (aa_nil))))))))) r2_add))
    (as_seq (as_set (ae_2 (ae_var) (ae_lst (aa_cons (ae_tup (aa_cons (ae_c fun _ _ _ => .int _) (aa_cons (ae_c fun _ _ _ => .bl _) (aa_nil)))) (aa_cons (ae_tup (aa_cons (ae_c fun _ _ _ => .int _) (aa_cons (ae_c fun _ _ _ => .int _) (aa_cons (ae_c fun _ _ _ => .int _) (aa_nil))))) (aa_cons (ae_tup (aa_cons (ae_c fun _ _ _ => .int _) (aa_cons (ae_c fun _ _ _ => .int _) (aa_cons (ae_c fun _ _ _ => .int _) (aa_nil))))) (aa_cons (ae_tup (aa_cons (ae_c fun _ _ _ => .int _) (aa_cons (ae_neg (ae_c fun _ _ _ => .int _)) (aa_cons (ae_c fun _ _ _ => .int _) (aa_nil))))) (aa_cons (ae_d1 (ae_c fun _ _ _ => .str _) (ae_lst (aa_cons (ae_c fun _ _ _ => .int _) (aa_nil)))) (aa_cons (ae_d1 (ae_c fun _ _ _ => .str _) (ae_tup (aa_cons (ae_c fun _ _ _ => .int _) (aa_cons (ae_c fun _ _ _ => .int _) (aa_nil))))) (aa_cons (ae_d1 (ae_c fun _ _ _ => .str _) (ae_lst (aa_cons (ae_c fun _ _ _ => .int _) (aa_nil)))) (aa_nil))))))))) r2_add))
    (as_seq (as_set (ae_2 (ae_var) (ae_lst (aa_cons (ae_d1 (ae_c fun _ _ _ => .str _) (ae_c fun _ _ _ => .int _)) (aa_cons (ae_d1 (ae_c fun _ _ _ => .int _) (ae_lst (aa_cons (ae_c fun _ _ _ => .int _) (aa_nil)))) (aa_cons (ae_d1 (ae_c fun _ _ _ => .str _) (ae_c fun _ _ _ => .non)) (aa_cons (ae_2 (ae_lst (aa_cons (ae_c fun _ _ _ => .non) (aa_nil))) (ae_c fun _ _ _ => .int _) r2_mul) (aa_cons (ae_call aa_nil) (aa_cons (ae_tup (aa_cons (ae_lst (aa_nil)) (aa_cons (ae_c fun _ _ _ => .int _) (aa_cons (ae_c fun _ _ _ => .int _) (aa_nil))))) (aa_cons (ae_tup (aa_cons (ae_d0) (aa_cons (ae_c fun _ _ _ => .int _) (aa_nil)))) (aa_cons (ae_lst (aa_cons (ae_lst (aa_cons (ae_c fun _ _ _ => .int _) (aa_nil))) (aa_nil))) (aa_nil)))))))))) r2_add))
    (as_ret (ae_2 (ae_var) (ae_call (aa_cons (ae_var) (aa_cons (ae_c fun _ _ _ => .int _) (aa_nil)))) r2_ix)))))))
abbrev s__law_is_number : Stmt := top 28
theorem sc__law_is_number : FnScope ["_law_thing"] ["_law_thing"] (defScope s__law_is_number) := ⟨rfl, rfl, rfl, by decide +kernel, rfl, by decide +kernel, by decide +kernel⟩
def bd__law_is_number : DT := sRet (eAnd (eCall 1 m__law_is_whole_number (aCons (eVar 0) (aNil))) (e2 (mGe) (eVar 0) (eC (.int 0))))
def m__law_is_number : MF := mBody 1 bd__law_is_number
theorem ok__law_is_number {f : Addr} {fd : FuncData} (F : Fun K "_law_is_number" "_law_is_number" s__law_is_number f fd)
    {f__law_is_whole_number : Addr} {fd__law_is_whole_number : FuncData} (D__law_is_whole_number : Df K mg "_law_is_whole_number" s__law_is_whole_number ["_law_thing"] f__law_is_whole_number fd__law_is_whole_number) (G__law_is_whole_number : FnG P w K mg base 1 f__law_is_whole_number fd__law_is_whole_number ["_law_thing"] (spM K cl 1 m__law_is_whole_number)) : FnG P w K mg base 2 f fd ["_law_thing"] (spM K cl 1 m__law_is_number) := by
  refine fnM (n := 1) (N := ["_law_thing"]) (m := bd__law_is_number) F sc__law_is_number rfl fun cdv A outer s H E hr => ⟨_, pss_one (ps_ret (pe_and (pe_callG G__law_is_whole_number (hr.mono (by decide)) (by rfl) D__law_is_whole_number.mg D__law_is_whole_number.kp D__law_is_whole_number.b (takes_of rfl rfl rfl rfl) (pa_cons (pv 0) (pa_nil))) (pe_one (pe_cmpR op_ge (pv 0) (pe_int) (nomark _))))), ?_⟩
  exact as_ret (ae_and (ae_call (aa_cons (ae_var) (aa_nil))) (ae_2 (ae_var) (ae_c fun _ _ _ => .int _) r2_ge))
abbrev s__law_is_size_number : Stmt := top 29
theorem sc__law_is_size_number : FnScope ["_law_thing"] ["_law_thing"] (defScope s__law_is_size_number) := ⟨rfl, rfl, rfl, by decide +kernel, rfl, by decide +kernel, by decide +kernel⟩
def bd__law_is_size_number : DT := sRet (eAnd (eCall 1 m__law_is_whole_number (aCons (eVar 0) (aNil))) (eChain mLt mLt (eC (.int 0)) (eVar 0) (eC (.int 6))))
def m__law_is_size_number : MF := mBody 1 bd__law_is_size_number
theorem ok__law_is_size_number {f : Addr} {fd : FuncData} (F : Fun K "_law_is_size_number" "_law_is_size_number" s__law_is_size_number f fd)
    {f__law_is_whole_number : Addr} {fd__law_is_whole_number : FuncData} (D__law_is_whole_number : Df K mg "_law_is_whole_number" s__law_is_whole_number ["_law_thing"] f__law_is_whole_number fd__law_is_whole_number) (G__law_is_whole_number : FnG P w K mg base 1 f__law_is_whole_number fd__law_is_whole_number ["_law_thing"] (spM K cl 1 m__law_is_whole_number)) : FnG P w K mg base 2 f fd ["_law_thing"] (spM K cl 1 m__law_is_size_number) := by
  refine fnM (n := 1) (N := ["_law_thing"]) (m := bd__law_is_size_number) F sc__law_is_size_number rfl fun cdv A outer s H E hr => ⟨_, pss_one (ps_ret (pe_and (pe_callG G__law_is_whole_number (hr.mono (by decide)) (by rfl) D__law_is_whole_number.mg D__law_is_whole_number.kp D__law_is_whole_number.b (takes_of rfl rfl rfl rfl) (pa_cons (pv 0) (pa_nil))) (pe_one (pe_chain op_lt op_lt (pe_int) (pv 0) (pe_int))))), ?_⟩
  exact as_ret (ae_and (ae_call (aa_cons (ae_var) (aa_nil))) (ae_chain (ae_c fun _ _ _ => .int _) (ae_var) (ae_c fun _ _ _ => .int _) r2_lt r2_lt))

structure Hr (K : PySem.W.Frag) (cN cX cE : Addr) : Prop where
  ec : ExcC K cX
  k1 : PySem.W.kitOne K (.ref cX) (.ref cX) = some true
  k2 : PySem.W.kitOne K (.ref cX) (.ref cN) = some false
  ex : PySem.W.exmOne K (.ref cX) (.ref cE) = some true
def tHeard (K : PySem.W.Frag) (cN cX : Addr) (a : Addr) : TS := tRet (tTup (tCons (tC (.str "none")) (tCons (tAndV (tCB (rIsE K cX a) (tCons (tVar 3) (tCons (tC (.ref cX)) tNil))) (tNotV (tCB (rIsE K cX a) (tCons (tVar 3) (tCons (tC (.ref cN)) tNil))))) tNil)))
open Classical in
noncomputable def tsHeard (K : PySem.W.Frag) (cN cX : Addr) : Addr → Value → Option Addr → TS := fun a cls d => if cls = .ref cX ∧ d = none then tHeard K cN cX a else tNever
def ha__law_heard : Str → Option Bool := fun n => if n = "NoChoice" then some true else none
def mx__law_heard : DX := fun x δ g => if x.c = "NoChoice" ∧ x.fs.isEmpty = true ∧ 3 < δ.length then some (.rt (.val (.tup [.str "none", .bl true])), g) else none
theorem suN__law_heard : ∀ x δ g o g', mx__law_heard x δ g = some (o, g') → match o with
      | .er _ _ => False
      | _ => True := by
  intro x δ g o g' h
  unfold mx__law_heard at h
  split at h
  · cases h
    trivial
  · cases h
theorem suH__law_heard {K : PySem.W.Frag} {cl : Str → Option Addr} {cN cX cE : Addr} (R : Hr K cN cX cE) (hc : cl "NoChoice" = some cX) : ∀ n C t, cl n = some C → ha__law_heard n = some t → PySem.W.exmOne K (.ref C) (.ref cE) = some t := by
  intro n C t h1 h2
  unfold ha__law_heard at h2
  split at h2
  · rename_i e
    subst e
    rw [hc] at h1
    cases h1
    cases h2
    exact R.ex
  · cases h2
theorem suA__law_heard {K : PySem.W.Frag} {cl : Str → Option Addr} {cN cX cE : Addr} (R : Hr K cN cX cE) (hc : cl "NoChoice" = some cX) : AX K cl 3 (tsHeard K cN cX) mx__law_heard := by
  intro b l B0 H0 δ g σ H x cls dx a o g' S hx ha hm Dn q
  unfold mx__law_heard at hm
  split at hm
  case isFalse => cases hm
  rename_i hxc
  cases hm
  obtain ⟨C, c1, c2, c3⟩ := hx
  rw [hxc.1] at c1
  rw [show (Gd.cl ⟨K, cl, b, l⟩) "NoChoice" = some cX from hc] at c1
  cases c1
  have hd : dx = none := by
    cases dx with
    | none => rfl
    | some d => exact (c3.1 (List.isEmpty_iff.mp hxc.2.1)).elim
  subst c2
  subst hd
  unfold tsHeard
  rw [if_pos ⟨rfl, rfl⟩]
  have h3 : (σ.set 3 (some (V.ref a)))[3]? = some (some (V.ref a)) := by
    rw [List.getElem?_set_self]
    rw [S.len]
    exact hxc.2.2
  refine ⟨_, h3, _, _, _, rfl, fun u r => r, R.k1, true, rfl, ?_⟩
  show ∃ v, _ ∧ _
  refine ⟨_, h3, _, _, _, rfl, fun u r => r, R.k2, false, rfl, ?_⟩
  refine ⟨by show 2 ≤ sizeLine; decide, fun p hp => ?_⟩
  refine q _ _ (S.ent.trans (Kp.new hp)) (bag_upd S.bg hp) S.scr ?_
  exact .tupH (fun z => by have := S.alB p (Or.inl z); rw [hp] at this; cases this) upd_same (.cons (.str _) (.cons (.bl _) .nil))

abbrev s__law_heard : Stmt := top 30
theorem sc__law_heard : FnScope ["_law_stretch_here", "_law_size", "_law_before", "e"] ["_law_stretch_here", "_law_size", "_law_before"] (defScope s__law_heard) := ⟨rfl, rfl, rfl, by decide +kernel, rfl, by decide +kernel, by decide +kernel⟩
def bt__law_heard : DT := sRet (eTup (aCons (eC (.str "told")) (aCons (eCall 3 m_parts (aCons (eVar 0) (aCons (eVar 1) (aCons (eVar 2) aNil)))) aNil)))
def bd__law_heard : DT := sTry bt__law_heard ha__law_heard mx__law_heard
def m__law_heard : MF := mBody 4 bd__law_heard
theorem ok__law_heard {c_NoChoice c_Nothing c_LoneError : Addr} {f : Addr} {fd : FuncData} (F : Fun K "_law_heard" "_law_heard" s__law_heard f fd)
    {f_parts : Addr} {fd_parts : FuncData} (D_parts : Df K mg "parts" s_parts ["stretch", "size", "before"] f_parts fd_parts) (G_parts : FnG P w K mg base 4 f_parts fd_parts ["stretch", "size", "before"] (spM K cl 3 m_parts))
    (X_LoneError : Xc K mg cl "LoneError" c_LoneError) (X_NoChoice : Xc K mg cl "NoChoice" c_NoChoice) (X_Nothing : Xc K mg cl "Nothing" c_Nothing) (B : Bn mg) (R : Hr K c_Nothing c_NoChoice c_LoneError) : FnG P w K mg base 5 f fd ["_law_stretch_here", "_law_size", "_law_before"] (spM K cl 3 m__law_heard) := by
  refine fnM (n := 3) (N := ["_law_stretch_here", "_law_size", "_law_before", "e"]) (m := bd__law_heard) F sc__law_heard rfl fun cdv A outer s H E hr => ⟨_, pss_one (ps_try_as (i := 3) (ts := tsHeard K c_Nothing c_NoChoice) rfl rfl sc__law_heard.nd rfl rfl ⟨by rfl, by decide, .inl X_LoneError.mg⟩ (takes_of rfl rfl rfl rfl) (fun W pn xe tk _ => pss_one (ps_ret (pe_tup (pa_cons pe_str (pa_cons (pe_callG G_parts (hr.mono (by decide)) (by rfl) D_parts.mg D_parts.kp D_parts.b tk (pa_cons (pv 0) (pa_cons (pv 1) (pa_cons (pv 2) pa_nil)))) pa_nil))))) (fun a oe cls d pn hz hv => ?_)), ?_⟩
  · by_cases h : cls = .ref c_NoChoice ∧ d = none
    · obtain ⟨rfl, rfl⟩ := h
      unfold tsHeard
      rw [if_pos ⟨rfl, rfl⟩]
      exact pss_one (ps_ret (pe_tup (pa_cons pe_str (pa_cons (pe_and (pe_callB (r := rIsE K c_NoChoice a) (call_isE R.ec hz hv) (by rfl) B.b_isinstance PyProof.Rows.boot_isinstance (pa_cons (pv 3) (pa_cons (pe_gC (v := .ref c_NoChoice) (by rfl) ⟨_, X_NoChoice.mg, rfl⟩) pa_nil))) (pe_one (pe_not (pe_callB (r := rIsE K c_NoChoice a) (call_isE R.ec hz hv) (by rfl) B.b_isinstance PyProof.Rows.boot_isinstance (pa_cons (pv 3) (pa_cons (pe_gC (v := .ref c_Nothing) (by rfl) ⟨_, X_Nothing.mg, rfl⟩) pa_nil)))))) pa_nil))))
    · unfold tsHeard
      rw [if_neg h]
      exact pss_never
  · exact as_try (fun W => as_ret (ae_tup (aa_cons (ae_c fun _ _ _ => .str _) (aa_cons (ae_call (aa_cons ae_var (aa_cons ae_var (aa_cons ae_var aa_nil)))) aa_nil)))) (suA__law_heard R X_NoChoice.cl) (suH__law_heard R X_NoChoice.cl) suN__law_heard
abbrev s__law_pair_right : Stmt := top 31
theorem sc__law_pair_right : FnScope ["_law_stretch_here", "_law_size", "_law_before", "_law_is_good", "_law_due"] ["_law_stretch_here", "_law_size", "_law_before"] (defScope s__law_pair_right) := ⟨rfl, rfl, rfl, by decide +kernel, rfl, by decide +kernel, by decide +kernel⟩
def bd__law_pair_right : DT := sSeq (sSet 3 (eAnd (eCall 1 m__law_is_size_number (aCons (eVar 1) (aNil))) (eAnd (eCall 1 m__law_is_number (aCons (eVar 2) (aNil))) (e2 (mLe) (eVar 2) (e2 mSub (e2 mIx (eVar 0) (eC (.int 1))) (eVar 1))))))
    (sSeq (sSet 4 (eIf (bOf (eVar 3)) (eTup (aCons (eC (.str "told")) (aCons (eCall 3 m__law_parted (aCons (eVar 0) (aCons (eVar 1) (aCons (eVar 2) (aNil))))) (aNil)))) (eTup (aCons (eC (.str "none")) (aCons (eC (.bl true)) (aNil))))))
    (sRet (eAnd (eCall 2 m__law_alike (aCons (eCall 3 m_fits (aCons (eVar 0) (aCons (eVar 1) (aCons (eVar 2) (aNil))))) (aCons (eVar 3) (aNil)))) (eCall 2 m__law_alike (aCons (eCall 3 m__law_heard (aCons (eVar 0) (aCons (eVar 1) (aCons (eVar 2) (aNil))))) (aCons (eVar 4) (aNil)))))))
def m__law_pair_right : MF := mBody 5 bd__law_pair_right
theorem ok__law_pair_right {f : Addr} {fd : FuncData} (F : Fun K "_law_pair_right" "_law_pair_right" s__law_pair_right f fd)
    {f__law_is_size_number : Addr} {fd__law_is_size_number : FuncData} (D__law_is_size_number : Df K mg "_law_is_size_number" s__law_is_size_number ["_law_thing"] f__law_is_size_number fd__law_is_size_number) (G__law_is_size_number : FnG P w K mg base 2 f__law_is_size_number fd__law_is_size_number ["_law_thing"] (spM K cl 1 m__law_is_size_number))
    {f__law_is_number : Addr} {fd__law_is_number : FuncData} (D__law_is_number : Df K mg "_law_is_number" s__law_is_number ["_law_thing"] f__law_is_number fd__law_is_number) (G__law_is_number : FnG P w K mg base 2 f__law_is_number fd__law_is_number ["_law_thing"] (spM K cl 1 m__law_is_number))
    {f__law_alike : Addr} {fd__law_alike : FuncData} (D__law_alike : Df K mg "_law_alike" s__law_alike ["_law_found", "_law_due"] f__law_alike fd__law_alike) (G__law_alike : FnG P w K mg base 1 f__law_alike fd__law_alike ["_law_found", "_law_due"] (spM K cl 2 m__law_alike))
    {f__law_parted : Addr} {fd__law_parted : FuncData} (D__law_parted : Df K mg "_law_parted" s__law_parted ["_law_stretch_here", "_law_size", "_law_before"] f__law_parted fd__law_parted) (G__law_parted : FnG P w K mg base 1 f__law_parted fd__law_parted ["_law_stretch_here", "_law_size", "_law_before"] (spM K cl 3 m__law_parted))
    {f_fits : Addr} {fd_fits : FuncData} (D_fits : Df K mg "fits" s_fits ["stretch", "size", "before"] f_fits fd_fits) (G_fits : FnG P w K mg base 3 f_fits fd_fits ["stretch", "size", "before"] (spM K cl 3 m_fits))
    {f__law_heard : Addr} {fd__law_heard : FuncData} (D__law_heard : Df K mg "_law_heard" s__law_heard ["_law_stretch_here", "_law_size", "_law_before"] f__law_heard fd__law_heard) (G__law_heard : FnG P w K mg base 5 f__law_heard fd__law_heard ["_law_stretch_here", "_law_size", "_law_before"] (spM K cl 3 m__law_heard)) : FnG P w K mg base 6 f fd ["_law_stretch_here", "_law_size", "_law_before"] (spM K cl 3 m__law_pair_right) := by
  refine fnM (n := 3) (N := ["_law_stretch_here", "_law_size", "_law_before", "_law_is_good", "_law_due"]) (m := bd__law_pair_right) F sc__law_pair_right rfl fun cdv A outer s H E hr => ⟨_, pss_cons (ps_set (i := 3) sc__law_pair_right.nd rfl (by first | exact Or.inl rfl | exact Or.inr rfl) (pe_and (pe_callG G__law_is_size_number (hr.mono (by decide)) (by rfl) D__law_is_size_number.mg D__law_is_size_number.kp D__law_is_size_number.b (takes_of rfl rfl rfl rfl) (pa_cons (pv 1) (pa_nil))) (pe_and (pe_callG G__law_is_number (hr.mono (by decide)) (by rfl) D__law_is_number.mg D__law_is_number.kp D__law_is_number.b (takes_of rfl rfl rfl rfl) (pa_cons (pv 2) (pa_nil))) (pe_one (pe_cmpR op_le (pv 2) (pe_op op_sub (pe_ix (r := rIx K) ix_seq (pv 0) (pe_int) (fun _ _ => rfl)) (pv 1)) (nomark _))))))
    (pss_cons (ps_set (i := 4) sc__law_pair_right.nd rfl (by first | exact Or.inl rfl | exact Or.inr rfl) (pe_ifExp (pt_val (pv 3)) (pe_tup (pa_cons (pe_str) (pa_cons (pe_callG G__law_parted (hr.mono (by decide)) (by rfl) D__law_parted.mg D__law_parted.kp D__law_parted.b (takes_of rfl rfl rfl rfl) (pa_cons (pv 0) (pa_cons (pv 1) (pa_cons (pv 2) (pa_nil))))) (pa_nil)))) (pe_tup (pa_cons (pe_str) (pa_cons (pe_bl) (pa_nil))))))
    (pss_one (ps_ret (pe_and (pe_callG G__law_alike (hr.mono (by decide)) (by rfl) D__law_alike.mg D__law_alike.kp D__law_alike.b (takes_of rfl rfl rfl rfl) (pa_cons (pe_callG G_fits (hr.mono (by decide)) (by rfl) D_fits.mg D_fits.kp D_fits.b (takes_of rfl rfl rfl rfl) (pa_cons (pv 0) (pa_cons (pv 1) (pa_cons (pv 2) (pa_nil))))) (pa_cons (pv 3) (pa_nil)))) (pe_one (pe_callG G__law_alike (hr.mono (by decide)) (by rfl) D__law_alike.mg D__law_alike.kp D__law_alike.b (takes_of rfl rfl rfl rfl) (pa_cons (pe_callG G__law_heard (hr.mono (by decide)) (by rfl) D__law_heard.mg D__law_heard.kp D__law_heard.b (takes_of rfl rfl rfl rfl) (pa_cons (pv 0) (pa_cons (pv 1) (pa_cons (pv 2) (pa_nil))))) (pa_cons (pv 4) (pa_nil))))))))), ?_⟩
  exact as_seq (as_set (ae_and (ae_call (aa_cons (ae_var) (aa_nil))) (ae_and (ae_call (aa_cons (ae_var) (aa_nil))) (ae_2 (ae_var) (ae_2 (ae_2 (ae_var) (ae_c fun _ _ _ => .int _) r2_ix) (ae_var) r2_sub) r2_le))))
    (as_seq (as_set (ae_if (ab_ofB (ae_var)) (ae_tup (aa_cons (ae_c fun _ _ _ => .str _) (aa_cons (ae_call (aa_cons (ae_var) (aa_cons (ae_var) (aa_cons (ae_var) (aa_nil))))) (aa_nil)))) (ae_tup (aa_cons (ae_c fun _ _ _ => .str _) (aa_cons (ae_c fun _ _ _ => .bl _) (aa_nil))))))
    (as_ret (ae_and (ae_call (aa_cons (ae_call (aa_cons (ae_var) (aa_cons (ae_var) (aa_cons (ae_var) (aa_nil))))) (aa_cons (ae_var) (aa_nil)))) (ae_call (aa_cons (ae_call (aa_cons (ae_var) (aa_cons (ae_var) (aa_cons (ae_var) (aa_nil))))) (aa_cons (ae_var) (aa_nil)))))))
abbrev s_law : Stmt := top 32
theorem sc_law : FnScope ["_law_script", "_law_bag_here", "_law_turn", "_law_stretch_here", "_law_length", "_law_k", "_law_odd_here", "_law_due", "_law_again", "_law_size", "_law_before", "_law_found", "_law_left", "_law_right"] ["_law_script"] (defScope s_law) := ⟨rfl, rfl, rfl, by decide +kernel, rfl, by decide +kernel, by decide +kernel⟩
def bd_law : DT := sSeq (sFor (iRange1 (eC (.int 12))) (dName 2) (sSeq (sSet 3 (eCall 2 m__law_stretch (aCons (eVar 1) (aCons (e2 mIx (eLst (aCons (eC (.int 12)) (aCons (eC (.int 12)) (aCons (eC (.int 400)) (aNil))))) (eCall 2 m__law_take (aCons (eVar 1) (aCons (eC (.int 3)) (aNil))))) (aNil)))))
    (sSeq (sSet 4 (e2 mIx (eVar 3) (eC (.int 1))))
    (sSeq (sFor (iRange1 (eC (.int 8))) (dName 5) (sSeq (sSet 9 (e2 mAdd (eC (.int 1)) (eCall 2 m__law_take (aCons (eVar 1) (aCons (eC (.int 5)) (aNil))))))
    (sSeq (sSet 10 (e2 mIx (eLst (aCons (eC (.int 0)) (aCons (e2 mSub (eVar 4) (eVar 9)) (aCons (e2 mAdd (e2 mSub (eVar 4) (eVar 9)) (eC (.int 1))) (aCons (eCall 2 m__law_take (aCons (eVar 1) (aCons (e2 mAdd (eVar 4) (eC (.int 1))) (aNil)))) (aCons (eB1 negE (eC (.int 1))) (aNil))))))) (eCall 2 m__law_take (aCons (eVar 1) (aCons (eC (.int 5)) (aNil))))))
    (sIf (bNot (bOf (eCall 3 m__law_pair_right (aCons (eVar 3) (aCons (eVar 9) (aCons (eVar 10) (aNil))))))) (sRet (eC (.bl false))) (sNext)))))
    (sSeq (sFor (iSeq (eTup (aCons (eCall 1 m__law_odd (aCons (eVar 1) (aNil))) (aCons (eCall 1 m__law_odd (aCons (eVar 1) (aNil))) (aNil))))) (dName 6) (sSeq (sIf (bOr (bNot (bOf (eCall 3 m__law_pair_right (aCons (eVar 3) (aCons (eVar 6) (aCons (eC (.int 0)) (aNil))))))) (bNot (bOf (eCall 3 m__law_pair_right (aCons (eVar 3) (aCons (eC (.int 2)) (aCons (eVar 6) (aNil)))))))) (sRet (eC (.bl false))) (sNext))
    (sIf (bNot (bOf (eCall 3 m__law_pair_right (aCons (eVar 3) (aCons (eVar 6) (aCons (eCall 1 m__law_odd (aCons (eVar 1) (aNil))) (aNil))))))) (sRet (eC (.bl false))) (sNext))))
    (sSeq (sIf (bOr (bNot (bOf (eCall 2 m__law_alike (aCons (eCall 1 m_turned (aCons (eVar 3) (aNil))) (aCons (eB1 revE (eVar 3)) (aNil)))))) (bNot (bOf (eCall 2 m__law_alike (aCons (eCall 1 m_turned (aCons (eCall 1 m_turned (aCons (eVar 3) (aNil))) (aNil))) (aCons (eVar 3) (aNil))))))) (sRet (eC (.bl false))) (sNext))
    (sSeq (sSet 7 (eLc [12, 13] (iSeq (eCall 0 m__law_pairs aNil)) (dTup 2 (dCons (dName 12) (dCons (dName 13) (dNil)))) (bYes) (eTup (aCons (eVar 12) (aCons (eVar 4) (aCons (eVar 13) (aNil)))))))
    (sFor (iRange1 (eC (.int 2))) (dName 8) (sSeq (sSetO 11 (eCall 1 m_wholes (aCons (eVar 4) (aNil))))
    (sSeq (sIf (bNot (bOf (eCallB 2 m__law_alike (aCons (eVar 11) (aCons (eVar 7) (aNil)))))) (sRet (eC (.bl false))) (sNext))
    (sApp 11 (eC .non))))))))))))
    (sRet (eC (.bl true)))
def lawMeans : Prop := ∀ ns : List Int, ∃ g', bd_law ((List.replicate 14 none).set 1 (some .bag)) (bag0 ns) = some (.rt (.val (.bl true)), g')
theorem ok_law {f : Addr} {fd : FuncData} (F : Fun K "law" "law" s_law f fd)
    {f__law_bag : Addr} {fd__law_bag : FuncData} (D__law_bag : Df K mg "_law_bag" s__law_bag ["_law_script"] f__law_bag fd__law_bag) (G__law_bag : FnG P w K mg base 1 f__law_bag fd__law_bag ["_law_script"] (spBag K))
    {f__law_stretch : Addr} {fd__law_stretch : FuncData} (D__law_stretch : Df K mg "_law_stretch" s__law_stretch ["_law_bag_here", "_law_upto"] f__law_stretch fd__law_stretch) (G__law_stretch : FnG P w K mg base 4 f__law_stretch fd__law_stretch ["_law_bag_here", "_law_upto"] (spM K cl 2 m__law_stretch))
    {f__law_odd : Addr} {fd__law_odd : FuncData} (D__law_odd : Df K mg "_law_odd" s__law_odd ["_law_bag_here"] f__law_odd fd__law_odd) (G__law_odd : FnG P w K mg base 2 f__law_odd fd__law_odd ["_law_bag_here"] (spM K cl 1 m__law_odd))
    {f_wholes : Addr} {fd_wholes : FuncData} (D_wholes : Df K mg "wholes" s_wholes ["length"] f_wholes fd_wholes) (G_wholes : FnG P w K mg base 1 f_wholes fd_wholes ["length"] (spM K cl 1 m_wholes))
    {f__law_take : Addr} {fd__law_take : FuncData} (D__law_take : Df K mg "_law_take" s__law_take ["_law_bag_here", "_law_many"] f__law_take fd__law_take) (G__law_take : FnG P w K mg base 1 f__law_take fd__law_take ["_law_bag_here", "_law_many"] (spM K cl 2 m__law_take))
    {f__law_pair_right : Addr} {fd__law_pair_right : FuncData} (D__law_pair_right : Df K mg "_law_pair_right" s__law_pair_right ["_law_stretch_here", "_law_size", "_law_before"] f__law_pair_right fd__law_pair_right) (G__law_pair_right : FnG P w K mg base 6 f__law_pair_right fd__law_pair_right ["_law_stretch_here", "_law_size", "_law_before"] (spM K cl 3 m__law_pair_right))
    {f__law_alike : Addr} {fd__law_alike : FuncData} (D__law_alike : Df K mg "_law_alike" s__law_alike ["_law_found", "_law_due"] f__law_alike fd__law_alike) (G__law_alike : FnG P w K mg base 1 f__law_alike fd__law_alike ["_law_found", "_law_due"] (spM K cl 2 m__law_alike))
    {f__law_pairs : Addr} {fd__law_pairs : FuncData} (D__law_pairs : Df K mg "_law_pairs" s__law_pairs [] f__law_pairs fd__law_pairs) (G__law_pairs : FnG P w K mg base 2 f__law_pairs fd__law_pairs [] (spM K cl 0 m__law_pairs))
    {f_turned : Addr} {fd_turned : FuncData} (D_turned : Df K mg "turned" s_turned ["stretch"] f_turned fd_turned) (G_turned : FnG P w K mg base 1 f_turned fd_turned ["stretch"] (spM K cl 1 m_turned))
    (B : Bn mg)
    (hm : lawMeans) : FnG P w K mg base 7 f fd ["_law_script"] (spLaw K) := by
  refine fnLaw (cl := cl) (i := 1) (n := 13) (N := ["_law_script", "_law_bag_here", "_law_turn", "_law_stretch_here", "_law_length", "_law_k", "_law_odd_here", "_law_due", "_law_again", "_law_size", "_law_before", "_law_found", "_law_left", "_law_right"]) (m := bd_law) F sc_law rfl rfl (fun cdv A outer s H E hr => ⟨_, pss_cons (ps_set (i := 1) sc_law.nd rfl (by first | exact Or.inl rfl | exact Or.inr rfl) (pe_callG G__law_bag (hr.mono (by decide)) (by rfl) D__law_bag.mg D__law_bag.kp D__law_bag.b (takes_of rfl rfl rfl rfl) (pa_cons (pv 0) pa_nil)))
    (pss_cons (ps_for (passes_of rfl) rfl (pi_range1 (by rfl) B.b_range (pa_cons (pe_int) pa_nil)) (pg_name (i := 2) sc_law.nd rfl (by first | exact Or.inl rfl | exact Or.inr rfl)) (pss_cons (ps_set (i := 3) sc_law.nd rfl (by first | exact Or.inl rfl | exact Or.inr rfl) (pe_callG G__law_stretch (hr.mono (by decide)) (by rfl) D__law_stretch.mg D__law_stretch.kp D__law_stretch.b (takes_of rfl rfl rfl rfl) (pa_cons (pv 1) (pa_cons (pe_ix (r := rIx K) ix_seq (pe_lst (pa_cons (pe_int) (pa_cons (pe_int) (pa_cons (pe_int) (pa_nil))))) (pe_callG G__law_take (hr.mono (by decide)) (by rfl) D__law_take.mg D__law_take.kp D__law_take.b (takes_of rfl rfl rfl rfl) (pa_cons (pv 1) (pa_cons (pe_int) (pa_nil)))) (fun _ _ => rfl)) (pa_nil)))))
    (pss_cons (ps_set (i := 4) sc_law.nd rfl (by first | exact Or.inl rfl | exact Or.inr rfl) (pe_ix (r := rIx K) ix_seq (pv 3) (pe_int) (fun _ _ => rfl)))
    (pss_cons (ps_for (passes_of rfl) rfl (pi_range1 (by rfl) B.b_range (pa_cons (pe_int) pa_nil)) (pg_name (i := 5) sc_law.nd rfl (by first | exact Or.inl rfl | exact Or.inr rfl)) (pss_cons (ps_set (i := 9) sc_law.nd rfl (by first | exact Or.inl rfl | exact Or.inr rfl) (pe_op (r := rAddU K) op_addU (pe_int) (pe_callG G__law_take (hr.mono (by decide)) (by rfl) D__law_take.mg D__law_take.kp D__law_take.b (takes_of rfl rfl rfl rfl) (pa_cons (pv 1) (pa_cons (pe_int) (pa_nil))))))
    (pss_cons (ps_set (i := 10) sc_law.nd rfl (by first | exact Or.inl rfl | exact Or.inr rfl) (pe_ix (r := rIx K) ix_seq (pe_lst (pa_cons (pe_int) (pa_cons (pe_op op_sub (pv 4) (pv 9)) (pa_cons (pe_op (r := rAddU K) op_addU (pe_op op_sub (pv 4) (pv 9)) (pe_int)) (pa_cons (pe_callG G__law_take (hr.mono (by decide)) (by rfl) D__law_take.mg D__law_take.kp D__law_take.b (takes_of rfl rfl rfl rfl) (pa_cons (pv 1) (pa_cons (pe_op (r := rAddU K) op_addU (pv 4) (pe_int)) (pa_nil)))) (pa_cons (pe_un un_neg (pe_int)) (pa_nil))))))) (pe_callG G__law_take (hr.mono (by decide)) (by rfl) D__law_take.mg D__law_take.kp D__law_take.b (takes_of rfl rfl rfl rfl) (pa_cons (pv 1) (pa_cons (pe_int) (pa_nil)))) (fun _ _ => rfl)))
    (pss_one (ps_if (pt_not (pt_val (pe_callG G__law_pair_right (hr.mono (by decide)) (by rfl) D__law_pair_right.mg D__law_pair_right.kp D__law_pair_right.b (takes_of rfl rfl rfl rfl) (pa_cons (pv 3) (pa_cons (pv 9) (pa_cons (pv 10) (pa_nil))))))) (pss_one (ps_ret (pe_bl))) (pss_nil))))))
    (pss_cons (ps_for (passes_of rfl) rfl (pi_seqK (K := K) (pe_tup (pa_cons (pe_callG G__law_odd (hr.mono (by decide)) (by rfl) D__law_odd.mg D__law_odd.kp D__law_odd.b (takes_of rfl rfl rfl rfl) (pa_cons (pv 1) (pa_nil))) (pa_cons (pe_callG G__law_odd (hr.mono (by decide)) (by rfl) D__law_odd.mg D__law_odd.kp D__law_odd.b (takes_of rfl rfl rfl rfl) (pa_cons (pv 1) (pa_nil))) (pa_nil))))) (pg_name (i := 6) sc_law.nd rfl (by first | exact Or.inl rfl | exact Or.inr rfl)) (pss_cons (ps_if (PW.pt (pw_or (pt_not (pt_val (pe_callG G__law_pair_right (hr.mono (by decide)) (by rfl) D__law_pair_right.mg D__law_pair_right.kp D__law_pair_right.b (takes_of rfl rfl rfl rfl) (pa_cons (pv 3) (pa_cons (pv 6) (pa_cons (pe_int) (pa_nil))))))) (pw_or1 (pt_not (pt_val (pe_callG G__law_pair_right (hr.mono (by decide)) (by rfl) D__law_pair_right.mg D__law_pair_right.kp D__law_pair_right.b (takes_of rfl rfl rfl rfl) (pa_cons (pv 3) (pa_cons (pe_int) (pa_cons (pv 6) (pa_nil)))))))))) (pss_one (ps_ret (pe_bl))) (pss_nil))
    (pss_one (ps_if (pt_not (pt_val (pe_callG G__law_pair_right (hr.mono (by decide)) (by rfl) D__law_pair_right.mg D__law_pair_right.kp D__law_pair_right.b (takes_of rfl rfl rfl rfl) (pa_cons (pv 3) (pa_cons (pv 6) (pa_cons (pe_callG G__law_odd (hr.mono (by decide)) (by rfl) D__law_odd.mg D__law_odd.kp D__law_odd.b (takes_of rfl rfl rfl rfl) (pa_cons (pv 1) (pa_nil))) (pa_nil))))))) (pss_one (ps_ret (pe_bl))) (pss_nil)))))
    (pss_cons (ps_if (PW.pt (pw_or (pt_not (pt_val (pe_callG G__law_alike (hr.mono (by decide)) (by rfl) D__law_alike.mg D__law_alike.kp D__law_alike.b (takes_of rfl rfl rfl rfl) (pa_cons (pe_callG G_turned (hr.mono (by decide)) (by rfl) D_turned.mg D_turned.kp D_turned.b (takes_of rfl rfl rfl rfl) (pa_cons (pv 3) (pa_nil))) (pa_cons (pe_revTK (K := K) (pv 3)) (pa_nil)))))) (pw_or1 (pt_not (pt_val (pe_callG G__law_alike (hr.mono (by decide)) (by rfl) D__law_alike.mg D__law_alike.kp D__law_alike.b (takes_of rfl rfl rfl rfl) (pa_cons (pe_callG G_turned (hr.mono (by decide)) (by rfl) D_turned.mg D_turned.kp D_turned.b (takes_of rfl rfl rfl rfl) (pa_cons (pe_callG G_turned (hr.mono (by decide)) (by rfl) D_turned.mg D_turned.kp D_turned.b (takes_of rfl rfl rfl rfl) (pa_cons (pv 3) (pa_nil))) (pa_nil))) (pa_cons (pv 3) (pa_nil))))))))) (pss_one (ps_ret (pe_bl))) (pss_nil))
    (pss_cons (ps_setLc (i := 7) rfl sc_law.nd rfl rfl (sw_true rfl rfl rfl (by decide +kernel)) (pi_seqK (K := K) (pe_callG0 G__law_pairs (hr.mono (by decide)) (by rfl) D__law_pairs.mg D__law_pairs.kp D__law_pairs.b (takes_of rfl rfl rfl rfl))) (blkOk_by (N := ["_law_script", "_law_bag_here", "_law_turn", "_law_stretch_here", "_law_length", "_law_k", "_law_odd_here", "_law_due", "_law_again", "_law_size", "_law_before", "_law_found", "_law_left", "_law_right"]) (sc := defScope s_law) (own := [("_law_left", 12), ("_law_right", 13)]) (by decide +kernel)) (fun _ _ _ _ _ => pg_tupK (K := K) (n := 2) rfl (pgs_cons (pg_name (i := 12) sc_law.nd rfl (by first | exact Or.inl rfl | exact Or.inr rfl)) (pgs_cons (pg_name (i := 13) sc_law.nd rfl (by first | exact Or.inl rfl | exact Or.inr rfl)) (pgs_nil)))) (fun _ _ _ _ _ => pts_nil) (fun _ _ _ _ _ => pe_tup (pa_cons (pv 12) (pa_cons (pv 4) (pa_cons (pv 13) (pa_nil))))))
    (pss_one (ps_for (passes_of rfl) rfl (pi_range1 (by rfl) B.b_range (pa_cons (pe_int) pa_nil)) (pg_name (i := 8) sc_law.nd rfl (by first | exact Or.inl rfl | exact Or.inr rfl)) (pss_cons (ps_set (i := 11) sc_law.nd rfl (by first | exact Or.inl rfl | exact Or.inr rfl) (pe_callG G_wholes (hr.mono (by decide)) (by rfl) D_wholes.mg D_wholes.kp D_wholes.b (takes_of rfl rfl rfl rfl) (pa_cons (pv 4) (pa_nil))))
    (pss_cons (ps_if (pt_not (pt_val (pe_callG G__law_alike (hr.mono (by decide)) (by rfl) D__law_alike.mg D__law_alike.kp D__law_alike.b (takes_of rfl rfl rfl rfl) (pa_cons (pv 11) (pa_cons (pv 7) (pa_nil)))))) (pss_one (ps_ret (pe_bl))) (pss_nil))
    (pss_one (ps_expr (pe_bm PySem.F.plainAttrs_list PySem.F.slot_list_append PySem.F.type_list_append mt_append (pv 11) (pa_cons (pe_non) pa_nil)))))))))))))))
    (pss_one (ps_ret (pe_bl)))), ?_⟩) hm (by decide)
  exact as_seq (as_for (ai_range1 (ae_c fun _ _ _ => .int _)) (ag_name) (as_seq (as_set (ae_call (aa_cons (ae_var) (aa_cons (ae_2 (ae_lst (aa_cons (ae_c fun _ _ _ => .int _) (aa_cons (ae_c fun _ _ _ => .int _) (aa_cons (ae_c fun _ _ _ => .int _) (aa_nil))))) (ae_call (aa_cons (ae_var) (aa_cons (ae_c fun _ _ _ => .int _) (aa_nil)))) r2_ix) (aa_nil)))))
    (as_seq (as_set (ae_2 (ae_var) (ae_c fun _ _ _ => .int _) r2_ix))
    (as_seq (as_for (ai_range1 (ae_c fun _ _ _ => .int _)) (ag_name) (as_seq (as_set (ae_2 (ae_c fun _ _ _ => .int _) (ae_call (aa_cons (ae_var) (aa_cons (ae_c fun _ _ _ => .int _) (aa_nil)))) r2_add))
    (as_seq (as_set (ae_2 (ae_lst (aa_cons (ae_c fun _ _ _ => .int _) (aa_cons (ae_2 (ae_var) (ae_var) r2_sub) (aa_cons (ae_2 (ae_2 (ae_var) (ae_var) r2_sub) (ae_c fun _ _ _ => .int _) r2_add) (aa_cons (ae_call (aa_cons (ae_var) (aa_cons (ae_2 (ae_var) (ae_c fun _ _ _ => .int _) r2_add) (aa_nil)))) (aa_cons (ae_neg (ae_c fun _ _ _ => .int _)) (aa_nil))))))) (ae_call (aa_cons (ae_var) (aa_cons (ae_c fun _ _ _ => .int _) (aa_nil)))) r2_ix))
    (as_if (ab_not (ab_ofB (ae_call (aa_cons (ae_var) (aa_cons (ae_var) (aa_cons (ae_var) (aa_nil))))))) (as_ret (ae_c fun _ _ _ => .bl _)) (as_next)))))
    (as_seq (as_for (ai_seq (ae_tup (aa_cons (ae_call (aa_cons (ae_var) (aa_nil))) (aa_cons (ae_call (aa_cons (ae_var) (aa_nil))) (aa_nil))))) (ag_name) (as_seq (as_if (ab_or (ab_not (ab_ofB (ae_call (aa_cons (ae_var) (aa_cons (ae_var) (aa_cons (ae_c fun _ _ _ => .int _) (aa_nil))))))) (ab_not (ab_ofB (ae_call (aa_cons (ae_var) (aa_cons (ae_c fun _ _ _ => .int _) (aa_cons (ae_var) (aa_nil)))))))) (as_ret (ae_c fun _ _ _ => .bl _)) (as_next))
    (as_if (ab_not (ab_ofB (ae_call (aa_cons (ae_var) (aa_cons (ae_var) (aa_cons (ae_call (aa_cons (ae_var) (aa_nil))) (aa_nil))))))) (as_ret (ae_c fun _ _ _ => .bl _)) (as_next))))
    (as_seq (as_if (ab_or (ab_not (ab_ofB (ae_call (aa_cons (ae_call (aa_cons (ae_var) (aa_nil))) (aa_cons (ae_revT (ae_var)) (aa_nil)))))) (ab_not (ab_ofB (ae_call (aa_cons (ae_call (aa_cons (ae_call (aa_cons (ae_var) (aa_nil))) (aa_nil))) (aa_cons (ae_var) (aa_nil))))))) (as_ret (ae_c fun _ _ _ => .bl _)) (as_next))
    (as_seq (as_set (ae_lc (ai_seq (ae_call aa_nil)) (ag_tup (ags_cons (ag_name) (ags_cons (ag_name) (ags_nil)))) (ab_yes) (ae_tup (aa_cons (ae_var) (aa_cons (ae_var) (aa_cons (ae_var) (aa_nil))))) (by decide)))
    (as_for (ai_range1 (ae_c fun _ _ _ => .int _)) (ag_name) (as_seq (as_setO (ae_call (aa_cons (ae_var) (aa_nil))))
    (as_seq (as_if (ab_not (ab_ofB (ae_callB (aa_cons (ae_var) (aa_cons (ae_var) (aa_nil)))))) (as_ret (ae_c fun _ _ _ => .bl _)) (as_next))
    (as_app (ae_c fun _ _ _ => .non))))))))))))
    (as_ret (ae_c fun _ _ _ => .bl _))
end
end K12

set_option Elab.async false
set_option linter.all false
set_option maxRecDepth 100000
set_option maxHeartbeats 8000000
namespace K12
open PySem PySem.Spec PyProof.Rows L2 Vi

def nobj : D → Bool
  | .obj _ _ => false
  | _ => true
def isInt : D → Bool
  | .int _ => true
  | _ => false
def isNum : D → Bool
  | .int i => decide (0 ≤ i)
  | _ => false
def isSz : D → Bool
  | .int i => decide (1 ≤ i) && decide (i ≤ 5)
  | _ => false
theorem m_int {d : D} (h : nobj d = true) : m_is_integer [.val d] = mret (.val (.bl (isInt d))) := by
  cases d <;> first | rfl | cases h
theorem m_wint {d : D} (h : nobj d = true) : m__law_is_whole_number [.val d] = mret (.val (.bl (isInt d))) := m_int h
theorem m_num {d : D} (h : nobj d = true) : m_is_number [.val d] = mret (.val (.bl (isNum d))) := by
  cases d <;> first | rfl | cases h
theorem m_wnum {d : D} (h : nobj d = true) : m__law_is_number [.val d] = mret (.val (.bl (isNum d))) := m_num h
theorem m_sz {d : D} (h : nobj d = true) : m_is_size [.val d] = mret (.val (.bl (isSz d))) := by
  cases d with
  | int i =>
    have e := m_int (d := .int i) rfl
    simp only [q_ret, q_no, q_er, q_of, q_of0, q_next, q_seq, q_seq1, q_seq2, q_seq3, q_retS, q_set, q_asg, q_if, q_k, q_kB, q_ke, q_raise, q_body, q_b1, q_b2, q_b3, startD, rK, setK, asgK, EV.keep, EV.look, eAnd, eOr, eNot, eIf, _root_.Vi.e1, _root_.Vi.e2, eB1, eC, bOf, bNot, bAnd, bOr, eCall, aCons, aNil, argsOf, argOf, eVar, SV.ev, AV.sv, mI, mLe, mGe, mLt, mGt, mSub, mAdd, mL2, addD, mIx, ixD, eChain, eTup, eLst, keepL, dTup, dCons, dNil, dName, Option.map, Option.bind, List.map, List.length, List.replicate, List.append, List.cons_append, List.nil_append, List.getElem?_cons_zero, List.getElem?_cons_succ, List.set, Nat.sub_self, Nat.reduceAdd, Nat.reduceSub, Nat.reduceEqDiff, if_true, reduceIte, List.set_cons_zero, List.set_cons_succ, m_is_size, bd_is_size, e, isInt, isSz]
    by_cases h1 : 1 ≤ i
    · simp [h1]; simp only [q_ret, q_no, q_er, q_of, q_of0, q_next, q_seq, q_seq1, q_seq2, q_seq3, q_retS, q_set, q_asg, q_if, q_k, q_kB, q_ke, q_raise, q_body, q_b1, q_b2, q_b3, startD, rK, setK, asgK, EV.keep, EV.look, eAnd, eOr, eNot, eIf, _root_.Vi.e1, _root_.Vi.e2, eB1, eC, bOf, bNot, bAnd, bOr, eCall, aCons, aNil, argsOf, argOf, eVar, SV.ev, AV.sv, mI, mLe, mGe, mLt, mGt, mSub, mAdd, mL2, addD, mIx, ixD, eChain, eTup, eLst, keepL, dTup, dCons, dNil, dName, Option.map, Option.bind, List.map, List.length, List.replicate, List.append, List.cons_append, List.nil_append, List.getElem?_cons_zero, List.getElem?_cons_succ, List.set, Nat.sub_self, Nat.reduceAdd, Nat.reduceSub, Nat.reduceEqDiff, if_true, reduceIte, List.set_cons_zero, List.set_cons_succ]
    · simp [h1]; simp only [q_ret, q_no, q_er, q_of, q_of0, q_next, q_seq, q_seq1, q_seq2, q_seq3, q_retS, q_set, q_asg, q_if, q_k, q_kB, q_ke, q_raise, q_body, q_b1, q_b2, q_b3, startD, rK, setK, asgK, EV.keep, EV.look, eAnd, eOr, eNot, eIf, _root_.Vi.e1, _root_.Vi.e2, eB1, eC, bOf, bNot, bAnd, bOr, eCall, aCons, aNil, argsOf, argOf, eVar, SV.ev, AV.sv, mI, mLe, mGe, mLt, mGt, mSub, mAdd, mL2, addD, mIx, ixD, eChain, eTup, eLst, keepL, dTup, dCons, dNil, dName, Option.map, Option.bind, List.map, List.length, List.replicate, List.append, List.cons_append, List.nil_append, List.getElem?_cons_zero, List.getElem?_cons_succ, List.set, Nat.sub_self, Nat.reduceAdd, Nat.reduceSub, Nat.reduceEqDiff, if_true, reduceIte, List.set_cons_zero, List.set_cons_succ]
  | obj c fs => cases h
  | _ => rfl
theorem m_wsz {d : D} (h : nobj d = true) : m__law_is_size_number [.val d] = mret (.val (.bl (isSz d))) := by
  cases d with
  | int i =>
    have e := m_wint (d := .int i) rfl
    simp only [q_ret, q_no, q_er, q_of, q_of0, q_next, q_seq, q_seq1, q_seq2, q_seq3, q_retS, q_set, q_asg, q_if, q_k, q_kB, q_ke, q_raise, q_body, q_b1, q_b2, q_b3, startD, rK, setK, asgK, EV.keep, EV.look, eAnd, eOr, eNot, eIf, _root_.Vi.e1, _root_.Vi.e2, eB1, eC, bOf, bNot, bAnd, bOr, eCall, aCons, aNil, argsOf, argOf, eVar, SV.ev, AV.sv, mI, mLe, mGe, mLt, mGt, mSub, mAdd, mL2, addD, mIx, ixD, eChain, eTup, eLst, keepL, dTup, dCons, dNil, dName, Option.map, Option.bind, List.map, List.length, List.replicate, List.append, List.cons_append, List.nil_append, List.getElem?_cons_zero, List.getElem?_cons_succ, List.set, Nat.sub_self, Nat.reduceAdd, Nat.reduceSub, Nat.reduceEqDiff, if_true, reduceIte, List.set_cons_zero, List.set_cons_succ, m__law_is_size_number, bd__law_is_size_number, e, isInt, isSz]
    by_cases h1 : 1 ≤ i
    · have : (i < 6) ↔ (i ≤ 5) := by omega
      simp [h1, show 0 < i by omega, this]; simp only [q_ret, q_no, q_er, q_of, q_of0, q_next, q_seq, q_seq1, q_seq2, q_seq3, q_retS, q_set, q_asg, q_if, q_k, q_kB, q_ke, q_raise, q_body, q_b1, q_b2, q_b3, startD, rK, setK, asgK, EV.keep, EV.look, eAnd, eOr, eNot, eIf, _root_.Vi.e1, _root_.Vi.e2, eB1, eC, bOf, bNot, bAnd, bOr, eCall, aCons, aNil, argsOf, argOf, eVar, SV.ev, AV.sv, mI, mLe, mGe, mLt, mGt, mSub, mAdd, mL2, addD, mIx, ixD, eChain, eTup, eLst, keepL, dTup, dCons, dNil, dName, Option.map, Option.bind, List.map, List.length, List.replicate, List.append, List.cons_append, List.nil_append, List.getElem?_cons_zero, List.getElem?_cons_succ, List.set, Nat.sub_self, Nat.reduceAdd, Nat.reduceSub, Nat.reduceEqDiff, if_true, reduceIte, List.set_cons_zero, List.set_cons_succ]
    · simp [h1, show ¬ 0 < i by omega]; simp only [q_ret, q_no, q_er, q_of, q_of0, q_next, q_seq, q_seq1, q_seq2, q_seq3, q_retS, q_set, q_asg, q_if, q_k, q_kB, q_ke, q_raise, q_body, q_b1, q_b2, q_b3, startD, rK, setK, asgK, EV.keep, EV.look, eAnd, eOr, eNot, eIf, _root_.Vi.e1, _root_.Vi.e2, eB1, eC, bOf, bNot, bAnd, bOr, eCall, aCons, aNil, argsOf, argOf, eVar, SV.ev, AV.sv, mI, mLe, mGe, mLt, mGt, mSub, mAdd, mL2, addD, mIx, ixD, eChain, eTup, eLst, keepL, dTup, dCons, dNil, dName, Option.map, Option.bind, List.map, List.length, List.replicate, List.append, List.cons_append, List.nil_append, List.getElem?_cons_zero, List.getElem?_cons_succ, List.set, Nat.sub_self, Nat.reduceAdd, Nat.reduceSub, Nat.reduceEqDiff, if_true, reduceIte, List.set_cons_zero, List.set_cons_succ]
  | obj c fs => cases h
  | _ => rfl
def fitsD (n : Int) : D → D → Bool
  | .int s, .int b => decide (1 ≤ s) && decide (s ≤ 5) && decide (0 ≤ b) && decide (s + b ≤ n)
  | _, _ => false
abbrev stD (l : D) (n : Int) (r : D) : D := .tup [l, .int n, r]
theorem at1 {l r : D} {n : Int} : atI [l, .int n, r] 1 = some (.int n) := rfl
theorem m_fit {l r s b : D} {n : Int} (hs : nobj s = true) (hb : nobj b = true) : m_fits [.val (stD l n r), .val s, .val b] = mret (.val (.bl (fitsD n s b))) := by
  have e1 := m_sz hs
  have e2 := m_num hb
  simp only [q_ret, q_no, q_er, q_of, q_of0, q_next, q_seq, q_seq1, q_seq2, q_seq3, q_retS, q_set, q_asg, q_if, q_k, q_kB, q_ke, q_raise, q_body, q_b1, q_b2, q_b3, startD, rK, setK, asgK, EV.keep, EV.look, eAnd, eOr, eNot, eIf, _root_.Vi.e1, _root_.Vi.e2, eB1, eC, bOf, bNot, bAnd, bOr, eCall, aCons, aNil, argsOf, argOf, eVar, SV.ev, AV.sv, mI, mLe, mGe, mLt, mGt, mSub, mAdd, mL2, addD, mIx, ixD, eChain, eTup, eLst, keepL, dTup, dCons, dNil, dName, Option.map, Option.bind, List.map, List.length, List.replicate, List.append, List.cons_append, List.nil_append, List.getElem?_cons_zero, List.getElem?_cons_succ, List.set, Nat.sub_self, Nat.reduceAdd, Nat.reduceSub, Nat.reduceEqDiff, if_true, reduceIte, List.set_cons_zero, List.set_cons_succ, m_fits, bd_fits, e1]
  cases s with
  | int s =>
    simp only [q_ret, q_no, q_er, q_of, q_of0, q_next, q_seq, q_seq1, q_seq2, q_seq3, q_retS, q_set, q_asg, q_if, q_k, q_kB, q_ke, q_raise, q_body, q_b1, q_b2, q_b3, startD, rK, setK, asgK, EV.keep, EV.look, eAnd, eOr, eNot, eIf, _root_.Vi.e1, _root_.Vi.e2, eB1, eC, bOf, bNot, bAnd, bOr, eCall, aCons, aNil, argsOf, argOf, eVar, SV.ev, AV.sv, mI, mLe, mGe, mLt, mGt, mSub, mAdd, mL2, addD, mIx, ixD, eChain, eTup, eLst, keepL, dTup, dCons, dNil, dName, Option.map, Option.bind, List.map, List.length, List.replicate, List.append, List.cons_append, List.nil_append, List.getElem?_cons_zero, List.getElem?_cons_succ, List.set, Nat.sub_self, Nat.reduceAdd, Nat.reduceSub, Nat.reduceEqDiff, if_true, reduceIte, List.set_cons_zero, List.set_cons_succ, isSz]
    by_cases h1 : 1 ≤ s ∧ s ≤ 5
    · simp only [q_ret, q_no, q_er, q_of, q_of0, q_next, q_seq, q_seq1, q_seq2, q_seq3, q_retS, q_set, q_asg, q_if, q_k, q_kB, q_ke, q_raise, q_body, q_b1, q_b2, q_b3, startD, rK, setK, asgK, EV.keep, EV.look, eAnd, eOr, eNot, eIf, _root_.Vi.e1, _root_.Vi.e2, eB1, eC, bOf, bNot, bAnd, bOr, eCall, aCons, aNil, argsOf, argOf, eVar, SV.ev, AV.sv, mI, mLe, mGe, mLt, mGt, mSub, mAdd, mL2, addD, mIx, ixD, eChain, eTup, eLst, keepL, dTup, dCons, dNil, dName, Option.map, Option.bind, List.map, List.length, List.replicate, List.append, List.cons_append, List.nil_append, List.getElem?_cons_zero, List.getElem?_cons_succ, List.set, Nat.sub_self, Nat.reduceAdd, Nat.reduceSub, Nat.reduceEqDiff, if_true, reduceIte, List.set_cons_zero, List.set_cons_succ, h1.1, h1.2, decide_true, Bool.and_self, e2]
      cases b with
      | int b =>
        by_cases h2 : 0 ≤ b
        · simp only [q_ret, q_no, q_er, q_of, q_of0, q_next, q_seq, q_seq1, q_seq2, q_seq3, q_retS, q_set, q_asg, q_if, q_k, q_kB, q_ke, q_raise, q_body, q_b1, q_b2, q_b3, startD, rK, setK, asgK, EV.keep, EV.look, eAnd, eOr, eNot, eIf, _root_.Vi.e1, _root_.Vi.e2, eB1, eC, bOf, bNot, bAnd, bOr, eCall, aCons, aNil, argsOf, argOf, eVar, SV.ev, AV.sv, mI, mLe, mGe, mLt, mGt, mSub, mAdd, mL2, addD, mIx, ixD, eChain, eTup, eLst, keepL, dTup, dCons, dNil, dName, Option.map, Option.bind, List.map, List.length, List.replicate, List.append, List.cons_append, List.nil_append, List.getElem?_cons_zero, List.getElem?_cons_succ, List.set, Nat.sub_self, Nat.reduceAdd, Nat.reduceSub, Nat.reduceEqDiff, if_true, reduceIte, List.set_cons_zero, List.set_cons_succ, isNum, h2, decide_true, at1, fitsD, h1.1, h1.2, Bool.and_self, Bool.true_and]
        · simp only [q_ret, q_no, q_er, q_of, q_of0, q_next, q_seq, q_seq1, q_seq2, q_seq3, q_retS, q_set, q_asg, q_if, q_k, q_kB, q_ke, q_raise, q_body, q_b1, q_b2, q_b3, startD, rK, setK, asgK, EV.keep, EV.look, eAnd, eOr, eNot, eIf, _root_.Vi.e1, _root_.Vi.e2, eB1, eC, bOf, bNot, bAnd, bOr, eCall, aCons, aNil, argsOf, argOf, eVar, SV.ev, AV.sv, mI, mLe, mGe, mLt, mGt, mSub, mAdd, mL2, addD, mIx, ixD, eChain, eTup, eLst, keepL, dTup, dCons, dNil, dName, Option.map, Option.bind, List.map, List.length, List.replicate, List.append, List.cons_append, List.nil_append, List.getElem?_cons_zero, List.getElem?_cons_succ, List.set, Nat.sub_self, Nat.reduceAdd, Nat.reduceSub, Nat.reduceEqDiff, if_true, reduceIte, List.set_cons_zero, List.set_cons_succ, isNum, fitsD]
          simp [h2]
          simp only [q_ret, q_no, q_er, q_of, q_of0, q_next, q_seq, q_seq1, q_seq2, q_seq3, q_retS, q_set, q_asg, q_if, q_k, q_kB, q_ke, q_raise, q_body, q_b1, q_b2, q_b3, startD, rK, setK, asgK, EV.keep, EV.look, eAnd, eOr, eNot, eIf, _root_.Vi.e1, _root_.Vi.e2, eB1, eC, bOf, bNot, bAnd, bOr, eCall, aCons, aNil, argsOf, argOf, eVar, SV.ev, AV.sv, mI, mLe, mGe, mLt, mGt, mSub, mAdd, mL2, addD, mIx, ixD, eChain, eTup, eLst, keepL, dTup, dCons, dNil, dName, Option.map, Option.bind, List.map, List.length, List.replicate, List.append, List.cons_append, List.nil_append, List.getElem?_cons_zero, List.getElem?_cons_succ, List.set, Nat.sub_self, Nat.reduceAdd, Nat.reduceSub, Nat.reduceEqDiff, if_true, reduceIte, List.set_cons_zero, List.set_cons_succ]
      | _ => simp only [q_ret, q_no, q_er, q_of, q_of0, q_next, q_seq, q_seq1, q_seq2, q_seq3, q_retS, q_set, q_asg, q_if, q_k, q_kB, q_ke, q_raise, q_body, q_b1, q_b2, q_b3, startD, rK, setK, asgK, EV.keep, EV.look, eAnd, eOr, eNot, eIf, _root_.Vi.e1, _root_.Vi.e2, eB1, eC, bOf, bNot, bAnd, bOr, eCall, aCons, aNil, argsOf, argOf, eVar, SV.ev, AV.sv, mI, mLe, mGe, mLt, mGt, mSub, mAdd, mL2, addD, mIx, ixD, eChain, eTup, eLst, keepL, dTup, dCons, dNil, dName, Option.map, Option.bind, List.map, List.length, List.replicate, List.append, List.cons_append, List.nil_append, List.getElem?_cons_zero, List.getElem?_cons_succ, List.set, Nat.sub_self, Nat.reduceAdd, Nat.reduceSub, Nat.reduceEqDiff, if_true, reduceIte, List.set_cons_zero, List.set_cons_succ, isNum, fitsD] ; simp; simp only [q_ret, q_no, q_er, q_of, q_of0, q_next, q_seq, q_seq1, q_seq2, q_seq3, q_retS, q_set, q_asg, q_if, q_k, q_kB, q_ke, q_raise, q_body, q_b1, q_b2, q_b3, startD, rK, setK, asgK, EV.keep, EV.look, eAnd, eOr, eNot, eIf, _root_.Vi.e1, _root_.Vi.e2, eB1, eC, bOf, bNot, bAnd, bOr, eCall, aCons, aNil, argsOf, argOf, eVar, SV.ev, AV.sv, mI, mLe, mGe, mLt, mGt, mSub, mAdd, mL2, addD, mIx, ixD, eChain, eTup, eLst, keepL, dTup, dCons, dNil, dName, Option.map, Option.bind, List.map, List.length, List.replicate, List.append, List.cons_append, List.nil_append, List.getElem?_cons_zero, List.getElem?_cons_succ, List.set, Nat.sub_self, Nat.reduceAdd, Nat.reduceSub, Nat.reduceEqDiff, if_true, reduceIte, List.set_cons_zero, List.set_cons_succ]
    · have h1' : (decide (1 ≤ s) && decide (s ≤ 5)) = false := by simpa using fun a => Int.not_le.mp fun z => h1 ⟨a, z⟩
      simp only [q_ret, q_no, q_er, q_of, q_of0, q_next, q_seq, q_seq1, q_seq2, q_seq3, q_retS, q_set, q_asg, q_if, q_k, q_kB, q_ke, q_raise, q_body, q_b1, q_b2, q_b3, startD, rK, setK, asgK, EV.keep, EV.look, eAnd, eOr, eNot, eIf, _root_.Vi.e1, _root_.Vi.e2, eB1, eC, bOf, bNot, bAnd, bOr, eCall, aCons, aNil, argsOf, argOf, eVar, SV.ev, AV.sv, mI, mLe, mGe, mLt, mGt, mSub, mAdd, mL2, addD, mIx, ixD, eChain, eTup, eLst, keepL, dTup, dCons, dNil, dName, Option.map, Option.bind, List.map, List.length, List.replicate, List.append, List.cons_append, List.nil_append, List.getElem?_cons_zero, List.getElem?_cons_succ, List.set, Nat.sub_self, Nat.reduceAdd, Nat.reduceSub, Nat.reduceEqDiff, if_true, reduceIte, List.set_cons_zero, List.set_cons_succ, h1']
      cases b with
      | int b => simp only [q_ret, q_no, q_er, q_of, q_of0, q_next, q_seq, q_seq1, q_seq2, q_seq3, q_retS, q_set, q_asg, q_if, q_k, q_kB, q_ke, q_raise, q_body, q_b1, q_b2, q_b3, startD, rK, setK, asgK, EV.keep, EV.look, eAnd, eOr, eNot, eIf, _root_.Vi.e1, _root_.Vi.e2, eB1, eC, bOf, bNot, bAnd, bOr, eCall, aCons, aNil, argsOf, argOf, eVar, SV.ev, AV.sv, mI, mLe, mGe, mLt, mGt, mSub, mAdd, mL2, addD, mIx, ixD, eChain, eTup, eLst, keepL, dTup, dCons, dNil, dName, Option.map, Option.bind, List.map, List.length, List.replicate, List.append, List.cons_append, List.nil_append, List.getElem?_cons_zero, List.getElem?_cons_succ, List.set, Nat.sub_self, Nat.reduceAdd, Nat.reduceSub, Nat.reduceEqDiff, if_true, reduceIte, List.set_cons_zero, List.set_cons_succ, fitsD, h1', Bool.false_and]; simp; simp only [q_ret, q_no, q_er, q_of, q_of0, q_next, q_seq, q_seq1, q_seq2, q_seq3, q_retS, q_set, q_asg, q_if, q_k, q_kB, q_ke, q_raise, q_body, q_b1, q_b2, q_b3, startD, rK, setK, asgK, EV.keep, EV.look, eAnd, eOr, eNot, eIf, _root_.Vi.e1, _root_.Vi.e2, eB1, eC, bOf, bNot, bAnd, bOr, eCall, aCons, aNil, argsOf, argOf, eVar, SV.ev, AV.sv, mI, mLe, mGe, mLt, mGt, mSub, mAdd, mL2, addD, mIx, ixD, eChain, eTup, eLst, keepL, dTup, dCons, dNil, dName, Option.map, Option.bind, List.map, List.length, List.replicate, List.append, List.cons_append, List.nil_append, List.getElem?_cons_zero, List.getElem?_cons_succ, List.set, Nat.sub_self, Nat.reduceAdd, Nat.reduceSub, Nat.reduceEqDiff, if_true, reduceIte, List.set_cons_zero, List.set_cons_succ]
      | _ => simp only [q_ret, q_no, q_er, q_of, q_of0, q_next, q_seq, q_seq1, q_seq2, q_seq3, q_retS, q_set, q_asg, q_if, q_k, q_kB, q_ke, q_raise, q_body, q_b1, q_b2, q_b3, startD, rK, setK, asgK, EV.keep, EV.look, eAnd, eOr, eNot, eIf, _root_.Vi.e1, _root_.Vi.e2, eB1, eC, bOf, bNot, bAnd, bOr, eCall, aCons, aNil, argsOf, argOf, eVar, SV.ev, AV.sv, mI, mLe, mGe, mLt, mGt, mSub, mAdd, mL2, addD, mIx, ixD, eChain, eTup, eLst, keepL, dTup, dCons, dNil, dName, Option.map, Option.bind, List.map, List.length, List.replicate, List.append, List.cons_append, List.nil_append, List.getElem?_cons_zero, List.getElem?_cons_succ, List.set, Nat.sub_self, Nat.reduceAdd, Nat.reduceSub, Nat.reduceEqDiff, if_true, reduceIte, List.set_cons_zero, List.set_cons_succ, fitsD]; simp; simp only [q_ret, q_no, q_er, q_of, q_of0, q_next, q_seq, q_seq1, q_seq2, q_seq3, q_retS, q_set, q_asg, q_if, q_k, q_kB, q_ke, q_raise, q_body, q_b1, q_b2, q_b3, startD, rK, setK, asgK, EV.keep, EV.look, eAnd, eOr, eNot, eIf, _root_.Vi.e1, _root_.Vi.e2, eB1, eC, bOf, bNot, bAnd, bOr, eCall, aCons, aNil, argsOf, argOf, eVar, SV.ev, AV.sv, mI, mLe, mGe, mLt, mGt, mSub, mAdd, mL2, addD, mIx, ixD, eChain, eTup, eLst, keepL, dTup, dCons, dNil, dName, Option.map, Option.bind, List.map, List.length, List.replicate, List.append, List.cons_append, List.nil_append, List.getElem?_cons_zero, List.getElem?_cons_succ, List.set, Nat.sub_self, Nat.reduceAdd, Nat.reduceSub, Nat.reduceEqDiff, if_true, reduceIte, List.set_cons_zero, List.set_cons_succ]
  | _ => simp [isSz, fitsD]; simp only [q_ret, q_no, q_er, q_of, q_of0, q_next, q_seq, q_seq1, q_seq2, q_seq3, q_retS, q_set, q_asg, q_if, q_k, q_kB, q_ke, q_raise, q_body, q_b1, q_b2, q_b3, startD, rK, setK, asgK, EV.keep, EV.look, eAnd, eOr, eNot, eIf, _root_.Vi.e1, _root_.Vi.e2, eB1, eC, bOf, bNot, bAnd, bOr, eCall, aCons, aNil, argsOf, argOf, eVar, SV.ev, AV.sv, mI, mLe, mGe, mLt, mGt, mSub, mAdd, mL2, addD, mIx, ixD, eChain, eTup, eLst, keepL, dTup, dCons, dNil, dName, Option.map, Option.bind, List.map, List.length, List.replicate, List.append, List.cons_append, List.nil_append, List.getElem?_cons_zero, List.getElem?_cons_succ, List.set, Nat.sub_self, Nat.reduceAdd, Nat.reduceSub, Nat.reduceEqDiff, if_true, reduceIte, List.set_cons_zero, List.set_cons_succ]
/-- what is left beside a party -/
def partsD (l : D) (n s b : Int) (r : D) : D := .tup [.tup [l, .int b, .str "sold"], .tup [.str "sold", .int (n - s - b), r]]
theorem line3 : lineOk 3 = true := rfl
theorem line2 : lineOk 2 = true := rfl
theorem m_part {l r : D} {n s b : Int} (h : fitsD n (.int s) (.int b) = true) : m_parts [.val (stD l n r), .val (.int s), .val (.int b)] = mret (.val (partsD l n s b r)) := by
  have e := m_fit (l := l) (r := r) (s := .int s) (b := .int b) (n := n) rfl rfl
  simp only [q_ret, q_no, q_er, q_of, q_of0, q_next, q_seq, q_seq1, q_seq2, q_seq3, q_retS, q_set, q_asg, q_if, q_k, q_kB, q_ke, q_raise, q_body, q_b1, q_b2, q_b3, startD, rK, setK, asgK, EV.keep, EV.look, eAnd, eOr, eNot, eIf, _root_.Vi.e1, _root_.Vi.e2, eB1, eC, bOf, bNot, bAnd, bOr, eCall, aCons, aNil, argsOf, argOf, eVar, SV.ev, AV.sv, mI, mLe, mGe, mLt, mGt, mSub, mAdd, mL2, addD, mIx, ixD, eChain, eTup, eLst, keepL, dTup, dCons, dNil, dName, Option.map, Option.bind, List.map, List.length, List.replicate, List.append, List.cons_append, List.nil_append, List.getElem?_cons_zero, List.getElem?_cons_succ, List.set, Nat.sub_self, Nat.reduceAdd, Nat.reduceSub, Nat.reduceEqDiff, if_true, reduceIte, List.set_cons_zero, List.set_cons_succ, m_parts, bd_parts, e, h, Bool.not_true, Bool.false_eq_true, if_false, line3, line2]
  all_goals rfl
theorem m_partE {l r s b : D} {n : Int} (hs : nobj s = true) (hb : nobj b = true) (h : fitsD n s b = false) : m_parts [.val (stD l n r), .val s, .val b] = merr ⟨"NoChoice", []⟩ := by
  have e := m_fit (l := l) (r := r) (n := n) hs hb
  simp only [q_ret, q_no, q_er, q_of, q_of0, q_next, q_seq, q_seq1, q_seq2, q_seq3, q_retS, q_set, q_asg, q_if, q_k, q_kB, q_ke, q_raise, q_body, q_b1, q_b2, q_b3, startD, rK, setK, asgK, EV.keep, EV.look, eAnd, eOr, eNot, eIf, _root_.Vi.e1, _root_.Vi.e2, eB1, eC, bOf, bNot, bAnd, bOr, eCall, aCons, aNil, argsOf, argOf, eVar, SV.ev, AV.sv, mI, mLe, mGe, mLt, mGt, mSub, mAdd, mL2, addD, mIx, ixD, eChain, eTup, eLst, keepL, dTup, dCons, dNil, dName, Option.map, Option.bind, List.map, List.length, List.replicate, List.append, List.cons_append, List.nil_append, List.getElem?_cons_zero, List.getElem?_cons_succ, List.set, Nat.sub_self, Nat.reduceAdd, Nat.reduceSub, Nat.reduceEqDiff, if_true, reduceIte, List.set_cons_zero, List.set_cons_succ, m_parts, bd_parts, e, h, Bool.not_false]
theorem m_parted {l r : D} {n s b : Int} : m__law_parted [.val (stD l n r), .val (.int s), .val (.int b)] = mret (.val (partsD l n s b r)) := by
  simp only [q_ret, q_no, q_er, q_of, q_of0, q_next, q_seq, q_seq1, q_seq2, q_seq3, q_retS, q_set, q_asg, q_if, q_k, q_kB, q_ke, q_raise, q_body, q_b1, q_b2, q_b3, startD, rK, setK, asgK, EV.keep, EV.look, eAnd, eOr, eNot, eIf, _root_.Vi.e1, _root_.Vi.e2, eB1, eC, bOf, bNot, bAnd, bOr, eCall, aCons, aNil, argsOf, argOf, eVar, SV.ev, AV.sv, mI, mLe, mGe, mLt, mGt, mSub, mAdd, mL2, addD, mIx, ixD, eChain, eTup, eLst, keepL, dTup, dCons, dNil, dName, Option.map, Option.bind, List.map, List.length, List.replicate, List.append, List.cons_append, List.nil_append, List.getElem?_cons_zero, List.getElem?_cons_succ, List.set, Nat.sub_self, Nat.reduceAdd, Nat.reduceSub, Nat.reduceEqDiff, if_true, reduceIte, List.set_cons_zero, List.set_cons_succ, m__law_parted, bd__law_parted, line3, line2]
  all_goals rfl
theorem m_turn {l m r : D} : m_turned [.val (.tup [l, m, r])] = mret (.val (.tup [r, m, l])) := by
  simp only [q_ret, q_no, q_er, q_of, q_of0, q_next, q_seq, q_seq1, q_seq2, q_seq3, q_retS, q_set, q_asg, q_if, q_k, q_kB, q_ke, q_raise, q_body, q_b1, q_b2, q_b3, startD, rK, setK, asgK, EV.keep, EV.look, eAnd, eOr, eNot, eIf, _root_.Vi.e1, _root_.Vi.e2, eB1, eC, bOf, bNot, bAnd, bOr, eCall, aCons, aNil, argsOf, argOf, eVar, SV.ev, AV.sv, mI, mLe, mGe, mLt, mGt, mSub, mAdd, mL2, addD, mIx, ixD, eChain, eTup, eLst, keepL, dTup, dCons, dNil, dName, Option.map, Option.bind, List.map, List.length, List.replicate, List.append, List.cons_append, List.nil_append, List.getElem?_cons_zero, List.getElem?_cons_succ, List.set, Nat.sub_self, Nat.reduceAdd, Nat.reduceSub, Nat.reduceEqDiff, if_true, reduceIte, List.set_cons_zero, List.set_cons_succ, m_turned, bd_turned, line3]
  all_goals rfl
theorem m_hear {l r : D} {n s b : Int} (h : fitsD n (.int s) (.int b) = true) : m__law_heard [.val (stD l n r), .val (.int s), .val (.int b)] = mret (.val (.tup [.str "told", partsD l n s b r])) := by
  have e := m_part (l := l) (r := r) h
  funext g
  show mB (bd__law_heard _) g = _
  have e2 : bt__law_heard [some (.val (stD l n r)), some (.val (.int s)), some (.val (.int b)), none] = dret (.rt (.val (.tup [.str "told", partsD l n s b r]))) := by
    simp only [q_ret, q_no, q_er, q_of, q_of0, q_next, q_seq, q_seq1, q_seq2, q_seq3, q_retS, q_set, q_asg, q_if, q_k, q_kB, q_ke, q_raise, q_body, q_b1, q_b2, q_b3, startD, rK, setK, asgK, EV.keep, EV.look, eAnd, eOr, eNot, eIf, _root_.Vi.e1, _root_.Vi.e2, eB1, eC, bOf, bNot, bAnd, bOr, eCall, aCons, aNil, argsOf, argOf, eVar, SV.ev, AV.sv, mI, mLe, mGe, mLt, mGt, mSub, mAdd, mL2, addD, mIx, ixD, eChain, eTup, eLst, keepL, dTup, dCons, dNil, dName, Option.map, Option.bind, List.map, List.length, List.replicate, List.append, List.cons_append, List.nil_append, List.getElem?_cons_zero, List.getElem?_cons_succ, List.set, Nat.sub_self, Nat.reduceAdd, Nat.reduceSub, Nat.reduceEqDiff, if_true, reduceIte, List.set_cons_zero, List.set_cons_succ, bt__law_heard, e, line2]
  show mB (sTry bt__law_heard ha__law_heard mx__law_heard [some (.val (stD l n r)), some (.val (.int s)), some (.val (.int b)), none]) g = _
  unfold mB sTry
  rw [e2]
  rfl
theorem m_hearE {l r s b : D} {n : Int} (hs : nobj s = true) (hb : nobj b = true) (h : fitsD n s b = false) : m__law_heard [.val (stD l n r), .val s, .val b] = mret (.val (.tup [.str "none", .bl true])) := by
  have e := m_partE (l := l) (r := r) hs hb h
  funext g
  have e2 : bt__law_heard [some (.val (stD l n r)), some (.val s), some (.val b), none] = dret (.er [some (.val (stD l n r)), some (.val s), some (.val b), none] ⟨"NoChoice", []⟩) := by
    simp only [q_ret, q_no, q_er, q_of, q_of0, q_next, q_seq, q_seq1, q_seq2, q_seq3, q_retS, q_set, q_asg, q_if, q_k, q_kB, q_ke, q_raise, q_body, q_b1, q_b2, q_b3, startD, rK, setK, asgK, EV.keep, EV.look, eAnd, eOr, eNot, eIf, _root_.Vi.e1, _root_.Vi.e2, eB1, eC, bOf, bNot, bAnd, bOr, eCall, aCons, aNil, argsOf, argOf, eVar, SV.ev, AV.sv, mI, mLe, mGe, mLt, mGt, mSub, mAdd, mL2, addD, mIx, ixD, eChain, eTup, eLst, keepL, dTup, dCons, dNil, dName, Option.map, Option.bind, List.map, List.length, List.replicate, List.append, List.cons_append, List.nil_append, List.getElem?_cons_zero, List.getElem?_cons_succ, List.set, Nat.sub_self, Nat.reduceAdd, Nat.reduceSub, Nat.reduceEqDiff, if_true, reduceIte, List.set_cons_zero, List.set_cons_succ, bt__law_heard, e]
  show mB (sTry bt__law_heard ha__law_heard mx__law_heard [some (.val (stD l n r)), some (.val s), some (.val b), none]) g = _
  unfold mB sTry
  rw [e2]
  rfl
theorem m_alike {d : D} (h : alikeOk d = true) : m__law_alike [.val d, .val d] = mret (.val (.bl true)) := by
  funext g
  obtain ⟨a, g', e, rfl, rfl⟩ := ok_alike (g := g) (R := fun a g' => a = .val (.bl true) ∧ g' = g) h ⟨rfl, rfl⟩
  exact e
def isEnd (d : D) : Prop := d = .str "pillar" ∨ d = .str "sold" ∨ d = .str "wall"
theorem int_sm {i : Int} (h1 : 0 ≤ i) (h2 : i ≤ 400) : (decide (-999999999999 ≤ i) && decide (i ≤ 999999999999)) = true := by
  rw [decide_eq_true (show -999999999999 ≤ i by omega), decide_eq_true (show i ≤ 999999999999 by omega)]
  rfl
theorem sz_i {i : Int} (h1 : 0 ≤ i) (h2 : i ≤ 400) : szD (.int i) = some 13 := by
  unfold szD
  rw [int_sm h1 h2]
  rfl
theorem sz_end {d : D} (h : isEnd d) : ∃ k, szD d = some k ∧ k ≤ 62 ∧ dpD d = 0 := by
  rcases h with rfl | rfl | rfl
  · exact ⟨62, by decide +kernel, by decide, rfl⟩
  · exact ⟨42, by decide +kernel, by decide, rfl⟩
  · exact ⟨42, by decide +kernel, by decide, rfl⟩
theorem st_sz {l r : D} {n : Int} (hl : isEnd l) (hr : isEnd r) (h0 : 0 ≤ n) (h1 : n ≤ 400) : ∃ k, szD (stD l n r) = some k ∧ k ≤ 200 ∧ dpD (stD l n r) = 1 := by
  obtain ⟨k, a1, a2, a3⟩ := sz_end hl
  obtain ⟨k', b1, b2, b3⟩ := sz_end hr
  have e := sz_i h0 h1
  refine ⟨k + (13 + (k' + 0 + 2) + 2) + 2 + 3, ?_, by omega, ?_⟩
  · simp only [stD, szD, szL, a1, b1, int_sm h0 h1, if_true, Option.map]
  · simp [stD, dpD, dpL, a3, b3]
theorem st_al {l r : D} {n : Int} (hl : isEnd l) (hr : isEnd r) (h0 : 0 ≤ n) (h1 : n ≤ 400) : alikeOk (stD l n r) = true := by
  obtain ⟨k, a1, a2, a3⟩ := st_sz hl hr h0 h1
  unfold alikeOk lineOk
  rw [a1, a3]
  simp
  omega
theorem szL_c {d : D} {ds : List D} {m n : Nat} (h1 : szD d = some m) (h2 : szL ds = some n) : szL (d :: ds) = some (m + n + 2) := by
  unfold szL
  rw [h1, h2]
theorem szT {ds : List D} {m : Nat} (h : szL ds = some m) : szD (.tup ds) = some (m + 3) := by
  unfold szD
  rw [h]
  rfl
theorem pr_al {l r : D} {n s b : Int} (hl : isEnd l) (hr : isEnd r) (h1 : n ≤ 400) (h : fitsD n (.int s) (.int b) = true) : alikeOk (.tup [.str "told", partsD l n s b r]) = true := by
  have h' : ((1 ≤ s ∧ s ≤ 5) ∧ 0 ≤ b) ∧ s + b ≤ n := by simpa [fitsD] using h
  obtain ⟨k, a1, a2, a3⟩ := st_sz (n := b) hl (Or.inr (Or.inl rfl) : isEnd (.str "sold")) (by omega) (by omega)
  obtain ⟨k', b1, b2, b3⟩ := st_sz (n := n - s - b) (Or.inr (Or.inl rfl) : isEnd (.str "sold")) hr (by omega) (by omega)
  have e0 : szD (.str "told") = some 42 := by decide +kernel
  have e : szD (.tup [.str "told", partsD l n s b r]) = some _ := szT (szL_c e0 (szL_c (szT (szL_c a1 (szL_c b1 rfl))) rfl))
  have ed : dpD (.tup [.str "told", partsD l n s b r]) = 3 := by
    show max 0 (max (max (dpD (stD l b (.str "sold"))) (max (dpD (stD (.str "sold") (n - s - b) r)) 0) + 1) 0) + 1 = 3
    rw [a3, b3]
    rfl
  unfold alikeOk lineOk
  rw [e, ed]
  simp
  omega
theorem m_pair {l r s b : D} {n : Int} (hs : nobj s = true) (hb : nobj b = true) (hl : isEnd l) (hr : isEnd r) (h0 : 0 ≤ n) (h1 : n ≤ 400) : m__law_pair_right [.val (stD l n r), .val s, .val b] = mret (.val (.bl true)) := by
  have e1 := m_wsz hs
  have ez := m_wnum hb
  have eb : ∀ c, alikeOk (.bl c) = true := fun c => by cases c <;> rfl
  have ef := m_fit (l := l) (r := r) (n := n) hs hb
  by_cases hf : fitsD n s b = true
  · obtain ⟨i, j, rfl, rfl⟩ : ∃ i j, s = .int i ∧ b = .int j := by
      cases s <;> cases b <;> first | exact ⟨_, _, rfl, rfl⟩ | (simp [fitsD] at hf)
    have h' : ((1 ≤ i ∧ i ≤ 5) ∧ 0 ≤ j) ∧ i + j ≤ n := by simpa [fitsD] using hf
    have hj : j ≤ n - i := by omega
    simp only [q_ret, q_no, q_er, q_of, q_of0, q_next, q_seq, q_seq1, q_seq2, q_seq3, q_retS, q_set, q_asg, q_if, q_k, q_kB, q_ke, q_raise, q_body, q_b1, q_b2, q_b3, startD, rK, setK, asgK, EV.keep, EV.look, eAnd, eOr, eNot, eIf, _root_.Vi.e1, _root_.Vi.e2, eB1, eC, bOf, bNot, bAnd, bOr, eCall, aCons, aNil, argsOf, argOf, eVar, SV.ev, AV.sv, mI, mLe, mGe, mLt, mGt, mSub, mAdd, mL2, addD, mIx, ixD, eChain, eTup, eLst, keepL, dTup, dCons, dNil, dName, Option.map, Option.bind, List.map, List.length, List.replicate, List.append, List.cons_append, List.nil_append, List.getElem?_cons_zero, List.getElem?_cons_succ, List.set, Nat.sub_self, Nat.reduceAdd, Nat.reduceSub, Nat.reduceEqDiff, if_true, reduceIte, List.set_cons_zero, List.set_cons_succ, m__law_pair_right, bd__law_pair_right, e1, isSz, h'.1.1.1, h'.1.1.2, decide_true, Bool.and_self, ez, isNum, h'.1.2, at1, hj, m_parted, line2, ef, hf, m_alike (eb true), m_hear hf, m_alike (pr_al hl hr h1 hf)]
  · have hf' : fitsD n s b = false := by simpa using hf
    have en : alikeOk (.tup [.str "none", .bl true]) = true := by decide +kernel
    have key : (eAnd (eCall 1 m__law_is_size_number (aCons (eVar 1) (aNil))) (eAnd (eCall 1 m__law_is_number (aCons (eVar 2) (aNil))) (e2 mLe (eVar 2) (e2 mSub (e2 mIx (eVar 0) (eC (.int 1))) (eVar 1))))) [some (.val (stD l n r)), some (.val s), some (.val b), none, none] = mret (.val (.bl false)) := by
      simp only [q_ret, q_no, q_er, q_of, q_of0, q_next, q_seq, q_seq1, q_seq2, q_seq3, q_retS, q_set, q_asg, q_if, q_k, q_kB, q_ke, q_raise, q_body, q_b1, q_b2, q_b3, startD, rK, setK, asgK, EV.keep, EV.look, eAnd, eOr, eNot, eIf, _root_.Vi.e1, _root_.Vi.e2, eB1, eC, bOf, bNot, bAnd, bOr, eCall, aCons, aNil, argsOf, argOf, eVar, SV.ev, AV.sv, mI, mLe, mGe, mLt, mGt, mSub, mAdd, mL2, addD, mIx, ixD, eChain, eTup, eLst, keepL, dTup, dCons, dNil, dName, Option.map, Option.bind, List.map, List.length, List.replicate, List.append, List.cons_append, List.nil_append, List.getElem?_cons_zero, List.getElem?_cons_succ, List.set, Nat.sub_self, Nat.reduceAdd, Nat.reduceSub, Nat.reduceEqDiff, if_true, reduceIte, List.set_cons_zero, List.set_cons_succ, e1]
      by_cases h2 : isSz s = true
      · simp only [q_ret, q_no, q_er, q_of, q_of0, q_next, q_seq, q_seq1, q_seq2, q_seq3, q_retS, q_set, q_asg, q_if, q_k, q_kB, q_ke, q_raise, q_body, q_b1, q_b2, q_b3, startD, rK, setK, asgK, EV.keep, EV.look, eAnd, eOr, eNot, eIf, _root_.Vi.e1, _root_.Vi.e2, eB1, eC, bOf, bNot, bAnd, bOr, eCall, aCons, aNil, argsOf, argOf, eVar, SV.ev, AV.sv, mI, mLe, mGe, mLt, mGt, mSub, mAdd, mL2, addD, mIx, ixD, eChain, eTup, eLst, keepL, dTup, dCons, dNil, dName, Option.map, Option.bind, List.map, List.length, List.replicate, List.append, List.cons_append, List.nil_append, List.getElem?_cons_zero, List.getElem?_cons_succ, List.set, Nat.sub_self, Nat.reduceAdd, Nat.reduceSub, Nat.reduceEqDiff, if_true, reduceIte, List.set_cons_zero, List.set_cons_succ, h2, ez]
        by_cases h3 : isNum b = true
        · obtain ⟨i, rfl⟩ : ∃ i, s = .int i := by cases s <;> first | exact ⟨_, rfl⟩ | (simp [isSz] at h2)
          obtain ⟨j, rfl⟩ : ∃ i, b = .int i := by cases b <;> first | exact ⟨_, rfl⟩ | (simp [isNum] at h3)
          have h2' : 1 ≤ i ∧ i ≤ 5 := by simpa [isSz] using h2
          have h3' : 0 ≤ j := by simpa [isNum] using h3
          have : ¬ j ≤ n - i := fun z => hf (by simp [fitsD, h2', h3']; omega)
          simp only [q_ret, q_no, q_er, q_of, q_of0, q_next, q_seq, q_seq1, q_seq2, q_seq3, q_retS, q_set, q_asg, q_if, q_k, q_kB, q_ke, q_raise, q_body, q_b1, q_b2, q_b3, startD, rK, setK, asgK, EV.keep, EV.look, eAnd, eOr, eNot, eIf, _root_.Vi.e1, _root_.Vi.e2, eB1, eC, bOf, bNot, bAnd, bOr, eCall, aCons, aNil, argsOf, argOf, eVar, SV.ev, AV.sv, mI, mLe, mGe, mLt, mGt, mSub, mAdd, mL2, addD, mIx, ixD, eChain, eTup, eLst, keepL, dTup, dCons, dNil, dName, Option.map, Option.bind, List.map, List.length, List.replicate, List.append, List.cons_append, List.nil_append, List.getElem?_cons_zero, List.getElem?_cons_succ, List.set, Nat.sub_self, Nat.reduceAdd, Nat.reduceSub, Nat.reduceEqDiff, if_true, reduceIte, List.set_cons_zero, List.set_cons_succ, h3, at1, this, decide_false]
        · have h3' : isNum b = false := by simpa using h3
          simp only [q_ret, q_no, q_er, q_of, q_of0, q_next, q_seq, q_seq1, q_seq2, q_seq3, q_retS, q_set, q_asg, q_if, q_k, q_kB, q_ke, q_raise, q_body, q_b1, q_b2, q_b3, startD, rK, setK, asgK, EV.keep, EV.look, eAnd, eOr, eNot, eIf, _root_.Vi.e1, _root_.Vi.e2, eB1, eC, bOf, bNot, bAnd, bOr, eCall, aCons, aNil, argsOf, argOf, eVar, SV.ev, AV.sv, mI, mLe, mGe, mLt, mGt, mSub, mAdd, mL2, addD, mIx, ixD, eChain, eTup, eLst, keepL, dTup, dCons, dNil, dName, Option.map, Option.bind, List.map, List.length, List.replicate, List.append, List.cons_append, List.nil_append, List.getElem?_cons_zero, List.getElem?_cons_succ, List.set, Nat.sub_self, Nat.reduceAdd, Nat.reduceSub, Nat.reduceEqDiff, if_true, reduceIte, List.set_cons_zero, List.set_cons_succ, h3', Bool.false_eq_true, if_false]
      · have h2' : isSz s = false := by simpa using h2
        simp only [q_ret, q_no, q_er, q_of, q_of0, q_next, q_seq, q_seq1, q_seq2, q_seq3, q_retS, q_set, q_asg, q_if, q_k, q_kB, q_ke, q_raise, q_body, q_b1, q_b2, q_b3, startD, rK, setK, asgK, EV.keep, EV.look, eAnd, eOr, eNot, eIf, _root_.Vi.e1, _root_.Vi.e2, eB1, eC, bOf, bNot, bAnd, bOr, eCall, aCons, aNil, argsOf, argOf, eVar, SV.ev, AV.sv, mI, mLe, mGe, mLt, mGt, mSub, mAdd, mL2, addD, mIx, ixD, eChain, eTup, eLst, keepL, dTup, dCons, dNil, dName, Option.map, Option.bind, List.map, List.length, List.replicate, List.append, List.cons_append, List.nil_append, List.getElem?_cons_zero, List.getElem?_cons_succ, List.set, Nat.sub_self, Nat.reduceAdd, Nat.reduceSub, Nat.reduceEqDiff, if_true, reduceIte, List.set_cons_zero, List.set_cons_succ, h2', Bool.false_eq_true, if_false]
    show mB (bd__law_pair_right [some (.val (stD l n r)), some (.val s), some (.val b), none, none]) = _
    unfold bd__law_pair_right
    rw [q_seq, q_set, key]
    simp only [q_ret, q_no, q_er, q_of, q_of0, q_next, q_seq, q_seq1, q_seq2, q_seq3, q_retS, q_set, q_asg, q_if, q_k, q_kB, q_ke, q_raise, q_body, q_b1, q_b2, q_b3, startD, rK, setK, asgK, EV.keep, EV.look, eAnd, eOr, eNot, eIf, _root_.Vi.e1, _root_.Vi.e2, eB1, eC, bOf, bNot, bAnd, bOr, eCall, aCons, aNil, argsOf, argOf, eVar, SV.ev, AV.sv, mI, mLe, mGe, mLt, mGt, mSub, mAdd, mL2, addD, mIx, ixD, eChain, eTup, eLst, keepL, dTup, dCons, dNil, dName, Option.map, Option.bind, List.map, List.length, List.replicate, List.append, List.cons_append, List.nil_append, List.getElem?_cons_zero, List.getElem?_cons_succ, List.set, Nat.sub_self, Nat.reduceAdd, Nat.reduceSub, Nat.reduceEqDiff, if_true, reduceIte, List.set_cons_zero, List.set_cons_succ, ef, hf', Bool.false_eq_true, if_false, line2, m_alike (eb false), m_hearE hs hb hf', m_alike en]
/-! the draws -/
theorem at_in {α : Type} {ds : List α} {r : Int} (h0 : 0 ≤ r) (h1 : r < ds.length) : ∃ d ∈ ds, atI ds r = some d := by
  have hr : r.toNat < ds.length := by omega
  refine ⟨ds[r.toNat], List.getElem_mem hr, ?_⟩
  have e := atI_nat (xs := ds) (List.getElem?_eq_getElem hr)
  rw [show ((r.toNat : Nat) : Int) = r by omega] at e
  exact e
theorem ok_law_one {ds : List D} {g : Bag} {R : EV → Bag → Prop} (hg : bagOk g = true) (h1 : 1 ≤ ds.length) (h2 : ds.length ≤ 1000) (h : ∀ d ∈ ds, ∀ g', bagOk g' = true → R (.val d) g') : Ok (m__law_one [.bag, .val (.lst ds)]) g R := by
  refine ok_body (okn_ret (ok_bind (m := eVar 1 _) (ok_ret (a := EV.val (.lst ds)) ?_)))
  refine ok_bind (m := eCall 2 m__law_take (aCons (eVar 0) (aCons (eB1 lenE (eVar 1)) (aNil))) _) (ok_bind (m := aCons (eVar 0) (aCons (eB1 lenE (eVar 1)) (aNil)) _) (ok_ret (a := [EV.bag, EV.val (.int (ds.length : Int))]) (ok_take hg (by omega) (by omega) fun r g' h0 h3 hg' => ?_)))
  obtain ⟨d, hd, e⟩ := at_in h0 h3
  exact ok_of (o := (atI ds r).map EV.val) (a := .val d) (by rw [e]; rfl) ⟨_, rfl, _, rfl, h d hd g' hg'⟩
theorem ok_end {g : Bag} {R : EV → Bag → Prop} (hg : bagOk g = true) (h : ∀ d, isEnd d → ∀ g', bagOk g' = true → R (.val d) g') : Ok (m__law_end [.bag]) g R := by
  refine ok_body (okn_ret (ok_bind (ok_ret (a := [EV.bag, EV.nw (.lst [.str "pillar", .str "sold", .str "wall"])]) (ok_law_one hg (by decide) (by decide) fun d hd g' hg' => ⟨_, rfl, _, rfl, h d ?_ g' hg'⟩))))
  simpa [isEnd] using hd
theorem ok_stretch {u : Int} {g : Bag} {R : EV → Bag → Prop} (hg : bagOk g = true) (h0 : 0 ≤ u) (h1 : u ≤ 400) (h : ∀ l n r g', isEnd l → isEnd r → 0 ≤ n → n ≤ u → bagOk g' = true → R (.val (stD l n r)) g') : Ok (m__law_stretch [.bag, .val (.int u)]) g R := by
  refine ok_body (okn_ret (ok_bind (ok_bind (m := eCall 1 m__law_end (aCons (eVar 0) (aNil)) _) ?_)))
  refine ok_bind (ok_ret (a := [EV.bag]) (ok_end hg fun l hl g1 hg1 => ?_))
  refine ok_bind (ok_bind (m := eCall 2 m__law_take (aCons (eVar 0) (aCons (e2 mAdd (eVar 1) (eC (.int 1))) (aNil))) _) (ok_bind (ok_ret (a := [EV.bag, EV.val (.int (u + 1))]) (ok_take hg1 (by omega) (by omega) fun n g2 hn0 hn1 hg2 => ?_))))
  refine ok_bind (ok_bind (m := eCall 1 m__law_end (aCons (eVar 0) (aNil)) _) (ok_bind (ok_ret (a := [EV.bag]) (ok_end hg2 fun r hr g3 hg3 => ?_))))
  exact ok_ret (ok_ret (ok_ret (ok_ret ⟨_, rfl, _, rfl, h l n r g3 hl hr hn0 (by omega) hg3⟩)))
/-! the menu -/
theorem m_deep : ∃ d, m__law_deep [] = mret (.val d) ∧ nobj d = true := ⟨_, rfl, rfl⟩
theorem ok_ix {ds : List D} {r : Int} {g : Bag} {R : EV → Bag → Prop} (h0 : 0 ≤ r) (h1 : r < ds.length) (h : ∀ d ∈ ds, R (.val d) g) : Ok (mIx (.val (.lst ds)) (.val (.int r))) g R := by
  obtain ⟨d, hd, e⟩ := at_in h0 h1
  exact ok_of (o := (atI ds r).map EV.val) (a := .val d) (by rw [e]; rfl) (h d hd)
theorem ok_odd {g : Bag} {R : EV → Bag → Prop} (hg : bagOk g = true) (h : ∀ d, nobj d = true → ∀ g', bagOk g' = true → R (.val d) g') : Ok (m__law_odd [.bag]) g R := by
  refine ok_body ?_
  unfold bd__law_odd
  refine okn_seq (okn_set ⟨EV.nw _, g, rfl, _, rfl, ?_⟩)
  refine okn_seq (okn_set ⟨EV.nw _, g, rfl, _, rfl, ?_⟩)
  refine okn_seq (okn_set ⟨EV.nw _, g, rfl, _, rfl, ?_⟩)
  refine okn_seq (okn_set ⟨EV.nw _, g, rfl, _, rfl, ?_⟩)
  refine okn_seq (okn_set ⟨EV.nw _, g, rfl, _, rfl, ?_⟩)
  refine okn_seq (okn_set ⟨EV.nw _, g, rfl, _, rfl, ?_⟩)
  refine okn_ret (ok_bind (ok_ret (a := EV.val (.lst _)) (ok_bind (ok_bind (ok_ret (a := [EV.bag, EV.val (.int 62)]) (ok_take hg (by decide) (by decide) fun r g' h0 h1 hg' => ?_))))))
  refine ok_ix h0 (Int.lt_of_lt_of_le h1 (Int.le_of_eq rfl)) fun d hd => ?_
  exact ⟨_, rfl, _, rfl, h d (List.all_eq_true.mp (by rfl) d hd) g' hg'⟩
theorem m_pairs : m__law_pairs [] = mret (.nw (.lst [.tup [.str "pillar", .str "pillar"], .tup [.str "pillar", .str "sold"], .tup [.str "pillar", .str "wall"], .tup [.str "sold", .str "pillar"], .tup [.str "sold", .str "sold"], .tup [.str "sold", .str "wall"], .tup [.str "wall", .str "pillar"], .tup [.str "wall", .str "sold"], .tup [.str "wall", .str "wall"]])) := rfl
def nine (n : Int) : List D := [stD (.str "pillar") n (.str "pillar"), stD (.str "pillar") n (.str "sold"), stD (.str "pillar") n (.str "wall"), stD (.str "sold") n (.str "pillar"), stD (.str "sold") n (.str "sold"), stD (.str "sold") n (.str "wall"), stD (.str "wall") n (.str "pillar"), stD (.str "wall") n (.str "sold"), stD (.str "wall") n (.str "wall")]
theorem m_whole {n : Int} : m_wholes [.val (.int n)] = mret (.nw (.lst (nine n))) := rfl
theorem nine_al {n : Int} (h0 : 0 ≤ n) (h1 : n ≤ 400) : alikeOk (.lst (nine n)) = true := by
  have hp : isEnd (.str "pillar") := Or.inl rfl
  have hs : isEnd (.str "sold") := Or.inr (Or.inl rfl)
  have hw : isEnd (.str "wall") := Or.inr (Or.inr rfl)
  obtain ⟨k1, a1, b1, c1⟩ := st_sz hp hp h0 h1
  obtain ⟨k2, a2, b2, c2⟩ := st_sz hp hs h0 h1
  obtain ⟨k3, a3, b3, c3⟩ := st_sz hp hw h0 h1
  obtain ⟨k4, a4, b4, c4⟩ := st_sz hs hp h0 h1
  obtain ⟨k5, a5, b5, c5⟩ := st_sz hs hs h0 h1
  obtain ⟨k6, a6, b6, c6⟩ := st_sz hs hw h0 h1
  obtain ⟨k7, a7, b7, c7⟩ := st_sz hw hp h0 h1
  obtain ⟨k8, a8, b8, c8⟩ := st_sz hw hs h0 h1
  obtain ⟨k9, a9, b9, c9⟩ := st_sz hw hw h0 h1
  have e := szL_c a1 (szL_c a2 (szL_c a3 (szL_c a4 (szL_c a5 (szL_c a6 (szL_c a7 (szL_c a8 (szL_c a9 (rfl : szL [] = some 0)))))))))
  have ed : dpL (nine n) = 1 := by
    unfold nine
    simp only [dpL, c1, c2, c3, c4, c5, c6, c7, c8, c9]
    rfl
  unfold alikeOk
  rw [show szD (.lst (nine n)) = (szL (nine n)).map (· + 3) from rfl, show szL (nine n) = some _ from e, show dpD (.lst (nine n)) = dpL (nine n) + 1 from rfl, ed]
  unfold lineOk
  simp
  omega
end K12

set_option Elab.async false
set_option linter.all false
set_option maxRecDepth 100000
set_option maxHeartbeats 8000000
namespace K12
open PySem PySem.Spec PyProof.Rows L2 Vi
def Inv12 (δ : DS) (g : Bag) : Prop := bagOk g = true ∧ ∃ s0 s2 s3 s4 s5 s6 s7 s8 s9 s10 s11, δ = [s0, some .bag, s2, s3, s4, s5, s6, s7, s8, s9, s10, s11, none, none]
/-- the stretch stands in slots 3 and 4 -/
def Inv8 (l : D) (n : Int) (r : D) (δ : DS) (g : Bag) : Prop := bagOk g = true ∧ ∃ s0 s2 s5 s6 s7 s8 s9 s10 s11, δ = [s0, some .bag, s2, some (.val (stD l n r)), some (.val (.int n)), s5, s6, s7, s8, s9, s10, s11, none, none]
/-- its nine in slot 7 -/
def Inv2 (l : D) (n : Int) (r : D) (δ : DS) (g : Bag) : Prop := bagOk g = true ∧ ∃ s0 s2 s5 s6 s8 s9 s10 s11, δ = [s0, some .bag, s2, some (.val (stD l n r)), some (.val (.int n)), s5, s6, some (.val (.lst (nine n))), s8, s9, s10, s11, none, none]
theorem ok_pair {l r s b : D} {n : Int} {g : Bag} {R : EV → Bag → Prop} (hs : nobj s = true) (hb : nobj b = true) (hl : isEnd l) (hr : isEnd r) (h0 : 0 ≤ n) (h1 : n ≤ 400) (h : R (.val (.bl true)) g) : Ok (m__law_pair_right [.val (stD l n r), .val s, .val b]) g R := by
  rw [m_pair hs hb hl hr h0 h1]
  exact ok_ret h
theorem ok_al {d : D} {g : Bag} {R : EV → Bag → Prop} (h : alikeOk d = true) (r : R (.val (.bl true)) g) : Ok (m__law_alike [.val d, .val d]) g R := by
  rw [m_alike h]
  exact ok_ret r
theorem okn_whole {n : Int} {l r : D} {δ : DS} {g : Bag} {R : Ot → Bag → Prop} (h0 : 0 ≤ n) (h1 : n ≤ 400) (hI : Inv2 l n r δ g) (h : ∀ δ' g', Inv2 l n r δ' g' → R (.nx δ') g') :
    Okn (sFor (iRange1 (eC (.int 2))) (dName 8) (sSeq (sSetO 11 (eCall 1 m_wholes (aCons (eVar 4) (aNil))))
    (sSeq (sIf (bNot (bOf (eCallB 2 m__law_alike (aCons (eVar 11) (aCons (eVar 7) (aNil)))))) (sRet (eC (.bl false))) (sNext))
    (sApp 11 (eC .non))))) δ g R := by
  refine okn_for ⟨_, _, rfl, okn_loop (Inv2 l n r) _ _ _ ?_ hI h⟩
  rintro d hd δ g ⟨hg, s0, s2, s5, s6, s8, s9, s10, s11, rfl⟩
  refine ⟨_, rfl, okn_seq (okn_setO ?_)⟩
  (repeat (first | refine ok_ret ?_ | refine ok_bind ?_))
  refine ⟨.lst (nine n), rfl, ?_⟩
  refine okn_seq (okn_if ?_)
  (repeat (first | refine ok_ret ?_ | refine ok_bind ?_))
  refine ok_eq (a := EV.val (.bl true)) (g' := g) ?_ ?_
  · show mPlain (m__law_alike [.val (.lst (nine n)), .val (.lst (nine n))]) g = _
    rw [m_alike (nine_al h0 h1)]
    rfl
  (repeat (first | refine ok_ret ?_ | refine ok_bind ?_))
  refine okn_next ?_
  exact okn_app (ds := nine n) rfl rfl ⟨_, _, rfl, _, rfl, _, rfl, hg, _, _, _, _, _, _, _, _, rfl⟩
theorem meant : lawMeans := by
  intro ns
  suffices h : Okn bd_law ((List.replicate 14 none).set 1 (some .bag)) (bag0 ns) (fun o _ => o = .rt (.val (.bl true))) by
    obtain ⟨o, g', e, rfl⟩ := h
    exact ⟨g', e⟩
  unfold bd_law
  refine okn_seq (okn_for ⟨_, _, rfl, ?_⟩)
  refine okn_loop Inv12 _ _ _ ?step ⟨bag0_ok ns, none, none, none, none, none, none, none, none, none, none, none, rfl⟩ ?fin
  case fin =>
    rintro δ' g' _
    exact okn_ret (ok_ret ⟨_, rfl, rfl⟩)
  rintro d hd δ g ⟨hg, s0, s2, s3, s4, s5, s6, s7, s8, s9, s10, s11, rfl⟩
  refine ⟨_, rfl, ?_⟩
  refine okn_seq (okn_set ?_)
  (repeat (first | refine ok_ret ?_ | refine ok_bind ?_))
  refine ok_take hg (by decide) (by decide) fun i g1 hi0 hi1 hg1 => ?_
  (repeat (first | refine ok_ret ?_ | refine ok_bind ?_))
  have hu : ∀ d ∈ [D.int 12, D.int 12, D.int 400], ∃ u, d = .int u ∧ 0 ≤ u ∧ u ≤ 400 := by
    intro d hd
    simp at hd
    rcases hd with rfl | rfl <;> exact ⟨_, rfl, by decide, by decide⟩
  refine ok_ix (ds := [D.int 12, D.int 12, D.int 400]) hi0 hi1 fun d hd => ?_
  obtain ⟨u, rfl, hu0, hu1⟩ := hu d hd
  (repeat (first | refine ok_ret ?_ | refine ok_bind ?_))
  refine ok_stretch hg1 hu0 hu1 fun l n r g2 hl hr hn0 hn1' hg2 => ?_
  have hn1 : n ≤ 400 := by omega
  refine ⟨_, rfl, ?_⟩
  refine okn_seq (okn_set ?_)
  (repeat (first | refine ok_ret ?_ | refine ok_bind ?_))
  refine ⟨_, rfl, ?_⟩
  -- eight of sizes
  refine okn_seq (okn_for ⟨_, _, rfl, ?_⟩)
  refine okn_loop (Inv8 l n r) _ _ _ ?step8 ⟨hg2, _, _, _, _, _, _, _, _, _, rfl⟩ ?fin8
  case step8 =>
    rintro d hd δ g ⟨hg, s0, s2, s5, s6, s7, s8, s9, s10, s11, rfl⟩
    refine ⟨_, rfl, okn_seq (okn_set ?_)⟩
    (repeat (first | refine ok_ret ?_ | refine ok_bind ?_))
    refine ok_take hg (by decide) (by decide) fun i g1 hi0 hi1 hg1 => ?_
    (repeat (first | refine ok_ret ?_ | refine ok_bind ?_))
    refine ⟨_, rfl, ?_⟩
    refine okn_seq (okn_set ?_)
    (repeat (first | refine ok_ret ?_ | refine ok_bind ?_))
    refine ok_take hg1 (by omega) (by omega) fun j g2 hj0 hj1 hg2 => ?_
    (repeat (first | refine ok_ret ?_ | refine ok_bind ?_))
    refine ok_take hg2 (by decide) (by decide) fun k g3 hk0 hk1 hg3 => ?_
    (repeat (first | refine ok_ret ?_ | refine ok_bind ?_))
    refine ok_ix (ds := [.int 0, .int (n - (1 + i)), .int (n - (1 + i) + 1), .int j, .int (-1)]) hk0 hk1 fun d hd => ?_
    obtain ⟨b, rfl⟩ : ∃ b, d = .int b := by
      simp at hd
      rcases hd with rfl | rfl | rfl | rfl | rfl <;> exact ⟨_, rfl⟩
    refine ⟨_, rfl, okn_if ?_⟩
    (repeat (first | refine ok_ret ?_ | refine ok_bind ?_))
    refine ok_pair rfl rfl hl hr hn0 hn1 ?_
    (repeat (first | refine ok_ret ?_ | refine ok_bind ?_))
    exact okn_next ⟨_, rfl, hg3, _, _, _, _, _, _, _, _, _, rfl⟩
  rintro δ g ⟨hg, s0, s2, s5, s6, s7, s8, s9, s10, s11, rfl⟩
  -- two odd ones
  refine okn_seq (okn_for ?_)
  (repeat (first | refine ok_ret ?_ | refine ok_bind ?_))
  refine ok_odd hg fun o1 ho1 g1 hg1 => ?_
  (repeat (first | refine ok_ret ?_ | refine ok_bind ?_))
  refine ok_odd hg1 fun o2 ho2 g2 hg2 => ?_
  (repeat (first | refine ok_ret ?_ | refine ok_bind ?_))
  refine okn_loop (Inv8 l n r) _ _ _ ?stepo ⟨hg2, _, _, _, _, _, _, _, _, _, rfl⟩ ?fino
  case stepo =>
    rintro d hd δ g ⟨hg, s0, s2, s5, s6, s7, s8, s9, s10, s11, rfl⟩
    have hno : nobj d = true := by
      simp at hd
      rcases hd with rfl | rfl <;> assumption
    refine ⟨_, rfl, okn_seq (okn_if ?_)⟩
    (repeat (first | refine ok_ret ?_ | refine ok_bind ?_))
    refine ok_pair hno rfl hl hr hn0 hn1 ?_
    (repeat (first | refine ok_ret ?_ | refine ok_bind ?_))
    refine ok_pair rfl hno hl hr hn0 hn1 ?_
    (repeat (first | refine ok_ret ?_ | refine ok_bind ?_))
    refine okn_next (okn_if ?_)
    (repeat (first | refine ok_ret ?_ | refine ok_bind ?_))
    refine ok_odd hg fun o3 ho3 g3 hg3 => ?_
    (repeat (first | refine ok_ret ?_ | refine ok_bind ?_))
    refine ok_pair hno ho3 hl hr hn0 hn1 ?_
    (repeat (first | refine ok_ret ?_ | refine ok_bind ?_))
    exact okn_next ⟨_, rfl, hg3, _, _, _, _, _, _, _, _, _, rfl⟩
  rintro δ g ⟨hg, s0, s2, s5, s6, s7, s8, s9, s10, s11, rfl⟩
  -- turned
  refine okn_seq (okn_if ?_)
  (repeat (first | refine ok_ret ?_ | refine ok_bind ?_))
  refine ok_al (st_al hr hl hn0 hn1) ?_
  (repeat (first | refine ok_ret ?_ | refine ok_bind ?_))
  refine ok_al (st_al hl hr hn0 hn1) ?_
  (repeat (first | refine ok_ret ?_ | refine ok_bind ?_))
  refine okn_next ?_
  -- the nine
  refine okn_seq (okn_set ⟨EV.nw (.lst (nine n)), g, rfl, _, rfl, ?_⟩)
  exact okn_whole hn0 hn1 ⟨hg, _, _, _, _, _, _, _, _, rfl⟩ fun δ' g' ⟨hg', a, b, c, d, e, f, i, j, hδ⟩ => ⟨_, rfl, hg', _, _, _, _, _, _, _, _, _, _, _, hδ⟩
end K12

set_option Elab.async false
set_option linter.all false
set_option maxRecDepth 100000
set_option maxHeartbeats 8000000
namespace K12
open PySem PySem.Spec PyProof.Rows L2 Vi
theorem all_mk {l : PySem.W.OpenLaw} {w : World} {K : PySem.W.Frag} {h : Heap} {mg : Str → Option Value} {fa f_is_integer f_is_number f_is_size f_fits f_parts f_turned f_wholes f__law_bag f__law_take f__law_alike f__law_one f__law_ends f__law_end f__law_stretch f__law_parted f__law_is_whole_number f__law_pairs f__law_deep f__law_odd f__law_is_number f__law_is_size_number f__law_heard f__law_pair_right f_law c_LoneError c_NoChoice c_Nothing a_ENDS : Addr} (X : K.In h) (N : h.Ns mainGlobals mg) (hfa : mg "law" = some (.ref fa))
    {od_is_integer an_is_integer : Option Addr} {sl_is_integer : Array (Option Value)} {oc_is_integer kV_is_integer dc_is_integer pm_is_integer cd_is_integer ct_is_integer : Value}
    {od_is_number an_is_number : Option Addr} {sl_is_number : Array (Option Value)} {oc_is_number kV_is_number dc_is_number pm_is_number cd_is_number ct_is_number : Value}
    {od_is_size an_is_size : Option Addr} {sl_is_size : Array (Option Value)} {oc_is_size kV_is_size dc_is_size pm_is_size cd_is_size ct_is_size : Value}
    {od_fits an_fits : Option Addr} {sl_fits : Array (Option Value)} {oc_fits kV_fits dc_fits pm_fits cd_fits ct_fits : Value}
    {od_parts an_parts : Option Addr} {sl_parts : Array (Option Value)} {oc_parts kV_parts dc_parts pm_parts cd_parts ct_parts : Value}
    {od_turned an_turned : Option Addr} {sl_turned : Array (Option Value)} {oc_turned kV_turned dc_turned pm_turned cd_turned ct_turned : Value}
    {od_wholes an_wholes : Option Addr} {sl_wholes : Array (Option Value)} {oc_wholes kV_wholes dc_wholes pm_wholes cd_wholes ct_wholes : Value}
    {od__law_bag an__law_bag : Option Addr} {sl__law_bag : Array (Option Value)} {oc__law_bag kV__law_bag dc__law_bag pm__law_bag cd__law_bag ct__law_bag : Value}
    {od__law_take an__law_take : Option Addr} {sl__law_take : Array (Option Value)} {oc__law_take kV__law_take dc__law_take pm__law_take cd__law_take ct__law_take : Value}
    {od__law_alike an__law_alike : Option Addr} {sl__law_alike : Array (Option Value)} {oc__law_alike kV__law_alike dc__law_alike pm__law_alike cd__law_alike ct__law_alike : Value}
    {od__law_one an__law_one : Option Addr} {sl__law_one : Array (Option Value)} {oc__law_one kV__law_one dc__law_one pm__law_one cd__law_one ct__law_one : Value}
    {od__law_ends an__law_ends : Option Addr} {sl__law_ends : Array (Option Value)} {oc__law_ends kV__law_ends dc__law_ends pm__law_ends cd__law_ends ct__law_ends : Value}
    {od__law_end an__law_end : Option Addr} {sl__law_end : Array (Option Value)} {oc__law_end kV__law_end dc__law_end pm__law_end cd__law_end ct__law_end : Value}
    {od__law_stretch an__law_stretch : Option Addr} {sl__law_stretch : Array (Option Value)} {oc__law_stretch kV__law_stretch dc__law_stretch pm__law_stretch cd__law_stretch ct__law_stretch : Value}
    {od__law_parted an__law_parted : Option Addr} {sl__law_parted : Array (Option Value)} {oc__law_parted kV__law_parted dc__law_parted pm__law_parted cd__law_parted ct__law_parted : Value}
    {od__law_is_whole_number an__law_is_whole_number : Option Addr} {sl__law_is_whole_number : Array (Option Value)} {oc__law_is_whole_number kV__law_is_whole_number dc__law_is_whole_number pm__law_is_whole_number cd__law_is_whole_number ct__law_is_whole_number : Value}
    {od__law_pairs an__law_pairs : Option Addr} {sl__law_pairs : Array (Option Value)} {oc__law_pairs kV__law_pairs dc__law_pairs pm__law_pairs cd__law_pairs ct__law_pairs : Value}
    {od__law_deep an__law_deep : Option Addr} {sl__law_deep : Array (Option Value)} {oc__law_deep kV__law_deep dc__law_deep pm__law_deep cd__law_deep ct__law_deep : Value}
    {od__law_odd an__law_odd : Option Addr} {sl__law_odd : Array (Option Value)} {oc__law_odd kV__law_odd dc__law_odd pm__law_odd cd__law_odd ct__law_odd : Value}
    {od__law_is_number an__law_is_number : Option Addr} {sl__law_is_number : Array (Option Value)} {oc__law_is_number kV__law_is_number dc__law_is_number pm__law_is_number cd__law_is_number ct__law_is_number : Value}
    {od__law_is_size_number an__law_is_size_number : Option Addr} {sl__law_is_size_number : Array (Option Value)} {oc__law_is_size_number kV__law_is_size_number dc__law_is_size_number pm__law_is_size_number cd__law_is_size_number ct__law_is_size_number : Value}
    {od__law_heard an__law_heard : Option Addr} {sl__law_heard : Array (Option Value)} {oc__law_heard kV__law_heard dc__law_heard pm__law_heard cd__law_heard ct__law_heard : Value}
    {od__law_pair_right an__law_pair_right : Option Addr} {sl__law_pair_right : Array (Option Value)} {oc__law_pair_right kV__law_pair_right dc__law_pair_right pm__law_pair_right cd__law_pair_right ct__law_pair_right : Value}
    {od_law an_law : Option Addr} {sl_law : Array (Option Value)} {oc_law kV_law dc_law pm_law cd_law ct_law : Value}
    {tk_GREATEST_SIZE : Tok}
    {dd_ENDS : Option Addr} {n_ENDS : Nat} {sl_ENDS : Array (Option Value)} {t0_ENDS t1_ENDS t2_ENDS : Tok}
    (a_is_integer : PySem.W.nsIn K mainGlobals "is_integer" = some (some (.ref f_is_integer)))
    (l_is_integer : K.lookup f_is_integer = some ⟨oc_is_integer, od_is_integer, .func (PySem.W.fnOf "is_integer" "is_integer" (defArgs s_is_integer) (defBody s_is_integer) (defScope s_is_integer) .none kV_is_integer dc_is_integer pm_is_integer an_is_integer cd_is_integer ct_is_integer), sl_is_integer⟩)
    (q_is_integer : PySem.W.codeIn K cd_is_integer "is_integer" = true)
    (k_is_integer : PySem.W.keepIn K (.ref f_is_integer) = true)
    (a_is_number : PySem.W.nsIn K mainGlobals "is_number" = some (some (.ref f_is_number)))
    (l_is_number : K.lookup f_is_number = some ⟨oc_is_number, od_is_number, .func (PySem.W.fnOf "is_number" "is_number" (defArgs s_is_number) (defBody s_is_number) (defScope s_is_number) .none kV_is_number dc_is_number pm_is_number an_is_number cd_is_number ct_is_number), sl_is_number⟩)
    (q_is_number : PySem.W.codeIn K cd_is_number "is_number" = true)
    (k_is_number : PySem.W.keepIn K (.ref f_is_number) = true)
    (a_is_size : PySem.W.nsIn K mainGlobals "is_size" = some (some (.ref f_is_size)))
    (l_is_size : K.lookup f_is_size = some ⟨oc_is_size, od_is_size, .func (PySem.W.fnOf "is_size" "is_size" (defArgs s_is_size) (defBody s_is_size) (defScope s_is_size) .none kV_is_size dc_is_size pm_is_size an_is_size cd_is_size ct_is_size), sl_is_size⟩)
    (q_is_size : PySem.W.codeIn K cd_is_size "is_size" = true)
    (k_is_size : PySem.W.keepIn K (.ref f_is_size) = true)
    (a_fits : PySem.W.nsIn K mainGlobals "fits" = some (some (.ref f_fits)))
    (l_fits : K.lookup f_fits = some ⟨oc_fits, od_fits, .func (PySem.W.fnOf "fits" "fits" (defArgs s_fits) (defBody s_fits) (defScope s_fits) .none kV_fits dc_fits pm_fits an_fits cd_fits ct_fits), sl_fits⟩)
    (q_fits : PySem.W.codeIn K cd_fits "fits" = true)
    (k_fits : PySem.W.keepIn K (.ref f_fits) = true)
    (a_parts : PySem.W.nsIn K mainGlobals "parts" = some (some (.ref f_parts)))
    (l_parts : K.lookup f_parts = some ⟨oc_parts, od_parts, .func (PySem.W.fnOf "parts" "parts" (defArgs s_parts) (defBody s_parts) (defScope s_parts) .none kV_parts dc_parts pm_parts an_parts cd_parts ct_parts), sl_parts⟩)
    (q_parts : PySem.W.codeIn K cd_parts "parts" = true)
    (k_parts : PySem.W.keepIn K (.ref f_parts) = true)
    (a_turned : PySem.W.nsIn K mainGlobals "turned" = some (some (.ref f_turned)))
    (l_turned : K.lookup f_turned = some ⟨oc_turned, od_turned, .func (PySem.W.fnOf "turned" "turned" (defArgs s_turned) (defBody s_turned) (defScope s_turned) .none kV_turned dc_turned pm_turned an_turned cd_turned ct_turned), sl_turned⟩)
    (q_turned : PySem.W.codeIn K cd_turned "turned" = true)
    (k_turned : PySem.W.keepIn K (.ref f_turned) = true)
    (a_wholes : PySem.W.nsIn K mainGlobals "wholes" = some (some (.ref f_wholes)))
    (l_wholes : K.lookup f_wholes = some ⟨oc_wholes, od_wholes, .func (PySem.W.fnOf "wholes" "wholes" (defArgs s_wholes) (defBody s_wholes) (defScope s_wholes) .none kV_wholes dc_wholes pm_wholes an_wholes cd_wholes ct_wholes), sl_wholes⟩)
    (q_wholes : PySem.W.codeIn K cd_wholes "wholes" = true)
    (k_wholes : PySem.W.keepIn K (.ref f_wholes) = true)
    (a__law_bag : PySem.W.nsIn K mainGlobals "_law_bag" = some (some (.ref f__law_bag)))
    (l__law_bag : K.lookup f__law_bag = some ⟨oc__law_bag, od__law_bag, .func (PySem.W.fnOf "_law_bag" "_law_bag" (defArgs s__law_bag) (defBody s__law_bag) (defScope s__law_bag) .none kV__law_bag dc__law_bag pm__law_bag an__law_bag cd__law_bag ct__law_bag), sl__law_bag⟩)
    (q__law_bag : PySem.W.codeIn K cd__law_bag "_law_bag" = true)
    (k__law_bag : PySem.W.keepIn K (.ref f__law_bag) = true)
    (a__law_take : PySem.W.nsIn K mainGlobals "_law_take" = some (some (.ref f__law_take)))
    (l__law_take : K.lookup f__law_take = some ⟨oc__law_take, od__law_take, .func (PySem.W.fnOf "_law_take" "_law_take" (defArgs s__law_take) (defBody s__law_take) (defScope s__law_take) .none kV__law_take dc__law_take pm__law_take an__law_take cd__law_take ct__law_take), sl__law_take⟩)
    (q__law_take : PySem.W.codeIn K cd__law_take "_law_take" = true)
    (k__law_take : PySem.W.keepIn K (.ref f__law_take) = true)
    (a__law_alike : PySem.W.nsIn K mainGlobals "_law_alike" = some (some (.ref f__law_alike)))
    (l__law_alike : K.lookup f__law_alike = some ⟨oc__law_alike, od__law_alike, .func (PySem.W.fnOf "_law_alike" "_law_alike" (defArgs s__law_alike) (defBody s__law_alike) (defScope s__law_alike) .none kV__law_alike dc__law_alike pm__law_alike an__law_alike cd__law_alike ct__law_alike), sl__law_alike⟩)
    (q__law_alike : PySem.W.codeIn K cd__law_alike "_law_alike" = true)
    (k__law_alike : PySem.W.keepIn K (.ref f__law_alike) = true)
    (a__law_one : PySem.W.nsIn K mainGlobals "_law_one" = some (some (.ref f__law_one)))
    (l__law_one : K.lookup f__law_one = some ⟨oc__law_one, od__law_one, .func (PySem.W.fnOf "_law_one" "_law_one" (defArgs s__law_one) (defBody s__law_one) (defScope s__law_one) .none kV__law_one dc__law_one pm__law_one an__law_one cd__law_one ct__law_one), sl__law_one⟩)
    (q__law_one : PySem.W.codeIn K cd__law_one "_law_one" = true)
    (k__law_one : PySem.W.keepIn K (.ref f__law_one) = true)
    (a__law_ends : PySem.W.nsIn K mainGlobals "_law_ends" = some (some (.ref f__law_ends)))
    (l__law_ends : K.lookup f__law_ends = some ⟨oc__law_ends, od__law_ends, .func (PySem.W.fnOf "_law_ends" "_law_ends" (defArgs s__law_ends) (defBody s__law_ends) (defScope s__law_ends) .none kV__law_ends dc__law_ends pm__law_ends an__law_ends cd__law_ends ct__law_ends), sl__law_ends⟩)
    (q__law_ends : PySem.W.codeIn K cd__law_ends "_law_ends" = true)
    (k__law_ends : PySem.W.keepIn K (.ref f__law_ends) = true)
    (a__law_end : PySem.W.nsIn K mainGlobals "_law_end" = some (some (.ref f__law_end)))
    (l__law_end : K.lookup f__law_end = some ⟨oc__law_end, od__law_end, .func (PySem.W.fnOf "_law_end" "_law_end" (defArgs s__law_end) (defBody s__law_end) (defScope s__law_end) .none kV__law_end dc__law_end pm__law_end an__law_end cd__law_end ct__law_end), sl__law_end⟩)
    (q__law_end : PySem.W.codeIn K cd__law_end "_law_end" = true)
    (k__law_end : PySem.W.keepIn K (.ref f__law_end) = true)
    (a__law_stretch : PySem.W.nsIn K mainGlobals "_law_stretch" = some (some (.ref f__law_stretch)))
    (l__law_stretch : K.lookup f__law_stretch = some ⟨oc__law_stretch, od__law_stretch, .func (PySem.W.fnOf "_law_stretch" "_law_stretch" (defArgs s__law_stretch) (defBody s__law_stretch) (defScope s__law_stretch) .none kV__law_stretch dc__law_stretch pm__law_stretch an__law_stretch cd__law_stretch ct__law_stretch), sl__law_stretch⟩)
    (q__law_stretch : PySem.W.codeIn K cd__law_stretch "_law_stretch" = true)
    (k__law_stretch : PySem.W.keepIn K (.ref f__law_stretch) = true)
    (a__law_parted : PySem.W.nsIn K mainGlobals "_law_parted" = some (some (.ref f__law_parted)))
    (l__law_parted : K.lookup f__law_parted = some ⟨oc__law_parted, od__law_parted, .func (PySem.W.fnOf "_law_parted" "_law_parted" (defArgs s__law_parted) (defBody s__law_parted) (defScope s__law_parted) .none kV__law_parted dc__law_parted pm__law_parted an__law_parted cd__law_parted ct__law_parted), sl__law_parted⟩)
    (q__law_parted : PySem.W.codeIn K cd__law_parted "_law_parted" = true)
    (k__law_parted : PySem.W.keepIn K (.ref f__law_parted) = true)
    (a__law_is_whole_number : PySem.W.nsIn K mainGlobals "_law_is_whole_number" = some (some (.ref f__law_is_whole_number)))
    (l__law_is_whole_number : K.lookup f__law_is_whole_number = some ⟨oc__law_is_whole_number, od__law_is_whole_number, .func (PySem.W.fnOf "_law_is_whole_number" "_law_is_whole_number" (defArgs s__law_is_whole_number) (defBody s__law_is_whole_number) (defScope s__law_is_whole_number) .none kV__law_is_whole_number dc__law_is_whole_number pm__law_is_whole_number an__law_is_whole_number cd__law_is_whole_number ct__law_is_whole_number), sl__law_is_whole_number⟩)
    (q__law_is_whole_number : PySem.W.codeIn K cd__law_is_whole_number "_law_is_whole_number" = true)
    (k__law_is_whole_number : PySem.W.keepIn K (.ref f__law_is_whole_number) = true)
    (a__law_pairs : PySem.W.nsIn K mainGlobals "_law_pairs" = some (some (.ref f__law_pairs)))
    (l__law_pairs : K.lookup f__law_pairs = some ⟨oc__law_pairs, od__law_pairs, .func (PySem.W.fnOf "_law_pairs" "_law_pairs" (defArgs s__law_pairs) (defBody s__law_pairs) (defScope s__law_pairs) .none kV__law_pairs dc__law_pairs pm__law_pairs an__law_pairs cd__law_pairs ct__law_pairs), sl__law_pairs⟩)
    (q__law_pairs : PySem.W.codeIn K cd__law_pairs "_law_pairs" = true)
    (k__law_pairs : PySem.W.keepIn K (.ref f__law_pairs) = true)
    (a__law_deep : PySem.W.nsIn K mainGlobals "_law_deep" = some (some (.ref f__law_deep)))
    (l__law_deep : K.lookup f__law_deep = some ⟨oc__law_deep, od__law_deep, .func (PySem.W.fnOf "_law_deep" "_law_deep" (defArgs s__law_deep) (defBody s__law_deep) (defScope s__law_deep) .none kV__law_deep dc__law_deep pm__law_deep an__law_deep cd__law_deep ct__law_deep), sl__law_deep⟩)
    (q__law_deep : PySem.W.codeIn K cd__law_deep "_law_deep" = true)
    (k__law_deep : PySem.W.keepIn K (.ref f__law_deep) = true)
    (a__law_odd : PySem.W.nsIn K mainGlobals "_law_odd" = some (some (.ref f__law_odd)))
    (l__law_odd : K.lookup f__law_odd = some ⟨oc__law_odd, od__law_odd, .func (PySem.W.fnOf "_law_odd" "_law_odd" (defArgs s__law_odd) (defBody s__law_odd) (defScope s__law_odd) .none kV__law_odd dc__law_odd pm__law_odd an__law_odd cd__law_odd ct__law_odd), sl__law_odd⟩)
    (q__law_odd : PySem.W.codeIn K cd__law_odd "_law_odd" = true)
    (k__law_odd : PySem.W.keepIn K (.ref f__law_odd) = true)
    (a__law_is_number : PySem.W.nsIn K mainGlobals "_law_is_number" = some (some (.ref f__law_is_number)))
    (l__law_is_number : K.lookup f__law_is_number = some ⟨oc__law_is_number, od__law_is_number, .func (PySem.W.fnOf "_law_is_number" "_law_is_number" (defArgs s__law_is_number) (defBody s__law_is_number) (defScope s__law_is_number) .none kV__law_is_number dc__law_is_number pm__law_is_number an__law_is_number cd__law_is_number ct__law_is_number), sl__law_is_number⟩)
    (q__law_is_number : PySem.W.codeIn K cd__law_is_number "_law_is_number" = true)
    (k__law_is_number : PySem.W.keepIn K (.ref f__law_is_number) = true)
    (a__law_is_size_number : PySem.W.nsIn K mainGlobals "_law_is_size_number" = some (some (.ref f__law_is_size_number)))
    (l__law_is_size_number : K.lookup f__law_is_size_number = some ⟨oc__law_is_size_number, od__law_is_size_number, .func (PySem.W.fnOf "_law_is_size_number" "_law_is_size_number" (defArgs s__law_is_size_number) (defBody s__law_is_size_number) (defScope s__law_is_size_number) .none kV__law_is_size_number dc__law_is_size_number pm__law_is_size_number an__law_is_size_number cd__law_is_size_number ct__law_is_size_number), sl__law_is_size_number⟩)
    (q__law_is_size_number : PySem.W.codeIn K cd__law_is_size_number "_law_is_size_number" = true)
    (k__law_is_size_number : PySem.W.keepIn K (.ref f__law_is_size_number) = true)
    (a__law_heard : PySem.W.nsIn K mainGlobals "_law_heard" = some (some (.ref f__law_heard)))
    (l__law_heard : K.lookup f__law_heard = some ⟨oc__law_heard, od__law_heard, .func (PySem.W.fnOf "_law_heard" "_law_heard" (defArgs s__law_heard) (defBody s__law_heard) (defScope s__law_heard) .none kV__law_heard dc__law_heard pm__law_heard an__law_heard cd__law_heard ct__law_heard), sl__law_heard⟩)
    (q__law_heard : PySem.W.codeIn K cd__law_heard "_law_heard" = true)
    (k__law_heard : PySem.W.keepIn K (.ref f__law_heard) = true)
    (a__law_pair_right : PySem.W.nsIn K mainGlobals "_law_pair_right" = some (some (.ref f__law_pair_right)))
    (l__law_pair_right : K.lookup f__law_pair_right = some ⟨oc__law_pair_right, od__law_pair_right, .func (PySem.W.fnOf "_law_pair_right" "_law_pair_right" (defArgs s__law_pair_right) (defBody s__law_pair_right) (defScope s__law_pair_right) .none kV__law_pair_right dc__law_pair_right pm__law_pair_right an__law_pair_right cd__law_pair_right ct__law_pair_right), sl__law_pair_right⟩)
    (q__law_pair_right : PySem.W.codeIn K cd__law_pair_right "_law_pair_right" = true)
    (k__law_pair_right : PySem.W.keepIn K (.ref f__law_pair_right) = true)
    (a_law : PySem.W.nsIn K mainGlobals "law" = some (some (.ref f_law)))
    (l_law : K.lookup f_law = some ⟨oc_law, od_law, .func (PySem.W.fnOf "law" "law" (defArgs s_law) (defBody s_law) (defScope s_law) .none kV_law dc_law pm_law an_law cd_law ct_law), sl_law⟩)
    (q_law : PySem.W.codeIn K cd_law "law" = true)
    (k_law : PySem.W.keepIn K (.ref f_law) = true)
    (a_LoneError : PySem.W.nsIn K mainGlobals "LoneError" = some (some (.ref c_LoneError)))
    (x_LoneError : PySem.W.excIn K c_LoneError [.type "ValueError", .type "Exception", .type "BaseException", .type "object"] "ValueError.__new__" = true)
    (k_LoneError : PySem.W.keepIn K (.ref c_LoneError) = true)
    (u_LoneError : PySem.W.subIn K (.ref c_LoneError) (.type "BaseException") = some true)
    (t_LoneError : PySem.W.typeIn K (.ref c_LoneError) = some (.type "type"))
    (a_NoChoice : PySem.W.nsIn K mainGlobals "NoChoice" = some (some (.ref c_NoChoice)))
    (x_NoChoice : PySem.W.excIn K c_NoChoice [.type "ValueError", .type "Exception", .type "BaseException", .type "object"] "ValueError.__new__" = true)
    (k_NoChoice : PySem.W.keepIn K (.ref c_NoChoice) = true)
    (u_NoChoice : PySem.W.subIn K (.ref c_NoChoice) (.type "BaseException") = some true)
    (t_NoChoice : PySem.W.typeIn K (.ref c_NoChoice) = some (.type "type"))
    (a_Nothing : PySem.W.nsIn K mainGlobals "Nothing" = some (some (.ref c_Nothing)))
    (x_Nothing : PySem.W.excIn K c_Nothing [.type "ValueError", .type "Exception", .type "BaseException", .type "object"] "ValueError.__new__" = true)
    (k_Nothing : PySem.W.keepIn K (.ref c_Nothing) = true)
    (u_Nothing : PySem.W.subIn K (.ref c_Nothing) (.type "BaseException") = some true)
    (t_Nothing : PySem.W.typeIn K (.ref c_Nothing) = some (.type "type"))
    (b_isinstance : PySem.W.nsIn K mainGlobals "isinstance" = some none)
    (b_int : PySem.W.nsIn K mainGlobals "int" = some none)
    (b_bool : PySem.W.nsIn K mainGlobals "bool" = some none)
    (b_abs : PySem.W.nsIn K mainGlobals "abs" = some none)
    (b_len : PySem.W.nsIn K mainGlobals "len" = some none)
    (b_repr : PySem.W.nsIn K mainGlobals "repr" = some none)
    (b_range : PySem.W.nsIn K mainGlobals "range" = some none)
    (i_GREATEST_SIZE : PySem.W.nsIn K mainGlobals "GREATEST_SIZE" = some (some (.int 5 tk_GREATEST_SIZE)))
    (i_ENDS : PySem.W.nsIn K mainGlobals "ENDS" = some (some (.ref a_ENDS)))
    (j_ENDS : K.lookup a_ENDS = some ⟨.type "tuple", dd_ENDS, .seq #[.str "pillar" t0_ENDS, .str "sold" t1_ENDS, .str "wall" t2_ENDS] n_ENDS, sl_ENDS⟩)
    (e1_hr : PySem.W.findIn K (.ref c_NoChoice) "__getattribute__" = some (some (.builtin "BaseException.__getattribute__")))
    (e2_hr : PySem.W.findIn K (.ref c_NoChoice) "__getattr__" = some none)
    (e4_hr : PySem.W.hasDictIn K c_NoChoice = true)
    (e5_hr : PySem.W.findIn K (.ref c_NoChoice) "__class__" = some (some (.builtin "object.__class__")))
    (e6_hr : PySem.W.specialIn K (.builtin "object.__class__") "__get__" = some (some (.builtin "getset_descriptor.__get__")))
    (e7_hr : PySem.W.takesIn K (.builtin "object.__class__") = some true)
    (e8_hr : PySem.W.mroIn K c_NoChoice (.type "object") = some true)
    (k2_hr : PySem.W.hasDictIn K c_Nothing = true)
    (k3_hr : PySem.W.subIn K (.ref c_NoChoice) (.ref c_NoChoice) = some true)
    (k4_hr : PySem.W.subIn K (.ref c_NoChoice) (.ref c_Nothing) = some false)
    (x1_hr : PySem.W.hasDictIn K c_LoneError = true)
    (x2_hr : PySem.W.subIn K (.ref c_NoChoice) (.ref c_LoneError) = some true)
    (hm : lawMeans) : ∃ fd : FuncData, (∀ (s : Shared) (v : Value), BindsTo s fd ⟨[v], []⟩ [("_law_script", v)]) ∧ ∀ base : Heap, K.In base → base.Ns mainGlobals mg → FnG l.prog w K mg base 7 fa fd ["_law_script"] (spLaw K) := by
  have e := hfa.symm.trans (PySem.W.mg_of X N a_law)
  cases e
  let cl : Str → Option Addr := fun n => if n = "LoneError" then some c_LoneError else if n = "NoChoice" then some c_NoChoice else if n = "Nothing" then some c_Nothing else none
  have B : Bn mg := ⟨PySem.W.mg_none_of X N b_isinstance, PySem.W.mg_none_of X N b_int, PySem.W.mg_none_of X N b_bool, PySem.W.mg_none_of X N b_abs, PySem.W.mg_none_of X N b_len, PySem.W.mg_none_of X N b_repr, PySem.W.mg_none_of X N b_range⟩
  have C : Cn K mg a_ENDS := ⟨⟨_, PySem.W.mg_of X N i_GREATEST_SIZE, ⟨_, rfl⟩⟩, ⟨_, PySem.W.mg_of X N i_ENDS, rfl⟩, Or.inr ⟨_, _, _, j_ENDS, rfl, rfl, (by show 3 ≤ sizeLine; decide), .cons ⟨_, rfl⟩ (.cons ⟨_, rfl⟩ (.cons ⟨_, rfl⟩ (.nil)))⟩⟩
  have X_LoneError : Xc K mg cl "LoneError" c_LoneError := ⟨PySem.W.mg_of X N a_LoneError, x_LoneError, k_LoneError, u_LoneError, t_LoneError, if_pos rfl⟩
  have X_NoChoice : Xc K mg cl "NoChoice" c_NoChoice := ⟨PySem.W.mg_of X N a_NoChoice, x_NoChoice, k_NoChoice, u_NoChoice, t_NoChoice, (if_neg (by decide +kernel)).trans (if_pos rfl)⟩
  have X_Nothing : Xc K mg cl "Nothing" c_Nothing := ⟨PySem.W.mg_of X N a_Nothing, x_Nothing, k_Nothing, u_Nothing, t_Nothing, (if_neg (by decide +kernel)).trans ((if_neg (by decide +kernel)).trans (if_pos rfl))⟩
  have F_is_integer := fun_mk (st := s_is_integer) l_is_integer q_is_integer k_is_integer
  have D_is_integer : Df K mg "is_integer" s_is_integer ["thing"] _ _ := ⟨F_is_integer, F_is_integer.binds (ps := ["thing"]) fun _ _ _ _ _ _ us hl => match us, hl with | [_], _ => rfl, PySem.W.mg_of X N a_is_integer, k_is_integer⟩
  have F_is_number := fun_mk (st := s_is_number) l_is_number q_is_number k_is_number
  have D_is_number : Df K mg "is_number" s_is_number ["thing"] _ _ := ⟨F_is_number, F_is_number.binds (ps := ["thing"]) fun _ _ _ _ _ _ us hl => match us, hl with | [_], _ => rfl, PySem.W.mg_of X N a_is_number, k_is_number⟩
  have F_is_size := fun_mk (st := s_is_size) l_is_size q_is_size k_is_size
  have D_is_size : Df K mg "is_size" s_is_size ["thing"] _ _ := ⟨F_is_size, F_is_size.binds (ps := ["thing"]) fun _ _ _ _ _ _ us hl => match us, hl with | [_], _ => rfl, PySem.W.mg_of X N a_is_size, k_is_size⟩
  have F_fits := fun_mk (st := s_fits) l_fits q_fits k_fits
  have D_fits : Df K mg "fits" s_fits ["stretch", "size", "before"] _ _ := ⟨F_fits, F_fits.binds (ps := ["stretch", "size", "before"]) fun _ _ _ _ _ _ us hl => match us, hl with | [_, _, _], _ => rfl, PySem.W.mg_of X N a_fits, k_fits⟩
  have F_parts := fun_mk (st := s_parts) l_parts q_parts k_parts
  have D_parts : Df K mg "parts" s_parts ["stretch", "size", "before"] _ _ := ⟨F_parts, F_parts.binds (ps := ["stretch", "size", "before"]) fun _ _ _ _ _ _ us hl => match us, hl with | [_, _, _], _ => rfl, PySem.W.mg_of X N a_parts, k_parts⟩
  have F_turned := fun_mk (st := s_turned) l_turned q_turned k_turned
  have D_turned : Df K mg "turned" s_turned ["stretch"] _ _ := ⟨F_turned, F_turned.binds (ps := ["stretch"]) fun _ _ _ _ _ _ us hl => match us, hl with | [_], _ => rfl, PySem.W.mg_of X N a_turned, k_turned⟩
  have F_wholes := fun_mk (st := s_wholes) l_wholes q_wholes k_wholes
  have D_wholes : Df K mg "wholes" s_wholes ["length"] _ _ := ⟨F_wholes, F_wholes.binds (ps := ["length"]) fun _ _ _ _ _ _ us hl => match us, hl with | [_], _ => rfl, PySem.W.mg_of X N a_wholes, k_wholes⟩
  have F__law_bag := fun_mk (st := s__law_bag) l__law_bag q__law_bag k__law_bag
  have D__law_bag : Df K mg "_law_bag" s__law_bag ["_law_script"] _ _ := ⟨F__law_bag, F__law_bag.binds (ps := ["_law_script"]) fun _ _ _ _ _ _ us hl => match us, hl with | [_], _ => rfl, PySem.W.mg_of X N a__law_bag, k__law_bag⟩
  have F__law_take := fun_mk (st := s__law_take) l__law_take q__law_take k__law_take
  have D__law_take : Df K mg "_law_take" s__law_take ["_law_bag_here", "_law_many"] _ _ := ⟨F__law_take, F__law_take.binds (ps := ["_law_bag_here", "_law_many"]) fun _ _ _ _ _ _ us hl => match us, hl with | [_, _], _ => rfl, PySem.W.mg_of X N a__law_take, k__law_take⟩
  have F__law_alike := fun_mk (st := s__law_alike) l__law_alike q__law_alike k__law_alike
  have D__law_alike : Df K mg "_law_alike" s__law_alike ["_law_found", "_law_due"] _ _ := ⟨F__law_alike, F__law_alike.binds (ps := ["_law_found", "_law_due"]) fun _ _ _ _ _ _ us hl => match us, hl with | [_, _], _ => rfl, PySem.W.mg_of X N a__law_alike, k__law_alike⟩
  have F__law_one := fun_mk (st := s__law_one) l__law_one q__law_one k__law_one
  have D__law_one : Df K mg "_law_one" s__law_one ["_law_bag_here", "_law_things"] _ _ := ⟨F__law_one, F__law_one.binds (ps := ["_law_bag_here", "_law_things"]) fun _ _ _ _ _ _ us hl => match us, hl with | [_, _], _ => rfl, PySem.W.mg_of X N a__law_one, k__law_one⟩
  have F__law_ends := fun_mk (st := s__law_ends) l__law_ends q__law_ends k__law_ends
  have D__law_ends : Df K mg "_law_ends" s__law_ends [] _ _ := ⟨F__law_ends, F__law_ends.binds (ps := []) fun _ _ _ _ _ _ us hl => match us, hl with | [], _ => rfl, PySem.W.mg_of X N a__law_ends, k__law_ends⟩
  have F__law_end := fun_mk (st := s__law_end) l__law_end q__law_end k__law_end
  have D__law_end : Df K mg "_law_end" s__law_end ["_law_bag_here"] _ _ := ⟨F__law_end, F__law_end.binds (ps := ["_law_bag_here"]) fun _ _ _ _ _ _ us hl => match us, hl with | [_], _ => rfl, PySem.W.mg_of X N a__law_end, k__law_end⟩
  have F__law_stretch := fun_mk (st := s__law_stretch) l__law_stretch q__law_stretch k__law_stretch
  have D__law_stretch : Df K mg "_law_stretch" s__law_stretch ["_law_bag_here", "_law_upto"] _ _ := ⟨F__law_stretch, F__law_stretch.binds (ps := ["_law_bag_here", "_law_upto"]) fun _ _ _ _ _ _ us hl => match us, hl with | [_, _], _ => rfl, PySem.W.mg_of X N a__law_stretch, k__law_stretch⟩
  have F__law_parted := fun_mk (st := s__law_parted) l__law_parted q__law_parted k__law_parted
  have D__law_parted : Df K mg "_law_parted" s__law_parted ["_law_stretch_here", "_law_size", "_law_before"] _ _ := ⟨F__law_parted, F__law_parted.binds (ps := ["_law_stretch_here", "_law_size", "_law_before"]) fun _ _ _ _ _ _ us hl => match us, hl with | [_, _, _], _ => rfl, PySem.W.mg_of X N a__law_parted, k__law_parted⟩
  have F__law_is_whole_number := fun_mk (st := s__law_is_whole_number) l__law_is_whole_number q__law_is_whole_number k__law_is_whole_number
  have D__law_is_whole_number : Df K mg "_law_is_whole_number" s__law_is_whole_number ["_law_thing"] _ _ := ⟨F__law_is_whole_number, F__law_is_whole_number.binds (ps := ["_law_thing"]) fun _ _ _ _ _ _ us hl => match us, hl with | [_], _ => rfl, PySem.W.mg_of X N a__law_is_whole_number, k__law_is_whole_number⟩
  have F__law_pairs := fun_mk (st := s__law_pairs) l__law_pairs q__law_pairs k__law_pairs
  have D__law_pairs : Df K mg "_law_pairs" s__law_pairs [] _ _ := ⟨F__law_pairs, F__law_pairs.binds (ps := []) fun _ _ _ _ _ _ us hl => match us, hl with | [], _ => rfl, PySem.W.mg_of X N a__law_pairs, k__law_pairs⟩
  have F__law_deep := fun_mk (st := s__law_deep) l__law_deep q__law_deep k__law_deep
  have D__law_deep : Df K mg "_law_deep" s__law_deep [] _ _ := ⟨F__law_deep, F__law_deep.binds (ps := []) fun _ _ _ _ _ _ us hl => match us, hl with | [], _ => rfl, PySem.W.mg_of X N a__law_deep, k__law_deep⟩
  have F__law_odd := fun_mk (st := s__law_odd) l__law_odd q__law_odd k__law_odd
  have D__law_odd : Df K mg "_law_odd" s__law_odd ["_law_bag_here"] _ _ := ⟨F__law_odd, F__law_odd.binds (ps := ["_law_bag_here"]) fun _ _ _ _ _ _ us hl => match us, hl with | [_], _ => rfl, PySem.W.mg_of X N a__law_odd, k__law_odd⟩
  have F__law_is_number := fun_mk (st := s__law_is_number) l__law_is_number q__law_is_number k__law_is_number
  have D__law_is_number : Df K mg "_law_is_number" s__law_is_number ["_law_thing"] _ _ := ⟨F__law_is_number, F__law_is_number.binds (ps := ["_law_thing"]) fun _ _ _ _ _ _ us hl => match us, hl with | [_], _ => rfl, PySem.W.mg_of X N a__law_is_number, k__law_is_number⟩
  have F__law_is_size_number := fun_mk (st := s__law_is_size_number) l__law_is_size_number q__law_is_size_number k__law_is_size_number
  have D__law_is_size_number : Df K mg "_law_is_size_number" s__law_is_size_number ["_law_thing"] _ _ := ⟨F__law_is_size_number, F__law_is_size_number.binds (ps := ["_law_thing"]) fun _ _ _ _ _ _ us hl => match us, hl with | [_], _ => rfl, PySem.W.mg_of X N a__law_is_size_number, k__law_is_size_number⟩
  have F__law_heard := fun_mk (st := s__law_heard) l__law_heard q__law_heard k__law_heard
  have D__law_heard : Df K mg "_law_heard" s__law_heard ["_law_stretch_here", "_law_size", "_law_before"] _ _ := ⟨F__law_heard, F__law_heard.binds (ps := ["_law_stretch_here", "_law_size", "_law_before"]) fun _ _ _ _ _ _ us hl => match us, hl with | [_, _, _], _ => rfl, PySem.W.mg_of X N a__law_heard, k__law_heard⟩
  have F__law_pair_right := fun_mk (st := s__law_pair_right) l__law_pair_right q__law_pair_right k__law_pair_right
  have D__law_pair_right : Df K mg "_law_pair_right" s__law_pair_right ["_law_stretch_here", "_law_size", "_law_before"] _ _ := ⟨F__law_pair_right, F__law_pair_right.binds (ps := ["_law_stretch_here", "_law_size", "_law_before"]) fun _ _ _ _ _ _ us hl => match us, hl with | [_, _, _], _ => rfl, PySem.W.mg_of X N a__law_pair_right, k__law_pair_right⟩
  have F_law := fun_mk (st := s_law) l_law q_law k_law
  have D_law : Df K mg "law" s_law ["_law_script"] _ _ := ⟨F_law, F_law.binds (ps := ["_law_script"]) fun _ _ _ _ _ _ us hl => match us, hl with | [_], _ => rfl, PySem.W.mg_of X N a_law, k_law⟩
  refine ⟨PySem.W.fnOf "law" "law" (defArgs s_law) (defBody s_law) (defScope s_law) .none kV_law dc_law pm_law an_law cd_law ct_law, fun s v => .of_eq rfl, fun base _ _ => ?_⟩
  have G_is_integer := ok_is_integer (P := l.prog) (w := w) (mg := mg) (base := base) (cl := cl) F_is_integer B
  have G_turned := ok_turned (P := l.prog) (w := w) (mg := mg) (base := base) (cl := cl) F_turned
  have G_wholes := ok_wholes (P := l.prog) (w := w) (mg := mg) (base := base) (cl := cl) F_wholes C
  have G__law_bag := ok__law_bag (P := l.prog) (w := w) (mg := mg) (base := base) F__law_bag B
  have G__law_take := ok__law_take (P := l.prog) (w := w) (mg := mg) (base := base) (cl := cl) F__law_take B
  have G__law_alike := ok__law_alike (P := l.prog) (w := w) (mg := mg) (base := base) (cl := cl) F__law_alike B
  have G__law_ends := ok__law_ends (P := l.prog) (w := w) (mg := mg) (base := base) (cl := cl) F__law_ends
  have G__law_parted := ok__law_parted (P := l.prog) (w := w) (mg := mg) (base := base) (cl := cl) F__law_parted
  have G__law_is_whole_number := ok__law_is_whole_number (P := l.prog) (w := w) (mg := mg) (base := base) (cl := cl) F__law_is_whole_number B
  have G__law_deep := ok__law_deep (P := l.prog) (w := w) (mg := mg) (base := base) (cl := cl) F__law_deep B
  have G_is_number := ok_is_number (P := l.prog) (w := w) (mg := mg) (base := base) (cl := cl) F_is_number D_is_integer G_is_integer
  have G_is_size := ok_is_size (P := l.prog) (w := w) (mg := mg) (base := base) (cl := cl) F_is_size D_is_integer G_is_integer C
  have G__law_one := ok__law_one (P := l.prog) (w := w) (mg := mg) (base := base) (cl := cl) F__law_one D__law_take G__law_take B
  have G__law_pairs := ok__law_pairs (P := l.prog) (w := w) (mg := mg) (base := base) (cl := cl) F__law_pairs D__law_ends G__law_ends
  have G__law_odd := ok__law_odd (P := l.prog) (w := w) (mg := mg) (base := base) (cl := cl) F__law_odd D__law_take G__law_take D__law_deep G__law_deep
  have G__law_is_number := ok__law_is_number (P := l.prog) (w := w) (mg := mg) (base := base) (cl := cl) F__law_is_number D__law_is_whole_number G__law_is_whole_number
  have G__law_is_size_number := ok__law_is_size_number (P := l.prog) (w := w) (mg := mg) (base := base) (cl := cl) F__law_is_size_number D__law_is_whole_number G__law_is_whole_number
  have G_fits := ok_fits (P := l.prog) (w := w) (mg := mg) (base := base) (cl := cl) F_fits D_is_size G_is_size D_is_number G_is_number
  have G__law_end := ok__law_end (P := l.prog) (w := w) (mg := mg) (base := base) (cl := cl) F__law_end D__law_one G__law_one D__law_ends G__law_ends
  have G_parts := ok_parts (P := l.prog) (w := w) (mg := mg) (base := base) (cl := cl) F_parts D_fits G_fits X_NoChoice
  have G__law_stretch := ok__law_stretch (P := l.prog) (w := w) (mg := mg) (base := base) (cl := cl) F__law_stretch D__law_end G__law_end D__law_take G__law_take
  have G__law_heard := ok__law_heard (P := l.prog) (w := w) (mg := mg) (base := base) (cl := cl) F__law_heard D_parts G_parts X_LoneError X_NoChoice X_Nothing B (⟨⟨e1_hr, e2_hr, u_NoChoice, e4_hr, e5_hr, e6_hr, e7_hr, e8_hr⟩, kit_self, kit_not k2_hr t_Nothing k3_hr k4_hr, PySem.W.exm_ref u_LoneError x1_hr t_LoneError x2_hr⟩ : Hr K c_Nothing c_NoChoice c_LoneError)
  have G__law_pair_right := ok__law_pair_right (P := l.prog) (w := w) (mg := mg) (base := base) (cl := cl) F__law_pair_right D__law_is_size_number G__law_is_size_number D__law_is_number G__law_is_number D__law_alike G__law_alike D__law_parted G__law_parted D_fits G_fits D__law_heard G__law_heard
  exact ok_law (cl := cl) F_law D__law_bag G__law_bag D__law_stretch G__law_stretch D__law_odd G__law_odd D_wholes G_wholes D__law_take G__law_take D__law_pair_right G__law_pair_right D__law_alike G__law_alike D__law_pairs G__law_pairs D_turned G_turned B hm
theorem walk {l : PySem.W.OpenLaw} {q : Program} {loose : List Str} {XP : (Str → Option Value) → Heap → Prop} {YP : World → Heap → Prop} {d : DefRec} {K : Params → PySem.W.Frag} (hn : l.most = some 63) (hdf : d.params.defaults = []) (hY : ∀ (w : World) (h : Heap), YP w h → (K w.params).In h)
    (F : ∀ (w : World) (mg : Str → Option Value) (fa : Addr) (h : Heap), (K w.params).In h → h.Ns mainGlobals mg → mg d.name = some (.ref fa) →
      ∃ fd : FuncData, (∀ (s : Shared) (u : Value), BindsTo s fd ⟨[u], []⟩ [("_law_script", u)]) ∧ ∀ base : Heap, (K w.params).In base → base.Ns mainGlobals mg → FnG l.prog w (K w.params) mg base 7 fa fd ["_law_script"] (spLaw (K w.params))) :
    PySem.W.WalkO q loose XP YP l.row.toRowW d [] (fun f vs => PySem.call f vs) := walk_G hn hdf ⟨⟨rfl, by decide, by decide⟩, rfl⟩ hY F
end K12
open PySem PySem.W PyProof.Rows
set_option maxRecDepth 100000 in
set_option maxHeartbeats 0 in
theorem PySem.Challenge.cw_loneseats_k12_parts_of_stretches_holds : PySem.Challenge.rw_loneseats_k12_parts_of_stretches.Holds := by
  w_on; o_law; k_head; (case hw => w_witness2)
  k_fill
  refine K12.walk (l := PySem.Challenge.rw_loneseats_k12_parts_of_stretches) rfl rfl (fun w h Y => PySem.W.kIn_of Y) ?F
  case F =>
    intro w mg fa h KX G hmg
    refine' K12.all_mk KX G hmg ?a_is_integer ?l_is_integer ?q_is_integer ?k_is_integer ?a_is_number ?l_is_number ?q_is_number ?k_is_number ?a_is_size ?l_is_size ?q_is_size ?k_is_size ?a_fits ?l_fits ?q_fits ?k_fits ?a_parts ?l_parts ?q_parts ?k_parts ?a_turned ?l_turned ?q_turned ?k_turned ?a_wholes ?l_wholes ?q_wholes ?k_wholes ?a__law_bag ?l__law_bag ?q__law_bag ?k__law_bag ?a__law_take ?l__law_take ?q__law_take ?k__law_take ?a__law_alike ?l__law_alike ?q__law_alike ?k__law_alike ?a__law_one ?l__law_one ?q__law_one ?k__law_one ?a__law_ends ?l__law_ends ?q__law_ends ?k__law_ends ?a__law_end ?l__law_end ?q__law_end ?k__law_end ?a__law_stretch ?l__law_stretch ?q__law_stretch ?k__law_stretch ?a__law_parted ?l__law_parted ?q__law_parted ?k__law_parted ?a__law_is_whole_number ?l__law_is_whole_number ?q__law_is_whole_number ?k__law_is_whole_number ?a__law_pairs ?l__law_pairs ?q__law_pairs ?k__law_pairs ?a__law_deep ?l__law_deep ?q__law_deep ?k__law_deep ?a__law_odd ?l__law_odd ?q__law_odd ?k__law_odd ?a__law_is_number ?l__law_is_number ?q__law_is_number ?k__law_is_number ?a__law_is_size_number ?l__law_is_size_number ?q__law_is_size_number ?k__law_is_size_number ?a__law_heard ?l__law_heard ?q__law_heard ?k__law_heard ?a__law_pair_right ?l__law_pair_right ?q__law_pair_right ?k__law_pair_right ?a_law ?l_law ?q_law ?k_law ?a_LoneError ?x_LoneError ?k_LoneError ?u_LoneError ?t_LoneError ?a_NoChoice ?x_NoChoice ?k_NoChoice ?u_NoChoice ?t_NoChoice ?a_Nothing ?x_Nothing ?k_Nothing ?u_Nothing ?t_Nothing ?b_isinstance ?b_int ?b_bool ?b_abs ?b_len ?b_repr ?b_range ?i_GREATEST_SIZE ?i_ENDS ?j_ENDS ?e1_hr ?e2_hr ?e4_hr ?e5_hr ?e6_hr ?e7_hr ?e8_hr ?k2_hr ?k3_hr ?k4_hr ?x1_hr ?x2_hr K12.meant
    (case a_is_integer => k_is)
    (case l_is_integer => k_is)
    (case q_is_integer => k_is)
    (case k_is_integer => k_is)
    (case a_is_number => k_is)
    (case l_is_number => k_is)
    (case q_is_number => k_is)
    (case k_is_number => k_is)
    (case a_is_size => k_is)
    (case l_is_size => k_is)
    (case q_is_size => k_is)
    (case k_is_size => k_is)
    (case a_fits => k_is)
    (case l_fits => k_is)
    (case q_fits => k_is)
    (case k_fits => k_is)
    (case a_parts => k_is)
    (case l_parts => k_is)
    (case q_parts => k_is)
    (case k_parts => k_is)
    (case a_turned => k_is)
    (case l_turned => k_is)
    (case q_turned => k_is)
    (case k_turned => k_is)
    (case a_wholes => k_is)
    (case l_wholes => k_is)
    (case q_wholes => k_is)
    (case k_wholes => k_is)
    (case a__law_bag => k_is)
    (case l__law_bag => k_is)
    (case q__law_bag => k_is)
    (case k__law_bag => k_is)
    (case a__law_take => k_is)
    (case l__law_take => k_is)
    (case q__law_take => k_is)
    (case k__law_take => k_is)
    (case a__law_alike => k_is)
    (case l__law_alike => k_is)
    (case q__law_alike => k_is)
    (case k__law_alike => k_is)
    (case a__law_one => k_is)
    (case l__law_one => k_is)
    (case q__law_one => k_is)
    (case k__law_one => k_is)
    (case a__law_ends => k_is)
    (case l__law_ends => k_is)
    (case q__law_ends => k_is)
    (case k__law_ends => k_is)
    (case a__law_end => k_is)
    (case l__law_end => k_is)
    (case q__law_end => k_is)
    (case k__law_end => k_is)
    (case a__law_stretch => k_is)
    (case l__law_stretch => k_is)
    (case q__law_stretch => k_is)
    (case k__law_stretch => k_is)
    (case a__law_parted => k_is)
    (case l__law_parted => k_is)
    (case q__law_parted => k_is)
    (case k__law_parted => k_is)
    (case a__law_is_whole_number => k_is)
    (case l__law_is_whole_number => k_is)
    (case q__law_is_whole_number => k_is)
    (case k__law_is_whole_number => k_is)
    (case a__law_pairs => k_is)
    (case l__law_pairs => k_is)
    (case q__law_pairs => k_is)
    (case k__law_pairs => k_is)
    (case a__law_deep => k_is)
    (case l__law_deep => k_is)
    (case q__law_deep => k_is)
    (case k__law_deep => k_is)
    (case a__law_odd => k_is)
    (case l__law_odd => k_is)
    (case q__law_odd => k_is)
    (case k__law_odd => k_is)
    (case a__law_is_number => k_is)
    (case l__law_is_number => k_is)
    (case q__law_is_number => k_is)
    (case k__law_is_number => k_is)
    (case a__law_is_size_number => k_is)
    (case l__law_is_size_number => k_is)
    (case q__law_is_size_number => k_is)
    (case k__law_is_size_number => k_is)
    (case a__law_heard => k_is)
    (case l__law_heard => k_is)
    (case q__law_heard => k_is)
    (case k__law_heard => k_is)
    (case a__law_pair_right => k_is)
    (case l__law_pair_right => k_is)
    (case q__law_pair_right => k_is)
    (case k__law_pair_right => k_is)
    (case a_law => k_is)
    (case l_law => k_is)
    (case q_law => k_is)
    (case k_law => k_is)
    (case a_LoneError => k_is)
    (case x_LoneError => k_exc)
    (case k_LoneError => k_is)
    (case u_LoneError => k_is)
    (case t_LoneError => k_is)
    (case a_NoChoice => k_is)
    (case x_NoChoice => k_exc)
    (case k_NoChoice => k_is)
    (case u_NoChoice => k_is)
    (case t_NoChoice => k_is)
    (case a_Nothing => k_is)
    (case x_Nothing => k_exc)
    (case k_Nothing => k_is)
    (case u_Nothing => k_is)
    (case t_Nothing => k_is)
    (case b_isinstance => k_is)
    (case b_int => k_is)
    (case b_bool => k_is)
    (case b_abs => k_is)
    (case b_len => k_is)
    (case b_repr => k_is)
    (case b_range => k_is)
    (case i_GREATEST_SIZE => k_is)
    (case i_ENDS => k_is)
    (case j_ENDS => k_is)
    (case e1_hr => k_is)
    (case e2_hr => k_is)
    (case e4_hr => k_is)
    (case e5_hr => k_is)
    (case e6_hr => k_is)
    (case e7_hr => k_is)
    (case e8_hr => k_is)
    (case k2_hr => k_is)
    (case k3_hr => k_is)
    (case k4_hr => k_is)
    (case x1_hr => k_is)
    (case x2_hr => k_is)

