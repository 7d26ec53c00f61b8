import PyProof.Rows.All
import Wide.All
import OpenK.AllK
import Wide.FinOn
import HandS.ForMost
import HandS.ExcInit
import HandS.Style
import HandS.Defaults
import HandS.IsInst
import HandS.Exc
import HandS.ExcField
import HandS.ExcIs
import KE.KExcIs
import HandS.ExcOwn
import KE.KExcMake
import KE.KExcInit
import HandS.Head0
import HandS.Head1
import HandS.Head2
import HandS.HeadEnd
import HandS.HeadHook1
import HandS.HeadHook2
import HandS.HeadHook3
import HandS.HeadHook4
import KE.KStateDown
import PySem.Challenge.RW_deskcards_k01_errors_and_what_they_keep
set_option Elab.async false
set_option linter.all false
set_option maxRecDepth 100000
set_option maxHeartbeats 0
namespace DL
open PySem PySem.Spec PyProof.Rows L2

/-! ### data as trees -/
inductive D where
  | non | bl (b : Bool) | int (i : Int) | str (s : Str)
  | lst (l : List D) | tup (l : List D)
  | ins (c : Nat) (fs : List (Str × D))

structure Wd where
  K : PySem.W.Frag
  cl : Nat → Addr

/-- a value as a slot holds it: a tree, or a thing that may change, by its address -/
inductive SV where
  | d (x : D)
  | ob (a : Addr)
inductive MO where
  | lst (l : List SV)
  | ins (c : Nat) (fs : List (Str × SV))
  | exc (c : Nat) (fs : List (Str × SV))
abbrev G := Addr → Option MO

def gset (g : G) (a : Addr) (o : MO) : G := fun b => if b = a then some o else g b
def gdel (g : G) (a : Addr) : G := fun b => if b = a then none else g b
theorem gset_same {g : G} {a : Addr} {o : MO} : gset g a o a = some o := by unfold gset; rw [if_pos rfl]
theorem gset_ne {g : G} {a b : Addr} {o : MO} (h : b ≠ a) : gset g a o b = g b := by unfold gset; rw [if_neg h]
theorem gdel_same {g : G} {a : Addr} : gdel g a a = none := by unfold gdel; rw [if_pos rfl]
theorem gdel_ne {g : G} {a b : Addr} (h : b ≠ a) : gdel g a b = g b := by unfold gdel; rw [if_neg h]
theorem gset_gset {g : G} {a : Addr} {o u : MO} : gset (gset g a o) a u = gset g a u := by
  funext b; unfold gset; split <;> rfl
theorem gset_self {g : G} {a : Addr} {o : MO} (h : g a = some o) : gset g a o = g := by
  funext b; unfold gset; split
  · rename_i e; rw [e, h]
  · rfl
theorem gset_comm {g : G} {a b : Addr} {o u : MO} (h : a ≠ b) : gset (gset g a o) b u = gset (gset g b u) a o := by
  funext c; unfold gset
  by_cases h1 : c = a
  · subst h1; rw [if_neg h, if_pos rfl, if_pos rfl]
  · by_cases h2 : c = b
    · subst h2; rw [if_pos rfl, if_neg h1, if_pos rfl]
    · rw [if_neg h2, if_neg h1, if_neg h1, if_neg h2]

/-- a list, a tuple of the written part -/
def KL (K : PySem.W.Frag) (a : Addr) (xs : List V) : Prop :=
  ∃ (o : Obj) (its : Array Value) (n : Nat), K.lookup a = some o ∧ o.cls = .type "list" ∧ o.dict = none ∧ o.data = .seq its n ∧ its.size ≤ sizeLine ∧ Vals xs its.toList
def KT (K : PySem.W.Frag) (a : Addr) (xs : List V) : Prop :=
  ∃ (o : Obj) (its : Array Value) (n : Nat), K.lookup a = some o ∧ o.cls = .type "tuple" ∧ o.data = .seq its n ∧ its.size ≤ sizeLine ∧ Vals xs its.toList
/-- a list, a tuple that is read as a tree: tracked and not one that may change, or a written one -/
def SL (K : PySem.W.Frag) (H : Hp) (g : G) (a : Addr) (xs : List V) : Prop := (Rd H a (.lst xs) ∧ g a = none) ∨ KL K a xs
def ST (K : PySem.W.Frag) (H : Hp) (g : G) (a : Addr) (xs : List V) : Prop := (Rd H a (.tup xs) ∧ g a = none) ∨ KT K a xs
theorem SL.sq {K : PySem.W.Frag} {H : Hp} {g : G} {a : Addr} {xs : List V} (h : SL K H g a xs) : SqL K H a xs := by
  rcases h with ⟨h, _⟩ | h
  · exact .inl h
  · exact .inr h
theorem ST.sq {K : PySem.W.Frag} {H : Hp} {g : G} {a : Addr} {xs : List V} (h : ST K H g a xs) : SqT K H a xs := by
  rcases h with ⟨h, _⟩ | h
  · exact .inl h
  · exact .inr h

section
variable (W : Wd) (H : Hp) (g : G)
mutual
def Rep : D → V → Prop
  | .non, v => v = .non
  | .bl b, v => v = .bl b
  | .int i, v => v = .int i
  | .str s, v => v = .str s
  | .lst l, v => ∃ a xs, v = .ref a ∧ SL W.K H g a xs ∧ Reps l xs
  | .tup l, v => ∃ a xs, v = .ref a ∧ ST W.K H g a xs ∧ Reps l xs
  | .ins c fs, v => ∃ a dx vs, v = .ref a ∧ H a = some (.ins (W.cl c) dx vs) ∧ g a = none ∧ Repf fs vs
def Reps : List D → List V → Prop
  | [], xs => xs = []
  | d :: l, xs => ∃ x r, xs = x :: r ∧ Rep d x ∧ Reps l r
def Repf : List (Str × D) → List (Str × V) → Prop
  | [], xs => xs = []
  | p :: l, xs => ∃ x r, xs = (p.1, x) :: r ∧ Rep p.2 x ∧ Repf l r
end
def RepS : SV → V → Prop
  | .d x, v => Rep W H g x v
  | .ob a, v => v = .ref a
def RepSs : List SV → List V → Prop
  | [], xs => xs = []
  | d :: l, xs => ∃ x r, xs = x :: r ∧ RepS W H g d x ∧ RepSs l r
def RepSf : List (Str × SV) → List (Str × V) → Prop
  | [], xs => xs = []
  | p :: l, xs => ∃ x r, xs = (p.1, x) :: r ∧ RepS W H g p.2 x ∧ RepSf l r
def MRep (a : Addr) : MO → Prop
  | .lst l => ∃ xs, H a = some (.lst xs) ∧ RepSs W H g l xs
  | .ins c fs => ∃ dx vs, H a = some (.ins (W.cl c) dx vs) ∧ RepSf W H g fs vs
  | .exc c fs => ∃ (d : Option Addr) (vs : List (Str × V)), H a = some (exo a (W.cl c) d) ∧ RepSf W H g fs vs ∧ (match d with | none => fs = [] | some dx => (H dx = some (exd dx vs) ∧ g dx = none) ∧ fs ≠ [])
def GOk : Prop := ∀ a o, g a = some o → MRep W H g a o
end

/-- all that was there and may not change is as it was -/
def Ext (g : G) (H : Hp) (g' : G) (H' : Hp) : Prop := ∀ a o, H a = some o → g a = none → H' a = some o ∧ g' a = none
theorem Ext.refl (g : G) (H : Hp) : Ext g H g H := fun _ _ h n => ⟨h, n⟩
theorem Ext.trans {g g1 g2 : G} {H H1 H2 : Hp} (a : Ext g H g1 H1) (b : Ext g1 H1 g2 H2) : Ext g H g2 H2 := fun x o h n =>
  let ⟨h1, n1⟩ := a x o h n
  b x o h1 n1

section
variable {W : Wd} {K : PySem.W.Frag} {H H' H1 H2 : Hp} {g g' g1 g2 : G} {a : Addr} {xs : List V}
theorem Ext.rd {u : HO} (e : Ext g H g' H') (h : Rd H a u) (n : g a = none) : Rd H' a u ∧ g' a = none := by
  rcases h with h | ⟨o, h⟩
  · exact ⟨.inl (e a _ h n).1, (e a _ h n).2⟩
  · exact ⟨.inr ⟨o, (e a _ h n).1⟩, (e a _ h n).2⟩
theorem SL.ext (e : Ext g H g' H') (h : SL K H g a xs) : SL K H' g' a xs := by
  rcases h with ⟨h, n⟩ | h
  · exact .inl (e.rd h n)
  · exact .inr h
theorem ST.ext (e : Ext g H g' H') (h : ST K H g a xs) : ST K H' g' a xs := by
  rcases h with ⟨h, n⟩ | h
  · exact .inl (e.rd h n)
  · exact .inr h
mutual
theorem Rep.ext (e : Ext g H g' H') : ∀ (d : D) (v : V), Rep W H g d v → Rep W H' g' d v
  | .non, _, h => h
  | .bl _, _, h => h
  | .int _, _, h => h
  | .str _, _, h => h
  | .lst l, _, h => by
    obtain ⟨a, xs, rfl, h1, h2⟩ := h
    exact ⟨a, xs, rfl, h1.ext e, Reps.ext e l xs h2⟩
  | .tup l, _, h => by
    obtain ⟨a, xs, rfl, h1, h2⟩ := h
    exact ⟨a, xs, rfl, h1.ext e, Reps.ext e l xs h2⟩
  | .ins c fs, _, h => by
    obtain ⟨a, dx, vs, rfl, h1, h2, h3⟩ := h
    exact ⟨a, dx, vs, rfl, (e a _ h1 h2).1, (e a _ h1 h2).2, Repf.ext e fs vs h3⟩
theorem Reps.ext (e : Ext g H g' H') : ∀ (l : List D) (xs : List V), Reps W H g l xs → Reps W H' g' l xs
  | [], _, h => h
  | d :: l, _, h => by
    obtain ⟨x, r, rfl, h1, h2⟩ := h
    exact ⟨x, r, rfl, Rep.ext e d x h1, Reps.ext e l r h2⟩
theorem Repf.ext (e : Ext g H g' H') : ∀ (l : List (Str × D)) (xs : List (Str × V)), Repf W H g l xs → Repf W H' g' l xs
  | [], _, h => h
  | p :: l, _, h => by
    obtain ⟨x, r, rfl, h1, h2⟩ := h
    exact ⟨x, r, rfl, Rep.ext e p.2 x h1, Repf.ext e l r h2⟩
end
theorem RepS.ext (e : Ext g H g' H') {s : SV} {v : V} (h : RepS W H g s v) : RepS W H' g' s v := by
  cases s with
  | d x => exact Rep.ext e x v h
  | ob a => exact h
theorem RepSs.ext (e : Ext g H g' H') : ∀ {l : List SV} {xs : List V}, RepSs W H g l xs → RepSs W H' g' l xs
  | [], _, h => h
  | d :: l, _, h => by
    obtain ⟨x, r, rfl, h1, h2⟩ := h
    exact ⟨x, r, rfl, h1.ext e, RepSs.ext e h2⟩
theorem RepSf.ext (e : Ext g H g' H') : ∀ {l : List (Str × SV)} {xs : List (Str × V)}, RepSf W H g l xs → RepSf W H' g' l xs
  | [], _, h => h
  | p :: l, _, h => by
    obtain ⟨x, r, rfl, h1, h2⟩ := h
    exact ⟨x, r, rfl, h1.ext e, RepSf.ext e h2⟩
theorem MRep.ext (e : Ext g H g' H') (k : H' a = H a) {o : MO} (h : MRep W H g a o) : MRep W H' g' a o := by
  cases o with
  | lst l =>
    obtain ⟨xs, h1, h2⟩ := h
    exact ⟨xs, k.trans h1, h2.ext e⟩
  | ins c fs =>
    obtain ⟨dx, vs, h1, h2⟩ := h
    exact ⟨dx, vs, k.trans h1, h2.ext e⟩
  | exc c fs =>
    obtain ⟨d, vs, h1, h2, h3⟩ := h
    refine ⟨d, vs, k.trans h1, h2.ext e, ?_⟩
    cases d with
    | none => exact h3
    | some dx => exact ⟨e dx _ h3.1.1 h3.1.2, h3.2⟩
theorem MRep.some {o : MO} (h : MRep W H g a o) : ∃ u, H a = some u := by
  cases o with
  | lst l => obtain ⟨xs, h1, _⟩ := h; exact ⟨_, h1⟩
  | ins c fs => obtain ⟨dx, vs, h1, _⟩ := h; exact ⟨_, h1⟩
  | exc c fs => obtain ⟨d, vs, h1, _⟩ := h; exact ⟨_, h1⟩
theorem GOk.free (k : GOk W H g) (h : H a = none) : g a = none := by
  cases e : g a with
  | none => rfl
  | some o =>
    obtain ⟨u, q⟩ := (k a o e).some
    rw [h] at q; cases q

/-- a new thing is laid -/
theorem Ext.new {p : Addr} {o : HO} (h : H p = none) : Ext g H g (upd H p o) := fun a u e n => ⟨by rw [upd_ne (ne_of_none e h)]; exact e, n⟩
theorem GOk.new {p : Addr} {o : HO} (k : GOk W H g) (h : H p = none) : GOk W (upd H p o) g := fun a u e =>
  (k a u e).ext (Ext.new h) (upd_ne (fun z => by have := k.free h; rw [← z, e] at this; cases this))
/-- a new thing that may change -/
theorem Ext.newOb {p : Addr} {o : HO} {m : MO} (h : H p = none) : Ext g H (gset g p m) (upd H p o) := fun a u e n =>
  ⟨by rw [upd_ne (ne_of_none e h)]; exact e, by rw [gset_ne (ne_of_none e h)]; exact n⟩
theorem GOk.newOb {p : Addr} {o : HO} {m : MO} (k : GOk W H g) (h : H p = none) (hm : MRep W (upd H p o) (gset g p m) p m) : GOk W (upd H p o) (gset g p m) := fun a u e => by
  by_cases z : a = p
  · subst z
    rw [gset_same] at e; cases e; exact hm
  · rw [gset_ne z] at e
    exact (k a u e).ext (Ext.newOb h) (upd_ne z)
/-- a thing that may change is changed -/
theorem Ext.mut {p : Addr} {o : HO} {m m' : MO} (h : g p = some m) : Ext g H (gset g p m') (upd H p o) := fun a u e n => by
  have z : a ≠ p := fun z => by subst z; rw [h] at n; cases n
  exact ⟨by rw [upd_ne z]; exact e, by rw [gset_ne z]; exact n⟩
theorem GOk.mut {p : Addr} {o : HO} {m m' : MO} (k : GOk W H g) (h : g p = some m) (hm : MRep W (upd H p o) (gset g p m') p m') : GOk W (upd H p o) (gset g p m') := fun a u e => by
  by_cases z : a = p
  · subst z
    rw [gset_same] at e; cases e; exact hm
  · rw [gset_ne z] at e
    exact (k a u e).ext (Ext.mut h) (upd_ne z)
/-- a thing that may change no longer does -/
theorem Ext.freeze {p : Addr} : Ext g H (gdel g p) H := fun a u e n => ⟨e, by
  by_cases z : a = p
  · subst z; exact gdel_same
  · rw [gdel_ne z]; exact n⟩
theorem GOk.freeze {p : Addr} (k : GOk W H g) : GOk W H (gdel g p) := fun a u e => by
  have z : a ≠ p := fun z => by subst z; rw [gdel_same] at e; cases e
  rw [gdel_ne z] at e
  exact (k a u e).ext Ext.freeze rfl
/-- a list's items, all trees -/
theorem reps_of : ∀ {l : List D} {xs : List V}, RepSs W H g (l.map SV.d) xs → Reps W H g l xs
  | [], _, h => h
  | d :: l, _, h => by
    obtain ⟨x, r, rfl, h1, h2⟩ := h
    exact ⟨x, r, rfl, h1, reps_of h2⟩
theorem reps_to : ∀ {l : List D} {xs : List V}, Reps W H g l xs → RepSs W H g (l.map SV.d) xs
  | [], _, h => h
  | d :: l, _, h => by
    obtain ⟨x, r, rfl, h1, h2⟩ := h
    exact ⟨x, r, rfl, h1, reps_to h2⟩
theorem Reps.length : ∀ {l : List D} {xs : List V}, Reps W H g l xs → l.length = xs.length
  | [], _, h => by cases (show _ = [] from h); rfl
  | d :: l, _, h => by
    obtain ⟨x, r, rfl, h1, h2⟩ := h
    exact congrArg (· + 1) (Reps.length h2)
theorem RepSs.length : ∀ {l : List SV} {xs : List V}, RepSs W H g l xs → l.length = xs.length
  | [], _, h => by cases (show _ = [] from h); rfl
  | d :: l, _, h => by
    obtain ⟨x, r, rfl, h1, h2⟩ := h
    exact congrArg (· + 1) (RepSs.length h2)
theorem Reps.get : ∀ {l : List D} {xs : List V} {i : Nat} {d : D}, Reps W H g l xs → l[i]? = some d → ∃ x, xs[i]? = some x ∧ Rep W H g d x
  | [], _, _, _, _, e => by simp at e
  | c :: l, _, 0, d, h, e => by
    obtain ⟨x, r, rfl, h1, h2⟩ := h
    simp at e; subst e
    exact ⟨x, rfl, h1⟩
  | c :: l, _, i + 1, d, h, e => by
    obtain ⟨x, r, rfl, h1, h2⟩ := h
    obtain ⟨y, q1, q2⟩ := Reps.get (i := i) (d := d) h2 (by simpa using e)
    exact ⟨y, by simpa using q1, q2⟩
theorem Reps.got : ∀ {l : List D} {xs : List V} {i : Nat} {x : V}, Reps W H g l xs → xs[i]? = some x → ∃ d, l[i]? = some d ∧ Rep W H g d x
  | [], _, _, _, h, e => by cases (show _ = [] from h); simp at e
  | c :: l, _, 0, d, h, e => by
    obtain ⟨x, r, rfl, h1, h2⟩ := h
    simp at e; subst e
    exact ⟨c, rfl, h1⟩
  | c :: l, _, i + 1, d, h, e => by
    obtain ⟨x, r, rfl, h1, h2⟩ := h
    obtain ⟨y, q1, q2⟩ := Reps.got (i := i) (x := d) h2 (by simpa using e)
    exact ⟨y, by simpa using q1, q2⟩
theorem RepSs.get : ∀ {l : List SV} {xs : List V} {i : Nat} {d : SV}, RepSs W H g l xs → l[i]? = some d → ∃ x, xs[i]? = some x ∧ RepS W H g d x
  | [], _, _, _, _, e => by simp at e
  | c :: l, _, 0, d, h, e => by
    obtain ⟨x, r, rfl, h1, h2⟩ := h
    simp at e; subst e
    exact ⟨x, rfl, h1⟩
  | c :: l, _, i + 1, d, h, e => by
    obtain ⟨x, r, rfl, h1, h2⟩ := h
    obtain ⟨y, q1, q2⟩ := RepSs.get (i := i) (d := d) h2 (by simpa using e)
    exact ⟨y, by simpa using q1, q2⟩
theorem RepSs.append : ∀ {l m : List SV} {xs ys : List V}, RepSs W H g l xs → RepSs W H g m ys → RepSs W H g (l ++ m) (xs ++ ys)
  | [], _, _, _, h, k => by cases (show _ = [] from h); exact k
  | d :: l, m, _, _, h, k => by
    obtain ⟨x, r, rfl, h1, h2⟩ := h
    exact ⟨x, _, rfl, h1, RepSs.append h2 k⟩
theorem Reps.append : ∀ {l m : List D} {xs ys : List V}, Reps W H g l xs → Reps W H g m ys → Reps W H g (l ++ m) (xs ++ ys)
  | [], _, _, _, h, k => by cases (show _ = [] from h); exact k
  | d :: l, m, _, _, h, k => by
    obtain ⟨x, r, rfl, h1, h2⟩ := h
    exact ⟨x, _, rfl, h1, Reps.append h2 k⟩
theorem Reps.take : ∀ {l : List D} {xs : List V} (n : Nat), Reps W H g l xs → Reps W H g (l.take n) (xs.take n)
  | _, _, 0, _ => rfl
  | [], _, n + 1, h => by cases (show _ = [] from h); rfl
  | d :: l, _, n + 1, h => by
    obtain ⟨x, r, rfl, h1, h2⟩ := h
    exact ⟨x, _, rfl, h1, Reps.take n h2⟩
theorem Reps.drop : ∀ {l : List D} {xs : List V} (n : Nat), Reps W H g l xs → Reps W H g (l.drop n) (xs.drop n)
  | _, _, 0, h => h
  | [], _, n + 1, h => by cases (show _ = [] from h); rfl
  | d :: l, _, n + 1, h => by
    obtain ⟨x, r, rfl, h1, h2⟩ := h
    exact Reps.drop n h2
theorem RepSs.set : ∀ {l : List SV} {xs : List V} {s : SV} {x : V} (i : Nat), RepSs W H g l xs → RepS W H g s x → RepSs W H g (l.set i s) (xs.set i x)
  | [], _, _, _, _, h, _ => by cases (show _ = [] from h); rfl
  | d :: l, _, s, y, 0, h, k => by
    obtain ⟨x, r, rfl, h1, h2⟩ := h
    exact ⟨y, r, rfl, k, h2⟩
  | d :: l, _, s, y, i + 1, h, k => by
    obtain ⟨x, r, rfl, h1, h2⟩ := h
    exact ⟨x, _, rfl, h1, RepSs.set i h2 k⟩
theorem RepSs.dropLast : ∀ {l : List SV} {xs : List V}, RepSs W H g l xs → RepSs W H g l.dropLast xs.dropLast
  | [], _, h => by cases (show _ = [] from h); rfl
  | [d], _, h => by
    obtain ⟨x, r, rfl, h1, h2⟩ := h
    cases (show r = [] from h2); rfl
  | d :: c :: l, _, h => by
    obtain ⟨x, r, rfl, h1, y, s, rfl, h2, h3⟩ := h
    have := RepSs.dropLast (l := c :: l) (xs := y :: s) ⟨y, s, rfl, h2, h3⟩
    exact ⟨x, _, rfl, h1, this⟩
theorem RepSs.eraseIdx : ∀ {l : List SV} {xs : List V} (i : Nat), RepSs W H g l xs → RepSs W H g (l.eraseIdx i) (xs.eraseIdx i)
  | [], _, _, h => by cases (show _ = [] from h); rfl
  | d :: l, _, 0, h => by
    obtain ⟨x, r, rfl, h1, h2⟩ := h
    exact h2
  | d :: l, _, i + 1, h => by
    obtain ⟨x, r, rfl, h1, h2⟩ := h
    exact ⟨x, _, rfl, h1, RepSs.eraseIdx i h2⟩
theorem Repf.look : ∀ {l : List (Str × D)} {vs : List (Str × V)} {f : Str} {d : D}, Repf W H g l vs → l.lookup f = some d → ∃ v, vs.lookup f = some v ∧ Rep W H g d v
  | [], _, _, _, _, e => by simp at e
  | p :: l, _, f, d, h, e => by
    obtain ⟨x, r, rfl, h1, h2⟩ := h
    rw [List.lookup_cons] at e ⊢
    cases q : f == p.1 with
    | true => rw [q] at e; cases e; exact ⟨x, rfl, h1⟩
    | false => rw [q] at e; obtain ⟨v, k1, k2⟩ := Repf.look h2 e; exact ⟨v, k1, k2⟩
theorem Repf.nolook : ∀ {l : List (Str × D)} {vs : List (Str × V)} {f : Str}, Repf W H g l vs → l.lookup f = none → vs.lookup f = none
  | [], _, _, h, _ => by cases (show _ = [] from h); rfl
  | p :: l, _, f, h, e => by
    obtain ⟨x, r, rfl, h1, h2⟩ := h
    rw [List.lookup_cons] at e ⊢
    cases q : f == p.1 with
    | true => rw [q] at e; cases e
    | false => rw [q] at e; exact Repf.nolook h2 e
end
end DL

namespace DL
open PySem PySem.Spec PyProof.Rows L2

structure Sim (W : Wd) (ρ : List (Option SV)) (g : G) (σ : L2.St) (H : Hp) : Prop where
  ok : GOk W H g
  len : ρ.length = σ.length
  get : ∀ (i : Nat) (sv : SV), ρ[i]? = some (some sv) → ∃ v, σ[i]? = some (some v) ∧ RepS W H g sv v
abbrev QE := SV → G → Prop
abbrev Rho := List (Option SV)
section
variable {W : Wd} {ρ : Rho} {g g' : G} {σ : L2.St} {H H' : Hp}
theorem Sim.ext (S : Sim W ρ g σ H) (k : GOk W H' g') (e : Ext g H g' H') : Sim W ρ g' σ H' :=
  ⟨k, S.len, fun i sv h => let ⟨v, h1, h2⟩ := S.get i sv h; ⟨v, h1, h2.ext e⟩⟩
theorem Sim.set {sv : SV} {v : V} (i : Nat) (S : Sim W ρ g σ H) (r : RepS W H g sv v) : Sim W (ρ.set i (some sv)) g (σ.set i (some v)) H := by
  refine ⟨S.ok, by simpa using S.len, fun j s h => ?_⟩
  by_cases z : i = j
  · subst z
    by_cases hi : i < ρ.length
    · rw [List.getElem?_set_self hi] at h
      cases h
      exact ⟨v, by rw [List.getElem?_set_self (by rw [← S.len]; exact hi)], r⟩
    · rw [List.getElem?_eq_none (by simpa using hi)] at h; cases h
  · rw [List.getElem?_set_ne z] at h ⊢
    exact S.get j s h
theorem Sim.forget (i : Nat) (S : Sim W ρ g σ H) : Sim W (ρ.set i none) g σ H := by
  refine ⟨S.ok, by simpa using S.len, fun j s h => ?_⟩
  by_cases z : i = j
  · subst z
    by_cases hi : i < ρ.length
    · rw [List.getElem?_set_self hi] at h; cases h
    · rw [List.getElem?_eq_none (by simpa using hi)] at h; cases h
  · rw [List.getElem?_set_ne z] at h
    exact S.get j s h
theorem Sim.unset {σ' : L2.St} (i : Nat) (S : Sim W ρ g σ H) (hl : σ'.length = σ.length) (hσ : ∀ j, j ≠ i → σ'[j]? = σ[j]?) : Sim W (ρ.set i none) g σ' H := by
  refine ⟨S.ok, by rw [hl]; simpa using S.len, fun j s h => ?_⟩
  by_cases z : i = j
  · subst z
    by_cases hi : i < ρ.length
    · rw [List.getElem?_set_self hi] at h; cases h
    · rw [List.getElem?_eq_none (by simpa using hi)] at h; cases h
  · rw [List.getElem?_set_ne z] at h
    rw [hσ j (fun q => z q.symm)]
    exact S.get j s h
end

/-! ### the strongest readings -/
section
variable (X : Cx)
def tS (e : Expr) : TE := fun σ H Q => ∀ pins s, Inv X pins σ H s → wpAny (model X.prog X.w) X.A (eval e X.env) (EP X pins σ Q) X.xe s
def tST (e : Expr) : TT := fun σ H Q => ∀ pins s, Inv X pins σ H s → wpAny (model X.prog X.w) X.A (isTrue e X.env (eval e X.env)) (TP X pins σ Q) X.xe s
def tSW (e : Expr) : TT := fun σ H Q => ∀ whole pins s, Inv X pins σ H s → wpAny (model X.prog X.w) X.A (isTrue e X.env whole) (TP X pins σ Q) X.xe s
def tSA (es : List Expr) : TA := fun σ H Q => ∀ pos pins s, Inv X pins σ H s → wpAny (model X.prog X.w) X.A (spliced (backTo pos (starEach es X.env))) (AP X pins σ Q) X.xe s
def tS1 (st : Stmt) : TS := fun D σ H => ∀ pins s, Inv X pins σ H s → wpAny (model X.prog X.w) X.A (exec st X.env) (SP X pins D) X.xe s
def tSs (st : List Stmt) : TS := fun D σ H => ∀ pins s, Inv X pins σ H s → wpAny (model X.prog X.w) X.A (execs st X.env) (SP X pins D) X.xe s
end
section
variable {X : Cx} {e : Expr} {es : List Expr} {st : Stmt} {sts : List Stmt} {σ : L2.St} {H : Hp}
theorem pe_s : PE X e (tS X e) := ⟨fun pins s _ _ _ I h => h pins s I⟩
theorem pt_s : PT X e (tST X e) := ⟨fun pins s _ _ _ I h => h pins s I⟩
theorem pw_s : PW X e (tSW X e) := ⟨fun whole pins s _ _ _ I h => h whole pins s I⟩
theorem pa_s : PA X es (tSA X es) := ⟨fun pos pins s _ _ _ I h => h pos pins s I⟩
theorem ps_s : PS X st (tS1 X st) := ⟨fun pins s _ _ _ I h => h pins s I⟩
theorem pss_s : PSs X sts (tSs X sts) := ⟨fun pins s _ _ _ I h => h pins s I⟩
theorem ts_of {t : TE} (h : PE X e t) {Q : VK} (q : t σ H Q) : tS X e σ H Q := fun pins s I => h.run pins s σ H Q I q
theorem tt_of {t : TT} (h : PT X e t) {Q : Bool → Hp → Prop} (q : t σ H Q) : tST X e σ H Q := fun pins s I => h.run pins s σ H Q I q
theorem tw_of {t : TT} (h : PW X e t) {Q : Bool → Hp → Prop} (q : t σ H Q) : tSW X e σ H Q := fun whole pins s I => h.run whole pins s σ H Q I q
theorem ta_of {t : TA} (h : PA X es t) {Q : List V → Hp → Prop} (q : t σ H Q) : tSA X es σ H Q := fun pos pins s I => h.run pos pins s σ H Q I q
theorem t1_of {t : TS} (h : PS X st t) {D : Ends} (q : t D σ H) : tS1 X st D σ H := fun pins s I => h.run pins s σ H D I q
theorem tss_of {t : TS} (h : PSs X sts t) {D : Ends} (q : t D σ H) : tSs X sts D σ H := fun pins s I => h.run pins s σ H D I q
end

/-! ### what is wanted, over trees -/
section
variable (X : Cx) (W : Wd)
def PostE (g : G) (H : Hp) (Q : QE) (v : V) (H' : Hp) : Prop := ∃ r g', GOk W H' g' ∧ Ext g H g' H' ∧ RepS W H' g' r v ∧ Q r g'
def PostT (g : G) (H : Hp) (Q : Bool → G → Prop) (b : Bool) (H' : Hp) : Prop := ∃ g', GOk W H' g' ∧ Ext g H g' H' ∧ Q b g'
def PostA (g : G) (H : Hp) (Q : List SV → G → Prop) (vs : List V) (H' : Hp) : Prop := ∃ rs g', GOk W H' g' ∧ Ext g H g' H' ∧ RepSs W H' g' rs vs ∧ Q rs g'
def PostS (g : G) (H : Hp) (Q : Rho → G → Prop) (σ' : L2.St) (H' : Hp) : Prop := ∃ ρ' g', Sim W ρ' g' σ' H' ∧ Ext g H g' H' ∧ Q ρ' g'
def WE (e : Expr) (ρ : Rho) (g : G) (Q : QE) : Prop := ∀ σ H, Sim W ρ g σ H → ∀ Q' : VK, (∀ v H', PostE W g H Q v H' → Q' v H') → tS X e σ H Q'
def WT (e : Expr) (ρ : Rho) (g : G) (Q : Bool → G → Prop) : Prop := ∀ σ H, Sim W ρ g σ H → ∀ Q', (∀ b H', PostT W g H Q b H' → Q' b H') → tST X e σ H Q'
def WW (e : Expr) (ρ : Rho) (g : G) (Q : Bool → G → Prop) : Prop := ∀ σ H, Sim W ρ g σ H → ∀ Q', (∀ b H', PostT W g H Q b H' → Q' b H') → tSW X e σ H Q'
def WA (es : List Expr) (ρ : Rho) (g : G) (Q : List SV → G → Prop) : Prop := ∀ σ H, Sim W ρ g σ H → ∀ Q' : List V → Hp → Prop, (∀ vs H', PostA W g H Q vs H' → Q' vs H') → tSA X es σ H Q'
structure P4 where
  nx : Rho → G → Prop
  rt : QE
  bk : Rho → G → Prop := fun _ _ => False
  ct : Rho → G → Prop := fun _ _ => False
structure EndsOk (g : G) (H : Hp) (P : P4) (D : Ends) : Prop where
  nx : ∀ σ' H', PostS W g H P.nx σ' H' → D.nx σ' H'
  rt : ∀ v H', PostE W g H P.rt v H' → D.rt v H'
  bk : ∀ σ' H', PostS W g H P.bk σ' H' → D.bk σ' H'
  ct : ∀ σ' H', PostS W g H P.ct σ' H' → D.ct σ' H'
def WS (sts : List Stmt) (ρ : Rho) (g : G) (P : P4) : Prop := ∀ σ H, Sim W ρ g σ H → ∀ D, EndsOk W g H P D → tSs X sts D σ H
def W1 (st : Stmt) (ρ : Rho) (g : G) (P : P4) : Prop := ∀ σ H, Sim W ρ g σ H → ∀ D, EndsOk W g H P D → tS1 X st D σ H
/-- an operation upon values -/
def RW (r : R2) (x y : SV) (g : G) (Q : QE) : Prop := ∀ H vx vy, GOk W H g → RepS W H g x vx → RepS W H g y vy → ∀ Q' : VK, (∀ v H', PostE W g H Q v H' → Q' v H') → r vx vy H Q'
def RU (r : V → Hp → VK → Prop) (x : SV) (g : G) (Q : QE) : Prop := ∀ H vx, GOk W H g → RepS W H g x vx → ∀ Q' : VK, (∀ v H', PostE W g H Q v H' → Q' v H') → r vx H Q'
def RC (r : List V → Hp → VK → Prop) (xs : List SV) (g : G) (Q : QE) : Prop := ∀ H vs, GOk W H g → RepSs W H g xs vs → ∀ Q' : VK, (∀ v H', PostE W g H Q v H' → Q' v H') → r vs H Q'
def RM (r : V → List V → Hp → VK → Prop) (x : SV) (xs : List SV) (g : G) (Q : QE) : Prop := ∀ H vx vs, GOk W H g → RepS W H g x vx → RepSs W H g xs vs → ∀ Q' : VK, (∀ v H', PostE W g H Q v H' → Q' v H') → r vx vs H Q'
end
section
variable {X : Cx} {W : Wd} {g g1 g2 : G} {H H1 H2 H' : Hp} {ρ : Rho}
theorem PostE.imp {Q Q1 : QE} {v : V} (k : PostE W g H Q v H') (h : ∀ r g', Q r g' → Q1 r g') : PostE W g H Q1 v H' :=
  let ⟨r, g', a, b, c, d⟩ := k; ⟨r, g', a, b, c, h r g' d⟩
theorem PostE.back {Q : QE} {v : V} (e : Ext g H g1 H1) (k : PostE W g1 H1 Q v H') : PostE W g H Q v H' :=
  let ⟨r, g', a, b, c, d⟩ := k; ⟨r, g', a, e.trans b, c, d⟩
theorem PostT.back {Q : Bool → G → Prop} {v : Bool} (e : Ext g H g1 H1) (k : PostT W g1 H1 Q v H') : PostT W g H Q v H' :=
  let ⟨g', a, b, d⟩ := k; ⟨g', a, e.trans b, d⟩
theorem PostA.back {Q : List SV → G → Prop} {v : List V} (e : Ext g H g1 H1) (k : PostA W g1 H1 Q v H') : PostA W g H Q v H' :=
  let ⟨r, g', a, b, c, d⟩ := k; ⟨r, g', a, e.trans b, c, d⟩
theorem PostS.back {Q : Rho → G → Prop} {σ' : L2.St} (e : Ext g H g1 H1) (k : PostS W g1 H1 Q σ' H') : PostS W g H Q σ' H' :=
  let ⟨r, g', a, b, d⟩ := k; ⟨r, g', a, e.trans b, d⟩
theorem EndsOk.back {P : P4} {D : Ends} (e : Ext g H g1 H1) (k : EndsOk W g H P D) : EndsOk W g1 H1 P D :=
  ⟨fun σ' H' h => k.nx σ' H' (h.back e), fun v H' h => k.rt v H' (h.back e), fun σ' H' h => k.bk σ' H' (h.back e), fun σ' H' h => k.ct σ' H' (h.back e)⟩
theorem EndsOk.nxt {P : P4} {D : Ends} {N : Rho → G → Prop} {M : L2.St → Hp → Prop} (k : EndsOk W g H P D) (h : ∀ σ' H', PostS W g H N σ' H' → M σ' H') : EndsOk W g H { P with nx := N } { D with nx := M } := ⟨h, k.rt, k.bk, k.ct⟩
theorem WE.imp {e : Expr} {Q Q1 : QE} (k : WE X W e ρ g Q) (h : ∀ r g', Q r g' → Q1 r g') : WE X W e ρ g Q1 := fun σ H S Q' q => k σ H S Q' fun v H' z => q v H' (z.imp h)
end

/-! ### expressions -/
section
variable {X : Cx} {W : Wd} {ρ : Rho} {g : G} {Q : QE} {pos : Pos} {a b c e : Expr} {es : List Expr}
theorem we_name (i : Nat) {x : Str} {sv : SV} (hi : ρ[i]? = some (some sv)) (q : Q sv g) (hN : X.N[i]? = some x := by rfl) (hv : Vis X.env.scope x := by first | exact Or.inl rfl | exact Or.inr (Or.inl rfl) | exact Or.inr (Or.inr rfl))
    (hd : (x == ("__debug__" : Str)) = false := by decide) (hcd : (x == ("__classdict__" : Str)) = false := by decide) : WE X W (.Name x pos) ρ g Q := fun σ H S Q' q' => by
  obtain ⟨v, h1, h2⟩ := S.get i sv hi
  exact ts_of (pe_var hN hv hd hcd) ⟨v, h1, q' v H ⟨sv, g, S.ok, Ext.refl g H, h2, q⟩⟩
theorem we_int {i : Int} {j} (q : Q (.d (.int i)) g) : WE X W (.Constant (.int i) j pos) ρ g Q := fun σ H S Q' q' => ts_of pe_int (q' _ H ⟨.d (.int i), g, S.ok, Ext.refl g H, rfl, q⟩)
theorem we_bl {i : Bool} {j} (q : Q (.d (.bl i)) g) : WE X W (.Constant (.bool i) j pos) ρ g Q := fun σ H S Q' q' => ts_of pe_bl (q' _ H ⟨.d (.bl i), g, S.ok, Ext.refl g H, rfl, q⟩)
theorem we_non {j} (q : Q (.d .non) g) : WE X W (.Constant .none j pos) ρ g Q := fun σ H S Q' q' => ts_of pe_non (q' _ H ⟨.d .non, g, S.ok, Ext.refl g H, rfl, q⟩)
theorem we_str {i : Str} {j} (q : Q (.d (.str i)) g) : WE X W (.Constant (.str i) j pos) ρ g Q := fun σ H S Q' q' => ts_of pe_str (q' _ H ⟨.d (.str i), g, S.ok, Ext.refl g H, rfl, q⟩)
/-- a constant of the module -/
theorem we_glob {x : Str} {v : V} {u : Value} {sv : SV} (hg : Gl X x) (hm : X.mg x = some u) (r : RelV v u) (rs : ∀ H, GOk W H g → RepS W H g sv v) (q : Q sv g) (hd : (x == ("__debug__" : Str)) = false := by decide) : WE X W (.Name x pos) ρ g Q := fun σ H S Q' q' =>
  ts_of (pe_glob hg hm r hd) (q' v H ⟨sv, g, S.ok, Ext.refl g H, rs H S.ok, q⟩)
theorem we_op {op : Operator} {r : R2} (ho : OpR X (binaryOp op) r) (h : WE X W a ρ g fun x g1 => WE X W b ρ g1 fun y g2 => RW W r x y g2 Q) : WE X W (.BinOp a op b pos) ρ g Q := fun σ H S Q' q' => by
  refine ts_of (pe_op ho pe_s pe_s) ?_
  refine h σ H S _ fun vx H1 ⟨x, g1, k1, e1, r1, h1⟩ => h1 σ H1 (S.ext k1 e1) _ fun vy H2 ⟨y, g2, k2, e2, r2, h2⟩ => h2 H2 vx vy k2 (r1.ext e2) r2 _ fun v H3 z => q' v H3 (z.back (e1.trans e2))
theorem we_un {op : UnaryOp} {r : V → Hp → VK → Prop} (ho : UnR X (unaryOp op) r) (h : WE X W a ρ g fun x g1 => RU W r x g1 Q) : WE X W (.UnaryOp op a pos) ρ g Q := fun σ H S Q' q' => by
  refine ts_of (pe_un ho pe_s) ?_
  exact h σ H S _ fun vx H1 ⟨x, g1, k1, e1, r1, h1⟩ => h1 H1 vx k1 r1 _ fun v H3 z => q' v H3 (z.back e1)
theorem we_cmp {op : CmpOp} {r : R2} (ho : OpR X (compareOp op) r) (hm : behindInMarks op b = false) (h : WE X W a ρ g fun x g1 => WE X W b ρ g1 fun y g2 => RW W r x y g2 Q) : WE X W (.Compare a [op] [b] pos) ρ g Q := fun σ H S Q' q' => by
  refine ts_of (pe_cmpR ho pe_s pe_s hm) ?_
  refine h σ H S _ fun vx H1 ⟨x, g1, k1, e1, r1, h1⟩ => h1 σ H1 (S.ext k1 e1) _ fun vy H2 ⟨y, g2, k2, e2, r2, h2⟩ => h2 H2 vx vy k2 (r1.ext e2) r2 _ fun v H3 z => q' v H3 (z.back (e1.trans e2))
/-- a op b op' c -/
theorem we_chain {op op' : CmpOp} {r r' : R2} (ho : OpR X (compareOp op) r) (ho' : OpR X (compareOp op') r') (h : WE X W a ρ g fun x g1 => WE X W b ρ g1 fun y g2 => RW W r x y g2 fun z g3 => ∃ k, z = .d (.bl k) ∧ (if k = true then WE X W c ρ g3 fun y2 g4 => RW W r' y y2 g4 Q else Q (.d (.bl false)) g3))
    (hm : lastMarks [op, op'] [b, c] = false := by with_unfolding_all rfl) : WE X W (.Compare a [op, op'] [b, c] pos) ρ g Q := fun σ H S Q' q' => by
  refine ts_of (pe_chain ho ho' pe_s pe_s pe_s hm) ?_
  refine h σ H S _ fun vx H1 ⟨x, g1, k1, e1, r1, h1⟩ => h1 σ H1 (S.ext k1 e1) _ fun vy H2 ⟨y, g2, k2, e2, r2, h2⟩ => h2 H2 vx vy k2 (r1.ext e2) r2 _ fun v H3 ⟨z, g3, k3, e3, r3, k, hz, h3⟩ => ?_
  subst hz
  cases (show v = .bl k from r3)
  refine ⟨k, rfl, ?_⟩
  cases k with
  | true =>
    rw [if_pos rfl] at h3 ⊢
    exact h3 σ H3 (S.ext k3 ((e1.trans e2).trans e3)) _ fun v4 H4 ⟨y2, g4, k4, e4, r4, h4⟩ => h4 H4 vy v4 k4 (r2.ext (e3.trans e4)) r4 _ fun v H5 z => q' v H5 (z.back (((e1.trans e2).trans e3).trans e4))
  | false =>
    rw [if_neg (by decide)] at h3 ⊢
    exact q' _ H3 ⟨.d (.bl false), g3, k3, (e1.trans e2).trans e3, rfl, h3⟩
theorem wa_nil {Q : List SV → G → Prop} (q : Q [] g) : WA X W [] ρ g Q := fun σ H S Q' q' => ta_of pa_nil (q' [] H ⟨[], g, S.ok, Ext.refl g H, rfl, q⟩)
theorem wa_cons {Q : List SV → G → Prop} (h : WE X W e ρ g fun x g1 => WA X W es ρ g1 fun xs g2 => Q (x :: xs) g2) (hs : starEach (e :: es) X.env = (false, eval e X.env) :: starEach es X.env := by rfl) : WA X W (e :: es) ρ g Q := fun σ H S Q' q' => by
  refine ta_of (pa_cons pe_s pa_s hs) ?_
  exact h σ H S _ fun vx H1 ⟨x, g1, k1, e1, r1, h1⟩ => h1 σ H1 (S.ext k1 e1) _ fun vs H2 ⟨xs, g2, k2, e2, r2, h2⟩ => q' _ H2 ⟨x :: xs, g2, k2, e1.trans e2, ⟨vx, vs, rfl, r1.ext e2, r2⟩, h2⟩
/-- a display of trees: a new tree -/
theorem we_tup {x1} (h : WA X W es ρ g fun xs g1 => ∃ l : List D, xs = l.map SV.d ∧ l.length ≤ 1000 ∧ Q (.d (.tup l)) g1) : WE X W (.Tuple es x1 pos) ρ g Q := fun σ H S Q' q' => by
  refine ts_of (pe_tup pa_s) ?_
  refine h σ H S _ fun vs H1 ⟨xs, g1, k1, e1, r1, l, hx, hl, h1⟩ => ?_
  subst hx
  have r1 := reps_of r1
  refine ⟨by rw [← r1.length]; exact Nat.le_trans hl (by decide), fun p hp => q' _ _ ⟨.d (.tup l), g1, k1.new hp, e1.trans (Ext.new hp), ⟨p, vs, rfl, .inl ⟨.inl upd_same, k1.free hp⟩, Reps.ext (Ext.new hp) _ _ r1⟩, h1⟩⟩
theorem we_lst (h : WA X W es ρ g fun xs g1 => ∃ l : List D, xs = l.map SV.d ∧ l.length ≤ 1000 ∧ Q (.d (.lst l)) g1) : WE X W (.List es pos) ρ g Q := fun σ H S Q' q' => by
  refine ts_of (pe_lst pa_s) ?_
  refine h σ H S _ fun vs H1 ⟨xs, g1, k1, e1, r1, l, hx, hl, h1⟩ => ?_
  subst hx
  have r1 := reps_of r1
  refine ⟨by rw [← r1.length]; exact Nat.le_trans hl (by decide), fun p hp => q' _ _ ⟨.d (.lst l), g1, k1.new hp, e1.trans (Ext.new hp), ⟨p, vs, rfl, .inl ⟨.inl upd_same, k1.free hp⟩, Reps.ext (Ext.new hp) _ _ r1⟩, h1⟩⟩
/-- a display as a thing that may change -/
theorem we_lstO (h : WA X W es ρ g fun xs g1 => xs.length ≤ 1000 ∧ ∀ p, g1 p = none → Q (.ob p) (gset g1 p (.lst xs))) : WE X W (.List es pos) ρ g Q := fun σ H S Q' q' => by
  refine ts_of (pe_lst pa_s) ?_
  refine h σ H S _ fun vs H1 ⟨xs, g1, k1, e1, r1, hl, h1⟩ => ?_
  refine ⟨by rw [← r1.length]; exact Nat.le_trans hl (by decide), fun p hp => q' _ _ ⟨.ob p, gset g1 p (.lst xs), k1.newOb (m := .lst xs) hp ⟨vs, upd_same, r1.ext (Ext.newOb hp)⟩, e1.trans (Ext.newOb hp), rfl, h1 p (k1.free hp)⟩⟩
end
end DL

namespace DL
open PySem PySem.Spec PyProof.Rows L2

/-! ### tests -/
section
variable {X : Cx} {W : Wd} {ρ : Rho} {g : G} {pos : Pos} {a b c e : Expr} {es : List Expr}
theorem wt_val {Q : Bool → G → Prop} (h : WE X W e ρ g fun r g' => ∃ k, r = .d (.bl k) ∧ Q k g') (he : ∀ whole, isTrue e X.env whole = (do let v ← whole; standAt e.pos; holding [v] (truthy v)) := by intro _; rfl) : WT X W e ρ g Q := fun σ H S Q' q' => by
  refine tt_of (pt_val pe_s he) ?_
  refine h σ H S _ fun v H' ⟨r, g', k, ex, rr, b, hr, q⟩ => ?_
  subst hr
  exact ⟨b, rr, q' b H' ⟨g', k, ex, q⟩⟩
/-- truth of a tree -/
def TruD : D → Bool → Prop
  | .non, k => k = false
  | .bl b, k => k = b
  | .int i, k => k = (i != 0)
  | .str y, k => y.length ≤ sizeLine ∧ k = ((y.length : Int) != 0)
  | .lst l, k => k = !l.isEmpty
  | .tup l, k => k = !l.isEmpty
  | .ins _ _, _ => False
theorem Reps.isEmpty {W : Wd} {H : Hp} {g : G} {l : List D} {xs : List V} (h : Reps W H g l xs) : l.isEmpty = xs.isEmpty := by
  have := h.length
  cases l <;> cases xs <;> simp_all
theorem TruD.v {W : Wd} {H : Hp} {g : G} {x : D} {v : V} {k : Bool} (r : Rep W H g x v) (t : TruD x k) : TruV W.K v H k := by
  cases x with
  | non => cases (show v = _ from r); exact t
  | bl b => cases (show v = _ from r); exact t
  | int i => cases (show v = _ from r); exact t
  | str y => cases (show v = _ from r); exact t
  | lst l =>
    obtain ⟨a, xs, rfl, h1, h2⟩ := r
    exact .inl ⟨xs, h1.sq, by rw [← h2.isEmpty]; exact t⟩
  | tup l =>
    obtain ⟨a, xs, rfl, h1, h2⟩ := r
    exact .inr (.inl ⟨xs, h1.sq, by rw [← h2.isEmpty]; exact t⟩)
  | ins c fs => exact False.elim t
theorem wt_truth {Q : Bool → G → Prop} (hK : X.K = W.K) (h : WE X W e ρ g fun r g' => ∃ x k, r = .d x ∧ TruD x k ∧ Q k g') (he : ∀ whole, isTrue e X.env whole = (do let v ← whole; standAt e.pos; holding [v] (truthy v)) := by intro _; rfl) : WT X W e ρ g Q := fun σ H S Q' q' => by
  refine tt_of (pt_truth pe_s he) ?_
  refine h σ H S _ fun v H' ⟨r, g', k, ex, rr, x, b, hr, t, q⟩ => ?_
  subst hr
  exact ⟨b, by rw [hK]; exact TruD.v rr t, q' b H' ⟨g', k, ex, q⟩⟩
theorem wt_cmp {op : CmpOp} {r : R2} {Q : Bool → G → Prop} (ho : OpR X (compareOp op) r) (hm : behindInMarks op b = false) (h : WE X W a ρ g fun x g1 => WE X W b ρ g1 fun y g2 => RW W r x y g2 fun z g3 => ∃ k, z = .d (.bl k) ∧ Q k g3) : WT X W (.Compare a [op] [b] pos) ρ g Q := fun σ H S Q' q' => by
  refine tt_of (pt_cmpR ho pe_s pe_s hm) ?_
  refine h σ H S _ fun vx H1 ⟨x, g1, k1, e1, r1, h1⟩ => h1 σ H1 (S.ext k1 e1) _ fun vy H2 ⟨y, g2, k2, e2, r2, h2⟩ => h2 H2 vx vy k2 (r1.ext e2) r2 _ fun v H3 ⟨z, g3, k3, e3, r3, k, hz, q⟩ => ?_
  subst hz
  exact ⟨k, r3, q' k H3 ⟨g3, k3, (e1.trans e2).trans e3, q⟩⟩
theorem wt_chain {op op' : CmpOp} {r r' : R2} {Q : Bool → G → Prop} (ho : OpR X (compareOp op) r) (ho' : OpR X (compareOp op') r') (h : WE X W a ρ g fun x g1 => WE X W b ρ g1 fun y g2 => RW W r x y g2 fun z g3 => ∃ k, z = .d (.bl k) ∧ (if k = true then WE X W c ρ g3 fun y2 g4 => RW W r' y y2 g4 fun z g5 => ∃ k, z = .d (.bl k) ∧ Q k g5 else Q false g3))
    (hm : lastMarks [op, op'] [b, c] = false := by with_unfolding_all rfl) : WT X W (.Compare a [op, op'] [b, c] pos) ρ g Q := fun σ H S Q' q' => by
  refine tt_of (pt_chain ho ho' pe_s pe_s pe_s hm) ?_
  refine h σ H S _ fun vx H1 ⟨x, g1, k1, e1, r1, h1⟩ => h1 σ H1 (S.ext k1 e1) _ fun vy H2 ⟨y, g2, k2, e2, r2, h2⟩ => h2 H2 vx vy k2 (r1.ext e2) r2 _ fun v H3 ⟨z, g3, k3, e3, r3, k, hz, h3⟩ => ?_
  subst hz
  cases (show v = .bl k from r3)
  refine ⟨k, rfl, ?_⟩
  cases k with
  | true =>
    rw [if_pos rfl] at h3 ⊢
    refine h3 σ H3 (S.ext k3 ((e1.trans e2).trans e3)) _ fun v4 H4 ⟨y2, g4, k4, e4, r4, h4⟩ => h4 H4 vy v4 k4 (r2.ext (e3.trans e4)) r4 _ fun v H5 ⟨z, g5, k5, e5, r5, k, hz, q⟩ => ?_
    subst hz
    exact ⟨k, r5, q' k H5 ⟨g5, k5, (((e1.trans e2).trans e3).trans e4).trans e5, q⟩⟩
  | false =>
    rw [if_neg (by decide)] at h3 ⊢
    exact ⟨false, rfl, q' _ H3 ⟨g3, k3, (e1.trans e2).trans e3, h3⟩⟩
theorem wt_not {Q : Bool → G → Prop} (h : WT X W a ρ g fun k g' => Q (!k) g') : WT X W (.UnaryOp .Not a pos) ρ g Q := fun σ H S Q' q' => by
  refine tt_of (pt_not pt_s) ?_
  exact h σ H S _ fun b H' ⟨g', k, ex, q⟩ => q' _ H' ⟨g', k, ex, q⟩
theorem wt_w {Q : Bool → G → Prop} (h : WW X W e ρ g Q) : WT X W e ρ g Q := fun σ H S Q' q' => by
  refine tt_of (PW.pt pw_s) ?_
  exact h σ H S Q' q'
theorem ww_and1 {Q : Bool → G → Prop} (h : WT X W a ρ g Q) : WW X W (.BoolOp .And [a] pos) ρ g Q := fun σ H S Q' q' => tw_of (pw_and1 pt_s) (h σ H S Q' q')
theorem ww_or1 {Q : Bool → G → Prop} (h : WT X W a ρ g Q) : WW X W (.BoolOp .Or [a] pos) ρ g Q := fun σ H S Q' q' => tw_of (pw_or1 pt_s) (h σ H S Q' q')
theorem ww_and {Q : Bool → G → Prop} (h : WT X W a ρ g fun k g' => if k = true then WW X W (.BoolOp .And (b :: es) pos) ρ g' Q else Q false g') : WW X W (.BoolOp .And (a :: b :: es) pos) ρ g Q := fun σ H S Q' q' => by
  refine tw_of (pw_and pt_s pw_s) ?_
  refine h σ H S _ fun k H' ⟨g', kk, ex, q⟩ => ?_
  cases k with
  | true => rw [if_pos rfl] at q ⊢; exact q σ H' (S.ext kk ex) _ fun b H2 z => q' b H2 (z.back ex)
  | false => rw [if_neg (by decide)] at q ⊢; exact q' _ _ ⟨g', kk, ex, q⟩
theorem ww_or {Q : Bool → G → Prop} (h : WT X W a ρ g fun k g' => if k = true then Q true g' else WW X W (.BoolOp .Or (b :: es) pos) ρ g' Q) : WW X W (.BoolOp .Or (a :: b :: es) pos) ρ g Q := fun σ H S Q' q' => by
  refine tw_of (pw_or pt_s pw_s) ?_
  refine h σ H S _ fun k H' ⟨g', kk, ex, q⟩ => ?_
  cases k with
  | true => rw [if_pos rfl] at q ⊢; exact q' _ _ ⟨g', kk, ex, q⟩
  | false => rw [if_neg (by decide)] at q ⊢; exact q σ H' (S.ext kk ex) _ fun b H2 z => q' b H2 (z.back ex)
variable {Q : QE}
theorem we_one {op} (h : WE X W a ρ g Q) : WE X W (.BoolOp op [a] pos) ρ g Q := fun σ H S Q' q' => ts_of (pe_one pe_s) (h σ H S Q' q')
theorem we_and (h : WE X W a ρ g fun x g' => ∃ k, x = .d (.bl k) ∧ if k = true then WE X W (.BoolOp .And (b :: es) pos) ρ g' Q else Q (.d (.bl false)) g') : WE X W (.BoolOp .And (a :: b :: es) pos) ρ g Q := fun σ H S Q' q' => by
  refine ts_of (pe_and pe_s pe_s) ?_
  refine h σ H S _ fun v H' ⟨r, g', kk, ex, rr, k, hr, q⟩ => ?_
  subst hr
  refine ⟨k, rr, ?_⟩
  cases k with
  | true => rw [if_pos rfl] at q ⊢; exact q σ H' (S.ext kk ex) _ fun b H2 z => q' b H2 (z.back ex)
  | false => rw [if_neg (by decide)] at q ⊢; exact q' _ _ ⟨.d (.bl false), g', kk, ex, rfl, q⟩
theorem we_or (h : WE X W a ρ g fun x g' => ∃ k, x = .d (.bl k) ∧ if k = true then Q (.d (.bl true)) g' else WE X W (.BoolOp .Or (b :: es) pos) ρ g' Q) : WE X W (.BoolOp .Or (a :: b :: es) pos) ρ g Q := fun σ H S Q' q' => by
  refine ts_of (pe_or pe_s pe_s) ?_
  refine h σ H S _ fun v H' ⟨r, g', kk, ex, rr, k, hr, q⟩ => ?_
  subst hr
  refine ⟨k, rr, ?_⟩
  cases k with
  | true => rw [if_pos rfl] at q ⊢; exact q' _ _ ⟨.d (.bl true), g', kk, ex, rfl, q⟩
  | false => rw [if_neg (by decide)] at q ⊢; exact q σ H' (S.ext kk ex) _ fun b H2 z => q' b H2 (z.back ex)
theorem we_notv (h : WE X W a ρ g fun x g' => ∃ k, x = .d (.bl k) ∧ Q (.d (.bl (!k))) g') : WE X W (.UnaryOp .Not a pos) ρ g Q := fun σ H S Q' q' => by
  refine ts_of (pe_not pe_s) ?_
  refine h σ H S _ fun v H' ⟨r, g', kk, ex, rr, k, hr, q⟩ => ?_
  subst hr
  exact ⟨k, rr, q' _ _ ⟨.d (.bl (!k)), g', kk, ex, rfl, q⟩⟩
theorem we_ifx (h : WT X W c ρ g fun k g' => if k = true then WE X W a ρ g' Q else WE X W b ρ g' Q) : WE X W (.IfExp c a b pos) ρ g Q := fun σ H S Q' q' => by
  refine ts_of (pe_ifExp pt_s pe_s pe_s) ?_
  refine h σ H S _ fun k H' ⟨g', kk, ex, q⟩ => ?_
  cases k with
  | true => rw [if_pos rfl] at q ⊢; exact q σ H' (S.ext kk ex) _ fun b H2 z => q' b H2 (z.back ex)
  | false => rw [if_neg (by decide)] at q ⊢; exact q σ H' (S.ext kk ex) _ fun b H2 z => q' b H2 (z.back ex)
end

/-! ### defs -/
abbrev SpD := List SV → G → QE → Prop
def liftSp (W : Wd) (n : Nat) (S : SpD) : Sp := fun vs H Q _ => vs.length = n ∧ ∃ svs g Q0, RepSs W H g svs vs ∧ GOk W H g ∧ S svs g Q0 ∧ ∀ v H', PostE W g H Q0 v H' → Q v H'
def startD (N : List Str) (svs : List SV) : Rho := svs.map some ++ List.replicate (N.length - svs.length) none
def retP (Q : QE) : P4 := { nx := fun _ g' => Q (.d .non) g', rt := Q }
theorem sim_start {W : Wd} {N : List Str} {g : G} {H : Hp} {svs : List SV} {vs : List V} (k : GOk W H g) (r : RepSs W H g svs vs) : Sim W (startD N svs) g (L2.start N vs) H := by
  have hl := r.length
  refine ⟨k, ?_, fun i sv h => ?_⟩
  · unfold startD L2.start
    simp [hl]
  · unfold startD at h
    unfold L2.start
    by_cases hi : i < svs.length
    · rw [List.getElem?_append_left (by simpa using hi), List.getElem?_map] at h
      rw [List.getElem?_append_left (by rw [List.length_map, ← hl]; exact hi), List.getElem?_map]
      cases e : svs[i]? with
      | none => rw [e] at h; cases h
      | some s =>
        rw [e] at h; cases h
        obtain ⟨v, h1, h2⟩ := r.get e
        exact ⟨v, by rw [h1]; rfl, h2⟩
    · rw [List.getElem?_append_right (by simpa using hi), List.getElem?_replicate] at h
      split at h <;> cases h
section
variable {P : Program} {w : World} {W : Wd} {mg : Str → Option Value} {base : Heap}
/-- THE RULE for a def -/
theorem fnD {x qual : Str} {st : Stmt} {f : Addr} {fd : FuncData} {N ps : List Str} {k : Nat} {S : SpD} (F : Fun W.K x qual st f fd) (sc : FnScope N ps (defScope st))
    (h : ∀ (cdv : Value) (A : Around) (outer : List Env) (s : Shared) (H : Hp) (E : XK) (svs : List SV) (g : G) (Q : QE), svs.length = ps.length → Room k (A.deeper (envOfC qual (defScope st) s.heap.objs.size f cdv)) → S svs g Q →
      WS (cxOf CX0 P w W.K mg base N qual (defScope st) f cdv A outer s H E).nox W (defBody st) (startD N svs) g (retP Q)) : FnOk P w W.K mg base CX0 (k + 1) f fd ps (liftSp W ps.length S) := by
  refine F.ok sc (fun vs H Q E q => q.1) fun cdv A outer s H vs Q E hr q => ?_
  obtain ⟨hl, svs, g, Q0, r, kk, q, qq⟩ := q
  refine ⟨_, pss_s, ?_⟩
  exact h cdv A outer s H E svs g Q0 (by rw [r.length]; exact hl) hr q (L2.start N vs) H (sim_start kk r) _ ⟨fun σ' H' ⟨ρ', g', s1, e1, q1⟩ => qq _ _ ⟨.d .non, g', s1.ok, e1, rfl, q1⟩, qq, fun σ' H' ⟨_, _, _, _, q1⟩ => q1, fun σ' H' ⟨_, _, _, _, q1⟩ => q1⟩
end
section
variable {X : Cx} {W : Wd} {ρ : Rho} {g : G} {Q : QE} {pos p apos : Pos} {e o : Expr} {es : List Expr} {n k : Nat} {f : Addr} {fd : FuncData} {ps : List Str} {S : SpD} {x m : Str}
/-- default values -/
def DefV (W : Wd) (dsv : List SV) (dvs : List V) : Prop := ∀ H g, GOk W H g → RepSs W H g dsv dvs
theorem defv_nil {W : Wd} : DefV W [] [] := fun _ _ _ => rfl
theorem we_call {dsv : List SV} {dvs : List V} {ds : List Value} (F : FnOk X.prog X.w X.K X.mg X.base CX0 k f fd ps (liftSp W n S)) (hr : Room k X.A) (hg : Gl X x) (hm : X.mg x = some (.ref f)) (hk : PySem.W.keepIn X.K (.ref f) = true) (hb : Binds X.K fd ps ds) (hd : Vals dvs ds) (hds : DefV W dsv dvs)
    (h : WA X W (e :: es) ρ g fun svs g1 => svs.length + dsv.length = n ∧ S (svs ++ dsv) g1 Q) (hdb : (x == ("__debug__" : Str)) = false := by decide)
    (he : starEach (e :: es) X.env = (false, eval e X.env) :: starEach es X.env := by rfl) (hpl : (backTo pos (starEach es X.env)).any (·.1) = false := by rfl) : WE X W (.Call (.Name x p) (e :: es) [] pos) ρ g Q := fun σ H S' Q' q' => by
  refine ts_of (pe_call F hr hg hm hk hb hd pass0 pa_s hdb he hpl) ?_
  exact h σ H S' _ fun vs H1 ⟨svs, g1, k1, e1, r1, hl, q⟩ => ⟨by rw [List.length_append, ← r1.length, ← (hds H1 g1 k1).length]; exact hl, svs ++ dsv, g1, Q, r1.append (hds H1 g1 k1), k1, q, fun v H' z => q' v H' (z.back e1)⟩
theorem we_call0 {dsv : List SV} {dvs : List V} {ds : List Value} (F : FnOk X.prog X.w X.K X.mg X.base CX0 k f fd ps (liftSp W n S)) (hr : Room k X.A) (hg : Gl X x) (hm : X.mg x = some (.ref f)) (hk : PySem.W.keepIn X.K (.ref f) = true) (hb : Binds X.K fd ps ds) (hd : Vals dvs ds) (hds : DefV W dsv dvs)
    (h : dsv.length = n ∧ S dsv g Q) (hdb : (x == ("__debug__" : Str)) = false := by decide) : WE X W (.Call (.Name x p) [] [] pos) ρ g Q := fun σ H S' Q' q' => by
  refine ts_of (pe_call0 F hr hg hm hk hb hd pass0 hdb) ?_
  exact ⟨by rw [List.nil_append, ← (hds H g S'.ok).length]; exact h.1, dsv, g, Q, hds H g S'.ok, S'.ok, h.2, fun v H' z => q' v H' z⟩
/-- o.m(e, ..), o a tree or a thing that may change -/
def InsOf (W : Wd) (g : G) (c : Nat) (m : Str) : SV → Prop
  | .d (.ins c' fs) => c' = c ∧ fs.lookup m = none
  | .ob a => ∃ fs, g a = some (.ins c fs) ∧ fs.lookup m = none
  | _ => False
theorem RepSf.nolook {H : Hp} : ∀ {l : List (Str × SV)} {vs : List (Str × V)} {f : Str}, RepSf W H g l vs → l.lookup f = none → vs.lookup f = none
  | [], _, _, h, _ => by cases (show _ = [] from h); rfl
  | p :: l, _, f, h, e => by
    obtain ⟨x, r, rfl, h1, h2⟩ := h
    rw [List.lookup_cons] at e ⊢
    cases q : f == p.1 with
    | true => rw [q] at e; cases e
    | false => rw [q] at e; exact RepSf.nolook h2 e
theorem RepSf.look {H : Hp} : ∀ {l : List (Str × SV)} {vs : List (Str × V)} {f : Str} {d : SV}, RepSf W H g l vs → l.lookup f = some d → ∃ v, vs.lookup f = some v ∧ RepS W H g d v
  | [], _, _, _, _, e => by simp at e
  | p :: l, _, f, d, h, e => by
    obtain ⟨x, r, rfl, h1, h2⟩ := h
    rw [List.lookup_cons] at e ⊢
    cases q : f == p.1 with
    | true => rw [q] at e; cases e; exact ⟨x, rfl, h1⟩
    | false => rw [q] at e; obtain ⟨v, k1, k2⟩ := RepSf.look h2 e; exact ⟨v, k1, k2⟩
theorem InsOf.at {H : Hp} {c : Nat} {s : SV} {v : V} (i : InsOf W g c m s) (k : GOk W H g) (r : RepS W H g s v) : ∃ a dx fs, v = .ref a ∧ H a = some (.ins (W.cl c) dx fs) ∧ fs.lookup m = none := by
  cases s with
  | ob a =>
    obtain ⟨fs, h1, h2⟩ := i
    obtain ⟨dx, vs, e1, e2⟩ := k a _ h1
    exact ⟨a, dx, vs, r, e1, e2.nolook h2⟩
  | d x =>
    cases x with
    | ins c' fs =>
      obtain ⟨rfl, h2⟩ := i
      obtain ⟨a, dx, vs, rfl, e1, e2, e3⟩ := r
      exact ⟨a, dx, vs, rfl, e1, e3.nolook h2⟩
    | _ => exact False.elim i
theorem we_meth {c : Nat} {dsv : List SV} {dvs : List V} {ds : List Value} {pl : Sem Bool} (c1 : Cls X.K (W.cl c)) (hm : Meth X.K (W.cl c) m f) (F : FnOk X.prog X.w X.K X.mg X.base CX0 k f fd ps (liftSp W n S)) (hr : Room k X.A) (hb : Binds X.K fd ps ds) (hd : Vals dvs ds) (hds : DefV W dsv dvs)
    (h : WE X W o ρ g fun sv g1 => InsOf W g1 c m sv ∧ WA X W (e :: es) ρ g1 fun svs g2 => svs.length + dsv.length + 1 = n ∧ S (sv :: (svs ++ dsv)) g2 Q)
    (hst : starEach (e :: es) X.env = (false, eval e X.env) :: starEach es X.env := by rfl) (hpl : (backTo pos (starEach es X.env)).any (·.1) = false := by rfl)
    (ht : eval (.Call (.Attribute o m apos) (e :: es) [] pos) X.env = (do
      let ov ← eval o X.env
      standAt apos.atName
      let (f, first) ← holding [ov] (getMethod ov m pl)
      callWith pos f first (backTo pos (starEach (e :: es) X.env)) (backToKw pos (keywordEach [] X.env))) := by rfl) : WE X W (.Call (.Attribute o m apos) (e :: es) [] pos) ρ g Q := fun σ H S' Q' q' => by
  refine ts_of (pe_meth pe_s c1 hm F hr hb hd pass0 pa_s hst hpl ht) ?_
  refine h σ H S' _ fun v H1 ⟨sv, g1, k1, e1, r1, i1, h1⟩ => ?_
  obtain ⟨a, dx, fs, rfl, ha, hl⟩ := i1.at k1 r1
  refine ⟨a, dx, fs, rfl, ha, hl, ?_⟩
  exact h1 σ H1 (S'.ext k1 e1) _ fun vs H2 ⟨svs, g2, k2, e2, r2, hl, q⟩ => ⟨by rw [List.length_cons, List.length_append, ← r2.length, ← (hds H2 g2 k2).length]; exact hl, sv :: (svs ++ dsv), g2, Q, ⟨_, _, rfl, r1.ext e2, r2.append (hds H2 g2 k2)⟩, k2, q, fun v H' z => q' v H' (z.back (e1.trans e2))⟩
theorem we_meth0 {c : Nat} {dsv : List SV} {dvs : List V} {ds : List Value} {pl : Sem Bool} (c1 : Cls X.K (W.cl c)) (hm : Meth X.K (W.cl c) m f) (F : FnOk X.prog X.w X.K X.mg X.base CX0 k f fd ps (liftSp W n S)) (hr : Room k X.A) (hb : Binds X.K fd ps ds) (hd : Vals dvs ds) (hds : DefV W dsv dvs)
    (h : WE X W o ρ g fun sv g1 => InsOf W g1 c m sv ∧ dsv.length + 1 = n ∧ S (sv :: dsv) g1 Q)
    (ht : eval (.Call (.Attribute o m apos) [] [] pos) X.env = (do
      let ov ← eval o X.env
      standAt apos.atName
      let (f, first) ← holding [ov] (getMethod ov m pl)
      callWith pos f first (backTo pos (starEach [] X.env)) (backToKw pos (keywordEach [] X.env))) := by rfl) : WE X W (.Call (.Attribute o m apos) [] [] pos) ρ g Q := fun σ H S' Q' q' => by
  refine ts_of (pe_meth0 pe_s c1 hm F hr hb hd pass0 ht) ?_
  refine h σ H S' _ fun v H1 ⟨sv, g1, k1, e1, r1, i1, hn, h1⟩ => ?_
  obtain ⟨a, dx, fs, rfl, ha, hl⟩ := i1.at k1 r1
  refine ⟨a, dx, fs, rfl, ha, hl, ?_⟩
  exact ⟨by rw [List.nil_append, List.length_cons, ← (hds H1 g1 k1).length]; exact hn, sv :: dsv, g1, Q, ⟨_, _, rfl, r1, hds H1 g1 k1⟩, k1, h1, fun v H' z => q' v H' (z.back e1)⟩
/-- C(e, ..): what __init__ makes of a new thing -/
theorem we_make {c : Nat} {dsv : List SV} {dvs : List V} {ds : List Value} (M : Mk X.K (W.cl c) f) (F : FnOk X.prog X.w X.K X.mg X.base CX0 k f fd ps (liftSp W n S)) (hr : Room (k + 1) X.A) (hg : Gl X x) (hm : X.mg x = some (.ref (W.cl c))) (hb : Binds X.K fd ps ds) (hd : Vals dvs ds) (hds : DefV W dsv dvs)
    (h : WA X W (e :: es) ρ g fun svs g1 => svs.length + dsv.length + 1 = n ∧ ∀ a, g1 a = none → S (.ob a :: (svs ++ dsv)) (gset g1 a (.ins c [])) fun r g2 => r = .d .non ∧ Q (.ob a) g2) (hdb : (x == ("__debug__" : Str)) = false := by decide)
    (he : starEach (e :: es) X.env = (false, eval e X.env) :: starEach es X.env := by rfl) (hpl : (backTo pos (starEach es X.env)).any (·.1) = false := by rfl) : WE X W (.Call (.Name x p) (e :: es) [] pos) ρ g Q := fun σ H S' Q' q' => by
  refine ts_of (pe_make M F hr hg hm hb hd pass0 pa_s hdb he hpl) ?_
  refine h σ H S' _ fun vs H1 ⟨svs, g1, k1, e1, r1, hl, h1⟩ a dx na nd ne => ?_
  have nx : upd H1 dx (.own a) a = none := by rw [upd_ne ne.symm]; exact na
  have e2 : Ext g1 H1 g1 (upd H1 dx (.own a)) := Ext.new nd
  have k2 : GOk W (upd H1 dx (.own a)) g1 := k1.new nd
  have e3 : Ext g1 (upd H1 dx (.own a)) (gset g1 a (.ins c [])) (upd (upd H1 dx (.own a)) a (.ins (W.cl c) dx [])) := Ext.newOb nx
  have k3 : GOk W (upd (upd H1 dx (.own a)) a (.ins (W.cl c) dx [])) (gset g1 a (.ins c [])) := k2.newOb (m := .ins c []) nx ⟨dx, [], upd_same, rfl⟩
  have r3 : RepSs W (upd (upd H1 dx (.own a)) a (.ins (W.cl c) dx [])) (gset g1 a (.ins c [])) (svs ++ dsv) (vs ++ dvs) := (r1.ext (e2.trans e3)).append (hds _ _ k3)
  refine ⟨by rw [List.length_cons, ← r3.length, List.length_append]; exact hl, .ob a :: (svs ++ dsv), _, _, ⟨.ref a, _, rfl, rfl, r3⟩, k3, h1 a (k1.free na), fun v H' ⟨r, g', k4, e4, r4, hr, q⟩ => ?_⟩
  subst hr
  exact ⟨r4, q' _ _ ⟨.ob a, g', k4, ((e1.trans e2).trans e3).trans e4, rfl, q⟩⟩
/-- a thing that may change is taken for a tree from here on -/
theorem we_freeze (h : WE X W e ρ g fun r g1 => ∃ a, r = .ob a ∧ ((∃ l : List D, g1 a = some (.lst (l.map SV.d)) ∧ Q (.d (.lst l)) (gdel g1 a)) ∨ ∃ c, ∃ fs : List (Str × D), g1 a = some (.ins c (fs.map fun p => (p.1, SV.d p.2))) ∧ Q (.d (.ins c fs)) (gdel g1 a))) : WE X W e ρ g Q := fun σ H S Q' q' => by
  refine h σ H S Q' fun v H1 ⟨r, g1, k1, e1, r1, a, hr, h1⟩ => ?_
  subst hr
  cases (show v = .ref a from r1)
  rcases h1 with ⟨l, ha, q⟩ | ⟨c, fs, ha, q⟩
  · obtain ⟨xs, hx, rx⟩ := k1 a _ ha
    exact q' _ _ ⟨.d (.lst l), gdel g1 a, k1.freeze, e1.trans Ext.freeze, ⟨a, xs, rfl, .inl ⟨.inl hx, gdel_same⟩, reps_of (rx.ext Ext.freeze)⟩, q⟩
  · obtain ⟨dx, vs, hx, rx⟩ := k1 a _ ha
    refine q' _ _ ⟨.d (.ins c fs), gdel g1 a, k1.freeze, e1.trans Ext.freeze, ⟨a, dx, vs, rfl, hx, gdel_same, ?_⟩, q⟩
    have conv : ∀ (fs : List (Str × D)) (vs : List (Str × V)), RepSf W H1 (gdel g1 a) (fs.map fun p => (p.1, SV.d p.2)) vs → Repf W H1 (gdel g1 a) fs vs := by
      intro fs
      induction fs with
      | nil => intro vs h; exact h
      | cons p r ih =>
        intro vs h
        obtain ⟨x, r', rfl, h1, h2⟩ := h
        exact ⟨x, r', rfl, h1, ih _ h2⟩
    exact conv fs vs (rx.ext Ext.freeze)
end
end DL

namespace DL
open PySem PySem.Spec PyProof.Rows L2

/-! ### attributes -/
section
variable {X : Cx} {W : Wd} {ρ : Rho} {g : G} {pos pos' p apos : Pos} {a b c e o value : Expr} {es : List Expr} {f : Str} {Q : QE}
def FldOf (g : G) (c : Nat) (f : Str) (sv r : SV) : Prop := match sv with
  | .d (.ins c' fs) => c' = c ∧ ∃ x, fs.lookup f = some x ∧ r = .d x
  | .ob a => ∃ fs, g a = some (.ins c fs) ∧ fs.lookup f = some r
  | _ => False
theorem we_fld {c : Nat} (hK : X.K = W.K) (c1 : Cls W.K (W.cl c)) (n : NoAttr W.K (W.cl c) f) (h : WE X W e ρ g fun sv g1 => ∃ r, FldOf g1 c f sv r ∧ Q r g1) (hb : attributeBase e f X.env (eval e X.env) = eval e X.env := by rfl) : WE X W (.Attribute e f pos) ρ g Q := fun σ H S Q' q' => by
  refine ts_of (pe_fld pe_s hb) ?_
  refine h σ H S _ fun v H1 ⟨sv, g1, k1, e1, r1, r, hf, q⟩ => ?_
  rw [hK]
  cases sv with
  | ob a =>
    obtain ⟨fs, h1, h2⟩ := hf
    obtain ⟨dx, vs, hx, rx⟩ := k1 a _ h1
    obtain ⟨z, hz, rz⟩ := RepSf.look rx h2
    exact ⟨a, W.cl c, dx, vs, z, r1, hx, c1, n, hz, q' _ _ ⟨r, g1, k1, e1, rz, q⟩⟩
  | d x =>
    cases x with
    | ins c' fs =>
      obtain ⟨rfl, y, h2, rfl⟩ := hf
      obtain ⟨a, dx, vs, rfl, hx, hg, rx⟩ := r1
      obtain ⟨z, hz, rz⟩ := rx.look h2
      exact ⟨a, _, dx, vs, z, rfl, hx, c1, n, hz, q' _ _ ⟨.d y, g1, k1, e1, rz, q⟩⟩
    | _ => exact False.elim hf
def putS (f : Str) (v : SV) : List (Str × SV) → List (Str × SV)
  | [] => [(f, v)]
  | p :: r => if p.1 = f then (p.1, v) :: r else p :: putS f v r
theorem RepSf.put {H : Hp} {s : SV} {v : V} (r : RepS W H g s v) : ∀ {fs : List (Str × SV)} {vs : List (Str × V)}, RepSf W H g fs vs → RepSf W H g (putS f s fs) (putF f v vs)
  | [], _, h => by cases (show _ = [] from h); exact ⟨v, [], rfl, r, rfl⟩
  | p :: l, _, h => by
    obtain ⟨x, q, rfl, h1, h2⟩ := h
    unfold putS putF
    by_cases z : p.1 = f
    · rw [if_pos z, if_pos z]; exact ⟨v, q, rfl, r, h2⟩
    · rw [if_neg z, if_neg z]; exact ⟨x, _, rfl, h1, RepSf.put r h2⟩
theorem RepSf.length {H : Hp} : ∀ {l : List (Str × SV)} {xs : List (Str × V)}, RepSf W H g l xs → l.length = xs.length
  | [], _, h => by cases (show _ = [] from h); rfl
  | d :: l, _, h => by
    obtain ⟨x, r, rfl, h1, h2⟩ := h
    exact congrArg (· + 1) (RepSf.length h2)

/-! ### statements -/
variable {P : P4} {st : Stmt} {sts : List Stmt} {A B : List Stmt}
theorem ws_nil (q : P.nx ρ g) : WS X W [] ρ g P := fun σ H S D k => tss_of pss_nil (k.nx σ H ⟨ρ, g, S, Ext.refl g H, q⟩)
theorem ws_cons (h : W1 X W st ρ g { P with nx := fun ρ' g' => WS X W sts ρ' g' P }) : WS X W (st :: sts) ρ g P := fun σ H S D k => by
  refine tss_of (pss_cons ps_s pss_s) ?_
  exact h σ H S _ ⟨fun σ' H' ⟨ρ', g', S', e', q⟩ => q σ' H' S' D (k.back e'), k.rt, k.bk, k.ct⟩
theorem ws_one (h : W1 X W st ρ g P) : WS X W [st] ρ g P := fun σ H S D k => tss_of (pss_one ps_s) (h σ H S D k)
theorem w1_pass (q : P.nx ρ g) : W1 X W (.Pass pos) ρ g P := fun σ H S D k => t1_of ps_pass (k.nx σ H ⟨ρ, g, S, Ext.refl g H, q⟩)
theorem w1_break (q : P.bk ρ g) : W1 X W (.Break pos) ρ g P := fun σ H S D k => t1_of ps_break (k.bk σ H ⟨ρ, g, S, Ext.refl g H, q⟩)
theorem w1_cont (q : P.ct ρ g) : W1 X W (.Continue pos) ρ g P := fun σ H S D k => t1_of ps_continue (k.ct σ H ⟨ρ, g, S, Ext.refl g H, q⟩)
theorem w1_ret (h : WE X W e ρ g P.rt) : W1 X W (.Return (some e) pos) ρ g P := fun σ H S D k => t1_of (ps_ret pe_s) (h σ H S _ k.rt)
theorem w1_retN (q : P.rt (.d .non) g) : W1 X W (.Return none pos) ρ g P := fun σ H S D k => t1_of ps_retN (k.rt _ _ ⟨.d .non, g, S.ok, Ext.refl g H, rfl, q⟩)
theorem w1_expr (h : WE X W e ρ g fun _ g' => P.nx ρ g') (hs : swapsWith e none pos.line X.env = pure false := by rfl) : W1 X W (.Expr e pos) ρ g P := fun σ H S D k => by
  refine t1_of (ps_expr pe_s hs) ?_
  exact h σ H S _ fun v H' ⟨r, g', k', e', _, q⟩ => k.nx _ _ ⟨ρ, g', S.ext k' e', e', q⟩
theorem w1_if (h : WT X W c ρ g fun b g' => if b = true then WS X W A ρ g' P else WS X W B ρ g' P) : W1 X W (.If c A B pos) ρ g P := fun σ H S D k => by
  refine t1_of (ps_if pt_s pss_s pss_s) ?_
  refine h σ H S _ fun b H' ⟨g', k', e', q⟩ => ?_
  cases b with
  | true => rw [if_pos rfl] at q ⊢; exact q σ H' (S.ext k' e') D (k.back e')
  | false => rw [if_neg (by decide)] at q ⊢; exact q σ H' (S.ext k' e') D (k.back e')
theorem w1_set (i : Nat) {x : Str} {pos' : Pos} (hN : X.N.Nodup) (h : WE X W e ρ g fun sv g' => P.nx (ρ.set i (some sv)) g') (hi : X.N[i]? = some x := by rfl) (hx : Loc X.env.scope x := by first | exact Or.inl rfl | exact Or.inr rfl) (hs : swapsWith e (some (.Name x pos')) pos.line X.env = pure false := by rfl)
    (hf : X.fn x = true ∨ X.env.scope.names.lookup x = some .local := by first | exact .inl rfl | exact .inr rfl) : W1 X W (.Assign [.Name x pos'] e pos) ρ g P := fun σ H S D k => by
  refine t1_of (ps_set (i := i) hN hi hx pe_s hs hf) ?_
  exact h σ H S _ fun v H' ⟨r, g', k', e', rr, q⟩ => k.nx _ _ ⟨_, g', (S.ext k' e').set i rr, e', q⟩
/-- targets -/
def WG (W : Wd) (t : TG) (sv : SV) (ρ : Rho) (g : G) (N : Rho → G → Prop) : Prop := ∀ σ H v, Sim W ρ g σ H → RepS W H g sv v → ∀ N' : L2.St → Hp → Prop, (∀ σ' H', PostS W g H N σ' H' → N' σ' H') → t v σ H N'
def WGs (W : Wd) (t : TGs) (svs : List SV) (ρ : Rho) (g : G) (N : Rho → G → Prop) : Prop := ∀ σ H vs, Sim W ρ g σ H → RepSs W H g svs vs → ∀ N' : L2.St → Hp → Prop, (∀ σ' H', PostS W g H N σ' H' → N' σ' H') → t vs σ H N'
theorem wg_name {i : Nat} {sv : SV} {N : Rho → G → Prop} (q : N (ρ.set i (some sv)) g) : WG W (gName i) sv ρ g N := fun σ H v S r N' k => k _ _ ⟨_, g, S.set i r, Ext.refl g H, q⟩
theorem wgs_nil {N : Rho → G → Prop} (q : N ρ g) : WGs W gNil [] ρ g N := fun σ H vs S r N' k => by
  cases (show vs = [] from r)
  exact ⟨rfl, k _ _ ⟨_, g, S, Ext.refl g H, q⟩⟩
theorem wgs_cons {t : TG} {u : TGs} {sv : SV} {svs : List SV} {N : Rho → G → Prop} (h : WG W t sv ρ g fun ρ1 g1 => WGs W u svs ρ1 g1 N) : WGs W (gCons t u) (sv :: svs) ρ g N := fun σ H vs S r N' k => by
  obtain ⟨x, r', rfl, r1, r2⟩ := r
  exact ⟨x, r', rfl, h σ H x S r1 _ fun σ1 H1 ⟨ρ1, g1, S1, e1, q⟩ => q σ1 H1 r' S1 (r2.ext e1) _ fun σ2 H2 z => k _ _ (z.back e1)⟩
theorem wg_tup {n : Nat} {t : TGs} {l : List D} {N : Rho → G → Prop} (hn : l.length = n) (h : WGs W t (l.map SV.d) ρ g N) : WG W (gTup W.K n t) (.d (.tup l)) ρ g N := fun σ H v S r N' k => by
  obtain ⟨a, xs, rfl, h1, h2⟩ := r
  exact ⟨a, xs, rfl, h1.sq, by rw [← h2.length]; exact hn, h σ H xs S (reps_to h2) N' k⟩
theorem w1_asg {tg : Expr} {t : TG} (hg : PG X tg t) (h : WE X W e ρ g fun sv g' => WG W t sv ρ g' P.nx) (hs : swapsWithSole [tg] e pos.line X.env = pure false := by rfl) (hw : swappedStores [tg] e X.env = pure none := by rfl) (h1 : (assignEach [tg] X.env).map (·.2) = [assign tg X.env] := by rfl) : W1 X W (.Assign [tg] e pos) ρ g P := fun σ H S D k => by
  refine t1_of (ps_asg pe_s hg hs hw h1) ?_
  exact h σ H S _ fun v H' ⟨r, g', k', e', rr, q⟩ => q σ H' v (S.ext k' e') rr _ fun σ2 H2 z => k.nx _ _ (z.back e')
theorem w1_par (i j : Nat) {x y : Str} {a b : Expr} {px py pt : Pos} {kt k2 pt2} (hc : X.calm = true) (hN : X.N.Nodup) (h : WA X W [a, b] ρ g fun svs g' => ∃ s1 s2, svs = [s1, s2] ∧ P.nx ((ρ.set i (some s1)).set j (some s2)) g')
    (hi : X.N[i]? = some x := by rfl) (hj : X.N[j]? = some y := by rfl) (hij : i ≠ j := by decide) (hx : X.env.scope.names.lookup x = some .local := by rfl) (hy : X.env.scope.names.lookup y = some .local := by rfl)
    (hw : swappedStores [.Tuple [.Name x px, .Name y py] kt pt] (.Tuple [a, b] k2 pt2) X.env = pure (some [x, y]) := by rfl) : W1 X W (.Assign [.Tuple [.Name x px, .Name y py] kt pt] (.Tuple [a, b] k2 pt2) pos) ρ g P := fun σ H S D k => by
  refine t1_of (ps_par hc hN hi hj hij hx hy pa_s hw) ?_
  refine h σ H S _ fun vs H' ⟨svs, g', k', e', rr, s1, s2, hh, q⟩ => ?_
  subst hh
  obtain ⟨v1, r1, rfl, a1, v2, r2, rfl, a2, hz⟩ := rr
  cases (show r2 = [] from hz)
  exact ⟨v1, v2, rfl, k.nx _ _ ⟨_, g', ((S.ext k' e').set i a1).set j a2, e', q⟩⟩
/-- o.f = value, o a thing that may change -/
theorem w1_fld {c : Nat} (hK : X.K = W.K) (c1 : Cls W.K (W.cl c)) (n : NoAttr W.K (W.cl c) f) (h : WE X W value ρ g fun sv g1 => WE X W o ρ g1 fun ov g2 => ∃ a fs, ov = .ob a ∧ g2 a = some (.ins c fs) ∧ fs.length < 1000 ∧ P.nx ρ (gset g2 a (.ins c (putS f sv fs))))
    (hs : swapsWith value (some (.Attribute o f pos')) pos.line X.env = pure false := by rfl) : W1 X W (.Assign [.Attribute o f pos'] value pos) ρ g P := fun σ H S D k => by
  refine t1_of (ps_fld pe_s pe_s hs) ?_
  refine h σ H S _ fun v H1 ⟨sv, g1, k1, e1, r1, h1⟩ => h1 σ H1 (S.ext k1 e1) _ fun ov H2 ⟨os, g2, k2, e2, r2, a, fs, ho, ha, hl, q⟩ => ?_
  subst ho
  obtain ⟨dx, vs, hx, rx⟩ := k2 a _ ha
  rw [hK]
  have e3 : Ext g2 H2 (gset g2 a (.ins c (putS f sv fs))) (upd H2 a (.ins (W.cl c) dx (putF f v vs))) := Ext.mut ha
  have k3 : GOk W (upd H2 a (.ins (W.cl c) dx (putF f v vs))) (gset g2 a (.ins c (putS f sv fs))) := k2.mut ha ⟨dx, _, upd_same, ((RepSf.put (r1.ext e2) rx).ext e3)⟩
  exact ⟨a, _, dx, vs, r2, hx, c1, n, by rw [← rx.length]; exact hl, k.nx _ _ ⟨ρ, _, S.ext k3 ((e1.trans e2).trans e3), (e1.trans e2).trans e3, q⟩⟩
/-- o[i] = value, o a list that may change -/
theorem w1_sub {i : Expr} {value : Expr} {spos : Pos} (h : WE X W value ρ g fun sv g1 => WE X W o ρ g1 fun ov g2 => WE X W i ρ g2 fun iv g3 => ∃ a l z j, ov = .ob a ∧ iv = .d (.int z) ∧ g3 a = some (.lst l) ∧ ixN l.length z = some j ∧ P.nx ρ (gset g3 a (.lst (l.set j sv))))
    (hs : swapsWithSole [.Subscript o i spos] value pos.line X.env = pure false := by rfl) (hw : swappedStores [.Subscript o i spos] value X.env = pure none := by rfl) (h1 : (assignEach [.Subscript o i spos] X.env).map (·.2) = [assign (.Subscript o i spos) X.env] := by rfl)
    (ha : ∀ v, assign (.Subscript o i spos) X.env v = (do
      let ov ← holding [v] (eval o X.env)
      let iv ← holding [v, ov] (eval i X.env)
      standAt spos
      holding [v, ov, iv] (setItem ov iv v)
      release [v, ov, iv] []) := by intro _; rfl) : W1 X W (.Assign [.Subscript o i spos] value pos) ρ g P := fun σ H S D k => by
  refine t1_of (ps_asg pe_s (pg_sub pe_s pe_s set_list ha) hs hw h1) ?_
  refine h σ H S _ fun v H1 ⟨sv, g1, k1, e1, r1, h1⟩ => h1 σ H1 (S.ext k1 e1) _ fun ov H2 ⟨os, g2, k2, e2, r2, h2⟩ => h2 σ H2 (S.ext k2 (e1.trans e2)) _ fun iv H3 ⟨is, g3, k3, e3, r3, a, l, z, j, ho, hi, ha, hj, q⟩ => ?_
  subst ho hi
  obtain ⟨xs, hx, rx⟩ := k3 a _ ha
  have e4 : Ext g3 H3 (gset g3 a (.lst (l.set j sv))) (upd H3 a (.lst (xs.set j v))) := Ext.mut ha
  have k4 : GOk W (upd H3 a (.lst (xs.set j v))) (gset g3 a (.lst (l.set j sv))) := k3.mut ha ⟨_, upd_same, (rx.set j ((r1.ext e2).ext e3)).ext e4⟩
  exact ⟨a, xs, z, j, r2, r3, hx, by rw [← rx.length]; exact hj, k.nx _ _ ⟨ρ, _, S.ext k4 (((e1.trans e2).trans e3).trans e4), ((e1.trans e2).trans e3).trans e4, q⟩⟩

/-! ### for -/
variable {tg iter : Expr} {body : List Stmt} {t : TG}
theorem w1_forL (hp : PassesOwn (model X.prog X.w) X.A X.env X.xe) (hc : X.calm = true) (hK : X.K = W.K) (hg : PG X tg t) (I : List D → Nat → Rho → G → Prop)
    (h : WE X W iter ρ g fun sv g1 => ∃ l, sv = .d (.lst l) ∧ I l 0 ρ g1 ∧ (∀ i x ρ' g', l[i]? = some x → I l i ρ' g' → WG W t (.d x) ρ' g' fun ρ2 g2 => WS X W body ρ2 g2 { nx := I l (i + 1), rt := P.rt, bk := P.nx, ct := I l (i + 1) }) ∧ (∀ ρ' g', I l l.length ρ' g' → P.nx ρ' g'))
    (hs : ∀ x, foldedSetIterable iter X.env x = pure x := by intro _; rfl) : W1 X W (.For tg iter body [] pos) ρ g P := fun σ H S D k => by
  refine t1_of (ps_for hp hc (pi_list pe_s) hg pss_s hs) ?_
  refine h σ H S _ fun v H1 ⟨sv, g1, k1, e1, r1, l, hl, i0, turn, done⟩ => ?_
  subst hl
  obtain ⟨a, xs, rfl, h1, h2⟩ := r1
  rw [hK]
  refine ⟨a, rfl, ⟨xs, h1.sq⟩, for_list (xs := xs) (fun i σ' H' => PostS W g1 H1 (I l i) σ' H') ⟨ρ, g1, S.ext k1 e1, Ext.refl _ _, i0⟩ (fun i σ' H' _ ⟨ρ', g', S', e', _⟩ => (h1.ext e').sq) (fun i x σ' H' hx ⟨ρ', g', S', e', ii⟩ => ?_) fun σ' H' ⟨ρ', g', S', e', ii⟩ => ?_⟩
  · obtain ⟨d, hd, rd⟩ := h2.got hx
    exact turn i d ρ' g' hd ii σ' H' x S' (Rep.ext e' d x rd) _ fun σ2 H2 ⟨ρ2, g2, S2, e2, q⟩ => q σ2 H2 S2 _ ⟨fun σ3 H3 z => z.back (e'.trans e2), fun v3 H3 z => k.rt v3 H3 (z.back ((e1.trans e').trans e2)), fun σ3 H3 z => k.nx _ _ (z.back ((e1.trans e').trans e2)), fun σ3 H3 z => z.back (e'.trans e2)⟩
  · exact k.nx _ _ ⟨ρ', g', S', e1.trans e', done ρ' g' (by rw [h2.length]; exact ii)⟩
theorem w1_forT (hp : PassesOwn (model X.prog X.w) X.A X.env X.xe) (hc : X.calm = true) (hK : X.K = W.K) (hg : PG X tg t) (I : List D → Nat → Rho → G → Prop)
    (h : WE X W iter ρ g fun sv g1 => ∃ l, sv = .d (.tup l) ∧ I l 0 ρ g1 ∧ (∀ i x ρ' g', l[i]? = some x → I l i ρ' g' → WG W t (.d x) ρ' g' fun ρ2 g2 => WS X W body ρ2 g2 { nx := I l (i + 1), rt := P.rt, bk := P.nx, ct := I l (i + 1) }) ∧ (∀ ρ' g', I l l.length ρ' g' → P.nx ρ' g'))
    (hs : ∀ x, foldedSetIterable iter X.env x = pure x := by intro _; rfl) : W1 X W (.For tg iter body [] pos) ρ g P := fun σ H S D k => by
  refine t1_of (ps_for hp hc (pi_tup pe_s) hg pss_s hs) ?_
  refine h σ H S _ fun v H1 ⟨sv, g1, k1, e1, r1, l, hl, i0, turn, done⟩ => ?_
  subst hl
  obtain ⟨a, xs, rfl, h1, h2⟩ := r1
  rw [hK]
  refine ⟨a, rfl, ⟨xs, h1.sq⟩, for_tup (xs := xs) (fun i σ' H' => PostS W g1 H1 (I l i) σ' H') ⟨ρ, g1, S.ext k1 e1, Ext.refl _ _, i0⟩ (fun i σ' H' _ ⟨ρ', g', S', e', _⟩ => (h1.ext e').sq) (fun i x σ' H' hx ⟨ρ', g', S', e', ii⟩ => ?_) fun σ' H' ⟨ρ', g', S', e', ii⟩ => ?_⟩
  · obtain ⟨d, hd, rd⟩ := h2.got hx
    exact turn i d ρ' g' hd ii σ' H' x S' (Rep.ext e' d x rd) _ fun σ2 H2 ⟨ρ2, g2, S2, e2, q⟩ => q σ2 H2 S2 _ ⟨fun σ3 H3 z => z.back (e'.trans e2), fun v3 H3 z => k.rt v3 H3 (z.back ((e1.trans e').trans e2)), fun σ3 H3 z => k.nx _ _ (z.back ((e1.trans e').trans e2)), fun σ3 H3 z => z.back (e'.trans e2)⟩
  · exact k.nx _ _ ⟨ρ', g', S', e1.trans e', done ρ' g' (by rw [h2.length]; exact ii)⟩
/-- for x in range(n) -/
theorem w1_forR {ar : Expr} {rp rpos : Pos} (hp : PassesOwn (model X.prog X.w) X.A X.env X.xe) (hc : X.calm = true) (hgl : Gl X "range") (hm : X.mg "range" = none) (hg : PG X tg t) (I : Int → Nat → Rho → G → Prop)
    (h : WE X W ar ρ g fun sv g1 => ∃ n : Int, sv = .d (.int n) ∧ -1000000 ≤ n ∧ n ≤ 1000000 ∧ I n 0 ρ g1 ∧ (∀ (i : Nat) ρ' g', (i : Int) < n → I n i ρ' g' → WG W t (.d (.int i)) ρ' g' fun ρ2 g2 => WS X W body ρ2 g2 { nx := I n (i + 1), rt := P.rt, bk := P.nx, ct := I n (i + 1) }) ∧ (∀ ρ' g', I n n.toNat ρ' g' → P.nx ρ' g'))
    (hst : starEach [ar] X.env = [(false, eval ar X.env)] := by rfl) (hst2 : starEach [ar] X.env = (false, eval ar X.env) :: starEach [] X.env := by rfl) (hs : ∀ x, foldedSetIterable (.Call (.Name "range" rp) [ar] [] rpos) X.env x = pure x := by intro _; rfl) : W1 X W (.For tg (.Call (.Name "range" rp) [ar] [] rpos) body [] pos) ρ g P := fun σ H S D k => by
  refine t1_of (ps_for hp hc (pi_range1 hgl hm (pa_cons pe_s pa_nil hst2) hst) hg pss_s hs) ?_
  refine h σ H S _ fun v H1 ⟨sv, g1, k1, e1, r1, n, hl, hn1, hn2, i0, turn, done⟩ => ?_
  subst hl
  cases (show v = .int n from r1)
  refine ⟨n, rfl, by omega, by omega, for_range (lo := 0) (n := n.toNat) (fun i σ' H' => PostS W g1 H1 (I n i) σ' H') ⟨ρ, g1, S.ext k1 e1, Ext.refl _ _, i0⟩ (fun i σ' H' hx ⟨ρ', g', S', e', ii⟩ => ?_) fun σ' H' ⟨ρ', g', S', e', ii⟩ => ?_⟩
  · exact turn i ρ' g' (by omega) ii σ' H' _ S' (by show V.int (0 + (i : Int)) = V.int i; rw [Int.zero_add]) _ fun σ2 H2 ⟨ρ2, g2, S2, e2, q⟩ => q σ2 H2 S2 _ ⟨fun σ3 H3 z => z.back (e'.trans e2), fun v3 H3 z => k.rt v3 H3 (z.back ((e1.trans e').trans e2)), fun σ3 H3 z => k.nx _ _ (z.back ((e1.trans e').trans e2)), fun σ3 H3 z => z.back (e'.trans e2)⟩
  · exact k.nx _ _ ⟨ρ', g', S', e1.trans e', done ρ' g' ii⟩
/-- a while, by an invariant over a number that falls -/
theorem w1_while {c : Expr} (hp : PassesOwn (model X.prog X.w) X.A X.env X.xe) (I : Nat → Rho → G → Prop) (m0 : Nat) (h0 : I m0 ρ g)
    (h : ∀ m ρ' g', I m ρ' g' → WT X W c ρ' g' fun b g1 => if b = true then WS X W body ρ' g1 { nx := fun ρ2 g2 => ∃ m', m' < m ∧ I m' ρ2 g2, rt := P.rt, bk := P.nx, ct := fun ρ2 g2 => ∃ m', m' < m ∧ I m' ρ2 g2 } else P.nx ρ' g1) : W1 X W (.While c body [] pos) ρ g P := fun σ H S D k => by
  refine t1_of (ps_while hp pt_s pss_s) ?_
  refine ⟨fun m σ' H' => PostS W g H (I m) σ' H', ⟨m0, ρ, g, S, Ext.refl g H, h0⟩, fun m σ' H' ⟨ρ', g', S', e', ii⟩ => ?_⟩
  refine h m ρ' g' ii σ' H' S' _ fun b H1 ⟨g1, k1, e1, q⟩ => ?_
  cases b with
  | true =>
    rw [if_pos rfl] at q ⊢
    refine ⟨fun σ2 H2 => ∃ m', m' < m ∧ PostS W g H (I m') σ2 H2, fun σ2 H2 z => z, ?_⟩
    exact q σ' H1 (S'.ext k1 e1) _ ⟨fun σ3 H3 ⟨ρ3, g3, S3, e3, m', hm, i3⟩ => ⟨m', hm, ρ3, g3, S3, (e'.trans e1).trans e3, i3⟩, fun v3 H3 z => k.rt v3 H3 (z.back (e'.trans e1)), fun σ3 H3 z => k.nx _ _ (z.back (e'.trans e1)), fun σ3 H3 ⟨ρ3, g3, S3, e3, m', hm, i3⟩ => ⟨m', hm, ρ3, g3, S3, (e'.trans e1).trans e3, i3⟩⟩
  | false =>
    rw [if_neg (by decide)] at q ⊢
    exact k.nx _ _ ⟨ρ', g1, S'.ext k1 e1, e'.trans e1, q⟩
end
end DL

namespace DL
open PySem PySem.Spec PyProof.Rows L2

/-! ### operations upon values -/
section
variable {W : Wd} {g : G} {Q : QE}
theorem post_same {H : Hp} {r : SV} {v : V} (k : GOk W H g) (h : RepS W H g r v) (q : Q r g) : PostE W g H Q v H := ⟨r, g, k, Ext.refl g H, h, q⟩
theorem post_tup {H : Hp} {l : List D} {xs : List V} {p : Addr} (k : GOk W H g) (hp : H p = none) (h : Reps W H g l xs) (q : Q (.d (.tup l)) g) : PostE W g H Q (.ref p) (upd H p (.tup xs)) :=
  ⟨.d (.tup l), g, k.new hp, Ext.new hp, ⟨p, xs, rfl, .inl ⟨.inl upd_same, k.free hp⟩, Reps.ext (Ext.new hp) _ _ h⟩, q⟩
theorem post_lst {H : Hp} {l : List D} {xs : List V} {p : Addr} (k : GOk W H g) (hp : H p = none) (h : Reps W H g l xs) (q : Q (.d (.lst l)) g) : PostE W g H Q (.ref p) (upd H p (.lst xs)) :=
  ⟨.d (.lst l), g, k.new hp, Ext.new hp, ⟨p, xs, rfl, .inl ⟨.inl upd_same, k.free hp⟩, Reps.ext (Ext.new hp) _ _ h⟩, q⟩
theorem post_ob {H : Hp} {l : List SV} {xs : List V} {p : Addr} (k : GOk W H g) (hp : H p = none) (h : RepSs W H g l xs) (q : Q (.ob p) (gset g p (.lst l))) : PostE W g H Q (.ref p) (upd H p (.lst xs)) :=
  ⟨.ob p, gset g p (.lst l), k.newOb (m := .lst l) hp ⟨xs, upd_same, h.ext (Ext.newOb hp)⟩, Ext.newOb hp, rfl, q⟩
theorem post_mut {H : Hp} {l l' : List SV} {xs' : List V} {a : Addr} {r : SV} {v : V} (k : GOk W H g) (ha : g a = some (.lst l)) (h : RepSs W H g l' xs') (hr : RepS W H g r v) (q : Q r (gset g a (.lst l'))) : PostE W g H Q v (upd H a (.lst xs')) :=
  ⟨r, gset g a (.lst l'), k.mut (m' := .lst l') ha ⟨xs', upd_same, h.ext (Ext.mut ha)⟩, Ext.mut ha, hr.ext (Ext.mut ha), q⟩
theorem rw_i {i j : Int} {f : Int → Int → V} {z : SV} (hz : ∀ H, RepS W H g z (f i j)) (q : Q z g) : RW W (rI0 f) (.d (.int i)) (.d (.int j)) g Q := fun H vx vy k rx ry Q' q' => ⟨i, j, rx, ry, q' _ _ (post_same k (hz H) q)⟩
theorem rw_ii {i j : Int} {f : Int → Int → Int} (q : Q (.d (.int (f i j))) g) : RW W (rI0 fun i j => .int (f i j)) (.d (.int i)) (.d (.int j)) g Q := rw_i (z := .d (.int (f i j))) (fun _ => rfl) q
theorem rw_ib {i j : Int} {f : Int → Int → Bool} (q : Q (.d (.bl (f i j))) g) : RW W (rI0 fun i j => .bl (f i j)) (.d (.int i)) (.d (.int j)) g Q := rw_i (z := .d (.bl (f i j))) (fun _ => rfl) q
theorem rw_ic {i j : Int} {C : Int → Int → Prop} {f : Int → Int → Int} (c : C i j) (q : Q (.d (.int (f i j))) g) : RW W (rI C fun i j => .int (f i j)) (.d (.int i)) (.d (.int j)) g Q := fun H vx vy k rx ry Q' q' => ⟨i, j, rx, ry, c, q' _ _ (post_same (r := .d (.int (f i j))) k rfl q)⟩
theorem rw_adds {i j : Str} (c : i.length + j.length ≤ sizeLine) (q : Q (.d (.str (i ++ j))) g) : RW W (fun x y H Q => ∃ i j, x = .str i ∧ y = .str j ∧ i.length + j.length ≤ sizeLine ∧ Q (.str (i ++ j)) H) (.d (.str i)) (.d (.str j)) g Q := fun H vx vy k rx ry Q' q' => ⟨i, j, rx, ry, c, q' _ _ (post_same (r := .d (.str (i ++ j))) k rfl q)⟩
/-- scalars -/
def flatD : D → Option V
  | .non => some .non
  | .bl b => some (.bl b)
  | .int i => some (.int i)
  | .str s => some (.str s)
  | _ => none
theorem flatD_rep {H : Hp} {x : D} {u v : V} (h : flatD x = some u) (r : Rep W H g x v) : v = u := by
  cases x <;> first | (cases h; exact r) | cases h
theorem rw_eq {x y : D} {u v : V} (hx : flatD x = some u) (hy : flatD y = some v) (hs : scal u v = true) (q : Q (.d (.bl (decide (u = v)))) g) : RW W rEq (.d x) (.d y) g Q := fun H vx vy k rx ry Q' q' => by
  rw [flatD_rep hx rx, flatD_rep hy ry]
  exact ⟨hs, q' _ _ (post_same (r := .d (.bl _)) k rfl q)⟩
theorem rw_ne {x y : D} {u v : V} (hx : flatD x = some u) (hy : flatD y = some v) (hs : scal u v = true) (q : Q (.d (.bl (!decide (u = v)))) g) : RW W rNe (.d x) (.d y) g Q := fun H vx vy k rx ry Q' q' => by
  rw [flatD_rep hx rx, flatD_rep hy ry]
  exact ⟨hs, q' _ _ (post_same (r := .d (.bl _)) k rfl q)⟩
end
mutual
def toPy : D → Option PyData
  | .non => some .none
  | .bl b => some (.bool b)
  | .int i => some (.int i)
  | .str s => some (.str s)
  | .lst l => (toPys l).map .list
  | .tup l => (toPys l).map .tuple
  | .ins _ _ => none
def toPys : List D → Option (List PyData)
  | [] => some []
  | d :: l => match toPy d, toPys l with
    | some x, some xs => some (x :: xs)
    | _, _ => none
end
section
variable {W : Wd} {H : Hp} {g : G}
mutual
theorem dp_of : ∀ (x : D) (v : V) (p : PyData), Rep W H g x v → toPy x = some p → Dp W.K H v p
  | .non, v, p, r, h => by
    have h : some PyData.none = some p := by rw [← h, toPy]
    cases h; cases (show v = _ from r); exact .non
  | .bl b, v, p, r, h => by
    have h : some (PyData.bool b) = some p := by rw [← h, toPy]
    cases h; cases (show v = _ from r); exact .bl b
  | .int i, v, p, r, h => by
    have h : some (PyData.int i) = some p := by rw [← h, toPy]
    cases h; cases (show v = _ from r); exact .int i
  | .str s, v, p, r, h => by
    have h : some (PyData.str s) = some p := by rw [← h, toPy]
    cases h; cases (show v = _ from r); exact .str s
  | .lst l, v, p, r, h => by
    rw [toPy] at h
    obtain ⟨a, xs, rfl, h1, h2⟩ := r
    cases e : toPys l with
    | none => rw [e] at h; cases h
    | some ps =>
      rw [e] at h; cases h
      exact .lst h1.sq (dps_of l xs ps h2 e)
  | .tup l, v, p, r, h => by
    rw [toPy] at h
    obtain ⟨a, xs, rfl, h1, h2⟩ := r
    cases e : toPys l with
    | none => rw [e] at h; cases h
    | some ps =>
      rw [e] at h; cases h
      exact .tup h1.sq (dps_of l xs ps h2 e)
  | .ins _ _, v, p, r, h => by rw [toPy] at h; cases h
theorem dps_of : ∀ (l : List D) (xs : List V) (ps : List PyData), Reps W H g l xs → toPys l = some ps → DpAll W.K H xs ps
  | [], xs, ps, r, h => by
    rw [toPys] at h; cases h
    cases (show xs = [] from r); exact .nil
  | d :: l, xs, ps, r, h => by
    obtain ⟨x, r', rfl, h1, h2⟩ := r
    rw [toPys] at h
    cases e1 : toPy d with
    | none => rw [e1] at h; cases h
    | some q =>
      cases e2 : toPys l with
      | none => rw [e1, e2] at h; cases h
      | some qs =>
        rw [e1, e2] at h; cases h
        exact .cons (dp_of d x q h1 e1) (dps_of l r' qs h2 e2)
end
end
section
variable {W : Wd} {g : G} {Q : QE}
theorem rw_eqD {x y : D} {p q : PyData} (hx : toPy x = some p) (hy : toPy y = some q) (sp : SeqAt.shaped p = true) (sq : SeqAt.shaped q = true) (z : Q (.d (.bl (PyData.eqv p q))) g) : RW W (rEqD W.K) (.d x) (.d y) g Q := fun H vx vy k rx ry Q' q' =>
  ⟨p, q, dp_of x vx p rx hx, dp_of y vy q ry hy, sp, sq, q' _ _ (post_same (r := .d (.bl _)) k rfl z)⟩
theorem rw_neD {x y : D} {p q : PyData} (hx : toPy x = some p) (hy : toPy y = some q) (sp : SeqAt.shaped p = true) (sq : SeqAt.shaped q = true) (z : Q (.d (.bl (!PyData.eqv p q))) g) : RW W (rNeD W.K) (.d x) (.d y) g Q := fun H vx vy k rx ry Q' q' =>
  ⟨p, q, dp_of x vx p rx hx, dp_of y vy q ry hy, sp, sq, q' _ _ (post_same (r := .d (.bl _)) k rfl z)⟩
/-- a sequence that is read: a tree's, or a list that may change -/
def SeqOf (g : G) (sv : SV) (l : List SV) : Prop := (∃ l', sv = .d (.lst l') ∧ l = l'.map SV.d) ∨ (∃ l', sv = .d (.tup l') ∧ l = l'.map SV.d) ∨ ∃ a, sv = .ob a ∧ g a = some (.lst l)
theorem SeqOf.v {H : Hp} {sv : SV} {l : List SV} {v : V} (s : SeqOf g sv l) (k : GOk W H g) (r : RepS W H g sv v) : ∃ a xs, v = .ref a ∧ (SqL W.K H a xs ∨ SqT W.K H a xs) ∧ RepSs W H g l xs := by
  rcases s with ⟨l', rfl, rfl⟩ | ⟨l', rfl, rfl⟩ | ⟨a, rfl, ha⟩
  · obtain ⟨a, xs, rfl, h1, h2⟩ := r
    exact ⟨a, xs, rfl, .inl h1.sq, reps_to h2⟩
  · obtain ⟨a, xs, rfl, h1, h2⟩ := r
    exact ⟨a, xs, rfl, .inr h1.sq, reps_to h2⟩
  · obtain ⟨xs, hx, rx⟩ := k a _ ha
    exact ⟨a, xs, r, .inl (.inl (.inl hx)), rx⟩
def LstOf (g : G) (sv : SV) (l : List SV) : Prop := (∃ l', sv = .d (.lst l') ∧ l = l'.map SV.d) ∨ ∃ a, sv = .ob a ∧ g a = some (.lst l)
theorem LstOf.v {H : Hp} {sv : SV} {l : List SV} {v : V} (s : LstOf g sv l) (k : GOk W H g) (r : RepS W H g sv v) : ∃ a xs, v = .ref a ∧ SqL W.K H a xs ∧ RepSs W H g l xs := by
  rcases s with ⟨l', rfl, rfl⟩ | ⟨a, rfl, ha⟩
  · obtain ⟨a, xs, rfl, h1, h2⟩ := r
    exact ⟨a, xs, rfl, h1.sq, reps_to h2⟩
  · obtain ⟨xs, hx, rx⟩ := k a _ ha
    exact ⟨a, xs, r, .inl (.inl hx), rx⟩
theorem rep_at {H : Hp} {l : List SV} {xs : List V} {i : Int} {sv : SV} (r : RepSs W H g l xs) (h : atI l i = some sv) : ∃ v, atI xs i = some v ∧ RepS W H g sv v := by
  unfold atI at h ⊢
  rw [← r.length]
  cases e : ixN l.length i with
  | none => rw [e] at h; cases h
  | some j =>
    rw [e] at h
    exact r.get h
theorem rw_ixL {s sv : SV} {l : List SV} {i : Int} (hs : LstOf g s l) (h : atI l i = some sv) (q : Q sv g) : RW W (rIxL W.K) s (.d (.int i)) g Q := fun H vx vy k rx ry Q' q' => by
  obtain ⟨a, xs, rfl, h1, h2⟩ := hs.v k rx
  obtain ⟨v, h3, h4⟩ := rep_at h2 h
  exact ⟨a, xs, i, v, rfl, ry, h1, h3, q' _ _ (post_same k h4 q)⟩
theorem atI_map {l : List D} {i : Int} {x : D} (h : atI l i = some x) : atI (l.map SV.d) i = some (.d x) := by
  unfold atI at h ⊢
  rw [List.length_map]
  cases e : ixN l.length i with
  | none => rw [e] at h; cases h
  | some j =>
    rw [e] at h
    have h : l[j]? = some x := h
    show (l.map SV.d)[j]? = some (.d x)
    rw [List.getElem?_map, h]; rfl
theorem rw_ixT {l : List D} {i : Int} {x : D} (h : atI l i = some x) (q : Q (.d x) g) : RW W (rIxT W.K) (.d (.tup l)) (.d (.int i)) g Q := fun H vx vy k rx ry Q' q' => by
  obtain ⟨a, xs, rfl, h1, h2⟩ := rx
  obtain ⟨v, h3, h4⟩ := rep_at (reps_to h2) (atI_map h)
  exact ⟨a, xs, i, v, rfl, ry, h1.sq, h3, q' _ _ (post_same k h4 q)⟩
theorem rw_ixS {z : Str} {i : Int} {c : Nat} (hz : z.length ≤ sizeLine) (h : atI z.cps.toList i = some c) (q : Q (.d (.str ⟨#[c]⟩)) g) : RW W rIxS (.d (.str z)) (.d (.int i)) g Q := fun H vx vy k rx ry Q' q' =>
  ⟨z, i, c, rx, ry, hz, h, q' _ _ (post_same (r := .d (.str _)) k rfl q)⟩
theorem reps_all_flat {H : Hp} : ∀ {l : List D} {xs : List V} {us : List V}, Reps W H g l xs → l.map flatD = us.map some → xs = us
  | [], xs, us, r, h => by
    cases (show xs = [] from r)
    cases us with
    | nil => rfl
    | cons => cases h
  | d :: l, xs, us, r, h => by
    obtain ⟨x, r', rfl, h1, h2⟩ := r
    cases us with
    | nil => cases h
    | cons u us =>
      rw [List.map_cons, List.map_cons] at h
      injection h with ha hb
      rw [flatD_rep ha h1, reps_all_flat h2 hb]
/-- x in a list or tuple of scalars; us: what the items are, as values -/
theorem rw_in {neg : Bool} {x : D} {u : V} {s : SV} {l : List D} {us : List V} (hx : flatD x = some u) (hs : s = .d (.lst l) ∨ s = .d (.tup l)) (hl : l.map flatD = us.map some) (f1 : flatV u = true) (f2 : us.all flatV = true) (q : Q (.d (.bl (if neg then !inV u us else inV u us))) g) : RW W (rIn W.K neg) (.d x) s g Q := fun H vx vy k rx ry Q' q' => by
  rw [flatD_rep hx rx]
  rcases hs with rfl | rfl
  · obtain ⟨a, xs, rfl, h1, h2⟩ := ry
    rw [reps_all_flat h2 hl] at h1
    exact ⟨a, us, rfl, .inl h1.sq, f1, f2, q' _ _ (post_same (r := .d (.bl _)) k rfl q)⟩
  · obtain ⟨a, xs, rfl, h1, h2⟩ := ry
    rw [reps_all_flat h2 hl] at h1
    exact ⟨a, us, rfl, .inr h1.sq, f1, f2, q' _ _ (post_same (r := .d (.bl _)) k rfl q)⟩
theorem rw_isN {s : SV} {b : Bool} (h : match s with | .d .non => b = true | _ => b = false) (q : Q (.d (.bl b)) g) : RW W (fun x y H Q => y = .non ∧ Q (.bl (decide (x = .non))) H) s (.d .non) g Q := fun H vx vy k rx ry Q' q' => by
  refine ⟨ry, ?_⟩
  have e : decide (vx = .non) = b := by
    cases s with
    | ob a => cases (show vx = .ref a from rx); exact h.symm
    | d x =>
      cases x with
      | non => cases (show vx = _ from rx); exact h.symm
      | bl b => cases (show vx = _ from rx); exact h.symm
      | int b => cases (show vx = _ from rx); exact h.symm
      | str b => cases (show vx = _ from rx); exact h.symm
      | lst l => obtain ⟨a, xs, rfl, _⟩ := rx; exact h.symm
      | tup l => obtain ⟨a, xs, rfl, _⟩ := rx; exact h.symm
      | ins c fs => obtain ⟨a, dx, vs, rfl, _⟩ := rx; exact h.symm
  rw [e]
  exact q' _ _ (post_same (r := .d (.bl b)) k rfl q)
end

/-! ### calls of built-ins -/
section
variable {X : Cx} {W : Wd} {ρ : Rho} {g : G} {Q : QE} {pos p apos cpos : Pos} {e o a b lo hi : Expr} {es : List Expr} {x name : Str} {id T : String}
theorem we_callB {r : List V → Hp → VK → Prop} (hc : CallR X (.builtin id) r) (hg : Gl X x) (hm : X.mg x = none) (hv : bootBuiltins x = some (.builtin id)) (h : WA X W (e :: es) ρ g fun svs g1 => RC W r svs g1 Q) (hn : x ≠ "__name__" := by decide) (hdb : (x == ("__debug__" : Str)) = false := by decide)
    (he : starEach (e :: es) X.env = (false, eval e X.env) :: starEach es X.env := by rfl) (hpl : (backTo pos (starEach es X.env)).any (·.1) = false := by rfl) : WE X W (.Call (.Name x p) (e :: es) [] pos) ρ g Q := fun σ H S Q' q' => by
  refine ts_of (pe_callB hc hg hm hv pa_s hn hdb he hpl) ?_
  exact h σ H S _ fun vs H1 ⟨svs, g1, k1, e1, r1, q⟩ => q H1 vs k1 r1 _ fun v H2 z => q' _ _ (z.back e1)
theorem we_callTy {r : List V → Hp → VK → Prop} (hc : CallR X (.type T) r) (hg : Gl X x) (hm : X.mg x = none) (hv : bootBuiltins x = some (.type T)) (h : WA X W (e :: es) ρ g fun svs g1 => RC W r svs g1 Q) (hn : x ≠ "__name__" := by decide) (hdb : (x == ("__debug__" : Str)) = false := by decide)
    (he : starEach (e :: es) X.env = (false, eval e X.env) :: starEach es X.env := by rfl) (hpl : (backTo pos (starEach es X.env)).any (·.1) = false := by rfl) : WE X W (.Call (.Name x p) (e :: es) [] pos) ρ g Q := fun σ H S Q' q' => by
  refine ts_of (pe_callTy hc hg hm hv pa_s hn hdb he hpl) ?_
  exact h σ H S _ fun vs H1 ⟨svs, g1, k1, e1, r1, q⟩ => q H1 vs k1 r1 _ fun v H2 z => q' _ _ (z.back e1)
def TyS (T : String) (g : G) : SV → Prop
  | .d (.str _) => T = "str"
  | .d (.int _) => T = "int"
  | .d (.lst _) => T = "list"
  | .ob a => T = "list" ∧ ∃ l, g a = some (.lst l)
  | _ => False
theorem TyS.v {H : Hp} {s : SV} {v : V} (t : TyS T g s) (k : GOk W H g) (r : RepS W H g s v) : tyV W.K T v H := by
  cases s with
  | ob a =>
    obtain ⟨rfl, l, ha⟩ := t
    obtain ⟨xs, hx, rx⟩ := k a _ ha
    cases (show v = _ from r)
    exact .inl ⟨rfl, xs, .inl (.inl hx)⟩
  | d x =>
    cases x with
    | str s => cases (show v = _ from r); exact t
    | int s => cases (show v = _ from r); exact t
    | lst l =>
      obtain ⟨a, xs, rfl, h1, h2⟩ := r
      exact .inl ⟨t, xs, h1.sq⟩
    | _ => exact False.elim t
theorem we_bm0 {r : V → List V → Hp → VK → Prop} (hK : X.K = W.K) (pa : PlainAttrs T) (slot : Slot T name id) (hty : typeOf (.builtin id) = pure (.type "method_descriptor")) (hm : MtR X id r) (h : WE X W o ρ g fun sv g1 => TyS T g1 sv ∧ RM W r sv [] g1 Q)
    (hbase : attributeBase o name X.env (eval o X.env) = eval o X.env := by rfl) (hline : (apos.endLine == cpos.line) = true := by rfl) : WE X W (.Call (.Attribute o name apos) [] [] cpos) ρ g Q := fun σ H S Q' q' => by
  refine ts_of (pe_bm0 pa slot hty hm pe_s hbase hline) ?_
  exact h σ H S _ fun v H1 ⟨sv, g1, k1, e1, r1, t, q⟩ => ⟨by rw [hK]; exact t.v k1 r1, q H1 v [] k1 r1 rfl _ fun v H2 z => q' _ _ (z.back e1)⟩
theorem we_bm {r : V → List V → Hp → VK → Prop} (hK : X.K = W.K) (pa : PlainAttrs T) (slot : Slot T name id) (hty : typeOf (.builtin id) = pure (.type "method_descriptor")) (hm : MtR X id r) (h : WE X W o ρ g fun sv g1 => TyS T g1 sv ∧ WA X W (e :: es) ρ g1 fun svs g2 => RM W r sv svs g2 Q)
    (hbase : attributeBase o name X.env (eval o X.env) = eval o X.env := by rfl)
    (hfew : ((backTo cpos (starEach (e :: es) X.env)).all (fun x => !x.1) && (backToKw cpos (keywordEach [] X.env)).all (fun x => x.1.isSome)
      && decide ((e :: es).length + ([] : List Keyword).length + (if ([] : List Keyword).isEmpty then 0 else 1) < 30)) = true := by rfl)
    (hline : (apos.endLine == cpos.line) = true := by rfl) (hs : starEach (e :: es) X.env = (false, eval e X.env) :: starEach es X.env := by rfl) (hplain : (backTo cpos (starEach es X.env)).any (·.1) = false := by rfl) :
    WE X W (.Call (.Attribute o name apos) (e :: es) [] cpos) ρ g Q := fun σ H S Q' q' => by
  refine ts_of (pe_bm pa slot hty hm pe_s pa_s hbase hfew hline hs hplain) ?_
  exact h σ H S _ fun v H1 ⟨sv, g1, k1, e1, r1, t, h1⟩ => ⟨by rw [hK]; exact t.v k1 r1, h1 σ H1 (S.ext k1 e1) _ fun vs H2 ⟨svs, g2, k2, e2, r2, q⟩ => q H2 v vs k2 (r1.ext e2) r2 _ fun v H3 z => q' _ _ (z.back (e1.trans e2))⟩
theorem we_ix {r : R2} (hr : IxR X r) (h : WE X W a ρ g fun x g1 => WE X W b ρ g1 fun y g2 => RW W r x y g2 Q) (hs : PlainIx b := by exact fun _ _ => rfl) : WE X W (.Subscript a b pos) ρ g Q := fun σ H S Q' q' => by
  refine ts_of (pe_ix hr pe_s pe_s hs) ?_
  exact h σ H S _ fun vx H1 ⟨x, g1, k1, e1, r1, h1⟩ => h1 σ H1 (S.ext k1 e1) _ fun vy H2 ⟨y, g2, k2, e2, r2, h2⟩ => h2 H2 vx vy k2 (r1.ext e2) r2 _ fun v H3 z => q' v H3 (z.back (e1.trans e2))
/-- a part of a slice -/
def WO (X : Cx) (W : Wd) (e : Option Expr) (ρ : Rho) (g : G) (Q : Option Int → G → Prop) : Prop := match e with
  | none => Q none g
  | some e => WE X W e ρ g fun s g' => ∃ i, s = .d (.int i) ∧ Q (some i) g'
def tO (X : Cx) : Option Expr → TO
  | none => tNoPart
  | some e => tPart (tS X e)
theorem po_s : ∀ {e : Option Expr}, PO X e (tO X e)
  | none => po_none
  | some e => po_some pe_s
theorem WO.run {e : Option Expr} {Q : Option Int → G → Prop} {σ : L2.St} {H : Hp} (h : WO X W e ρ g Q) (S : Sim W ρ g σ H) {Q' : Option Int → Hp → Prop} (q' : ∀ i H', (∃ g', GOk W H' g' ∧ Ext g H g' H' ∧ Q i g') → Q' i H') : tO X e σ H Q' := by
  cases e with
  | none => exact q' none H ⟨g, S.ok, Ext.refl g H, h⟩
  | some e => exact h σ H S _ fun v H1 ⟨s, g1, k1, e1, r1, i, hs, q⟩ => by subst hs; exact ⟨i, r1, q' _ _ ⟨g1, k1, e1, q⟩⟩
def RSl (W : Wd) (r : V → Option Int → Option Int → Hp → VK → Prop) (x : SV) (i j : Option Int) (g : G) (Q : QE) : Prop := ∀ H vx, GOk W H g → RepS W H g x vx → ∀ Q' : VK, (∀ v H', PostE W g H Q v H' → Q' v H') → r vx i j H Q'
theorem we_slice {lo hi : Option Expr} {p2 : Pos} {r : V → Option Int → Option Int → Hp → VK → Prop} (hr : SlR X r) (h : WE X W e ρ g fun x g1 => WO X W lo ρ g1 fun i g2 => WO X W hi ρ g2 fun j g3 => RSl W r x i j g3 Q) : WE X W (.Subscript e (.Slice lo hi none p2) pos) ρ g Q := fun σ H S Q' q' => by
  refine ts_of (pe_slice hr pe_s po_s po_s) ?_
  refine h σ H S _ fun vx H1 ⟨x, g1, k1, e1, r1, h1⟩ => h1.run (S.ext k1 e1) fun i H2 ⟨g2, k2, e2, h2⟩ => h2.run (S.ext k2 (e1.trans e2)) fun j H3 ⟨g3, k3, e3, h3⟩ => h3 H3 vx k3 (r1.ext (e2.trans e3)) _ fun v H4 z => q' v H4 (z.back ((e1.trans e2).trans e3))
def cutL {α : Type} (xs : List α) (lo hi : Option Int) : List α := (xs.drop (HT.sIx xs.length 0 lo)).take (HT.sIx xs.length xs.length hi - HT.sIx xs.length 0 lo)
theorem Reps.cut {H : Hp} {l : List D} {xs : List V} {i j : Option Int} (r : Reps W H g l xs) : Reps W H g (cutL l i j) (cutV xs i j) := by
  unfold cutL cutV
  rw [← r.length]
  exact (r.drop _).take _
theorem rsl_list {l : List D} {i j : Option Int} {s : SV} (hs : LstOf g s (l.map SV.d)) (q : Q (.d (.lst (cutL l i j))) g) : RSl W (rSlL W.K) s i j g Q := fun H vx k rx Q' q' => by
  obtain ⟨a, xs, rfl, h1, h2⟩ := hs.v k rx
  exact ⟨a, xs, rfl, h1, fun p hp => q' _ _ (post_lst k hp (reps_of h2).cut q)⟩
theorem rsl_tup {l : List D} {i j : Option Int} (hw : ¬ (HT.sIx l.length 0 i = 0 ∧ HT.sIx l.length l.length j = l.length)) (q : Q (.d (.tup (cutL l i j))) g) : RSl W (rSlT W.K) (.d (.tup l)) i j g Q := fun H vx k rx Q' q' => by
  obtain ⟨a, xs, rfl, h1, h2⟩ := rx
  exact ⟨a, xs, rfl, h1.sq, by rw [← h2.length]; exact hw, fun p hp => q' _ _ (post_tup k hp h2.cut q)⟩

/-! ### lists that may change -/
theorem rm_append {a : Addr} {s : SV} {l : List SV} (ha : g a = some (.lst l)) (hl : l.length < 100000) (q : Q (.d .non) (gset g a (.lst (l ++ [s])))) : RM W rAppend (.ob a) [s] g Q := fun H vx vs k rx rs Q' q' => by
  obtain ⟨v, r, rfl, r1, hr⟩ := rs
  cases (show r = [] from hr)
  obtain ⟨xs, hx, rr⟩ := k a _ ha
  exact ⟨a, xs, v, rx, rfl, hx, by rw [← rr.length]; exact Nat.lt_of_lt_of_le hl (by decide), q' _ _ (post_mut (r := .d .non) k ha (rr.append (show RepSs W H g [s] [v] from ⟨v, [], rfl, r1, rfl⟩)) rfl q)⟩
theorem rm_pop {a : Addr} {s : SV} {l : List SV} (ha : g a = some (.lst l)) (hl : l[l.length - 1]? = some s) (q : Q s (gset g a (.lst l.dropLast))) : RM W rPop (.ob a) [] g Q := fun H vx vs k rx rs Q' q' => by
  cases (show vs = [] from rs)
  obtain ⟨xs, hx, rr⟩ := k a _ ha
  obtain ⟨v, h1, h2⟩ := rr.get hl
  exact ⟨a, xs, v, rx, rfl, hx, by rw [← rr.length]; exact h1, q' _ _ (post_mut k ha rr.dropLast h2 q)⟩
theorem rm_popAt {a : Addr} {s : SV} {l : List SV} {i : Int} {j : Nat} (ha : g a = some (.lst l)) (h1 : -(2 ^ 63) ≤ i) (h2 : i < 2 ^ 63) (hj : seqIndex? i l.length = some j) (hl : l[j]? = some s) (q : Q s (gset g a (.lst (l.eraseIdx j)))) : RM W rPopAt (.ob a) [.d (.int i)] g Q := fun H vx vs k rx rs Q' q' => by
  obtain ⟨v, r, rfl, r1, hr⟩ := rs
  cases (show r = [] from hr)
  cases (show v = .int i from r1)
  obtain ⟨xs, hx, rr⟩ := k a _ ha
  obtain ⟨v, h3, h4⟩ := rr.get hl
  exact ⟨a, xs, i, j, v, rx, rfl, hx, h1, h2, by rw [← rr.length]; exact hj, h3, q' _ _ (post_mut k ha (rr.eraseIdx j) h4 q)⟩
theorem rc_len {s : SV} {l : List SV} (hs : SeqOf g s l) (q : Q (.d (.int l.length)) g) : RC W (fun xs H Q => ∃ x n, xs = [x] ∧ LenV W.K x H n ∧ Q (.int n) H) [s] g Q := fun H vs k rs Q' q' => by
  obtain ⟨v, r, rfl, r1, hr⟩ := rs
  cases (show r = [] from hr)
  obtain ⟨a, xs, rfl, h1, h2⟩ := hs.v k r1
  refine ⟨_, l.length, rfl, ?_, q' _ _ (post_same (r := .d (.int _)) k rfl q)⟩
  rcases h1 with h1 | h1
  · exact .inl ⟨xs, h1, h2.length⟩
  · exact .inr ⟨xs, h1, h2.length⟩
theorem rc_lenS {s : Str} (hs : s.length ≤ sizeLine) (q : Q (.d (.int s.length)) g) : RC W (fun xs H Q => ∃ x n, xs = [x] ∧ LenV W.K x H n ∧ Q (.int n) H) [.d (.str s)] g Q := fun H vs k rs Q' q' => by
  obtain ⟨v, r, rfl, r1, hr⟩ := rs
  cases (show r = [] from hr)
  cases (show v = .str s from r1)
  exact ⟨_, s.length, rfl, ⟨hs, rfl⟩, q' _ _ (post_same (r := .d (.int _)) k rfl q)⟩
end
end DL

namespace DL
open PySem PySem.Spec PyProof.Rows L2

/-! ### list comprehensions: one for, over a name -/
def wipeD (ρ : Rho) : List Nat → Rho
  | [] => ρ
  | v :: vs => (wipeD ρ vs).set v none
theorem Sim.wipe {W : Wd} {ρ : Rho} {g : G} {σ : L2.St} {H : Hp} (S : Sim W ρ g σ H) : ∀ vs : List Nat, Sim W (wipeD ρ vs) g (L2.wipe σ vs) H
  | [] => S
  | v :: vs => (Sim.wipe S vs).unset v (by show (List.set _ _ _).length = _; rw [List.length_set]) fun j hj => List.getElem?_set_ne (fun z => hj z.symm)
theorem wipe_set {σ : L2.St} {j : Nat} {y : Option V} : ∀ {vs : List Nat}, j ∈ vs → L2.wipe ((L2.wipe σ vs).set j y) vs = L2.wipe σ vs := by
  intro vs hj
  have len : ∀ (vs : List Nat) (σ : L2.St), (L2.wipe σ vs).length = σ.length := fun vs σ => wipe_length σ vs
  have get : ∀ (vs : List Nat) (σ : L2.St) (i : Nat), (L2.wipe σ vs)[i]? = if i ∈ vs then (if i < σ.length then some none else none) else σ[i]? := by
    intro vs
    induction vs with
    | nil => intro σ i; simp [L2.wipe]
    | cons v vs ih =>
      intro σ i
      show ((L2.wipe σ vs).set v none)[i]? = _
      by_cases h : v = i
      · subst h
        by_cases hl : v < σ.length
        · rw [List.getElem?_set_self (by rw [len]; exact hl), if_pos List.mem_cons_self, if_pos hl]
        · rw [List.getElem?_eq_none (by rw [List.length_set, len]; omega), if_pos List.mem_cons_self, if_neg hl]
      · rw [List.getElem?_set_ne h, ih]
        by_cases hm : i ∈ vs
        · rw [if_pos hm, if_pos (List.mem_cons_of_mem _ hm)]
        · rw [if_neg hm, if_neg (by simp only [List.mem_cons, not_or]; exact ⟨fun z => h z.symm, hm⟩)]
  apply List.ext_getElem?
  intro i
  rw [get, get]
  by_cases hi : i ∈ vs
  · rw [if_pos hi, if_pos hi, List.length_set, len]
  · rw [if_neg hi, if_neg hi, List.getElem?_set_ne (fun z => hi (by rw [← z]; exact hj)), get, if_neg hi]
section
variable {X : Cx} {W : Wd} {ρ : Rho} {g : G} {Q : QE} {pos p : Pos} {elt tg iter : Expr} {ifs : List Expr} {scope : Scope} {own : List (Str × Nat)}
/-- in each block of this comprehension -/
abbrev Blk (X : Cx) (scope : Scope) (F : Cx → Prop) : Prop := ∀ (s : Shared) (H : Hp) (C : Addr) (cl : List (Str × Addr)) (fp : List Addr), F (X.blk s H scope (compEnvC scope cl C X.env) fp)
/-- the tests' strongest reading, over all blocks -/
def tTs (X : Cx) (scope : Scope) (ifs : List Expr) : TT := match ifs with
  | [] => tYes
  | [c] => fun σ H Q => Blk X scope fun Y => tST Y c σ H Q
  | _ => fun _ _ _ => False
theorem pts_s : ∀ {ifs : List Expr}, Blk X scope fun Y => PTs Y ifs (tTs X scope ifs)
  | [] => fun s H C cl fp => pts_nil
  | [c] => fun s H C cl fp => pts_one ⟨fun pins s' σ' H' Q I h => h s H C cl fp pins s' I⟩
  | _ :: _ :: _ => fun s H C cl fp => ⟨fun pins s' σ' H' Q I h => h.elim⟩
/-- the tests -/
def WTs (X : Cx) (W : Wd) (scope : Scope) (ifs : List Expr) (ρ : Rho) (g : G) (Q : Bool → G → Prop) : Prop := match ifs with
  | [] => Q true g
  | [c] => Blk X scope fun Y => WT Y W c ρ g Q
  | _ => False
def tEl (X : Cx) (scope : Scope) (e : Expr) : TE := fun σ H Q => Blk X scope fun Y => tS Y e σ H Q
theorem pe_el {e : Expr} : Blk X scope fun Y => PE Y e (tEl X scope e) := fun s H C cl fp => ⟨fun pins s' σ' H' Q I h => h s H C cl fp pins s' I⟩
theorem WTs.run {Q : Bool → G → Prop} {σ : L2.St} {H : Hp} (h : WTs X W scope ifs ρ g Q) (S : Sim W ρ g σ H) {Q' : Bool → Hp → Prop} (q' : ∀ b H', PostT W g H Q b H' → Q' b H') : tTs X scope ifs σ H Q' := by
  match ifs, h with
  | [], h => exact q' _ _ ⟨g, S.ok, Ext.refl g H, h⟩
  | [c], h => exact fun s H' C cl fp => h s H' C cl fp σ H S Q' q'
  | _ :: _ :: _, h => exact False.elim h
theorem gdel_gset {L : Addr} {o : MO} (h : g L = none) : gdel (gset g L o) L = g := by
  funext b
  by_cases z : b = L
  · rw [z, gdel_same, h]
  · rw [gdel_ne z, gset_ne z]
/-- one turn's wish -/
def LcTurn (X : Cx) (W : Wd) (scope : Scope) (ifs : List Expr) (elt : Expr) (ρ : Rho) (vs : List Nat) (j : Nat) (x : D) (ys : List D) (g' : G) (N : List D → G → Prop) : Prop :=
  ∀ L : Addr, g' L = none → WTs X W scope ifs ((wipeD ρ vs).set j (some (.d x))) (gset g' L (.lst (ys.map SV.d))) fun b g2 =>
    if b = true then Blk X scope fun Y => WE Y W elt ((wipeD ρ vs).set j (some (.d x))) g2 fun r g3 => ∃ y g4, r = .d y ∧ g4 L = none ∧ g3 = gset g4 L (.lst (ys.map SV.d)) ∧ N (ys ++ [y]) g4
    else ∃ g4, g4 L = none ∧ g2 = gset g4 L (.lst (ys.map SV.d)) ∧ N ys g4
def LcP (W : Wd) (g1 : G) (H1 : Hp) (L : Addr) (I : Nat → List D → G → Prop) (i : Nat) (H' : Hp) : Prop := ∃ ys g', ys.length ≤ i ∧ g' L = none ∧ GOk W H' (gset g' L (.lst (ys.map SV.d))) ∧ Ext g1 H1 (gset g' L (.lst (ys.map SV.d))) H' ∧ I i ys g'
theorem lcp_zero {g1 : G} {H1 : Hp} {L : Addr} {I : Nat → List D → G → Prop} (k1 : GOk W H1 g1) (hD : H1 L = none) (i0 : I 0 [] g1) : LcP W g1 H1 L I 0 (upd H1 L (.lst [])) :=
  ⟨[], g1, Nat.le_refl _, k1.free hD, k1.newOb (m := .lst []) hD ⟨[], upd_same, rfl⟩, Ext.newOb hD, i0⟩
theorem lc_turn {g1 : G} {H1 H' : Hp} {L : Addr} {I : Nat → List D → G → Prop} {i j n : Nat} {vs : List Nat} {σ : L2.St} {x : D} {vx : V} (S1 : Sim W ρ g1 σ H1) (hj : j ∈ vs) (hi : i < n) (hn : n ≤ 1000000) (p : LcP W g1 H1 L I i H')
    (rx : ∀ g' H', Ext g1 H1 g' H' → Rep W H' g' x vx) (turn : ∀ ys g', I i ys g' → LcTurn X W scope ifs elt ρ vs j x ys g' (I (i + 1))) :
    gName j vx (L2.wipe σ vs) H' fun σ2 H2 => L2.wipe σ2 vs = L2.wipe σ vs ∧ tTs X scope ifs σ2 H2 fun b H3 =>
      if b = true then tEl X scope elt σ2 H3 fun y H4 => ∃ acc, H4 L = some (.lst acc) ∧ acc.length < sizeLine ∧ LcP W g1 H1 L I (i + 1) (upd H4 L (.lst (acc ++ [y]))) else LcP W g1 H1 L I (i + 1) H3 := by
  obtain ⟨ys, g', hy, hD, kk, ex, ii⟩ := p
  have hs : sizeLine = 16777216 := sizeLine_eq
  refine ⟨wipe_set hj, ?_⟩
  have S2 : Sim W ((wipeD ρ vs).set j (some (.d x))) (gset g' L (.lst (ys.map SV.d))) ((L2.wipe σ vs).set j (some vx)) H' := ((S1.ext kk ex).wipe vs).set (sv := .d x) j (rx _ _ ex)
  refine (turn ys g' ii L hD).run S2 fun b H3 ⟨g2, k2, e2, q⟩ => ?_
  cases b with
  | true =>
    rw [if_pos rfl] at q ⊢
    intro s Hs C cl fp
    refine q s Hs C cl fp _ H3 (S2.ext k2 e2) _ fun v H4 ⟨r, g3, k3, e3, r3, y, g4, hr, hD4, hg3, ii'⟩ => ?_
    subst hr hg3
    obtain ⟨acc, ha, ra⟩ := k3 L _ gset_same
    have hl := ra.length
    rw [List.length_map] at hl
    have e4 : Ext (gset g4 L (.lst (ys.map SV.d))) H4 (gset (gset g4 L (.lst (ys.map SV.d))) L (.lst ((ys ++ [y]).map SV.d))) (upd H4 L (.lst (acc ++ [v]))) := Ext.mut gset_same
    have k4 : GOk W (upd H4 L (.lst (acc ++ [v]))) (gset (gset g4 L (.lst (ys.map SV.d))) L (.lst ((ys ++ [y]).map SV.d))) := k3.mut (m' := .lst ((ys ++ [y]).map SV.d)) gset_same ⟨_, upd_same, by
      have z := (ra.append (show RepSs W H4 (gset g4 L (.lst (ys.map SV.d))) ([y].map SV.d) [v] from ⟨v, [], rfl, r3, rfl⟩)).ext e4
      have em : ys.map SV.d ++ [y].map SV.d = (ys ++ [y]).map SV.d := (List.map_append).symm
      rw [em] at z
      exact z⟩
    refine ⟨acc, ha, by rw [← hl]; omega, ys ++ [y], g4, by rw [List.length_append]; show ys.length + 1 ≤ i + 1; omega, hD4, ?_, ?_, ii'⟩
    · rw [gset_gset] at k4; exact k4
    · rw [gset_gset] at e4; exact ((ex.trans e2).trans e3).trans e4
  | false =>
    rw [if_neg (by decide)] at q ⊢
    obtain ⟨g4, hD4, hg2, ii'⟩ := q
    subst hg2
    exact ⟨ys, g4, by omega, hD4, k2, ex.trans e2, ii'⟩
theorem lc_done {g1 : G} {H1 H' : Hp} {L : Addr} {I : Nat → List D → G → Prop} {n : Nat} (p : LcP W g1 H1 L I n H') (done : ∀ ys g', ys.length ≤ n → I n ys g' → Q (.d (.lst ys)) g') : PostE W g1 H1 Q (.ref L) H' := by
  obtain ⟨ys, g', hy, hD, kk, ex, ii⟩ := p
  obtain ⟨acc, ha, ra⟩ := kk L _ gset_same
  have e2 : Ext (gset g' L (.lst (ys.map SV.d))) H' (gdel (gset g' L (.lst (ys.map SV.d))) L) H' := Ext.freeze
  have k2 : GOk W H' (gdel (gset g' L (.lst (ys.map SV.d))) L) := kk.freeze
  rw [gdel_gset hD] at e2 k2
  exact ⟨.d (.lst ys), g', k2, ex.trans e2, ⟨L, acc, rfl, .inl ⟨.inl ha, hD⟩, reps_of (ra.ext e2)⟩, done ys g' hy ii⟩
variable {j : Nat}
theorem lcL_run (I : List D → Nat → List D → G → Prop) (hK : X.K = W.K) (hj : j ∈ own.map (·.2))
    (h : WE X W iter ρ g fun sv g1 => ∃ l : List D, sv = .d (.lst l) ∧ l.length ≤ 1000000 ∧ I l 0 [] g1 ∧ (∀ i x ys g', l[i]? = some x → I l i ys g' → LcTurn X W scope ifs elt ρ (own.map (·.2)) j x ys g' (I l (i + 1))) ∧ ∀ ys g', ys.length ≤ l.length → I l l.length ys g' → Q (.d (.lst ys)) g')
    {σ : L2.St} {H : Hp} (S : Sim W ρ g σ H) {Q' : VK} (q' : ∀ v H', PostE W g H Q v H' → Q' v H') : tLc (iList X.K (tS X iter)) (gName j) (tTs X scope ifs) (tEl X scope elt) (own.map (·.2)) σ H Q' := by
  refine h σ H S _ fun v H1 ⟨sv, g1, k1, e1, r1, l, hl, hn, i0, turn, done⟩ => ?_
  subst hl
  obtain ⟨a, xs, rfl, h1, h2⟩ := r1
  rw [hK]
  refine ⟨a, rfl, ⟨xs, h1.sq⟩, fun L hL => lc_list (xs := xs) (LcP W g1 H1 L (I l)) (lcp_zero k1 hL i0) (fun i H' _ ⟨ys, g', hy, hL', kk, ex, ii⟩ => (h1.ext ex).sq) (fun i x H' hx p => ?_) fun H' p => ?_⟩
  · obtain ⟨d, hd, rd⟩ := h2.got hx
    have hi : i < l.length := (List.getElem?_eq_some_iff.mp hd).1
    exact lc_turn (S.ext k1 e1) hj hi hn p (fun g' H' ex => Rep.ext ex d x rd) fun ys g' ii => turn i d ys g' hd ii
  · rw [← h2.length] at p
    exact q' _ _ ((lc_done p done).back e1)
theorem we_lcL (I : List D → Nat → List D → G → Prop) (hc : X.calm = true) (hN : X.N.Nodup) (hK : X.K = W.K) (ok : BlkOk X.N X.env.scope scope own) (hg : Blk X scope fun Y => PG Y tg (gName j)) (hj : j ∈ own.map (·.2))
    (h : WE X W iter ρ g fun sv g1 => ∃ l : List D, sv = .d (.lst l) ∧ l.length ≤ 1000000 ∧ I l 0 [] g1 ∧ (∀ i x ys g', l[i]? = some x → I l i ys g' → LcTurn X W scope ifs elt ρ (own.map (·.2)) j x ys g' (I l (i + 1))) ∧ ∀ ys g', ys.length ≤ l.length → I l l.length ys g' → Q (.d (.lst ys)) g')
    (hs : ∀ x, foldedSetIterable iter X.env x = pure x := by intro _; rfl) : WE X W (.ListComp elt [⟨tg, iter, ifs, 0⟩] scope pos) ρ g Q := fun σ H S Q' q' =>
  ts_of (pe_lc hc hN (pi_list pe_s) ok hg pts_s pe_el hs) (lcL_run I hK hj h S q')
theorem w1_setLcL {P : P4} (i : Nat) {y : Str} {py spos : Pos} (I : List D → Nat → List D → G → Prop) (hc : X.calm = true) (hN : X.N.Nodup) (hK : X.K = W.K) (ok : BlkOk X.N X.env.scope scope own) (hg : Blk X scope fun Y => PG Y tg (gName j)) (hj : j ∈ own.map (·.2))
    (hsw : swapsWith (.ListComp elt [⟨tg, iter, ifs, 0⟩] scope pos) (some (.Name y py)) spos.line X.env = pure true)
    (h : WE X W iter ρ g fun sv g1 => ∃ l : List D, sv = .d (.lst l) ∧ l.length ≤ 1000000 ∧ I l 0 [] g1 ∧ (∀ i x ys g', l[i]? = some x → I l i ys g' → LcTurn X W scope ifs elt ρ (own.map (·.2)) j x ys g' (I l (i + 1))) ∧ ∀ ys g', ys.length ≤ l.length → I l l.length ys g' → P.nx (ρ.set i (some (.d (.lst ys)))) g')
    (hy : X.N[i]? = some y := by rfl) (hyl : X.env.scope.names.lookup y = some .local := by rfl) (hs : ∀ x, foldedSetIterable iter X.env x = pure x := by intro _; rfl) : W1 X W (.Assign [.Name y py] (.ListComp elt [⟨tg, iter, ifs, 0⟩] scope pos) spos) ρ g P := fun σ H S D k =>
  t1_of (ps_setLc hc hN hy hyl hsw (pi_list pe_s) ok hg pts_s pe_el hs) (lcL_run (Q := fun r g' => P.nx (ρ.set i (some r)) g') I hK hj h S fun v H' ⟨r, g', k', e', rr, q⟩ => k.nx _ _ ⟨_, g', (S.ext k' e').set i rr, e', q⟩)
theorem lcT_run (I : List D → Nat → List D → G → Prop) (hK : X.K = W.K) (hj : j ∈ own.map (·.2))
    (h : WE X W iter ρ g fun sv g1 => ∃ l : List D, sv = .d (.tup l) ∧ l.length ≤ 1000000 ∧ I l 0 [] g1 ∧ (∀ i x ys g', l[i]? = some x → I l i ys g' → LcTurn X W scope ifs elt ρ (own.map (·.2)) j x ys g' (I l (i + 1))) ∧ ∀ ys g', ys.length ≤ l.length → I l l.length ys g' → Q (.d (.lst ys)) g')
    {σ : L2.St} {H : Hp} (S : Sim W ρ g σ H) {Q' : VK} (q' : ∀ v H', PostE W g H Q v H' → Q' v H') : tLc (iTup X.K (tS X iter)) (gName j) (tTs X scope ifs) (tEl X scope elt) (own.map (·.2)) σ H Q' := by
  refine h σ H S _ fun v H1 ⟨sv, g1, k1, e1, r1, l, hl, hn, i0, turn, done⟩ => ?_
  subst hl
  obtain ⟨a, xs, rfl, h1, h2⟩ := r1
  rw [hK]
  refine ⟨a, rfl, ⟨xs, h1.sq⟩, fun L hL => lc_tup (xs := xs) (LcP W g1 H1 L (I l)) (lcp_zero k1 hL i0) (fun i H' _ ⟨ys, g', hy, hL', kk, ex, ii⟩ => (h1.ext ex).sq) (fun i x H' hx p => ?_) fun H' p => ?_⟩
  · obtain ⟨d, hd, rd⟩ := h2.got hx
    have hi : i < l.length := (List.getElem?_eq_some_iff.mp hd).1
    exact lc_turn (S.ext k1 e1) hj hi hn p (fun g' H' ex => Rep.ext ex d x rd) fun ys g' ii => turn i d ys g' hd ii
  · rw [← h2.length] at p
    exact q' _ _ ((lc_done p done).back e1)
theorem we_lcT (I : List D → Nat → List D → G → Prop) (hc : X.calm = true) (hN : X.N.Nodup) (hK : X.K = W.K) (ok : BlkOk X.N X.env.scope scope own) (hg : Blk X scope fun Y => PG Y tg (gName j)) (hj : j ∈ own.map (·.2))
    (h : WE X W iter ρ g fun sv g1 => ∃ l : List D, sv = .d (.tup l) ∧ l.length ≤ 1000000 ∧ I l 0 [] g1 ∧ (∀ i x ys g', l[i]? = some x → I l i ys g' → LcTurn X W scope ifs elt ρ (own.map (·.2)) j x ys g' (I l (i + 1))) ∧ ∀ ys g', ys.length ≤ l.length → I l l.length ys g' → Q (.d (.lst ys)) g')
    (hs : ∀ x, foldedSetIterable iter X.env x = pure x := by intro _; rfl) : WE X W (.ListComp elt [⟨tg, iter, ifs, 0⟩] scope pos) ρ g Q := fun σ H S Q' q' =>
  ts_of (pe_lc hc hN (pi_tup pe_s) ok hg pts_s pe_el hs) (lcT_run I hK hj h S q')
theorem w1_setLcT {P : P4} (i : Nat) {y : Str} {py spos : Pos} (I : List D → Nat → List D → G → Prop) (hc : X.calm = true) (hN : X.N.Nodup) (hK : X.K = W.K) (ok : BlkOk X.N X.env.scope scope own) (hg : Blk X scope fun Y => PG Y tg (gName j)) (hj : j ∈ own.map (·.2))
    (hsw : swapsWith (.ListComp elt [⟨tg, iter, ifs, 0⟩] scope pos) (some (.Name y py)) spos.line X.env = pure true)
    (h : WE X W iter ρ g fun sv g1 => ∃ l : List D, sv = .d (.tup l) ∧ l.length ≤ 1000000 ∧ I l 0 [] g1 ∧ (∀ i x ys g', l[i]? = some x → I l i ys g' → LcTurn X W scope ifs elt ρ (own.map (·.2)) j x ys g' (I l (i + 1))) ∧ ∀ ys g', ys.length ≤ l.length → I l l.length ys g' → P.nx (ρ.set i (some (.d (.lst ys)))) g')
    (hy : X.N[i]? = some y := by rfl) (hyl : X.env.scope.names.lookup y = some .local := by rfl) (hs : ∀ x, foldedSetIterable iter X.env x = pure x := by intro _; rfl) : W1 X W (.Assign [.Name y py] (.ListComp elt [⟨tg, iter, ifs, 0⟩] scope pos) spos) ρ g P := fun σ H S D k =>
  t1_of (ps_setLc hc hN hy hyl hsw (pi_tup pe_s) ok hg pts_s pe_el hs) (lcT_run (Q := fun r g' => P.nx (ρ.set i (some r)) g') I hK hj h S fun v H' ⟨r, g', k', e', rr, q⟩ => k.nx _ _ ⟨_, g', (S.ext k' e').set i rr, e', q⟩)
theorem lcR_run {ar : Expr} (I : Int → Nat → List D → G → Prop) (hj : j ∈ own.map (·.2))
    (h : WE X W ar ρ g fun sv g1 => ∃ n : Int, sv = .d (.int n) ∧ -1000000 ≤ n ∧ n ≤ 1000000 ∧ I n 0 [] g1 ∧ (∀ (i : Nat) ys g', (i : Int) < n → I n i ys g' → LcTurn X W scope ifs elt ρ (own.map (·.2)) j (.int i) ys g' (I n (i + 1))) ∧ ∀ ys g', ys.length ≤ n.toNat → I n n.toNat ys g' → Q (.d (.lst ys)) g')
    {σ : L2.St} {H : Hp} (S : Sim W ρ g σ H) {Q' : VK} (q' : ∀ v H', PostE W g H Q v H' → Q' v H') : tLc (iRng1 (tCons (tS X ar) tNil)) (gName j) (tTs X scope ifs) (tEl X scope elt) (own.map (·.2)) σ H Q' := by
  refine h σ H S _ fun v H1 ⟨sv, g1, k1, e1, r1, n, hl, hn1, hn2, i0, turn, done⟩ => ?_
  subst hl
  cases (show v = .int n from r1)
  refine ⟨n, rfl, by omega, by omega, fun L hL => lc_range (lo := 0) (n := n.toNat) (LcP W g1 H1 L (I n)) (lcp_zero k1 hL i0) (fun i H' hi p => ?_) fun H' p => ?_⟩
  · exact lc_turn (n := n.toNat) (x := .int i) (S.ext k1 e1) hj hi (by omega) p (fun g' H' ex => by show V.int (0 + (i : Int)) = V.int i; rw [Int.zero_add]) fun ys g' ii => turn i ys g' (by omega) ii
  · exact q' _ _ ((lc_done p done).back e1)
theorem we_lcR {ar : Expr} {rp rpos : Pos} (I : Int → Nat → List D → G → Prop) (hc : X.calm = true) (hN : X.N.Nodup) (ok : BlkOk X.N X.env.scope scope own) (hg : Blk X scope fun Y => PG Y tg (gName j)) (hj : j ∈ own.map (·.2)) (hgl : Gl X "range") (hm : X.mg "range" = none)
    (h : WE X W ar ρ g fun sv g1 => ∃ n : Int, sv = .d (.int n) ∧ -1000000 ≤ n ∧ n ≤ 1000000 ∧ I n 0 [] g1 ∧ (∀ (i : Nat) ys g', (i : Int) < n → I n i ys g' → LcTurn X W scope ifs elt ρ (own.map (·.2)) j (.int i) ys g' (I n (i + 1))) ∧ ∀ ys g', ys.length ≤ n.toNat → I n n.toNat ys g' → Q (.d (.lst ys)) g')
    (hst : starEach [ar] X.env = [(false, eval ar X.env)] := by rfl) (hst2 : starEach [ar] X.env = (false, eval ar X.env) :: starEach [] X.env := by rfl) (hs : ∀ x, foldedSetIterable (.Call (.Name "range" rp) [ar] [] rpos) X.env x = pure x := by intro _; rfl) : WE X W (.ListComp elt [⟨tg, .Call (.Name "range" rp) [ar] [] rpos, ifs, 0⟩] scope pos) ρ g Q := fun σ H S Q' q' =>
  ts_of (pe_lc hc hN (pi_range1 hgl hm (pa_cons pe_s pa_nil hst2) hst) ok hg pts_s pe_el hs) (lcR_run I hj h S q')
theorem w1_setLcR {P : P4} (i : Nat) {y : Str} {py spos : Pos} {ar : Expr} {rp rpos : Pos} (I : Int → Nat → List D → G → Prop) (hc : X.calm = true) (hN : X.N.Nodup) (ok : BlkOk X.N X.env.scope scope own) (hg : Blk X scope fun Y => PG Y tg (gName j)) (hj : j ∈ own.map (·.2)) (hgl : Gl X "range") (hm : X.mg "range" = none)
    (hsw : swapsWith (.ListComp elt [⟨tg, .Call (.Name "range" rp) [ar] [] rpos, ifs, 0⟩] scope pos) (some (.Name y py)) spos.line X.env = pure true)
    (h : WE X W ar ρ g fun sv g1 => ∃ n : Int, sv = .d (.int n) ∧ -1000000 ≤ n ∧ n ≤ 1000000 ∧ I n 0 [] g1 ∧ (∀ (i : Nat) ys g', (i : Int) < n → I n i ys g' → LcTurn X W scope ifs elt ρ (own.map (·.2)) j (.int i) ys g' (I n (i + 1))) ∧ ∀ ys g', ys.length ≤ n.toNat → I n n.toNat ys g' → P.nx (ρ.set i (some (.d (.lst ys)))) g')
    (hy : X.N[i]? = some y := by rfl) (hyl : X.env.scope.names.lookup y = some .local := by rfl)
    (hst : starEach [ar] X.env = [(false, eval ar X.env)] := by rfl) (hst2 : starEach [ar] X.env = (false, eval ar X.env) :: starEach [] X.env := by rfl) (hs : ∀ x, foldedSetIterable (.Call (.Name "range" rp) [ar] [] rpos) X.env x = pure x := by intro _; rfl) : W1 X W (.Assign [.Name y py] (.ListComp elt [⟨tg, .Call (.Name "range" rp) [ar] [] rpos, ifs, 0⟩] scope pos) spos) ρ g P := fun σ H S D k =>
  t1_of (ps_setLc hc hN hy hyl hsw (pi_range1 hgl hm (pa_cons pe_s pa_nil hst2) hst) ok hg pts_s pe_el hs) (lcR_run (Q := fun r g' => P.nx (ρ.set i (some r)) g') I hj h S fun v H' ⟨r, g', k', e', rr, q⟩ => k.nx _ _ ⟨_, g', (S.ext k' e').set i rr, e', q⟩)
/-- a turn that is no test and changes nothing -/
theorem lct_pure {x : D} {ys : List D} {g' : G} {vs : List Nat} {N : List D → G → Prop} (h : ∀ L, g' L = none → Blk X scope fun Y => WE Y W elt ((wipeD ρ vs).set j (some (.d x))) (gset g' L (.lst (ys.map SV.d))) fun r g3 => ∃ y, r = .d y ∧ g3 = gset g' L (.lst (ys.map SV.d)) ∧ N (ys ++ [y]) g') : LcTurn X W scope [] elt ρ vs j x ys g' N := fun L hL => by
  dsimp only [WTs]
  rw [if_pos rfl]
  intro s H C cl fp
  exact (h L hL s H C cl fp).imp fun r g3 ⟨y, e1, e2, e3⟩ => ⟨y, g', e1, hL, e2, e3⟩
end
end DL

namespace DL
open PySem PySem.Spec PyProof.Rows L2

abbrev FnP (K : PySem.W.Frag) (x qual : Str) (st : Stmt) (dvs : List V) (f : Addr) (fd : FuncData) : Prop := FunD K x qual (defArgs st) (defBody st) (defScope st) dvs [] f fd
section
variable {P : Program} {w : World} {W : Wd} {mg : Str → Option Value} {base : Heap}
/-- the context of a def's body -/
abbrev CxD (P : Program) (w : World) (W : Wd) (mg : Str → Option Value) (base : Heap) (N : List Str) (qual : Str) (sc : Scope) (f : Addr) (cdv : Value) (A : Around) (outer : List Env) (s : Shared) (H : Hp) (E : XK) : Cx := (cxOf CX0 P w W.K mg base N qual sc f cdv A outer s H E).nox
/-- THE RULE for a def -/
theorem fnDD {x qual : Str} {st : Stmt} {dvs : List V} {f : Addr} {fd : FuncData} {N ps : List Str} {k : Nat} {S : SpD} (F : FnP W.K x qual st dvs f fd) (sc : FnScope N ps (defScope st))
    (h : ∀ (cdv : Value) (A : Around) (outer : List Env) (s : Shared) (H : Hp) (E : XK) (svs : List SV) (g : G) (Q : QE), svs.length = ps.length → Room k (A.deeper (envOfC qual (defScope st) s.heap.objs.size f cdv)) → S svs g Q →
      WS (CxD P w W mg base N qual (defScope st) f cdv A outer s H E) W (defBody st) (startD N svs) g (retP Q)) : FnOk P w W.K mg base CX0 (k + 1) f fd ps (liftSp W ps.length S) := by
  refine FunD.ok F sc (fun vs H Q E q => q.1) fun cdv A outer s H vs Q E hr q => ?_
  obtain ⟨hl, svs, g, Q0, r, kk, q, qq⟩ := q
  refine ⟨_, PSs.nox pss_s, ?_⟩
  exact h cdv A outer s H E svs g Q0 (by rw [r.length]; exact hl) hr q (L2.start N vs) H (sim_start kk r) _ ⟨fun σ' H' ⟨ρ', g', s1, e1, q1⟩ => qq _ _ ⟨.d .non, g', s1.ok, e1, rfl, q1⟩, qq, fun σ' H' ⟨_, _, _, _, q1⟩ => q1, fun σ' H' ⟨_, _, _, _, q1⟩ => q1⟩
end

/-! ### more operations -/
section
variable {X : Cx} {W : Wd} {ρ : Rho} {g : G} {Q : QE} {pos p : Pos} {e : Expr}
/-- xs[::-1] -/
theorem we_revO {k : Nat} {p1 p2 p3 : Pos} (hK : X.K = W.K) (h : WE X W e ρ g fun sv g1 => ∃ l, LstOf g1 sv l ∧ ∀ a, g1 a = none → Q (.ob a) (gset g1 a (.lst l.reverse))) : WE X W (.Subscript e (.Slice none none (some (.UnaryOp .USub (.Constant (.int 1) k p1) p2)) p3) pos) ρ g Q := fun σ H S Q' q' => by
  refine ts_of (pe_revL pe_s) ?_
  refine h σ H S _ fun v H1 ⟨sv, g1, k1, e1, r1, l, hl, q⟩ => ?_
  obtain ⟨a, xs, rfl, h1, h2⟩ := hl.v k1 r1
  rw [hK]
  have rev : ∀ (l : List SV) (xs : List V), RepSs W H1 g1 l xs → RepSs W H1 g1 l.reverse xs.reverse := by
    intro l
    induction l with
    | nil => intro xs h; cases (show xs = [] from h); rfl
    | cons s r ih =>
      intro xs h
      obtain ⟨x, r', rfl, a1, a2⟩ := h
      rw [List.reverse_cons, List.reverse_cons]
      exact (ih _ a2).append ⟨x, [], rfl, a1, rfl⟩
  exact ⟨a, xs, rfl, h1, fun p hp => q' _ _ ((post_ob k1 hp (rev l xs h2) (q p (k1.free hp))).back e1)⟩
def PyS (g : G) (sv : SV) (p : PyData) : Prop := (∃ x, sv = .d x ∧ toPy x = some p) ∨ ∃ a l ps, sv = .ob a ∧ g a = some (.lst (l.map SV.d)) ∧ toPys l = some ps ∧ p = .list ps
theorem PyS.dp {H : Hp} {sv : SV} {v : V} {p : PyData} (h : PyS g sv p) (k : GOk W H g) (r : RepS W H g sv v) : Dp W.K H v p := by
  rcases h with ⟨x, rfl, h⟩ | ⟨a, l, ps, rfl, ha, hl, rfl⟩
  · exact dp_of x v p r h
  · obtain ⟨xs, hx, rx⟩ := k a _ ha
    cases (show v = _ from r)
    exact .lst (.inl (.inl hx)) (dps_of l xs ps (reps_of rx) hl)
theorem rw_eqP {x y : SV} {p q : PyData} (hx : PyS g x p) (hy : PyS g y q) (sp : SeqAt.shaped p = true) (sq : SeqAt.shaped q = true) (z : Q (.d (.bl (PyData.eqv p q))) g) : RW W (rEqD W.K) x y g Q := fun H vx vy k rx ry Q' q' =>
  ⟨p, q, hx.dp k rx, hy.dp k ry, sp, sq, q' _ _ (post_same (r := .d (.bl _)) k rfl z)⟩
theorem rw_neP {x y : SV} {p q : PyData} (hx : PyS g x p) (hy : PyS g y q) (sp : SeqAt.shaped p = true) (sq : SeqAt.shaped q = true) (z : Q (.d (.bl (!PyData.eqv p q))) g) : RW W (rNeD W.K) x y g Q := fun H vx vy k rx ry Q' q' =>
  ⟨p, q, hx.dp k rx, hy.dp k ry, sp, sq, q' _ _ (post_same (r := .d (.bl _)) k rfl z)⟩
theorem rc_abs {i : Int} (q : Q (.d (.int (if i < 0 then -i else i))) g) : RC W (fun xs H Q => ∃ i, xs = [.int i] ∧ Q (.int (if i < 0 then -i else i)) H) [.d (.int i)] g Q := fun H vs k rs Q' q' => by
  obtain ⟨v, r, rfl, r1, hr⟩ := rs
  cases (show r = [] from hr)
  cases (show v = .int i from r1)
  exact ⟨i, rfl, q' _ _ (post_same (r := .d (.int _)) k rfl q)⟩
theorem rc_int {i : Int} (q : Q (.d (.int i)) g) : RC W (fun xs H Q => (∃ i, xs = [.int i] ∧ Q (.int i) H) ∨ ∃ k, xs = [.bl k] ∧ Q (.int (if k then 1 else 0)) H) [.d (.int i)] g Q := fun H vs k rs Q' q' => by
  obtain ⟨v, r, rfl, r1, hr⟩ := rs
  cases (show r = [] from hr)
  cases (show v = .int i from r1)
  exact .inl ⟨i, rfl, q' _ _ (post_same (r := .d (.int _)) k rfl q)⟩
end

theorem ru_neg {W : Wd} {g : G} {Q : QE} {i : Int} (q : Q (.d (.int (-i))) g) : RU W (rU fun i => .int (-i)) (.d (.int i)) g Q := fun H vx k rx Q' q' => ⟨i, rx, q' _ _ (post_same (r := .d (.int (-i))) k rfl q)⟩
theorem atI_neg1 {α : Type} {l : List α} {x : α} (h : l[l.length - 1]? = some x) : atI l (-1) = some x := by
  have hl : 0 < l.length := by
    cases l with
    | nil => simp at h
    | cons _ _ => exact Nat.succ_pos _
  unfold atI ixN
  rw [if_neg (by decide), if_pos (by omega)]
  show l[((-1 : Int) + (l.length : Int)).toNat]? = some x
  have e : ((-1 : Int) + (l.length : Int)).toNat = l.length - 1 := by omega
  rw [e]; exact h
theorem last_map {α β : Type} {f : α → β} {l : List α} {x : α} (h : l[l.length - 1]? = some x) : (l.map f)[(l.map f).length - 1]? = some (f x) := by
  rw [List.length_map, List.getElem?_map, h]; rfl
theorem dec_ii (i j : Int) : decide (V.int i = V.int j) = decide (i = j) := by
  by_cases h : i = j
  · subst h; simp
  · rw [decide_eq_false h, decide_eq_false]; intro e; cases e; exact h rfl

/-! ### the source of draws: a list at a, its cells at q -/
def DealAt (a q : Addr) (g : G) : Prop := a ≠ q ∧ ∃ (cells : List Int) (m : Int), g a = some (.lst [.ob q, .d (.int m)]) ∧ g q = some (.lst ((cells.map D.int).map SV.d)) ∧ cells.length ≤ 63 ∧ (∀ c ∈ cells, 0 ≤ c) ∧ 0 ≤ m ∧ m < 2147483647
/-- all but the source is as it was -/
def Apart (a q : Addr) (g g' : G) : Prop := ∀ b, b ≠ a → b ≠ q → g' b = g b
theorem Apart.refl {a q : Addr} (g : G) : Apart a q g g := fun _ _ _ => rfl
theorem Apart.trans {a q : Addr} {g g1 g2 : G} (h : Apart a q g g1) (k : Apart a q g1 g2) : Apart a q g g2 := fun b h1 h2 => (k b h1 h2).trans (h b h1 h2)
def spDraw : SpD := fun svs g Q => ∃ a q many, svs = [.ob a, .d (.int many)] ∧ 0 < many ∧ many < 1073741824 ∧ DealAt a q g ∧ ∀ r g', 0 ≤ r → r < many → DealAt a q g' → Apart a q g g' → Q (.d (.int r)) g'
def spPick : SpD := fun svs g Q => ∃ a q l, svs = [.ob a, .d (.lst l)] ∧ 0 < l.length ∧ l.length < 1073741824 ∧ DealAt a q g ∧ ∀ x g', x ∈ l → DealAt a q g' → Apart a q g g' → Q (.d x) g'
def spDeal : SpD := fun svs g Q => ∃ (ns : List Int) (base : Int), svs = [.d (.lst (ns.map D.int)), .d (.int base)] ∧ ns.length ≤ 63 ∧ 0 ≤ base ∧ base ≤ 60 ∧ ∀ a q g', DealAt a q g' → Apart a q g g' → g a = none → g q = none → Q (.ob a) g'
theorem toPys_ints : ∀ l : List Int, toPys (l.map D.int) = some (l.map PyData.int)
  | [] => rfl
  | i :: l => by
    show (match toPy (.int i), toPys (l.map D.int) with | some x, some xs => some (x :: xs) | _, _ => none) = _
    rw [toPys_ints l]; rfl
theorem lay_ints : ∀ l : List Int, PyData.canLayAll0 (l.map PyData.int) = true
  | [] => rfl
  | i :: l => by
    show (PyData.canLay0 (.int i) && PyData.canLayAll0 (l.map PyData.int)) = true
    rw [lay_ints l]; rfl
theorem depthAll_ints : ∀ l : List Int, PyData.depthAll (l.map PyData.int) = 0
  | [] => rfl
  | i :: l => by
    show max (PyData.depth (.int i)) (PyData.depthAll (l.map PyData.int)) = 0
    rw [depthAll_ints l]; rfl
theorem depth_ints (l : List Int) : (PyData.list (l.map PyData.int)).depth ≤ 64 := by
  show PyData.depthAll (l.map PyData.int) + 1 ≤ 64
  rw [depthAll_ints l]; decide
theorem shaped_ints (l : List Int) : SeqAt.shaped (.list (l.map PyData.int)) = true := by
  unfold SeqAt.shaped
  have h1 : PyData.canLay0 (.list (l.map PyData.int)) = true := lay_ints l
  rw [h1, Bool.true_and]
  exact decide_eq_true (depth_ints l)
theorem eqv_ints_nil (l : List Int) : PyData.eqv (.list (l.map PyData.int)) (.list []) = l.isEmpty := by
  cases l <;> rfl
/-! ### what a caller must know of a def -/
structure CallOk (P : Program) (w : World) (W : Wd) (mg : Str → Option Value) (base : Heap) (x : Str) (k n : Nat) (S : SpD) : Prop where
  ex : ∃ f fd ps, FnOk P w W.K mg base CX0 k f fd ps (liftSp W n S) ∧ mg x = some (.ref f) ∧ PySem.W.keepIn W.K (.ref f) = true ∧ Binds W.K fd ps []
section
variable {X : Cx} {W : Wd} {ρ : Rho} {g : G} {Q : QE} {pos p : Pos} {e : Expr} {es : List Expr} {x : Str} {k n : Nat} {S : SpD}
theorem we_callC (C : CallOk X.prog X.w W X.mg X.base x k n S) (hr : Room k X.A) (h : WA X W (e :: es) ρ g fun svs g1 => svs.length = n ∧ S svs g1 Q) (hK : X.K = W.K := by rfl) (hg : Gl X x := by rfl) (hdb : (x == ("__debug__" : Str)) = false := by decide)
    (he : starEach (e :: es) X.env = (false, eval e X.env) :: starEach es X.env := by rfl) (hpl : (backTo pos (starEach es X.env)).any (·.1) = false := by rfl) : WE X W (.Call (.Name x p) (e :: es) [] pos) ρ g Q := by
  obtain ⟨f, fd, ps, F, m, kp, b⟩ := C.ex
  rw [← hK] at F kp b
  refine we_call F hr hg m kp b .nil defv_nil ?_ hdb he hpl
  intro σ H S' Q' q'
  exact h σ H S' Q' fun vs H' ⟨rs, g', k1, e1, r1, hl, q⟩ => q' vs H' ⟨rs, g', k1, e1, r1, hl, by rw [List.append_nil]; exact q⟩
theorem CallOk.mono {P : Program} {w : World} {mg : Str → Option Value} {base : Heap} {j : Nat} (C : CallOk P w W mg base x k n S) (h : k ≤ j) : CallOk P w W mg base x j n S := by
  obtain ⟨f, fd, ps, F, m, kp, b⟩ := C.ex
  exact ⟨f, fd, ps, F.mono h, m, kp, b⟩
end
end DL

namespace DL
open PySem PySem.Spec PyProof.Rows L2

/-! ### repr of data: where no repr is under way -/
def rRepr (K : PySem.W.Frag) : List V → Hp → VK → Prop := fun xs H Q => ∃ a p, xs = [.ref a] ∧ Dp K H (.ref a) p ∧ p.showable = true ∧ p.hasDict = false ∧ p.depth ≤ 60 ∧ p.shown.length ≤ sizeLine ∧ Q (.str p.shown) H
theorem cr_repr {X : Cx} (hg : X.A.guards = some []) (hu : X.A.units + 64 < cLine) : CallR X (.builtin "repr") (rRepr X.K) := by
  intro pins s σ H xs us Q I r h
  obtain ⟨a, p, rfl, hp, h1, h2, h3, h4, q⟩ := h
  cases r with
  | cons r1 rt =>
    cases rt
    cases (show _ = Value.ref a from r1)
    obtain ⟨as, rd⟩ := Dp.reads I p (.ref a) (.ref a) hp rfl
    refine repr_of_reads' rd h1 (fun z => by rw [h2] at z; cases z) hg (by omega) (fun b o e => e) (fun h' u tk k => ?_) h4
    exact ⟨.str p.shown, H, I.kept (t' := tk) k, ⟨u, rfl⟩, q⟩
section
variable {W : Wd} {g : G} {Q : QE}
theorem rc_repr {sv : SV} {p : PyData} (h : PyS g sv p) (hk : match p with | .list _ => True | .tuple _ => True | _ => False) (h1 : p.showable = true) (h2 : p.hasDict = false) (h3 : p.depth ≤ 60) (h4 : p.shown.length ≤ sizeLine) (q : Q (.d (.str p.shown)) g) : RC W (rRepr W.K) [sv] g Q := fun H vs k rs Q' q' => by
  obtain ⟨v, r, rfl, r1, hr⟩ := rs
  cases (show r = [] from hr)
  have hd := h.dp k r1
  have : ∃ a, v = .ref a := by
    cases hd with
    | lst _ _ => exact ⟨_, rfl⟩
    | tup _ _ => exact ⟨_, rfl⟩
    | _ => exact False.elim hk
  obtain ⟨a, rfl⟩ := this
  exact ⟨a, p, rfl, hd, h1, h2, h3, h4, q' _ _ (post_same (r := .d (.str p.shown)) k rfl q)⟩
end

/-! ### the law's own def, run where the caller stands -/
section
variable {P : Program} {w : World} {K : PySem.W.Frag} {mg : Str → Option Value} {base : Heap}
/-- a def's body gives its call, for one place to stand -/
theorem runAt {x qual : Str} {pa : Arguments} {bd : List Stmt} {sc : Scope} {dvs : List V} {kws : List (Str × V)} {f : Addr} {fd : FuncData} {N ps : List Str} {k : Nat} {A : Around} {outer : List Env} {s : Shared} {H : Hp} {args : Args} {us : List Value} {vs : List V} {Q : VK} {E : XK}
    (F : FunD K x qual pa bd sc dvs kws f fd) (S : FnScope N ps sc) (hr : Room (k + 1) A) (e0 : Env0 P w K mg base A outer s H) (hb : BindsTo s fd args (ps.zip us)) (rv : Vals vs us) (hl : vs.length = ps.length)
    (body : ∀ cdv, Room k (A.deeper (envOfC qual sc s.heap.objs.size f cdv)) → ∃ t, PSs (cxOf CX0 P w K mg base N qual sc f cdv A outer s H E) bd t ∧ t { nx := fun _ H' => Q .non H', rt := Q } (L2.start N vs) H) :
    codeAny (model P w) A (.call (.ref f) args) (CR CX0 outer P w H s Q E) s := by
  obtain ⟨oc, od, dV, kV, doc, pm, an, cdv, ct, osl, rfl, lk, hcd, _, _⟩ := F.ex
  have KX : K.In s.heap := e0.mod.kin.keeps (fun b o e => (e0.bs b o e).1)
  have lim : s.heap.NoLimit := e0.mod.nolimit.keeps (fun b o e => (e0.bs b o e).1)
  have kinds : ∀ y ∈ ps.zip us, sc.names.lookup y.1 = some .local ∨ (sc.names.lookup y.1 = some .cell ∧ ((cellsFrom (s.heap.objs.size + 1) sc.names []).lookup y.1).isSome = true) := by
    rintro ⟨n, v⟩ hy
    rcases S.par n (List.of_mem_zip hy).1 with q | q
    · exact Or.inl q
    · exact Or.inr ⟨q, PySem.W.cellsFrom_some _ _ _ (Or.inl q)⟩
  refine codeAny_call_function hr.depth (KX _ _ lk) rfl S.co S.gen rfl (PySem.W.codeRec_of KX hcd) (hb _ _ _ _ ?_)
  refine wpAny_newFunctionEnv_cells S.kind kinds fun env he s1 x => ?_
  subst he
  refine ⟨lim.keeps x.toInCall.keep, codeAny_func ?_⟩
  obtain ⟨t, ht, hq⟩ := body cdv (hr.deeper _)
  have I : Inv (cxOf CX0 P w K mg base N qual sc f cdv A outer s H E) [] (L2.start N vs) H s1 := inv_start S hr.hd e0 hl rv x
  refine wpAny_mono (ht.run [] s1 (L2.start N vs) H _ I hq) (fun fl s' hs => ?_) (fun e s' hs => hs)
  cases fl with
  | ret u =>
    obtain ⟨v, σ', H', J, r', q⟩ := hs
    exact ⟨v, H', J.os, J.bare, J.base, J.hok, r', q⟩
  | next =>
    obtain ⟨σ', H', J, q⟩ := hs
    exact ⟨.non, H', J.os, J.bare, J.base, J.hok, rfl, q⟩
  | brk => obtain ⟨_, _, _, q⟩ := hs; exact q.elim
  | cont => obtain ⟨_, _, _, q⟩ := hs; exact q.elim
/-- what the law's def is to keep, where the caller stands -/
def LawAt (P : Program) (w : World) (K : PySem.W.Frag) (mg : Str → Option Value) (base : Heap) (fa : Addr) (fd : FuncData) (x : Str) (sp : Sp) : Prop :=
  ∀ (s : Shared) (H : Hp) (us : List Value) (vs : List V) (Q : VK), Env0 P w K mg base callerA [] s H → BindsTo s fd ⟨us, []⟩ ([x].zip us) → Vals vs us → sp vs H Q (fun _ _ _ => False) → codeAny (model P w) callerA (.call (.ref fa) ⟨us, []⟩) (CR CX0 [] P w H s Q fun _ _ _ => False) s
/-- the script's own call, out of the promise at one abstract heap: everything but the script at a stands in base -/
theorem law_core {mb : Str → Option Value} {fa a : Addr} {fd : FuncData} {x : Str} {sp : Sp} {s₁ : Shared} {vs : List Value} {H : Hp}
    (KX : K.In s₁.heap) (hns : s₁.heap.Ns mainGlobals mg) (hb : s₁.heap.Ns builtinsNs mb) (hbb : ∀ x : Str, x ≠ "__name__" → mb x = bootBuiltins x) (hlim : s₁.heap.NoLimit) (hg : s₁.gens = #[])
    (ha : s₁.heap.get? a = some { cls := .type "list", data := .seq vs.toArray })
    (F : ∀ base : Heap, K.In base → base.Ns mainGlobals mg → LawAt P w K mg base fa fd x sp) (hbind : ∀ (s : Shared) (u : Value), BindsTo s fd ⟨[u], []⟩ [(x, u)])
    (hO : Only H) (hsp : sp [.ref a] H (fun v _ => v = .bl true) fun _ _ _ => False) (hok : HOk P w H s₁.heap) (hA : ∀ b, H b ≠ none → b = a) (hK : H a ≠ none → K.lookup a = none) :
    codeAny (model P w) callerA (.call (.ref fa) ⟨[.ref a], []⟩) (fun r s' => r = .ok (.ret (.bool true)) ∧ OldK s₁.heap s'.heap ∧ s'.os = s₁.os ∧ AllBare s'.gens) s₁ := by
  have one : ∀ {b : Addr} {u : HO}, H b = some u → b = a := fun {b u} q => hA b (by rw [q]; exact fun z => by cases z)
  have free : ∀ {b : Addr} {o : Obj}, s₁.heap.get? b = some o → (∀ its n, o.data ≠ .seq its n) → H b = none := by
    intro b o e d
    cases q : H b with
    | none => rfl
    | some u =>
      have z := one q
      rw [z, ha] at e
      exact absurd (congrArg Obj.data (Option.some.inj e)).symm (d _ _)
  have ns' : ∀ {b : Addr} {m : Str → Option Value}, s₁.heap.Ns b m → (hidT s₁.heap H).Ns b m := by
    rintro b m ⟨o, es, ep, e, d, r⟩
    exact ⟨o, es, ep, hidT_get e (free e fun its n z => by rw [d] at z; cases z), d, r⟩
  have inK : K.In (hidT s₁.heap H) := by
    intro b o e
    refine hidT_get (KX b o e) ?_
    cases q : H b with
    | none => rfl
    | some u =>
      have z := one q
      have hn := hK (by rw [← z, q]; exact fun z => by cases z)
      rw [z, hn] at e; cases e
  obtain ⟨mc, l1, l2⟩ := hlim
  have M : Mod K mg (hidT s₁.heap H) := ⟨inK, ns' hns, ⟨mb, ns' hb, hbb⟩, mc, ns' l1, l2⟩
  have e0 : Env0 P w K mg (hidT s₁.heap H) callerA [] s₁ H :=
    { frames := rfl, mod := M, bs := fun b o e => of_hidT e, bsz := Nat.le_of_eq (hidT_size _ _), funs := trivial, frf := (fun b hb => by cases hb), hok := hok, bare := .of_eq hg }
  refine codeAny_mono (F _ inK (ns' hns) s₁ H [.ref a] [.ref a] _ e0 (hbind s₁ (.ref a)) (.cons rfl .nil) hsp) fun r s' h => ?_
  match r, h with
  | .error e, h => exact False.elim h
  | .ok .next, h => exact False.elim h
  | .ok .brk, h => exact False.elim h
  | .ok .cont, h => exact False.elim h
  | .ok (.ret u), h =>
    obtain ⟨v, H', os, bare, un, hok', r', q⟩ := h
    cases (show v = .bl true from q)
    cases (show u = Value.bool true from r')
    refine ⟨rfl, OldK.of_keep fun b o e => ?_, os, bare⟩
    cases q : H b with
    | none => exact un.keep b o e q (fun z => by cases z) (fun z => by cases z)
    | some u =>
      rcases hO b with z | ⟨ob, xs, z⟩
      · rw [q] at z; cases z
      · have p1 := (hok b _ z).1
        have p2 := (hok' b _ (un.frzs b ob _ z)).1
        rw [e] at p1
        rw [Option.some.inj p1]
        exact p2
theorem law_end {mb : Str → Option Value} {fa a : Addr} {fd : FuncData} {x : Str} {sp : Sp} {s₁ : Shared} {vs : List Value} {ns : List Int}
    (KX : K.In s₁.heap) (hns : s₁.heap.Ns mainGlobals mg) (hb : s₁.heap.Ns builtinsNs mb) (hbb : ∀ x : Str, x ≠ "__name__" → mb x = bootBuiltins x) (hlim : s₁.heap.NoLimit) (hg : s₁.gens = #[])
    (ha : s₁.heap.get? a = some { cls := .type "list", data := .seq vs.toArray }) (hi : IntsAre vs ns) (hl : ns.length ≤ sizeLine)
    (F : ∀ base : Heap, K.In base → base.Ns mainGlobals mg → LawAt P w K mg base fa fd x sp) (hbind : ∀ (s : Shared) (u : Value), BindsTo s fd ⟨[u], []⟩ [(x, u)])
    (hsp : ∀ H : Hp, Only H → SqL K H a (ns.map V.int) → sp [.ref a] H (fun v _ => v = .bl true) fun _ _ _ => False) :
    codeAny (model P w) callerA (.call (.ref fa) ⟨[.ref a], []⟩) (fun r s' => r = .ok (.ret (.bool true)) ∧ OldK s₁.heap s'.heap ∧ s'.os = s₁.os ∧ AllBare s'.gens) s₁ := by
  have rv := vals_ints hi
  cases hk : K.lookup a with
  | some o =>
    have e := (KX a o hk).symm.trans ha
    cases e
    have hO : Only fun _ => none := fun _ => Or.inl rfl
    refine law_core KX hns hb hbb hlim hg ha F hbind hO (hsp _ hO (Or.inr ⟨_, vs.toArray, _, hk, rfl, rfl, rfl, ?_, by simpa using rv⟩)) (fun b u z => by cases z) (fun b z => absurd rfl z) (fun z => absurd rfl z)
    rw [List.size_toArray, hi.length]; exact hl
  | none =>
    let H : Hp := fun b => if b = a then some (.frz { cls := .type "list", data := .seq vs.toArray } (.lst (ns.map V.int))) else none
    have Ha : H a = some (.frz { cls := .type "list", data := .seq vs.toArray } (.lst (ns.map V.int))) := if_pos rfl
    have Hn : ∀ b, b ≠ a → H b = none := fun b z => if_neg z
    have hO : Only H := fun b => by
      by_cases z : b = a
      · rw [z]; exact Or.inr ⟨_, _, Ha⟩
      · exact Or.inl (Hn b z)
    refine law_core KX hns hb hbb hlim hg ha F hbind hO (hsp H hO (Or.inl (Or.inr ⟨_, Ha⟩))) (fun b u z => ?_) (fun b z => ?_) (fun _ => hk)
    · by_cases y : b = a
      · subst y
        rw [Ha] at z; cases z
        exact ⟨ha, by rw [List.length_map]; exact hl, vs, _, rv, ha⟩
      · rw [Hn b y] at z; cases z
    · by_cases y : b = a
      · exact y
      · exact absurd (Hn b y) z
end
/-- the walk's goal, out of the law's def and its promise -/
theorem walkAt {l : PySem.W.OpenLaw} {n : Nat} {q : Program} {loose : List Str} {XP : (Str → Option Value) → Heap → Prop} {YP : World → Heap → Prop} {d : DefRec} {x : Str} (hn : l.most = some n) (hn2 : n ≤ sizeLine) (hdf : d.params.defaults = [])
    (F : ∀ (w : World) (mg : Str → Option Value) (fa : Addr) (h : Heap), YP w h → h.Ns mainGlobals mg → mg d.name = some (.ref fa) →
      ∃ (K : PySem.W.Frag) (fd : FuncData) (sp : Sp), K.In h ∧ (∀ (s : Shared) (u : Value), BindsTo s fd ⟨[u], []⟩ [(x, u)]) ∧
        (∀ (H : Hp) (a : Addr) (ns : List Int), ns.length ≤ n → Only H → SqL K H a (ns.map V.int) → sp [.ref a] H (fun v _ => v = .bl true) fun _ _ _ => False) ∧ ∀ base : Heap, K.In base → base.Ns mainGlobals mg → LawAt l.prog w K mg base fa fd x sp) :
    PySem.W.WalkO q loose XP YP l.row.toRowW d [] (fun f vs => PySem.call f vs) := by
  refine Att.attach_call hn hdf fun w s₀ s₁ mg mb fa o pm cd doc a vs ns G Y ho hd hcd hmg hobj hints hlen hg => ?_
  obtain ⟨K, fd, sp, KX, hb, hsp, hF⟩ := F w mg fa _ Y G.T.g hmg
  exact law_end KX G.T.g G.T.b G.T.builtins G.T.nolimit hg hobj hints (Nat.le_trans hlen hn2) hF hb fun H hO hS => hsp H a ns hlen hO hS
/-- the law's promise: of a script it gives True -/
def spLawD (W : Wd) : Sp := fun vs H Q _ => ∃ (a : Addr) (ns : List Int), vs = [.ref a] ∧ SqL W.K H a (ns.map V.int) ∧ ns.length ≤ 63 ∧ ∀ H', Q (.bl true) H'
theorem rep_ints {W : Wd} {H : Hp} {g : G} : ∀ ns : List Int, Reps W H g (ns.map D.int) (ns.map V.int)
  | [] => rfl
  | n :: ns => ⟨.int n, _, rfl, rfl, rep_ints ns⟩
theorem rep_script {W : Wd} {H : Hp} {a : Addr} {ns : List Int} (h : SqL W.K H a (ns.map V.int)) : Rep W H (fun _ => none) (.lst (ns.map D.int)) (.ref a) := by
  refine ⟨a, _, rfl, ?_, rep_ints ns⟩
  rcases h with h | h
  · exact Or.inl ⟨h, rfl⟩
  · exact Or.inr h
/-- THE RULE for the law's def -/
theorem lawD {P : Program} {w : World} {W : Wd} {mg : Str → Option Value} {base : Heap} {st : Stmt} {x qual : Str} {f : Addr} {fd : FuncData} {N ps : List Str} {k : Nat} {y : Str} (F : FnP W.K x qual st [] f fd) (sc : FnScope N ps (defScope st)) (hps : ps = [y]) (hr : Room (k + 1) callerA)
    (h : ∀ (cdv : Value) (s : Shared) (H : Hp) (ns : List Int), ns.length ≤ 63 → Room k (callerA.deeper (envOfC qual (defScope st) s.heap.objs.size f cdv)) →
      WS (CxD P w W mg base N qual (defScope st) f cdv callerA [] s H fun _ _ _ => False) W (defBody st) (startD N [.d (.lst (ns.map D.int))]) (fun _ => none) (retP fun r _ => r = .d (.bl true))) : LawAt P w W.K mg base f fd y (spLawD W) := by
  intro s H us vs Q e0 hb rv q
  obtain ⟨a, ns, rfl, hS, hl, kq⟩ := q
  subst hps
  refine runAt F sc hr e0 hb rv rfl fun cdv hr' => ⟨_, PSs.nox pss_s, ?_⟩
  have k0 : GOk W H fun _ => none := fun a o e => by cases e
  have rs : RepSs W H (fun _ => none) [.d (.lst (ns.map D.int))] [.ref a] := ⟨_, _, rfl, rep_script hS, rfl⟩
  exact h cdv s H ns hl hr' (L2.start N [.ref a]) H (sim_start k0 rs) _ ⟨(fun σ' H' ⟨_, _, _, _, z⟩ => by cases z), (fun v H' ⟨r, g', k', e', r', z⟩ => by subst z; cases (show v = .bl true from r'); exact kq H'), (fun σ' H' ⟨_, _, _, _, z⟩ => z), (fun σ' H' ⟨_, _, _, _, z⟩ => z)⟩
end DL

namespace PySem
namespace DLX
open PySem.W PySem.Calls PyProof.Rows PySem.HandSPX
section
variable {prog : Program} {w : World} {M : Model} {A : Around} {E : Value → Shared → Prop} {R : Result → Shared → Prop} {h : Heap} {g : Array GenState} {d : Drawn} {t : Nat} {os : OsState}
variable {nm q : Str} {C N : Addr} {bs bm bmB : List Value} {hdct : Bool} {sn : List Str} {sub : List Value} {ab : Bool} {col : Option Bool} {dd : Option Addr} {k0 k1 k2 k3 k5 : Option Value} {B newId initId : String} {kw : List (Str × Value)}
/-- BaseException.__new__ of an own class lets any arguments by, named ones too -/
theorem newOk (F : ExcBaseFacts B newId initId bmB) (hT : ∀ X : String, bm.contains (.type X) = bmB.contains (.type X)) {rest : List Value} {Q : Unit → Shared → Prop}
    (hC : h.get? C = some (excClassObj nm q C N bs bm hdct sn sub ab col dd k0 k1 k2 k3 k5 newId))
    (hq : Q () ⟨h, g, d, t, os⟩) :
    wpAny M A (checkBuiltinCall newId ⟨.ref C :: rest, kw⟩) Q E ⟨h, g, d, t, os⟩ := by
  have isB : (Value.ref C :: bm).contains (.type B) = true := by
    rw [List.contains_cons, hT, F.hasB, Bool.or_true]
  have ns := F.noStar
  simp only [checkBuiltinCall, F.newKind, F.newSplit, F.newRow]
  repeat (first
    | refine wpAny_loadPart_at hC ?_
    | (refine wpAny_isSubtype_exc hC ?_; rw [isB])
    | refine wpAny_staticBase_exc hC ?_
    | refine wpAny_madeBy_exc hC ?_
    | simp only [bne_self_eq_false, Bool.false_eq_true, if_false]
    | wp_step)
  exact hq
theorem newRun (F : ExcBaseFacts B newId initId bmB) (hT : ∀ X : String, bm.contains (.type X) = bmB.contains (.type X)) {rest : List Value}
    (hC : h.get? C = some (excClassObj nm q C N bs bm hdct sn sub ab col dd k0 k1 k2 k3 k5 newId))
    (hq : R (.ok (.ret (.ref (h.objs.size + 1)))) ⟨(h.push (W.kdv_tup rest)).push (excO C h.objs.size), g, d, t, os⟩) (hrest : rest.length ≤ sizeLine) :
    codeAny (model prog w) A (.builtin newId ⟨.ref C :: rest, kw⟩) R ⟨h, g, d, t, os⟩ := by
  have en := F.ends
  have isB : (Value.ref C :: bm).contains (.type B) = true := by
    rw [List.contains_cons, hT, F.hasB, Bool.or_true]
  have isA : (Value.ref C :: bm).contains (.type "AttributeError") = false := by
    rw [List.contains_cons, hT, F.noAttr]; rfl
  have isN : (Value.ref C :: bm).contains (.type "NameError") = false := by
    rw [List.contains_cons, hT, F.noName]; rfl
  refine codeAny_builtinAt F.entry ?_
  unfold Builtin.«BaseException.__new__»
  refine wpAt_bind ?_
  show wpAt _ _ _ (stack >>= _) _ _ _
  refine wpAt_bind (wpAt_stack fun p below => wpAt_of_wpAny ?_)
  wp_walk
  refine wpAt_of_wpAny ?_
  rw [F.owner]
  repeat (first
    | with_reducible refine wpAny_madeHere_exc F.canon hC ?_
    | with_reducible refine wpAny_loadPart_at hC ?_
    | (with_reducible refine wpAny_isSubtype_exc hC ?_; first | rw [isB] | rw [isA] | rw [isN])
    | wp_step)
  show R _ _
  rw [Heap.size_push]
  exact hq
theorem typeRun (F : ExcBaseFacts B newId initId bmB) (hT : ∀ X : String, bm.contains (.type X) = bmB.contains (.type X)) {rest : List Value} {fI : Addr} {Q : Fin → Shared → Prop}
    (hC : h.get? C = some (excClassObj nm q C N bs bm hdct sn sub ab col dd k0 k1 k2 k3 k5 newId))
    (hi : W.Looks (model prog w) h (typeLookup (.ref C) "__init__") (some (.ref fI))) (hb : ∀ self, W.Looks (model prog w) h (bindSpecial (.ref fI) self) (.ref fI, [self])) (hrest : rest.length ≤ sizeLine)
    (hq : codeAny (model prog w) A (.call (.ref fI) ⟨.ref (h.objs.size + 1) :: rest, kw⟩)
      (fun r s' => match r with | .ok (.ret v) => v = .none ∧ Q (.done (.ret (.ref (h.objs.size + 1)))) s' | .ok _ => False | .error e => E e s')
      ⟨(h.push (W.kdv_tup rest)).push (excO C h.objs.size), g, d, t, os⟩) :
    wpAny (model prog w) A (Builtin.«type.__call__» ⟨.ref C :: rest, kw⟩) Q E ⟨h, g, d, t, os⟩ := by
  repeat (first
    | with_reducible refine wpAny_loadPart_at hC ?_
    | with_reducible refine wpAny_madeBy_exc hC ?_
    | wp_step)
  refine codeAny_call_builtin_code (Code.quiet_builtin _ F.quiet) (newOk F hT hC ?_)
  refine newRun F hT hC ?_ hrest
  show wpAny _ _ _ _ _ _
  have up : ∀ b o, h.get? b = some o → ((h.push (W.kdv_tup rest)).push (excO C h.objs.size)).get? b = some o := fun b o e => Heap.get?_push_of_some _ (Heap.get?_push_of_some _ e)
  have hC2 := up _ _ hC
  have got : ((h.push (W.kdv_tup rest)).push (excO C h.objs.size)).get? (h.objs.size + 1) = some (excO C h.objs.size) := by heap_get
  have isC : (Value.ref C :: bm).contains (.ref C) = true := by simp
  have i2 := hi.keeps up
  have b2 := (hb (.ref (h.objs.size + 1))).keeps up
  unfold isInstance
  repeat (first
    | with_reducible refine wpAny_loadPart_at got ?_
    | (with_reducible refine wpAny_isSubtype_exc hC2 ?_; rw [isC])
    | wp_step)
  show wpAny _ _ (typeLookup (.ref C) _) _ _ _
  refine i2.at ?_
  refine wpAny_holding (wpAny_bind (b2.at ?_))
  refine wpAny_bind (wpAny_call (codeAny_mono hq fun r s' z => ?_))
  rcases r with e | (v | _ | _ | _) <;> first | exact z | exact z.elim | skip
  obtain ⟨rfl, z⟩ := z
  first
    | exact wpAny_pure (wpAny_pure z)
    | (wp_walk; exact z)
theorem typeOk {rest : List Value} {Q : Unit → Shared → Prop} (hC : h.get? C = some (excClassObj nm q C N bs bm hdct sn sub ab col dd k0 k1 k2 k3 k5 newId))
    (hq : Q () ⟨h, g, d, t, os⟩) : wpAny M A (checkBuiltinCall "type.__call__" ⟨.ref C :: rest, kw⟩) Q E ⟨h, g, d, t, os⟩ := by
  have f3 := tc_sub
  have hT : (⟨h, g, d, t, os⟩ : Shared).TypeIs (.ref C) "type" := ⟨_, hC, rfl⟩
  simp only [checkBuiltinCall, tc_kind, tc_split]
  repeat (any_goals (first
    | assumption
    | with_reducible refine wpAny_loadPart_at hC ?_
    | with_reducible refine wpAny_onRaise ?_
    | with_reducible refine wpAny_map ?_
    | wp_step))
/-- C(.., k = ..) on an own exception class with an __init__ of its own -/
theorem makeRun (F : ExcBaseFacts B newId initId bmB) (hT : ∀ X : String, bm.contains (.type X) = bmB.contains (.type X)) {rest : List Value} {fI : Addr}
    (hC : h.get? C = some (excClassObj nm q C N bs bm hdct sn sub ab col dd k0 k1 k2 k3 k5 newId))
    (hi : W.Looks (model prog w) h (typeLookup (.ref C) "__init__") (some (.ref fI))) (hb : ∀ self, W.Looks (model prog w) h (bindSpecial (.ref fI) self) (.ref fI, [self])) (hrest : rest.length ≤ sizeLine)
    (hq : codeAny (model prog w) (A.under (.builtin "type.__call__" ⟨.ref C :: rest, kw⟩)) (.call (.ref fI) ⟨.ref (h.objs.size + 1) :: rest, kw⟩) (W.InitBack (h.objs.size + 1) R)
      ⟨(h.push (W.kdv_tup rest)).push (excO C h.objs.size), g, d, t, os⟩) :
    codeAny (model prog w) A (.call (.ref C) ⟨rest, kw⟩) R ⟨h, g, d, t, os⟩ := by
  have f1 := tc_lookup
  have f2 := tc_bind (.ref C)
  have hTy : (⟨h, g, d, t, os⟩ : Shared).TypeIs (.ref C) "type" := ⟨_, hC, rfl⟩
  refine codeAny_of_tree ?_
  show wpAny _ _ (callAny (.ref C) _) _ _ _
  repeat (any_goals (first
    | assumption
    | with_reducible refine wpAny_loadPart_at hC ?_
    | wp_step))
  refine ⟨rfl, ?_⟩
  refine codeAny_call_builtin_at (Code.quiet_builtin _ (by decide +kernel)) entry_typeCall (typeOk hC (typeRun F hT hC hi hb hrest ?_))
  refine codeAny_mono hq fun r s' z => ?_
  rcases r with e | (v | _ | _ | _) <;> exact z
end
end DLX
end PySem

namespace PySem
namespace DLX
open PySem.W PySem.Calls PyProof.Rows PySem.HandSPX
section
open Builtin Builtin.ObjectAttr
variable {prog : Program} {w : World} {A : Around} {E : Value → Shared → Prop} {R : Result → Shared → Prop} {hp : Heap} {g : Array GenState} {d : Drawn} {t : Nat} {os : OsState}
/-- x.name = v, x an exception without a dict as yet; its class by what its mro lets by -/
theorem putNew {K : W.Frag} {name : Str} {tk : Tok} {v : Value} {x C : Addr} {fv : Array Value} {cd : ClassData}
    (X : K.In hp) (hx : hp.get? x = some { cls := .ref C, data := .fields fv }) (hcd : W.clsIn K C = some cd)
    (ne : cd.mro.isEmpty = false) (hob : cd.mro.contains (.type "object") = true) (pass : refuseLoop (.ref x) "__setattr__" cd.mro = pure ()) (hh : cd.hasDict = true) (ha : W.findIn K (.ref C) name = some none)
    (hq : ∀ h' tk' dx, (∀ b o, b ≠ x → hp.get? b = some o → h'.get? b = some o) → hp.objs.size ≤ dx → dx ≠ x →
      h'.get? x = some { cls := .ref C, dict := some dx, data := .fields fv } → h'.Ns1 dx (fun y => if y = name then some v else none) → R (.ok (.ret .none)) ⟨h', g, d, tk', os⟩) :
    codeAny (model prog w) A (.call (.builtin "object.__setattr__") ⟨[.ref x, .str name tk, v], []⟩) R ⟨hp, g, d, t, os⟩ := by
  have I0 : W.InstAt hp x { cls := .ref C, data := .fields fv } C none := ⟨hx, rfl, rfl, trivial⟩
  have S0 := F.store_object
  have nx : x ≠ hp.objs.size := Nat.ne_of_lt (Heap.lt_size hx)
  have isO : W.Looks (model prog w) hp (isInstance (.ref x) (.type "object")) true :=
    I0.type.andThen (W.looks_mroIn X (by unfold W.mroIn; rw [hcd, Option.bind_some, if_neg (by rw [ne]; decide), hob]))
  refine codeAny_call_builtin S0.slot.plain S0.entry
    (@W.check_slot (model prog w) _ _ ⟨hp, g, d, t, os⟩ "object.__setattr__" "object" "__setattr__" (.ref x) [.str name tk, v] [] _ S0.kind S0.split isO (S0.args (.ref x) (.str name tk) v) ?_)
  have lm : W.Looks (model prog w) hp (mroOf (.ref C)) cd.mro := (W.looks_clsIn X hcd).andThen .now
  have ls : W.Looks (model prog w) hp (storeTaker? none) none := .now
  have lc : W.Looks (model prog w) hp (classData C) cd := W.looks_clsIn X hcd
  rw [W.osa_eq, refuse_eq]
  refine wpAny_bind (wpAny_bind (I0.type.at (wpAny_bind (lm.at ?_))))
  rw [pass]
  refine wpAny_pure (wpAny_bind (I0.type.at (wpAny_bind
    ((W.looks_findIn X ha).at (wpAny_bind (ls.at ?_))))))
  show wpAny _ _
    (storeInOwnDict (.ref x) (.ref C) (.str name tk) name v false) _ _ _
  obtain ⟨nm, bs, mro, ns, qn, hd, sn, sb, ab, col, del⟩ := cd
  dsimp only at hh
  subst hh
  unfold storeInOwnDict ownDictForStores
  repeat (first
    | with_reducible refine store_in_new ?_ ?_
    | with_reducible refine wpAny_loadPart_at hx ?_
    | with_reducible refine lc.at ?_
    | wp_step)
  · exact ⟨_, #[], _,
      (Heap.get?_update_ne _ _ _ _ nx.symm).trans (Heap.get?_push_at rfl rfl), rfl, fun e he => absurd he (by simp), fun _ => rfl⟩
  · intro h' tk' hn' hs
    have hx2 : (hp.push { cls := .type "dict", data := .dict #[] }).get? x = some { cls := .ref C, data := .fields fv } :=
      Heap.get?_push_of_some _ hx
    refine hq h' tk' hp.objs.size (fun b o hb ho => ?_) (Nat.le_refl _) nx.symm
      ?_ hn'
    · exact (hs.2 b (Nat.ne_of_lt (Heap.lt_size ho))).trans
        ((Heap.get?_update_ne _ _ _ _ hb).trans (Heap.get?_push_of_some _ ho))
    · exact (hs.2 x nx).trans
        (Heap.get?_update_self _ hx2 rfl)
end
end DLX
end PySem

namespace DL
open PySem PySem.Spec PyProof.Rows L2

/-- what the written part says of an own exception class -/
structure XcC (K : PySem.W.Frag) (C : Addr) : Prop where
  base : ∃ (B newId initId : String) (bmB : List Value), ExcBaseFacts B newId initId bmB ∧ bmB.contains (.type "object") = true ∧
    ∃ nm q N bs bm sn sub ab col dd k0 k1 k2 k3 k5, K.lookup C = some (excClassObj nm q C N bs bm true sn sub ab col dd k0 k1 k2 k3 k5 newId) ∧
      (∀ X : String, bm.contains (.type X) = bmB.contains (.type X)) ∧ ∀ self, refuseLoop self "__setattr__" (.ref C :: bm) = pure ()
  sa : PySem.W.findIn K (.ref C) "__setattr__" = some (some (.builtin "object.__setattr__"))
  kC : PySem.W.keepIn K (.ref C) = true
  xf : XfC K C
  xi : L2.ExcC K C
/-- its own __init__ -/
structure XcI (K : PySem.W.Frag) (C fI : Addr) : Prop where
  iC : PySem.W.findIn K (.ref C) "__init__" = some (some (.ref fI))
  tI : PySem.W.typeIn K (.ref fI) = some (.type "function")
/-- no own __init__ -/
structure XcN (K : PySem.W.Frag) (C : Addr) : Prop where
  no : ∃ (B newId initId : String) (bmB : List Value), ExcBaseFacts B newId initId bmB ∧
    (∃ nm q N bs bm sn sub ab col dd k0 k1 k2 k3 k5, K.lookup C = some (excClassObj nm q C N bs bm true sn sub ab col dd k0 k1 k2 k3 k5 newId) ∧ (∀ X : String, bm.contains (.type X) = bmB.contains (.type X))) ∧
    PySem.W.findIn K (.ref C) "__init__" = some (some (.builtin initId))
section
variable {X : Cx} {pins : List (Addr × Obj)} {σ : L2.St} {H : Hp} {s : Shared} {a C : Addr} {f : Str} {y : V} {u : Value}
theorem xstore {A : Around} {E : Value → Shared → Prop} {Q : Unit → Shared → Prop} (T : XcC X.K C) (I : Inv X pins σ H s) (e : H a = some (exo a C none)) (hno : PySem.W.findIn X.K (.ref C) f = some none) (ry : RelV y u)
    (h : ∀ dx s', H dx = none → dx ≠ a → Inv X pins σ (upd (upd H dx (exd dx [(f, y)])) a (exo a C (some dx))) s' → Q () s') :
    wpAny (model X.prog X.w) A (setAttr (.ref a) f u) Q E s := by
  obtain ⟨B, newId, initId, bmB, FB, ob, nm, q, N, bs, bm, sn, sub, ab, col, dd, k0, k1, k2, k3, k5, hC, hT, hp1⟩ := T.base
  have hcl : PySem.W.clsIn X.K C = some { name := nm, bases := bs, mro := .ref C :: bm, ns := N, qualname := q, hasDict := true, slotNames := sn, subclasses := sub, abstract := ab, collection := col, hasDel := false } := by
    unfold PySem.W.clsIn
    rw [hC] <;> rfl
  obtain ⟨t1, ho⟩ := exo_at I.hok e
  obtain ⟨hp, g, d, t, os⟩ := s
  refine PySem.W.set_plain I.kIn (ox := { cls := .ref C, dict := none, data := .fields #[.ref t1, .none, .none, .none, .bool false, .none] }) (od := none)
    ⟨ho, rfl, rfl, trivial⟩ T.sa ?_
  refine PySem.DLX.putNew I.kIn ho hcl rfl (by show (Value.ref C :: bm).contains _ = true; rw [List.contains_cons, hT, ob, Bool.or_true]) (hp1 _) rfl hno fun h' tk' dx k dn dne hx hn => ?_
  have hnd : H dx = none := I.hok.fresh dn
  have nd : ∀ {b : Addr} {o : Obj}, hp.get? b = some o → b ≠ dx := fun {b o} q =>
    Nat.ne_of_lt (Nat.lt_of_lt_of_le (Heap.lt_size q) dn)
  have na : ∀ {b : Addr}, H b = none → b ≠ a := fun {b} n z => by
    rw [z, e] at n; cases n
  have U : Un X.fs [] H (upd (upd H dx (exd dx [(f, y)])) a (exo a C (some dx))) hp h' := {
    keep := (fun b o q n _ _ => k b o (na n) q)
    slot := (fun b o q n _ _ => ⟨o.slots, k b o (na n) q⟩)
    free := (fun b o q n _ => by rw [upd_ne (na n), upd_ne (nd q)]; exact n)
    there := (fun b o q _ => by
      by_cases hb : b = a
      · exact ⟨_, by rw [hb]; exact hx⟩
      · exact ⟨o, k b o hb q⟩)
    tups := (fun b xs q => by rw [upd_ne (at_ne e q exo_tup), upd_ne (ne_of_none q hnd)]; exact q)
    frzs := (fun b o v q => by rw [upd_ne (at_ne e q exo_frz), upd_ne (ne_of_none q hnd)]; exact q)
    tbls := (fun b ps q => ⟨#[], by rw [upd_ne (at_ne e q exo_tbl), upd_ne (ne_of_none q hnd), q]; simp⟩) }
  refine h dx _ hnd dne (I.un (t' := tk') U fun b o q => ?_)
  by_cases hb : b = a
  · subst hb
    rw [upd_same] at q; cases q
    exact exo_ok hx
  · rw [upd_ne hb] at q
    by_cases hd : b = dx
    · subst hd
      rw [upd_same] at q; cases q
      exact exd_ok hn (relO_put (fs := []) ry fun g => True.intro)
    · rw [upd_ne hd] at q
      refine (I.hok b o q).stay (fun c v hc z => k c v ?_ z) (fun c hc => ?_) fun c xs hc => ?_
      · rcases hc with hc | hc
        · rw [hc]; exact hb
        · exact at_ne e hc exo_own
      · rw [upd_ne (at_ne e hc exo_own), upd_ne (ne_of_none hc hnd)]; exact hc
      · rw [upd_ne (at_ne e hc exo_tup), upd_ne (ne_of_none hc hnd)]; exact hc
/-- reading a field -/
theorem xread {E : Value → Shared → Prop} {dx : Addr} {fs : List (Str × V)} {v : V} {Q : VK} {ex : Bool} (T : XcC X.K C) (I : Inv X pins σ H s) (e : H a = some (exo a C (some dx))) (ed : H dx = some (exd dx fs)) (hno : PySem.W.findIn X.K (.ref C) f = some none)
    (l : fs.lookup f = some v) (q : Q v H) : wpAny (model X.prog X.w) X.A (getAttr (.ref a) f ex) (EP X pins σ Q) E s := by
  obtain ⟨t1, ho⟩ := exo_at I.hok e
  obtain ⟨mA, hns, rel⟩ := exd_at I.hok ed
  have hns1 := hns
  obtain ⟨od, hod, hl⟩ := lookIn_ns hns1
  have r := rel f
  rw [l] at r
  obtain ⟨u, hu, ru⟩ := RelO.some_of (v := v) (o := mA f) r
  have J : PySem.W.InstAt s.heap a { cls := .ref C, dict := some dx, data := .fields #[.ref t1, .none, .none, .none, .bool false, .none] } C (some od) := ⟨ho, rfl, rfl, hod⟩
  exact PySem.HandSPX.exc_get I.kIn J T.xf.ga T.xf.gg T.xf.exC (PySem.W.findObj_own T.xf.hdC hno rfl (by rw [hl, hu])) (handed_of ru) ⟨v, H, I.tok _, ru, q⟩
end
end DL

namespace DL
open PySem PySem.Spec PyProof.Rows L2
section
variable {X : Cx} {pins : List (Addr × Obj)} {σ : L2.St} {H : Hp} {s : Shared} {C fI : Addr} {Q : VK}
/-- C(..), C's own __init__ keeping sp: the exception stays -/
theorem run_xc {k : Nat} {fd : FuncData} {ps : List Str} {sp : Sp} {us ws : List Value} {vs : List V} {kw : List (Str × Value)} (T : XcC X.K C) (Ti : XcI X.K C fI) (F1 : FnOk X.prog X.w X.K X.mg X.base CX0 k fI fd ps sp) (hr : Room (k + 1) X.A)
    (I : Inv X pins σ H s) (hus : us.length ≤ sizeLine) (hB : ∀ (a : Addr) (s' : Shared), X.K.In s'.heap → BindsTo s' fd ⟨.ref a :: us, kw⟩ (ps.zip (.ref a :: ws))) (rv : Vals vs ws)
    (h : ∀ a, H a = none → sp (.ref a :: vs) (upd H a (exo a C none)) (fun v H2 => v = .non ∧ Q (.ref a) H2) fun _ _ _ => False) :
    wpAny (model X.prog X.w) X.A (call (.ref C) us kw) (EP X pins σ Q) X.xe s := by
  obtain ⟨B, newId, initId, bmB, FB, ob, nm, q, N, bs, bm, sn, sub, ab, col, dd, k0, k1, k2, k3, k5, hC, hT, hp1⟩ := T.base
  obtain ⟨hp, g, dr, tk, os⟩ := s
  have hsz : hp.objs.size ≤ hp.objs.size + 1 := Nat.le_succ _
  have hn : H (hp.objs.size + 1) = none := I.hok.fresh hsz
  have up : ∀ b o, hp.get? b = some o → ((hp.push (PySem.W.kdv_tup us)).push (PySem.HandSPX.excO C hp.objs.size)).get? b = some o := fun b o e =>
    Heap.get?_push_of_some _ (Heap.get?_push_of_some _ e)
  have got : ((hp.push (PySem.W.kdv_tup us)).push (PySem.HandSPX.excO C hp.objs.size)).get? (hp.objs.size + 1) = some (PySem.HandSPX.excO C hp.objs.size) := by
    heap_get
  have I2 : Inv X pins σ (upd H (hp.objs.size + 1) (exo (hp.objs.size + 1) C none)) ⟨(hp.push (PySem.W.kdv_tup us)).push (PySem.HandSPX.excO C hp.objs.size), g, dr, tk, os⟩ :=
    I.laid (t' := tk) (a := hp.objs.size + 1) (o := exo (hp.objs.size + 1) C none) (h' := (hp.push (PySem.W.kdv_tup us)).push (PySem.HandSPX.excO C hp.objs.size)) up hsz
      (exo_ok got)
  refine wpAny_call (PySem.DLX.makeRun FB hT (I.kIn _ _ hC) (PySem.W.looks_findIn I.kIn Ti.iC) (fun self => PySem.W.bind_fn I.kIn self Ti.tI) hus ?_)
  refine codeAny_mono (F1.run _ X.stack _ _ ⟨Value.ref (hp.objs.size + 1) :: us, kw⟩ (Value.ref (hp.objs.size + 1) :: ws) (V.ref (hp.objs.size + 1) :: vs) _ (fun _ _ _ => False) (hr.make C us kw) (I2.env0.make C us kw) (hB _ _ I2.kIn)
    (.cons rfl rv) (h _ hn)) fun r s' hq' => ?_
  cases r with
  | error er => exact pass0 pins σ _ _ er s' I2 hq'
  | ok fl =>
    cases fl with
    | ret u =>
      obtain ⟨v, H', I3, rv, ev, q3⟩ := I2.after hq'
      subst ev
      exact ⟨rv, ⟨V.ref (hp.objs.size + 1), H', I3, rfl, q3⟩⟩
    | next => exact False.elim hq'
    | brk => exact False.elim hq'
    | cont => exact False.elim hq'
/-- C(), C without an __init__ of its own -/
theorem run_xn {us : List Value} (T : XcN X.K C) (I : Inv X pins σ H s) (hus : us.length ≤ sizeLine) (h : ∀ a, H a = none → Q (.ref a) (upd H a (exo a C none))) :
    wpAny (model X.prog X.w) X.A (call (.ref C) us) (EP X pins σ Q) X.xe s := by
  obtain ⟨B, newId, initId, bmB, FB, ⟨nm, q, N, bs, bm, sn, sub, ab, col, dd, k0, k1, k2, k3, k5, hC, hT⟩, hi⟩ := T.no
  obtain ⟨hp, g, dr, tk, os⟩ := s
  refine PySem.W.call_B FB hT (I.kIn _ _ hC) (PySem.W.looks_findIn I.kIn hi) hus fun h' k he ht => ?_
  have hn : H (hp.objs.size + 1) = none := I.hok.fresh (Nat.le_succ _)
  exact ⟨.ref (hp.objs.size + 1), _, I.laid (t' := tk) (a := hp.objs.size + 1) (o := exo (hp.objs.size + 1) C none) (h' := h') k (Nat.le_succ _) (exo_ok he), rfl, h _ hn⟩
/-- where such an exception stands -/
def XcAt (H : Hp) (a C : Addr) : Prop := ∃ d : Option Addr, H a = some (exo a C d) ∧ ∀ dx, d = some dx → ∃ fs, H dx = some (exd dx fs)
theorem XcAt.inst {a : Addr} (e : XcAt H a C) (I : Inv X pins σ H s) : ∃ o od, PySem.W.InstAt s.heap a o C od := by
  obtain ⟨d, e, ed⟩ := e
  obtain ⟨t1, ho⟩ := exo_at I.hok e
  cases d with
  | none => exact ⟨_, none, ho, rfl, rfl, trivial⟩
  | some dx =>
    obtain ⟨fs, ed⟩ := ed dx rfl
    obtain ⟨mA, hns, rel⟩ := exd_at I.hok ed
    obtain ⟨od, hod, hl⟩ := lookIn_ns hns
    exact ⟨_, some od, ho, rfl, rfl, hod⟩
/-- isinstance(x, c), x such an exception -/
def rIsX (K : PySem.W.Frag) : List V → Hp → VK → Prop := fun xs H Q => ∃ (a C : Addr) (c : V) (cv : Value) (b : Bool), xs = [.ref a, c] ∧ XcAt H a C ∧ L2.ExcC K C ∧ ClsV c cv ∧ PySem.W.kitOne K (.ref C) cv = some b ∧ Q (.bl b) H
def rIsXT (K : PySem.W.Frag) : List V → Hp → VK → Prop := fun xs H Q => ∃ (a C tp : Addr) (cs : List V) (us : List Value) (b : Bool), xs = [.ref a, .ref tp] ∧ H tp = some (.tup cs) ∧ Paired ClsV cs us ∧ XcAt H a C ∧ L2.ExcC K C ∧ PySem.W.kitAny K (.ref C) us = some b ∧ Q (.bl b) H
theorem kitX {K : PySem.W.Frag} {a : Addr} {o : Obj} {od : Option Obj} (T : L2.ExcC K C) : PySem.W.KitX K (.ref a) (.ref C) (fun h => PySem.W.InstAt h a o C od) :=
  PySem.W.kitx_exc (by
    obtain ⟨cd, hc, _⟩ := PySem.W.any_some T.hd
    rw [hc]; rfl) T.hg T.hk T.hs T.ha T.hn T.ht T.hm
theorem call_isX : CallR X (.builtin "isinstance") (rIsX X.K) := by
  intro pins s σ H xs us Q I r h
  obtain ⟨a, C, c, cv, b, rfl, at1, T, k, e, q⟩ := h
  obtain ⟨u1, u2, rfl, r1, r2⟩ := vals2 r
  cases (show u1 = Value.ref a from r1)
  have e2 := k.eq r2
  subst e2
  obtain ⟨o, od, J⟩ := at1.inst I
  exact PySem.W.kia_one (kitX T) I.kIn J e (fun z => nomatch z) fun tk => ⟨.bl b, H, I.tok tk, rfl, q⟩
theorem call_isXT : CallR X (.builtin "isinstance") (rIsXT X.K) := by
  intro pins s σ H xs us Q I r h
  obtain ⟨a, C, tp, cs, ws, b, rfl, hT, k, at1, T, e, q⟩ := h
  obtain ⟨u1, u2, rfl, r1, r2⟩ := vals2 r
  cases (show u1 = Value.ref a from r1)
  cases (show u2 = Value.ref tp from r2)
  obtain ⟨o, od, J⟩ := at1.inst I
  obtain ⟨_, its, rv, o2, h1, h2, n, h3⟩ := (show ObjOk X.prog X.w H s.heap tp (.tup cs) from I.hok tp _ hT)
  have e3 := ClsV.all k rv
  subst e3
  obtain ⟨oc, od2, dt, sl⟩ := o2
  simp only at h2 h3
  subst h2 h3
  exact PySem.W.kia_tup (kitX T) I.kIn J h1 e (fun z => nomatch z) fun tk => ⟨.bl b, H, I.tok tk, rfl, q⟩
end

/-! ### over trees -/
section
variable {X : Cx} {W : Wd} {ρ : Rho} {g : G} {Q : QE} {pos p p' pos' apos : Pos} {e o value : Expr} {es : List Expr} {x f : Str} {k n c : Nat} {fI : Addr} {fd : FuncData} {ps : List Str} {S : SpD}
/-- the new exception stands -/
theorem xc_new {H : Hp} {a : Addr} (k1 : GOk W H g) (ha : H a = none) : GOk W (upd H a (exo a (W.cl c) none)) (gset g a (.exc c [])) :=
  k1.newOb (m := .exc c []) ha ⟨none, [], upd_same, rfl, rfl⟩
/-- C(e) -/
theorem we_xc (hK : X.K = W.K) (T : XcC W.K (W.cl c)) (Ti : XcI W.K (W.cl c) fI) (F : FnOk X.prog X.w X.K X.mg X.base CX0 k fI fd ps (liftSp W n S)) (hr : Room (k + 1) X.A) (hg : Gl X x) (hm : X.mg x = some (.ref (W.cl c))) (hb : Binds X.K fd ps []) (hps : ps.length = n) (hn : n ≤ 1000)
    (h : WA X W (e :: es) ρ g fun svs g1 => svs.length + 1 = n ∧ ∀ a, g1 a = none → S (.ob a :: svs) (gset g1 a (.exc c [])) fun r g2 => r = .d .non ∧ Q (.ob a) g2) (hdb : (x == ("__debug__" : Str)) = false := by decide)
    (he : starEach (e :: es) X.env = (false, eval e X.env) :: starEach es X.env := by rfl) (hpl : (backTo pos (starEach es X.env)).any (·.1) = false := by rfl) : WE X W (.Call (.Name x p) (e :: es) [] pos) ρ g Q := fun σ H S' Q' q' => by
  intro pins s I
  refine wpAny_Call_Name_kw (ld_glob I hg hm ?_ hdb)
  have kC := T.kC
  rw [← hK] at kC
  refine PySem.W.callWith_K (h₀ := X.base) I.ok.mod.kin kC (thn (pa_s.run pos pins s σ H (fun vs H1 => PostA W g H (fun svs g1 => svs.length + 1 = n ∧ ∀ a, g1 a = none → S (.ob a :: svs) (gset g1 a (.exc c [])) fun r g2 => r = .d .non ∧ Q (.ob a) g2) vs H1) I (h σ H S' _ fun vs H1 z => z)) fun us s1 hh => ?_) he hpl
  obtain ⟨vs, H1, I1, r1, svs, g1, k1, e1, rr, hl, q⟩ := hh
  refine ⟨I1.kIn, ?_⟩
  have hlv : us.length + 1 = n := by rw [← r1.length, ← rr.length]; exact hl
  refine run_xc (ws := us) (vs := vs) (by rw [hK]; exact T) (by rw [hK]; exact Ti) F hr I1 (by rw [sizeLine_eq]; show us.length ≤ _; omega) (fun a s' ks => ?_) r1 fun a ha => ?_
  · have z := hb s' (.ref a :: us) ks (by rw [List.append_nil, List.length_cons, hps]; exact hlv)
    rw [List.append_nil] at z
    exact z
  · have k2 : GOk W (upd H1 a (exo a (W.cl c) none)) (gset g1 a (.exc c [])) := xc_new k1 ha
    have e2 : Ext g1 H1 (gset g1 a (.exc c [])) (upd H1 a (exo a (W.cl c) none)) := Ext.newOb ha
    refine ⟨by rw [List.length_cons, ← rr.length]; exact hl, .ob a :: svs, _, _, ⟨.ref a, vs, rfl, rfl, rr.ext e2⟩, k2, q a (k1.free ha), fun v H' ⟨r, g', k4, e4, r4, hr4, q4⟩ => ?_⟩
    subst hr4
    exact ⟨r4, q' _ _ ⟨.ob a, g', k4, (e1.trans e2).trans e4, rfl, q4⟩⟩
/-- C(k = e) -/
theorem we_xck {nm : Str} {kpos : Pos} (hK : X.K = W.K) (T : XcC W.K (W.cl c)) (Ti : XcI W.K (W.cl c) fI) (F : FnOk X.prog X.w X.K X.mg X.base CX0 k fI fd ps (liftSp W 2 S)) (hr : Room (k + 1) X.A) (hg : Gl X x) (hm : X.mg x = some (.ref (W.cl c)))
    (hb : ∀ (s : Shared) (u w : Value), X.K.In s.heap → BindsTo s fd ⟨[u], [(nm, w)]⟩ (ps.zip [u, w]))
    (h : WE X W e ρ g fun sv g1 => ∀ a, g1 a = none → S [.ob a, sv] (gset g1 a (.exc c [])) fun r g2 => r = .d .non ∧ Q (.ob a) g2) (hdb : (x == ("__debug__" : Str)) = false := by decide) :
    WE X W (.Call (.Name x p) [] [⟨some nm, e, kpos⟩] pos) ρ g Q := fun σ H S' Q' q' => by
  intro pins s I
  refine wpAny_Call_Name_kw (ld_glob I hg hm ?_ hdb)
  have kC := T.kC
  rw [← hK] at kC
  have hkw : PK X [⟨some nm, e, kpos⟩] (tCons (tS X e) tNil) := pk_cons pe_s pk_nil
  refine PySem.W.callWith_KW0 (h₀ := X.base) I.ok.mod.kin kC rfl (thn (hkw.run pos pins s σ H (fun vs H1 => ∃ v, vs = [v] ∧ PostE W g H (fun sv g1 => ∀ a, g1 a = none → S [.ob a, sv] (gset g1 a (.exc c [])) fun r g2 => r = .d .non ∧ Q (.ob a) g2) v H1) I (h σ H S' _ fun v H1 z => ⟨v, rfl, z⟩)) fun us s1 hh => ?_) rfl
  obtain ⟨vs, H1, I1, r1, v, rfl, sv, g1, k1, e1, rr, q⟩ := hh
  obtain ⟨u, rfl, ru⟩ := vals1 r1
  refine ⟨I1.kIn, ?_⟩
  show wpAny _ _ (call _ [] [(nm, u)]) _ _ _
  refine run_xc (ws := [u]) (vs := [v]) (by rw [hK]; exact T) (by rw [hK]; exact Ti) F hr I1 (by rw [sizeLine_eq]; show 0 ≤ _; omega) (fun a s' ks => hb s' (.ref a) u ks) (.cons ru .nil) fun a ha => ?_
  have k2 : GOk W (upd H1 a (exo a (W.cl c) none)) (gset g1 a (.exc c [])) := xc_new k1 ha
  have e2 : Ext g1 H1 (gset g1 a (.exc c [])) (upd H1 a (exo a (W.cl c) none)) := Ext.newOb ha
  refine ⟨rfl, [.ob a, sv], _, _, ⟨.ref a, [v], rfl, rfl, v, [], rfl, rr.ext e2, rfl⟩, k2, q a (k1.free ha), fun v' H' ⟨r, g', k4, e4, r4, hr4, q4⟩ => ?_⟩
  subst hr4
  exact ⟨r4, q' _ _ ⟨.ob a, g', k4, (e1.trans e2).trans e4, rfl, q4⟩⟩
/-- C(), C without an __init__ of its own -/
theorem we_xn (hK : X.K = W.K) (kC : PySem.W.keepIn W.K (.ref (W.cl c)) = true) (T : XcN W.K (W.cl c)) (hg : Gl X x) (hm : X.mg x = some (.ref (W.cl c))) (q : ∀ a, g a = none → Q (.ob a) (gset g a (.exc c []))) (hdb : (x == ("__debug__" : Str)) = false := by decide) :
    WE X W (.Call (.Name x p) [] [] pos) ρ g Q := fun σ H S' Q' q' => by
  intro pins s I
  refine wpAny_Call_Name_kw (ld_glob I hg hm ?_ hdb)
  rw [← hK] at kC T
  refine PySem.W.callWith_K0 I.kIn kC ?_
  refine run_xn (us := []) T I (by rw [sizeLine_eq]; show 0 ≤ _; omega) fun a ha => ?_
  exact q' _ _ ⟨.ob a, gset g a (.exc c []), xc_new S'.ok ha, Ext.newOb ha, rfl, q a (S'.ok.free ha)⟩
/-- self.f = e on a new exception -/
theorem w1_xst {P : P4} (hK : X.K = W.K) (T : XcC W.K (W.cl c)) (hno : PySem.W.findIn W.K (.ref (W.cl c)) f = some none) (h : WE X W value ρ g fun sv g1 => WE X W o ρ g1 fun ov g2 => ∃ a, ov = .ob a ∧ g2 a = some (.exc c []) ∧ P.nx ρ (gset g2 a (.exc c [(f, sv)])))
    (hs : swapsWith value (some (.Attribute o f pos')) pos.line X.env = pure false := by rfl) : W1 X W (.Assign [.Attribute o f pos'] value pos) ρ g P := fun σ H S D kd => by
  intro pins s I
  refine plainObj_wpAny_Assign_Attribute (thn ((pe_s (X := X) (e := value)).run pins s σ H (fun v H1 => PostE W g H (fun sv g1 => WE X W o ρ g1 fun ov g2 => ∃ a, ov = .ob a ∧ g2 a = some (.exc c []) ∧ P.nx ρ (gset g2 a (.exc c [(f, sv)]))) v H1) I (h σ H S _ fun v H1 z => z)) fun v s1 hh => ?_) hs
  obtain ⟨y, H1, I1, r1, sv, g1, k1, e1, rr, h1⟩ := hh
  refine thn ((pe_s (X := X) (e := o)).run pins s1 σ H1 (fun v H2 => PostE W g1 H1 (fun ov g2 => ∃ a, ov = .ob a ∧ g2 a = some (.exc c []) ∧ P.nx ρ (gset g2 a (.exc c [(f, sv)]))) v H2) I1 (h1 σ H1 (S.ext k1 e1) _ fun v H1 z => z)) fun u s2 hh => ?_
  obtain ⟨z, H2, I2, r2, ov, g2, k2, e2, rz, a, ho, ha, q⟩ := hh
  subst ho
  cases (show z = .ref a from rz)
  obtain rfl : u = Value.ref a := r2
  obtain ⟨d, vs, hx, rf, hd⟩ := k2 a _ ha
  have hvs : vs = [] := rf
  subst hvs
  cases d with
  | some dx => exact absurd rfl hd.2
  | none =>
    rw [← hK] at T hno
    refine xstore T I2 hx hno r1 fun dx s' n ne J => ⟨σ, _, J, kd.nx _ _ ?_⟩
    have nax : dx ≠ a := ne
    have gdx : g2 dx = none := k2.free n
    have e3 : Ext g2 H2 (gset g2 a (.exc c [(f, sv)])) (upd (upd H2 dx (exd dx [(f, y)])) a (exo a (W.cl c) (some dx))) := fun b u hb nb => by
      have z1 : b ≠ a := fun z => by rw [z, ha] at nb; cases nb
      have z2 : b ≠ dx := fun z => by rw [z, n] at hb; cases hb
      exact ⟨by rw [upd_ne z1, upd_ne z2]; exact hb, by rw [gset_ne z1]; exact nb⟩
    have rsv : RepS W (upd (upd H2 dx (exd dx [(f, y)])) a (exo a (W.cl c) (some dx))) (gset g2 a (.exc c [(f, sv)])) sv y := (rr.ext e2).ext e3
    have k3 : GOk W (upd (upd H2 dx (exd dx [(f, y)])) a (exo a (W.cl c) (some dx))) (gset g2 a (.exc c [(f, sv)])) := fun b m hb => by
      by_cases z : b = a
      · subst z
        rw [gset_same] at hb; cases hb
        exact ⟨some dx, [(f, y)], upd_same, ⟨y, [], rfl, rsv, rfl⟩, ⟨by rw [upd_ne nax, upd_same], by rw [gset_ne nax]; exact gdx⟩, by intro z; cases z⟩
      · rw [gset_ne z] at hb
        have z2 : b ≠ dx := fun z => by rw [z, gdx] at hb; cases hb
        exact (k2 b m hb).ext e3 (by rw [upd_ne z, upd_ne z2])
    exact ⟨ρ, _, S.ext k3 ((e1.trans e2).trans e3), (e1.trans e2).trans e3, q⟩
/-- e.f of an exception -/
theorem we_xf (hK : X.K = W.K) (T : XcC W.K (W.cl c)) (hno : PySem.W.findIn W.K (.ref (W.cl c)) f = some none) (h : WE X W e ρ g fun sv g1 => ∃ a fs r, sv = .ob a ∧ g1 a = some (.exc c fs) ∧ fs.lookup f = some r ∧ Q r g1) (hb : attributeBase e f X.env (eval e X.env) = eval e X.env := by rfl) :
    WE X W (.Attribute e f pos) ρ g Q := fun σ H S Q' q' => by
  intro pins s I
  refine attr_of hb (thn ((pe_s (X := X) (e := e)).run pins s σ H (fun v H1 => PostE W g H (fun sv g1 => ∃ a fs r, sv = .ob a ∧ g1 a = some (.exc c fs) ∧ fs.lookup f = some r ∧ Q r g1) v H1) I (h σ H S _ fun v H1 z => z)) fun u s1 hh => ?_)
  obtain ⟨v, H1, I1, r1, sv, g1, k1, e1, rr, a, fs, r, hs, ha, hl, q⟩ := hh
  subst hs
  cases (show v = .ref a from rr)
  obtain rfl : u = Value.ref a := r1
  obtain ⟨d, vs, hx, rf, hd⟩ := k1 a _ ha
  obtain ⟨z, hz, rz⟩ := RepSf.look rf hl
  cases d with
  | none =>
    subst hd
    cases hl
  | some dx =>
    rw [← hK] at T hno
    exact xread T I1 hx hd.1.1 hno hz (q' _ _ ⟨r, g1, k1, e1, rz, q⟩)
theorem xc_at {H : Hp} {a : Addr} {fs : List (Str × SV)} (k : GOk W H g) (h : g a = some (.exc c fs)) : XcAt H a (W.cl c) := by
  obtain ⟨d, vs, hx, rf, hd⟩ := k a _ h
  refine ⟨d, hx, fun dx e => ?_⟩
  subst e
  exact ⟨vs, hd.1.1⟩
/-- isinstance(e, C): C an own class, or a built-in one -/
theorem we_isX {e2 : Expr} {v2 : V} {cv : Value} (hK : X.K = W.K) (hm : X.mg "isinstance" = none) (h2 : PE X e2 (tC v2)) (kv : ClsV v2 cv)
    (h : WE X W e ρ g fun sv g1 => ∃ a c fs b, sv = .ob a ∧ g1 a = some (.exc c fs) ∧ L2.ExcC W.K (W.cl c) ∧ PySem.W.kitOne W.K (.ref (W.cl c)) cv = some b ∧ Q (.d (.bl b)) g1) (hg : Gl X "isinstance" := by rfl)
    (he : starEach [e, e2] X.env = (false, eval e X.env) :: starEach [e2] X.env := by rfl) (he2 : starEach [e2] X.env = (false, eval e2 X.env) :: starEach [] X.env := by rfl) (hpl : (backTo pos (starEach [e2] X.env)).any (·.1) = false := by rfl) :
    WE X W (.Call (.Name "isinstance" p) [e, e2] [] pos) ρ g Q := fun σ H S Q' q' => by
  refine ts_of (pe_callB call_isX hg hm PyProof.Rows.boot_isinstance (pa_cons pe_s (pa_cons h2 pa_nil he2) he) (by decide) (by decide) he hpl) ?_
  refine h σ H S _ fun v H1 ⟨sv, g1, k1, e1, r1, a, c, fs, b, hs, ha, T, hk, q⟩ => ?_
  subst hs
  cases (show v = .ref a from r1)
  rw [hK]
  exact ⟨a, W.cl c, v2, cv, b, rfl, xc_at k1 ha, T, kv, hk, q' _ _ ⟨.d (.bl b), g1, k1, e1, rfl, q⟩⟩
/-- isinstance(e, (C1, C2)) -/
theorem we_isX2 {e2 e3 : Expr} {v2 v3 : V} {cv dv : Value} {pt : Pos} {kt} (hK : X.K = W.K) (hm : X.mg "isinstance" = none) (h2 : PE X e2 (tC v2)) (h3 : PE X e3 (tC v3)) (kv : ClsV v2 cv) (kv3 : ClsV v3 dv)
    (h : WE X W e ρ g fun sv g1 => ∃ a c fs b, sv = .ob a ∧ g1 a = some (.exc c fs) ∧ L2.ExcC W.K (W.cl c) ∧ PySem.W.kitAny W.K (.ref (W.cl c)) [cv, dv] = some b ∧ Q (.d (.bl b)) g1) (hg : Gl X "isinstance" := by rfl)
    (he : starEach [e, .Tuple [e2, e3] kt pt] X.env = (false, eval e X.env) :: starEach [.Tuple [e2, e3] kt pt] X.env := by rfl) (he2 : starEach [.Tuple [e2, e3] kt pt] X.env = (false, eval (.Tuple [e2, e3] kt pt) X.env) :: starEach [] X.env := by rfl)
    (he3 : starEach [e2, e3] X.env = (false, eval e2 X.env) :: starEach [e3] X.env := by rfl) (he4 : starEach [e3] X.env = (false, eval e3 X.env) :: starEach [] X.env := by rfl)
    (hpl : (backTo pos (starEach [.Tuple [e2, e3] kt pt] X.env)).any (·.1) = false := by rfl) :
    WE X W (.Call (.Name "isinstance" p) [e, .Tuple [e2, e3] kt pt] [] pos) ρ g Q := fun σ H S Q' q' => by
  refine ts_of (pe_callB call_isXT hg hm PyProof.Rows.boot_isinstance (pa_cons pe_s (pa_cons (pe_tup (pa_cons h2 (pa_cons h3 pa_nil he4) he3)) pa_nil he2) he) (by decide) (by decide) he hpl) ?_
  refine h σ H S _ fun v H1 ⟨sv, g1, k1, e1, r1, a, c, fs, b, hs, ha, T, hk, q⟩ => ?_
  subst hs
  cases (show v = .ref a from r1)
  rw [hK]
  refine ⟨by rw [sizeLine_eq]; show 2 ≤ _; omega, fun tp htp => ?_⟩
  have e2 : Ext g1 H1 g1 (upd H1 tp (.tup [v2, v3])) := Ext.new htp
  have k2 : GOk W (upd H1 tp (.tup [v2, v3])) g1 := k1.new htp
  exact ⟨a, W.cl c, tp, [v2, v3], [cv, dv], b, rfl, upd_same, .cons kv (.cons kv3 .nil), xc_at k2 ha, T, hk, q' _ _ ⟨.d (.bl b), g1, k2, e1.trans e2, rfl, q⟩⟩
end
end DL

namespace DL
open PySem PySem.Spec PyProof.Rows L2

/-! ### data behind things that may change -/
def PyR (g : G) : Nat → SV → PyData → Prop
  | 0, sv, p => ∃ x, sv = .d x ∧ toPy x = some p
  | n + 1, sv, p => (∃ x, sv = .d x ∧ toPy x = some p) ∨ ∃ a l ps, sv = .ob a ∧ g a = some (.lst l) ∧ Paired (PyR g n) l ps ∧ p = .list ps
section
variable {W : Wd} {g : G} {Q : QE}
theorem PyR.dp {H : Hp} (k : GOk W H g) : ∀ (n : Nat) {sv : SV} {v : V} {p : PyData}, PyR g n sv p → RepS W H g sv v → Dp W.K H v p
  | 0, _, v, p, ⟨x, rfl, h⟩, r => dp_of x v p r h
  | n + 1, _, v, p, .inl ⟨x, rfl, h⟩, r => dp_of x v p r h
  | n + 1, _, v, p, .inr ⟨a, l, ps, rfl, ha, hl, hp⟩, r => by
    subst hp
    obtain ⟨xs, hx, rx⟩ := k a _ ha
    cases (show v = _ from r)
    refine .lst (.inl (.inl hx)) ?_
    have all : ∀ {l : List SV} {ps : List PyData} {xs : List V}, Paired (PyR g n) l ps → RepSs W H g l xs → DpAll W.K H xs ps := by
      intro l ps xs h
      induction h generalizing xs with
      | nil => intro r; cases (show xs = [] from r); exact .nil
      | cons h1 _ ih =>
        intro r
        obtain ⟨y, ys, rfl, r1, r2⟩ := r
        exact .cons (PyR.dp k n h1 r1) (ih r2)
    exact all hl rx
theorem rc_reprR {sv : SV} {p : PyData} (n : Nat) (h : PyR g n sv p) (hk : match p with | .list _ => True | .tuple _ => True | _ => False) (h1 : p.showable = true) (h2 : p.hasDict = false) (h3 : p.depth ≤ 60) (h4 : p.shown.length ≤ sizeLine) (q : Q (.d (.str p.shown)) g) : RC W (rRepr W.K) [sv] g Q := fun H vs k rs Q' q' => by
  obtain ⟨v, r, rfl, r1, hr⟩ := rs
  cases (show r = [] from hr)
  have hd := PyR.dp k n h r1
  have : ∃ a, v = .ref a := by
    cases hd with
    | lst _ _ => exact ⟨_, rfl⟩
    | tup _ _ => exact ⟨_, rfl⟩
    | _ => exact False.elim hk
  obtain ⟨a, rfl⟩ := this
  exact ⟨a, p, rfl, hd, h1, h2, h3, h4, q' _ _ (post_same (r := .d (.str p.shown)) k rfl q)⟩
/-- two lists that may change -/
theorem rw_cat {a b : Addr} {l m : List SV} (ha : g a = some (.lst l)) (hb : g b = some (.lst m)) (hl : l.length + m.length ≤ 100000) (q : ∀ p, g p = none → Q (.ob p) (gset g p (.lst (l ++ m)))) : RW W rCat (.ob a) (.ob b) g Q := fun H vx vy k rx ry Q' q' => by
  obtain ⟨xs, hx, r1⟩ := k a _ ha
  obtain ⟨ys, hy, r2⟩ := k b _ hb
  refine ⟨a, b, xs, ys, rx, ry, hx, hy, by rw [← r1.length, ← r2.length, sizeLine_eq]; omega, fun p hp => q' _ _ (post_ob k hp (r1.append r2) (q p (k.free hp)))⟩
end
theorem reps_obs {W : Wd} {H : Hp} {g : G} : ∀ {as : List Addr} {xs : List V}, RepSs W H g (as.map SV.ob) xs → xs = as.map V.ref
  | [], _, h => h
  | a :: as, _, h => by
    obtain ⟨x, r, rfl, h1, h2⟩ := h
    cases (show x = .ref a from h1)
    rw [reps_obs h2]; rfl
section
variable {X : Cx} {W : Wd} {ρ : Rho} {g : G} {Q : QE} {pos p : Pos} {elt tg iter : Expr} {ifs : List Expr} {scope : Scope} {own : List (Str × Nat)} {t : TG} {body : List Stmt} {P : P4}
/-- for over a list of things -/
theorem w1_forO (hp : PassesOwn (model X.prog X.w) X.A X.env X.xe) (hc : X.calm = true) (hK : X.K = W.K) (hg : PG X tg t) (I : Addr → List Addr → Nat → Rho → G → Prop)
    (h : WE X W iter ρ g fun sv g1 => ∃ p as, sv = .ob p ∧ I p as 0 ρ g1 ∧ (∀ i ρ' g', I p as i ρ' g' → g' p = some (.lst (as.map SV.ob))) ∧
      (∀ i x ρ' g', as[i]? = some x → I p as i ρ' g' → WG W t (.ob x) ρ' g' fun ρ2 g2 => WS X W body ρ2 g2 { nx := I p as (i + 1), rt := P.rt, bk := P.nx, ct := I p as (i + 1) }) ∧ (∀ ρ' g', I p as as.length ρ' g' → P.nx ρ' g'))
    (hs : ∀ x, foldedSetIterable iter X.env x = pure x := by intro _; rfl) : W1 X W (.For tg iter body [] pos) ρ g P := fun σ H S D k => by
  refine t1_of (ps_for hp hc (pi_list pe_s) hg pss_s hs) ?_
  refine h σ H S _ fun v H1 ⟨sv, g1, k1, e1, r1, pl, as, hl, i0, stays, turn, done⟩ => ?_
  subst hl
  cases (show v = .ref pl from r1)
  rw [hK]
  have sq : ∀ {H' : Hp} {g' : G}, GOk W H' g' → g' pl = some (.lst (as.map SV.ob)) → SqL W.K H' pl (as.map V.ref) := fun {H' g'} kk e => by
    obtain ⟨ys, hy, ry⟩ := kk pl _ e
    rw [reps_obs ry] at hy
    exact .inl (.inl hy)
  refine ⟨pl, rfl, ⟨as.map V.ref, sq k1 (stays 0 _ _ i0)⟩, for_list (xs := as.map V.ref) (fun i σ' H' => PostS W g1 H1 (I pl as i) σ' H') ⟨ρ, g1, S.ext k1 e1, Ext.refl _ _, i0⟩ (fun i σ' H' _ ⟨ρ', g', S', e', ii⟩ => sq S'.ok (stays i _ _ ii)) (fun i x σ' H' hx ⟨ρ', g', S', e', ii⟩ => ?_) fun σ' H' ⟨ρ', g', S', e', ii⟩ => ?_⟩
  · rw [List.getElem?_map] at hx
    obtain ⟨a, ha, rfl⟩ : ∃ a, as[i]? = some a ∧ x = V.ref a := by
      cases e : as[i]? with
      | none => rw [e] at hx; cases hx
      | some a => rw [e] at hx; exact ⟨a, rfl, (Option.some.inj hx).symm⟩
    exact turn i a ρ' g' ha ii σ' H' _ S' rfl _ fun σ2 H2 ⟨ρ2, g2, S2, e2, q⟩ => q σ2 H2 S2 _ ⟨fun σ3 H3 z => z.back (e'.trans e2), fun v3 H3 z => k.rt v3 H3 (z.back ((e1.trans e').trans e2)), fun σ3 H3 z => k.nx _ _ (z.back ((e1.trans e').trans e2)), fun σ3 H3 z => z.back (e'.trans e2)⟩
  · exact k.nx _ _ ⟨ρ', g', S', e1.trans e', done ρ' g' (by rw [List.length_map] at ii; exact ii)⟩
/-- one turn's wish, over things -/
def LcTurnO (X : Cx) (W : Wd) (scope : Scope) (ifs : List Expr) (elt : Expr) (ρ : Rho) (vs : List Nat) (j : Nat) (x : SV) (ys : List D) (g' : G) (N : List D → G → Prop) : Prop :=
  ∀ L : Addr, g' L = none → WTs X W scope ifs ((wipeD ρ vs).set j (some x)) (gset g' L (.lst (ys.map SV.d))) fun b g2 =>
    if b = true then Blk X scope fun Y => WE Y W elt ((wipeD ρ vs).set j (some x)) g2 fun r g3 => ∃ y g4, r = .d y ∧ g4 L = none ∧ g3 = gset g4 L (.lst (ys.map SV.d)) ∧ N (ys ++ [y]) g4
    else ∃ g4, g4 L = none ∧ g2 = gset g4 L (.lst (ys.map SV.d)) ∧ N ys g4
theorem lc_turnO {g1 : G} {H1 H' : Hp} {L : Addr} {I : Nat → List D → G → Prop} {i j n : Nat} {vs : List Nat} {σ : L2.St} {x : SV} {vx : V} (S1 : Sim W ρ g1 σ H1) (hj : j ∈ vs) (hi : i < n) (hn : n ≤ 1000000) (p : LcP W g1 H1 L I i H')
    (rx : ∀ g' H', Ext g1 H1 g' H' → RepS W H' g' x vx) (turn : ∀ ys g', I i ys g' → LcTurnO X W scope ifs elt ρ vs j x ys g' (I (i + 1))) :
    gName j vx (L2.wipe σ vs) H' fun σ2 H2 => L2.wipe σ2 vs = L2.wipe σ vs ∧ tTs X scope ifs σ2 H2 fun b H3 =>
      if b = true then tEl X scope elt σ2 H3 fun y H4 => ∃ acc, H4 L = some (.lst acc) ∧ acc.length < sizeLine ∧ LcP W g1 H1 L I (i + 1) (upd H4 L (.lst (acc ++ [y]))) else LcP W g1 H1 L I (i + 1) H3 := by
  obtain ⟨ys, g', hy, hD, kk, ex, ii⟩ := p
  have hs : sizeLine = 16777216 := sizeLine_eq
  refine ⟨wipe_set hj, ?_⟩
  have S2 : Sim W ((wipeD ρ vs).set j (some x)) (gset g' L (.lst (ys.map SV.d))) ((L2.wipe σ vs).set j (some vx)) H' := ((S1.ext kk ex).wipe vs).set (sv := x) j (rx _ _ ex)
  refine (turn ys g' ii L hD).run S2 fun b H3 ⟨g2, k2, e2, q⟩ => ?_
  cases b with
  | true =>
    rw [if_pos rfl] at q ⊢
    intro s Hs C cl fp
    refine q s Hs C cl fp _ H3 (S2.ext k2 e2) _ fun v H4 ⟨r, g3, k3, e3, r3, y, g4, hr, hD4, hg3, ii'⟩ => ?_
    subst hr hg3
    obtain ⟨acc, ha, ra⟩ := k3 L _ gset_same
    have hl := ra.length
    rw [List.length_map] at hl
    have e4 : Ext (gset g4 L (.lst (ys.map SV.d))) H4 (gset (gset g4 L (.lst (ys.map SV.d))) L (.lst ((ys ++ [y]).map SV.d))) (upd H4 L (.lst (acc ++ [v]))) := Ext.mut gset_same
    have k4 : GOk W (upd H4 L (.lst (acc ++ [v]))) (gset (gset g4 L (.lst (ys.map SV.d))) L (.lst ((ys ++ [y]).map SV.d))) := k3.mut (m' := .lst ((ys ++ [y]).map SV.d)) gset_same ⟨_, upd_same, by
      have z := (ra.append (show RepSs W H4 (gset g4 L (.lst (ys.map SV.d))) ([y].map SV.d) [v] from ⟨v, [], rfl, r3, rfl⟩)).ext e4
      have em : ys.map SV.d ++ [y].map SV.d = (ys ++ [y]).map SV.d := (List.map_append).symm
      rw [em] at z
      exact z⟩
    refine ⟨acc, ha, by rw [← hl]; omega, ys ++ [y], g4, by rw [List.length_append]; show ys.length + 1 ≤ i + 1; omega, hD4, ?_, ?_, ii'⟩
    · rw [gset_gset] at k4; exact k4
    · rw [gset_gset] at e4; exact ((ex.trans e2).trans e3).trans e4
  | false =>
    rw [if_neg (by decide)] at q ⊢
    obtain ⟨g4, hD4, hg2, ii'⟩ := q
    subst hg2
    exact ⟨ys, g4, by omega, hD4, k2, ex.trans e2, ii'⟩
/-- a comprehension over a list of things -/
theorem we_lcO {j : Nat} (I : Addr → List Addr → Nat → List D → G → Prop) (hc : X.calm = true) (hN : X.N.Nodup) (hK : X.K = W.K) (ok : BlkOk X.N X.env.scope scope own) (hg : Blk X scope fun Y => PG Y tg (gName j)) (hj : j ∈ own.map (·.2))
    (h : WE X W iter ρ g fun sv g1 => ∃ p as, sv = .ob p ∧ as.length ≤ 1000000 ∧ I p as 0 [] g1 ∧ (∀ i ys g', I p as i ys g' → g' p = some (.lst (as.map SV.ob))) ∧
      (∀ i x ys g', as[i]? = some x → I p as i ys g' → LcTurnO X W scope ifs elt ρ (own.map (·.2)) j (.ob x) ys g' (I p as (i + 1))) ∧ ∀ ys g', ys.length ≤ as.length → I p as as.length ys g' → Q (.d (.lst ys)) g')
    (hs : ∀ x, foldedSetIterable iter X.env x = pure x := by intro _; rfl) : WE X W (.ListComp elt [⟨tg, iter, ifs, 0⟩] scope pos) ρ g Q := fun σ H S Q' q' => by
  refine ts_of (pe_lc hc hN (pi_list pe_s) ok hg pts_s pe_el hs) ?_
  refine h σ H S _ fun v H1 ⟨sv, g1, k1, e1, r1, pl, as, hl, hn, i0, stays, turn, done⟩ => ?_
  subst hl
  cases (show v = .ref pl from r1)
  rw [hK]
  have sq : ∀ {H' : Hp} {g' : G}, GOk W H' g' → g' pl = some (.lst (as.map SV.ob)) → SqL W.K H' pl (as.map V.ref) := fun {H' g'} kk e => by
    obtain ⟨ys, hy, ry⟩ := kk pl _ e
    rw [reps_obs ry] at hy
    exact .inl (.inl hy)
  refine ⟨pl, rfl, ⟨as.map V.ref, sq k1 (stays 0 _ _ i0)⟩, fun L hL => lc_list (xs := as.map V.ref) (LcP W g1 H1 L (I pl as)) (lcp_zero k1 hL i0) (fun i H' _ ⟨ys, g', hy, hL', kk, ex, ii⟩ => ?_) (fun i x H' hx p => ?_) fun H' p => ?_⟩
  · have e := stays i ys g' ii
    refine sq kk ?_
    rw [gset_ne (fun z => by rw [z, hL'] at e; cases e)]
    exact e
  · rw [List.getElem?_map] at hx
    obtain ⟨a, ha, rfl⟩ : ∃ a, as[i]? = some a ∧ x = V.ref a := by
      cases e : as[i]? with
      | none => rw [e] at hx; cases hx
      | some a => rw [e] at hx; exact ⟨a, rfl, (Option.some.inj hx).symm⟩
    have hi : i < as.length := (List.getElem?_eq_some_iff.mp ha).1
    exact lc_turnO (x := .ob a) (S.ext k1 e1) hj hi hn p (fun g' H' ex => (rfl : V.ref a = V.ref a)) fun ys g' ii => turn i a ys g' ha ii
  · rw [List.length_map] at p
    exact q' _ _ ((lc_done p done).back e1)
end
end DL

namespace DL
open PySem PySem.Spec PyProof.Rows L2
/-! ### how long a repr is -/
def tsum : List Str → Nat
  | [] => 0
  | t :: r => t.length + 2 + tsum r
theorem sep_len : (Str.ofString ", ").length = 2 := by decide
theorem from_len : ∀ (ts : List Str) (k : Nat) (acc : Str), 0 < k → (textFrom k acc ts).length = acc.length + tsum ts
  | [], k, acc, h => rfl
  | t :: r, k, acc, h => by
    show (textFrom (k + 1) (acc ++ (if k > 0 then ", " else "" : String) ++ t) r).length = _
    rw [from_len r (k + 1) _ (Nat.succ_pos _), if_pos h]
    have e : (acc ++ Str.ofString ", " ++ t).length = acc.length + 2 + t.length := by
      rw [Str.length_append, Str.length_append, sep_len]
    show (acc ++ Str.ofString ", " ++ t).length + tsum r = acc.length + (t.length + 2 + tsum r)
    rw [e]; omega
theorem list_len (ts : List Str) : (listText ts).length = if ts = [] then 2 else tsum ts := by
  have e1 : (Str.ofString "[").length = 1 := by decide
  have e2 : (Str.ofString "]").length = 1 := by decide
  have e0 : (Str.ofString "").length = 0 := by decide
  cases ts with
  | nil => decide
  | cons t r =>
    rw [if_neg (by simp)]
    show (textFrom 1 (Str.ofString "[" ++ Str.ofString "" ++ t) r ++ Str.ofString "]").length = t.length + 2 + tsum r
    rw [Str.length_append, from_len r 1 _ (by decide), Str.length_append, Str.length_append, e0, e1, e2]
    omega
theorem piled_sum : ∀ ts : List Str, piled ts = tsum ts
  | [] => by simp [piled, tsum]
  | t :: r => by
    have ih := piled_sum r
    simp only [tsum]
    simp [piled] at ih ⊢
    omega
theorem tuple_len (ts : List Str) : (tupleText ts).length ≤ tsum ts + 3 := by
  have e1 : (Str.ofString "(").length = 1 := by decide
  have e2 : (Str.ofString ")").length = 1 := by decide
  have e3 : (Str.ofString ",)").length = 2 := by decide
  cases ts with
  | nil => decide
  | cons t r =>
    have h := join_length_add (t :: r) (by simp)
    rw [piled_sum] at h
    unfold tupleText
    rw [Str.length_append, Str.length_append]
    have e4 : (if (t :: r).length == 1 then ",)" else ")" : String).length ≤ 2 := by split <;> decide
    have e5 : ((if (t :: r).length == 1 then ",)" else ")" : String) : Str).length ≤ 2 := by split <;> decide
    have e6 : (("(" : String) : Str).length = 1 := by decide
    omega
section
variable {W : Wd} {g : G} {Q : QE}
theorem rc_tupleL {l : List D} (q : Q (.d (.tup l)) g) : RC W (fun xs H Q => ∃ p ys, xs = [.ref p] ∧ ((SqL W.K H p ys ∧ ∀ l, H l = none → Q (.ref l) (upd H l (.tup ys))) ∨ (SqT W.K H p ys ∧ Q (.ref p) H))) [.d (.lst l)] g Q := fun H vs k rs Q' q' => by
  obtain ⟨v, r, rfl, r1, hr⟩ := rs
  cases (show r = [] from hr)
  obtain ⟨a, xs, rfl, h1, h2⟩ := r1
  exact ⟨a, xs, rfl, .inl ⟨h1.sq, fun p hp => q' _ _ (post_tup k hp h2 q)⟩⟩
end
/-! ### values that are shown -/
def LB : Nat → Nat
  | 0 => 40
  | n + 1 => 3 * (LB n + 2) + 3
def POk (n : Nat) (p : PyData) : Prop := p.showable = true ∧ p.hasDict = false ∧ p.depth ≤ n ∧ p.shown.length ≤ LB n
def VOk (n : Nat) (d : D) : Prop := ∃ p, toPy d = some p ∧ POk n p
theorem VOk.mono {n : Nat} {d : D} (h : VOk n d) : VOk (n + 1) d := by
  obtain ⟨p, h0, h1, h2, h3, h4⟩ := h
  exact ⟨p, h0, h1, h2, Nat.le_succ_of_le h3, Nat.le_trans h4 (by show LB n ≤ 3 * (LB n + 2) + 3; omega)⟩
theorem VOk.le {n m : Nat} {d : D} (h : VOk n d) (le : n ≤ m) : VOk m d := by
  induction le with
  | refl => exact h
  | step _ ih => exact ih.mono
theorem allOk {n : Nat} : ∀ l : List D, (∀ d ∈ l, VOk n d) → ∃ ps, toPys l = some ps ∧ PyData.showableAll ps = true ∧ PyData.hasDictAll ps = false ∧ PyData.depthAll ps ≤ n ∧ tsum (PyData.shownAll ps) ≤ l.length * (LB n + 2) ∧ ps.length = l.length
  | [], _ => ⟨[], rfl, rfl, rfl, Nat.zero_le _, Nat.zero_le _, rfl⟩
  | d :: l, h => by
    obtain ⟨p, h0, h1, h2, h3, h4⟩ := h d List.mem_cons_self
    obtain ⟨ps, k0, k1, k2, k3, k4, k5⟩ := allOk l fun x hx => h x (List.mem_cons_of_mem _ hx)
    refine ⟨p :: ps, ?_, ?_, ?_, ?_, ?_, ?_⟩
    · show (match toPy d, toPys l with | some x, some xs => some (x :: xs) | _, _ => none) = _
      rw [h0, k0]
    · show (PyData.showable p && PyData.showableAll ps) = true
      rw [h1, k1]; rfl
    · show (PyData.hasDict p || PyData.hasDictAll ps) = false
      rw [h2, k2]; rfl
    · show max (PyData.depth p) (PyData.depthAll ps) ≤ n
      omega
    · show p.shown.length + 2 + tsum (PyData.shownAll ps) ≤ (l.length + 1) * (LB n + 2)
      rw [Nat.add_mul]; omega
    · show ps.length + 1 = l.length + 1
      rw [k5]
theorem VOk.lst {n : Nat} {l : List D} (h : ∀ d ∈ l, VOk n d) (hl : l.length ≤ 3) : VOk (n + 1) (.lst l) := by
  obtain ⟨ps, k0, k1, k2, k3, k4, k5⟩ := allOk l h
  refine ⟨.list ps, ?_, k1, k2, Nat.succ_le_succ k3, ?_⟩
  · simp only [toPy, k0]; rfl
  · show (listText (PyData.shownAll ps)).length ≤ _
    have hm : l.length * (LB n + 2) ≤ 3 * (LB n + 2) := Nat.mul_le_mul_right _ hl
    rw [list_len]
    show _ ≤ 3 * (LB n + 2) + 3
    split <;> omega
theorem VOk.tup {n : Nat} {l : List D} (h : ∀ d ∈ l, VOk n d) (hl : l.length ≤ 3) : VOk (n + 1) (.tup l) := by
  obtain ⟨ps, k0, k1, k2, k3, k4, k5⟩ := allOk l h
  refine ⟨.tuple ps, ?_, k1, k2, Nat.succ_le_succ k3, ?_⟩
  · simp only [toPy, k0]; rfl
  · show (tupleText (PyData.shownAll ps)).length ≤ _
    have hm : l.length * (LB n + 2) ≤ 3 * (LB n + 2) := Nat.mul_le_mul_right _ hl
    have := tuple_len (PyData.shownAll ps)
    show _ ≤ 3 * (LB n + 2) + 3
    omega
end DL

namespace K
open PySem PySem.Spec PyProof.Rows L2 DL
def top (i : Nat) : Stmt := PySem.Challenge.pw_deskcards_k01_errors_and_what_they_keep.main.body.getD i (.Pass ⟨0, 0, 0, 0⟩)
abbrev s_InvalidRow_init : Stmt := inClass (top 2) 0
abbrev n_InvalidRow_init : List Str := ["self", "word"]
abbrev p_InvalidRow_init : List Str := ["self", "word"]
abbrev s_InvalidTool_init : Stmt := inClass (top 3) 0
abbrev n_InvalidTool_init : List Str := ["self", "word"]
abbrev p_InvalidTool_init : List Str := ["self", "word"]
abbrev s_InvalidTerms_init : Stmt := inClass (top 4) 0
abbrev n_InvalidTerms_init : List Str := ["self", "word"]
abbrev p_InvalidTerms_init : List Str := ["self", "word"]
abbrev s_InvalidText_init : Stmt := inClass (top 5) 0
abbrev n_InvalidText_init : List Str := ["self", "at"]
abbrev p_InvalidText_init : List Str := ["self", "at"]
abbrev s_InvalidEvent_init : Stmt := inClass (top 6) 0
abbrev n_InvalidEvent_init : List Str := ["self", "at"]
abbrev p_InvalidEvent_init : List Str := ["self", "at"]
abbrev s_InvalidSeen_init : Stmt := inClass (top 8) 0
abbrev n_InvalidSeen_init : List Str := ["self", "at"]
abbrev p_InvalidSeen_init : List Str := ["self", "at"]
abbrev s_Refused_init : Stmt := inClass (top 10) 0
abbrev n_Refused_init : List Str := ["self", "at"]
abbrev p_Refused_init : List Str := ["self", "at"]
abbrev s_NoRow_init : Stmt := inClass (top 11) 0
abbrev n_NoRow_init : List Str := ["self", "at"]
abbrev p_NoRow_init : List Str := ["self", "at"]
abbrev s__law_deal : Stmt := top 13
abbrev n__law_deal : List Str := ["_law_script", "_law_base", "_law_cells", "_law_mixed", "_law_cell"]
abbrev p__law_deal : List Str := ["_law_script", "_law_base"]
abbrev s__law_draw : Stmt := top 14
abbrev n__law_draw : List Str := ["_law_deal_here", "_law_many", "_law_rest"]
abbrev p__law_draw : List Str := ["_law_deal_here", "_law_many"]
abbrev s__law_pick : Stmt := top 15
abbrev n__law_pick : List Str := ["_law_deal_here", "_law_some"]
abbrev p__law_pick : List Str := ["_law_deal_here", "_law_some"]
abbrev s__law_value : Stmt := top 16
abbrev n__law_value : List Str := ["_law_deal_here", "_law_deep", "_law_form", "_law_some", "_law_k"]
abbrev p__law_value : List Str := ["_law_deal_here", "_law_deep"]
abbrev s__law_sorts : Stmt := top 17
abbrev n__law_sorts : List Str := ["_law_one", "_law_found", "_law_is_so"]
abbrev p__law_sorts : List Str := ["_law_one"]
abbrev s__law_kept : Stmt := top 18
abbrev n__law_kept : List Str := ["_law_thing", "_law_one"]
abbrev p__law_kept : List Str := ["_law_thing"]
abbrev s_law : Stmt := top 19
abbrev n_law : List Str := ["_law_script", "_law_deal_here", "_law_turn", "_law_thing", "_law_early", "_law_before", "_law_made", "_law_one", "_law_kept_here"]
abbrev p_law : List Str := ["_law_script"]
section
variable {P : Program} {w : World} {W : Wd} {mg : Str → Option Value} {base : Heap}
theorem sc_draw : FnScope n__law_draw p__law_draw (defScope s__law_draw) := ⟨rfl, rfl, rfl, by decide +kernel, rfl, by decide +kernel, by decide +kernel⟩
theorem ok_draw {f : Addr} {fd : FuncData} (F : FnP W.K "_law_draw" "_law_draw" s__law_draw [] f fd) (mI : mg "int" = none) : FnOk P w W.K mg base CX0 1 f fd p__law_draw (liftSp W 2 spDraw) := by
  refine fnDD F sc_draw fun cdv A outer s H E svs g Q hl hr h => ?_
  obtain ⟨a, q, many, rfl, h0, h1, ⟨naq, cells, m, ha, hq, hlen, hc, hm0, hm1⟩, k⟩ := h
  have go : ∀ g2 : G, Apart a q g g2 → (∃ cells : List Int, g2 a = some (.lst [.ob q, .d (.int m)]) ∧ g2 q = some (.lst ((cells.map D.int).map SV.d)) ∧ cells.length ≤ 63 ∧ (∀ c ∈ cells, 0 ≤ c)) →
      WS (CxD P w W mg base n__law_draw "_law_draw" (defScope s__law_draw) f cdv A outer s H E) W ((defBody s__law_draw).tail) [some (.ob a), some (.d (.int many)), none] g2 (retP Q) := by
    rintro g2 ap ⟨cells, ha, hq, hlen, hc⟩
    refine ws_cons ?_
    refine w1_if ?_
    refine wt_cmp (op_neD hr.units) (nomark _) ?_
    refine we_ix ix_list ?_
    refine we_name 0 rfl ?_
    refine we_int ?_
    refine rw_ixL (.inr ⟨a, rfl, ha⟩) rfl ?_
    refine we_lst ?_
    refine wa_nil ?_
    refine ⟨[], rfl, by decide, rw_neP (p := .list (cells.map PyData.int)) (q := .list []) (.inr ⟨q, _, _, rfl, hq, toPys_ints cells, rfl⟩) (.inl ⟨_, rfl, rfl⟩) (shaped_ints cells) rfl ⟨_, rfl, ?_⟩⟩
    rw [eqv_ints_nil]
    by_cases hne : cells = []
    · subst hne
      rw [if_neg (by decide)]
      refine ws_nil ?_
      refine ws_cons ?_
      refine w1_sub ?_
      refine we_op op_mod ?_
      refine we_callTy call_int1 rfl mI PyProof.Rows.boot_int ?_
      refine wa_cons ?_
      refine we_op op_add ?_
      refine we_op op_mul ?_
      refine we_ix ix_list ?_
      refine we_name 0 rfl ?_
      refine we_int ?_
      refine rw_ixL (.inr ⟨a, rfl, ha⟩) rfl ?_
      refine we_int ?_
      refine rw_ic (.inr (by decide)) ?_
      refine we_int ?_
      refine rw_ii ?_
      refine wa_nil ?_
      refine rc_int ?_
      refine we_int ?_
      refine rw_ic (show (0 : Int) < 2147483647 by decide) ?_
      refine we_name 0 rfl ?_
      refine we_int ?_
      refine ⟨a, _, _, 1, rfl, rfl, ha, rfl, ?_⟩
      have ha2 : gset g2 a (.lst [.ob q, .d (.int ((m * 48271 + 11) % 2147483647))]) a = some (.lst [.ob q, .d (.int ((m * 48271 + 11) % 2147483647))]) := gset_same
      refine ws_one ?_
      refine w1_ret ?_
      refine we_op op_mod ?_
      refine we_callTy call_int1 rfl mI PyProof.Rows.boot_int ?_
      refine wa_cons ?_
      refine we_op op_fdiv ?_
      refine we_ix ix_list ?_
      refine we_name 0 rfl ?_
      refine we_int ?_
      refine rw_ixL (.inr ⟨a, rfl, ha2⟩) rfl ?_
      refine we_int ?_
      refine rw_ic ⟨by decide, by decide⟩ ?_
      refine wa_nil ?_
      refine rc_int ?_
      refine we_name 1 rfl ?_
      refine rw_ic h0 ?_
      refine k _ _ (Int.emod_nonneg _ (by omega)) (Int.emod_lt_of_pos _ h0) ⟨naq, [], (m * 48271 + 11) % 2147483647, ha2, by rw [gset_ne naq.symm]; exact hq, by decide, (fun c hc => nomatch hc), Int.emod_nonneg _ (by decide), Int.emod_lt_of_pos _ (by decide)⟩ (ap.trans fun b hb _ => gset_ne hb)
    · rw [if_pos (by cases cells <;> first | exact absurd rfl hne | rfl)]
      have hl0 : 0 < cells.length := by cases cells <;> first | exact absurd rfl hne | exact Nat.succ_pos _
      obtain ⟨cl, hcl⟩ : ∃ cl, cells[cells.length - 1]? = some cl := ⟨cells[cells.length - 1]'(by omega), List.getElem?_eq_getElem _⟩
      refine ws_cons ?_
      refine w1_set 2 sc_draw.nd ?_
      refine we_bm0 rfl PySem.F.plainAttrs_list PySem.F.slot_list_pop PySem.F.type_list_pop mt_pop ?_
      refine we_ix ix_list ?_
      refine we_name 0 rfl ?_
      refine we_int ?_
      refine rw_ixL (.inr ⟨a, rfl, ha⟩) rfl ?_
      refine ⟨⟨rfl, _, hq⟩, rm_pop hq (last_map (last_map hcl)) ?_⟩
      have ha2 : gset g2 q (.lst ((cells.map D.int).map SV.d).dropLast) a = some (.lst [.ob q, .d (.int m)]) := by rw [gset_ne naq]; exact ha
      refine ws_cons ?_
      refine w1_expr ?_
      refine we_bm rfl PySem.F.plainAttrs_list PySem.F.slot_list_append PySem.F.type_list_append mt_append ?_
      refine we_ix ix_list ?_
      refine we_name 0 rfl ?_
      refine we_int ?_
      refine rw_ixL (.inr ⟨a, rfl, ha2⟩) rfl ?_
      refine ⟨⟨rfl, _, gset_same⟩, ?_⟩
      refine wa_cons ?_
      refine we_op op_fdiv ?_
      refine we_name 2 rfl ?_
      refine we_name 1 rfl ?_
      refine rw_ic ⟨h0, h1⟩ ?_
      refine wa_nil ?_
      refine rm_append gset_same ?_ ?_
      · rw [List.length_dropLast, List.length_map, List.length_map]; omega
      refine ws_one ?_
      refine w1_ret ?_
      refine we_op op_mod ?_
      refine we_callTy call_int1 rfl mI PyProof.Rows.boot_int ?_
      refine wa_cons ?_
      refine we_name 2 rfl ?_
      refine wa_nil ?_
      refine rc_int ?_
      refine we_name 1 rfl ?_
      refine rw_ic h0 ?_
      refine k _ _ (Int.emod_nonneg _ (by omega)) (Int.emod_lt_of_pos _ h0) ⟨naq, cells.dropLast ++ [cl / many], m, by rw [gset_ne naq, gset_ne naq]; exact ha, ?_, ?_, ?_, hm0, hm1⟩ (ap.trans fun b hb1 hb2 => by rw [gset_ne hb2, gset_ne hb2])
      · rw [gset_same, List.map_append, List.map_append, List.map_dropLast, List.map_dropLast]; rfl
      · rw [List.length_append, List.length_dropLast]; show cells.length - 1 + 1 ≤ 63; omega
      · intro c hcm
        rcases List.mem_append.mp hcm with z | z
        · exact hc c ((List.dropLast_sublist _).subset z)
        · rw [List.mem_singleton.mp z]
          exact Int.ediv_nonneg (hc cl (List.mem_of_getElem? hcl)) (by omega)
  refine ws_cons (w1_while PassesOwn.never (fun n ρ' g' => ρ' = [some (.ob a), some (.d (.int many)), none] ∧ Apart a q g g' ∧ ∃ cells : List Int, g' a = some (.lst [.ob q, .d (.int m)]) ∧ g' q = some (.lst ((cells.map D.int).map SV.d)) ∧ cells.length = n ∧ n ≤ 63 ∧ (∀ c ∈ cells, 0 ≤ c)) cells.length
    ⟨rfl, Apart.refl g, cells, ha, hq, rfl, hlen, hc⟩ ?_)
  rintro n ρ' g' ⟨rfl, ap, cells, ha, hq, hn, hlen, hc⟩
  refine wt_w ?_
  refine ww_and ?_
  refine wt_cmp (op_neD hr.units) (nomark _) ?_
  refine we_ix ix_list ?_
  refine we_name 0 rfl ?_
  refine we_int ?_
  refine rw_ixL (.inr ⟨a, rfl, ha⟩) rfl ?_
  refine we_lst ?_
  refine wa_nil ?_
  refine ⟨[], rfl, by decide, rw_neP (p := .list (cells.map PyData.int)) (q := .list []) (.inr ⟨q, _, _, rfl, hq, toPys_ints cells, rfl⟩) (.inl ⟨_, rfl, rfl⟩) (shaped_ints cells) rfl ⟨_, rfl, ?_⟩⟩
  rw [eqv_ints_nil]
  cases hcs : cells with
  | nil =>
    refine go g' ap ⟨[], ha, by rw [← hcs]; exact hq, by decide, fun c hc => by cases hc⟩
  | cons c0 cs =>
    rw [if_pos (by rfl)]
    have hne : cells.length ≠ 0 := by rw [hcs]; exact Nat.succ_ne_zero _
    obtain ⟨cl, hcl⟩ : ∃ cl, cells[cells.length - 1]? = some cl := ⟨cells[cells.length - 1]'(by omega), List.getElem?_eq_getElem _⟩
    have hat : atI ((cells.map D.int).map SV.d) (-1) = some (.d (.int cl)) := atI_neg1 (last_map (last_map hcl))
    refine ww_and1 ?_
    refine wt_cmp op_eq (nomark _) ?_
    refine we_ix ix_list ?_
    refine we_ix ix_list ?_
    refine we_name 0 rfl ?_
    refine we_int ?_
    refine rw_ixL (.inr ⟨a, rfl, ha⟩) rfl ?_
    refine we_un un_neg ?_
    refine we_int ?_
    refine ru_neg ?_
    refine rw_ixL (.inr ⟨q, rfl, hq⟩) hat ?_
    refine we_int ?_
    refine rw_eq rfl rfl rfl ⟨_, rfl, ?_⟩
    rw [dec_ii]
    by_cases hz : cl = 0
    · rw [if_pos (decide_eq_true hz)]
      refine ws_one ?_
      refine w1_expr ?_
      refine we_bm0 rfl PySem.F.plainAttrs_list PySem.F.slot_list_pop PySem.F.type_list_pop mt_pop ?_
      refine we_ix ix_list ?_
      refine we_name 0 rfl ?_
      refine we_int ?_
      refine rw_ixL (.inr ⟨a, rfl, ha⟩) rfl ?_
      refine ⟨⟨rfl, _, hq⟩, rm_pop hq (last_map (last_map hcl)) ?_⟩
      refine ⟨cells.length - 1, by omega, rfl, ap.trans fun b _ hb2 => gset_ne hb2, cells.dropLast, by rw [gset_ne naq]; exact ha, ?_, ?_, by omega, fun c hcm => hc c ((List.dropLast_sublist _).subset hcm)⟩
      · rw [gset_same, List.map_dropLast, List.map_dropLast]
      · rw [List.length_dropLast]
    · rw [if_neg (by rw [decide_eq_false hz]; decide)]
      exact go g' ap ⟨cells, ha, hq, by omega, hc⟩
theorem sc_pick : FnScope n__law_pick p__law_pick (defScope s__law_pick) := ⟨rfl, rfl, rfl, by decide +kernel, rfl, by decide +kernel, by decide +kernel⟩
theorem ok_pick {f : Addr} {fd : FuncData} (F : FnP W.K "_law_pick" "_law_pick" s__law_pick [] f fd) (mLen : mg "len" = none) (CD : CallOk P w W mg base "_law_draw" 1 2 spDraw) : FnOk P w W.K mg base CX0 2 f fd p__law_pick (liftSp W 2 spPick) := by
  refine fnDD F sc_pick fun cdv A outer s H E svs g Q hl hr h => ?_
  obtain ⟨a, q, l, rfl, h0, h1, hD, k⟩ := h
  refine ws_one ?_
  refine w1_ret ?_
  refine we_ix ix_list ?_
  refine we_name 1 rfl ?_
  refine we_callC CD hr ?_
  refine wa_cons ?_
  refine we_name 0 rfl ?_
  refine wa_cons ?_
  refine we_callB call_len rfl mLen PySem.boot_len ?_
  refine wa_cons ?_
  refine we_name 1 rfl ?_
  refine wa_nil ?_
  refine rc_len (.inl ⟨l, rfl, rfl⟩) ?_
  refine wa_nil ?_
  refine ⟨rfl, a, q, _, rfl, ?_, ?_, hD, fun r g' hr0 hr1 hD' ap => ?_⟩
  · rw [List.length_map]; omega
  · rw [List.length_map]; omega
  rw [List.length_map] at hr1
  obtain ⟨j, rfl⟩ : ∃ j : Nat, r = (j : Int) := ⟨r.toNat, by omega⟩
  have hj : j < l.length := by omega
  refine rw_ixL (l := l.map SV.d) (sv := .d l[j]) (.inl ⟨l, rfl, rfl⟩) (atI_map (atI_nat (List.getElem?_eq_getElem hj))) ?_
  exact k _ g' (List.getElem_mem hj) hD' ap
theorem sc_deal : FnScope n__law_deal p__law_deal (defScope s__law_deal) := ⟨rfl, rfl, rfl, by decide +kernel, rfl, by decide +kernel, by decide +kernel⟩
theorem ok_deal {f : Addr} {fd : FuncData} (F : FnP W.K "_law_deal" "_law_deal" s__law_deal [] f fd) (mI : mg "int" = none) (mAbs : mg "abs" = none) : FnOk P w W.K mg base CX0 1 f fd p__law_deal (liftSp W 2 spDeal) := by
  refine fnDD F sc_deal fun cdv A outer s H E svs g Q hl hr h => ?_
  obtain ⟨ns, b0, rfl, hn, hb0, hb1, k⟩ := h
  have hcut : ∃ cs : List Int, cutL (ns.map D.int) (some b0) (some 60) = cs.map D.int ∧ cs.length ≤ 63 := by
    refine ⟨cutL ns (some b0) (some 60), ?_, ?_⟩
    · unfold cutL; rw [List.length_map, List.map_take, List.map_drop]
    · unfold cutL; rw [List.length_take, List.length_drop]; omega
  obtain ⟨cs, hcs, hcl⟩ := hcut
  -- cells = [abs(c) for c in script[base:60]]
  refine ws_cons (w1_setLcL (j := 4) (own := [("_law_cell", 4)]) 2 (fun l i ys g' => g' = g ∧ ys = ((cs.take i).map fun c => D.int (if c < 0 then -c else c))) rfl sc_deal.nd rfl (blkOk_by (N := n__law_deal) (sc := defScope s__law_deal) (by decide +kernel)) (fun _ _ _ _ _ => pg_name sc_deal.nd rfl (Or.inl rfl)) (by decide) (sw_true rfl rfl rfl (by decide +kernel)) ?_)
  refine we_slice sl_list ?_
  refine we_name 0 rfl ?_
  refine we_name 1 rfl ⟨_, rfl, ?_⟩
  refine we_int ⟨_, rfl, rsl_list (.inl ⟨_, rfl, rfl⟩) ⟨_, rfl, ?_, ⟨rfl, rfl⟩, ?_, ?_⟩⟩
  · rw [hcs, List.length_map]; omega
  · rintro i x ys g' hx ⟨rfl, rfl⟩
    rw [hcs, List.getElem?_map] at hx
    obtain ⟨c, hc, rfl⟩ : ∃ c, cs[i]? = some c ∧ x = D.int c := by
      cases e : cs[i]? with
      | none => rw [e] at hx; cases hx
      | some c => rw [e] at hx; exact ⟨c, rfl, (Option.some.inj hx).symm⟩
    refine lct_pure fun L hL s' H' C cl fp => ?_
    refine we_callB call_abs rfl mAbs PyProof.Rows.boot_abs ?_
    refine wa_cons ?_
    refine we_name 4 rfl ?_
    refine wa_nil ?_
    refine rc_abs ?_
    refine ⟨_, rfl, rfl, rfl, ?_⟩
    rw [List.take_add_one, hc]
    simp
  rintro ys g' _ ⟨rfl, rfl⟩
  rw [hcs, List.length_map, List.take_of_length_le (by omega)]
  obtain ⟨as, has, hal, hap⟩ : ∃ as : List Int, (cs.map fun c => D.int (if c < 0 then -c else c)) = as.map D.int ∧ as.length ≤ 63 ∧ ∀ c ∈ as, 0 ≤ c := by
    refine ⟨cs.map fun c => if c < 0 then -c else c, by rw [List.map_map]; rfl, by rw [List.length_map]; exact hcl, fun c hc => ?_⟩
    obtain ⟨d, _, rfl⟩ := List.mem_map.mp hc
    split <;> omega
  rw [has]
  refine ws_cons ?_
  refine w1_set 3 sc_deal.nd ?_
  refine we_op op_add ?_
  refine we_int ?_
  refine we_op op_mul ?_
  refine we_int ?_
  refine we_name 1 rfl ?_
  refine rw_ic (.inl (by decide)) ?_
  refine rw_ii ?_
  refine ws_cons (w1_forL PassesOwn.never rfl rfl (pg_name (i := 4) sc_deal.nd rfl (Or.inl rfl)) (fun l i ρ' g1 => g1 = g' ∧ ∃ (m : Int) (z : Option SV), 0 ≤ m ∧ m < 2147483647 ∧ ρ' = [some (.d (.lst (ns.map D.int))), some (.d (.int b0)), some (.d (.lst l)), some (.d (.int m)), z]) ?_)
  refine we_name 2 rfl ⟨_, rfl, ⟨rfl, 36195017 + 43 * b0, none, by omega, by omega, rfl⟩, ?_, ?_⟩
  · rintro i x ρ' g' hx ⟨rfl, m, z, hm0, hm1, rfl⟩
    rw [List.getElem?_map] at hx
    obtain ⟨c, hc, rfl⟩ : ∃ c, as[i]? = some c ∧ x = D.int c := by
      cases e : as[i]? with
      | none => rw [e] at hx; cases hx
      | some c => rw [e] at hx; exact ⟨c, rfl, (Option.some.inj hx).symm⟩
    refine wg_name ?_
    refine ws_one ?_
    refine w1_set 3 sc_deal.nd ?_
    refine we_op op_mod ?_
    refine we_callTy call_int1 rfl mI PyProof.Rows.boot_int ?_
    refine wa_cons ?_
    refine we_op op_add ?_
    refine we_op op_mul ?_
    refine we_name 3 rfl ?_
    refine we_int ?_
    refine rw_ic (.inr (by decide)) ?_
    refine we_op op_mod ?_
    refine we_callTy call_int1 rfl mI PyProof.Rows.boot_int ?_
    refine wa_cons ?_
    refine we_name 4 rfl ?_
    refine wa_nil ?_
    refine rc_int ?_
    refine we_int ?_
    refine rw_ic (show (0 : Int) < 2147483629 by decide) ?_
    refine rw_ii ?_
    refine wa_nil ?_
    refine rc_int ?_
    refine we_int ?_
    refine rw_ic (show (0 : Int) < 2147483647 by decide) ?_
    exact ⟨rfl, _, _, Int.emod_nonneg _ (by decide), Int.emod_lt_of_pos _ (by decide), rfl⟩
  rintro ρ' g' ⟨rfl, m, z, hm0, hm1, rfl⟩
  refine ws_one ?_
  refine w1_ret ?_
  refine we_lstO ?_
  refine wa_cons ?_
  refine we_revO rfl ?_
  refine we_lcL (j := 4) (own := [("_law_cell", 4)]) (fun l i ys g1 => g1 = g' ∧ ∃ bs : List Int, ys = bs.map D.int ∧ bs.length ≤ 63 ∧ i ≤ 63 ∧ bs.length ≤ i ∧ ∀ c ∈ bs, 0 ≤ c) rfl sc_deal.nd rfl (blkOk_by (N := n__law_deal) (sc := defScope s__law_deal) (by decide +kernel)) (fun _ _ _ _ _ => pg_name sc_deal.nd rfl (Or.inl rfl)) (by decide) ?_
  refine we_name 2 rfl ⟨_, rfl, by rw [List.length_map]; omega, ⟨rfl, [], rfl, by decide, by decide, by decide, fun c hc => nomatch hc⟩, ?_, ?_⟩
  · rintro i x ys g' hx ⟨rfl, bs, rfl, hb1, hb2, hb3, hb4⟩
    rw [List.getElem?_map] at hx
    obtain ⟨c, hc, rfl⟩ : ∃ c, as[i]? = some c ∧ x = D.int c := by
      cases e : as[i]? with
      | none => rw [e] at hx; cases hx
      | some c => rw [e] at hx; exact ⟨c, rfl, (Option.some.inj hx).symm⟩
    have hi : i < as.length := (List.getElem?_eq_some_iff.mp hc).1
    intro L hL s' H' C cl fp
    refine wt_cmp op_ge (nomark _) ?_
    refine we_name 4 rfl ?_
    refine we_op op_pow ?_
    refine we_int ?_
    refine we_int ?_
    refine rw_ic ⟨by decide, by decide, by decide⟩ ?_
    refine rw_ib ?_
    refine ⟨_, rfl, ?_⟩
    by_cases hge : (10 : Int) ^ (18 : Int).toNat ≤ c
    · rw [if_pos (decide_eq_true hge)]
      intro s'' H'' C' cl' fp'
      refine we_name 4 rfl ?_
      refine ⟨_, _, rfl, hL, rfl, rfl, bs ++ [c], by rw [List.map_append]; rfl, ?_, by omega, ?_, ?_⟩
      · rw [List.length_append]; show bs.length + 1 ≤ 63; omega
      · rw [List.length_append]; show bs.length + 1 ≤ i + 1; omega
      · intro d hd
        rcases List.mem_append.mp hd with z | z
        · exact hb4 d z
        · rw [List.mem_singleton.mp z]; exact hap c (List.mem_of_getElem? hc)
    · rw [if_neg (by rw [decide_eq_false hge]; decide)]
      exact ⟨_, hL, rfl, rfl, bs, rfl, hb1, by omega, by omega, hb4⟩
  rintro ys g' _ ⟨rfl, bs, rfl, hb1, _, _, hb4⟩
  refine ⟨_, .inl ⟨_, rfl, rfl⟩, fun q hq => ?_⟩
  refine wa_cons ?_
  refine we_name 3 rfl ?_
  refine wa_nil ?_
  refine ⟨by show 2 ≤ 1000; decide, fun a ha => ?_⟩
  have naq : a ≠ q := fun z => by rw [z, gset_same] at ha; cases ha
  refine k a q _ ⟨naq, bs.reverse, m, gset_same, by rw [gset_ne naq.symm, gset_same, List.map_reverse, List.map_reverse], by rw [List.length_reverse]; exact hb1, fun c hc => hb4 c (List.mem_reverse.mp hc), hm0, hm1⟩ (fun b h1 h2 => by rw [gset_ne h1, gset_ne h2]) (by rw [← ha, gset_ne naq]) hq
end
end K

namespace K
open PySem PySem.Spec PyProof.Rows L2 DL
section
variable {P : Program} {w : World} {W : Wd} {mg : Str → Option Value} {base : Heap}
def spVal (n : Nat) : SpD := fun svs g Q => ∃ a q, svs = [.ob a, .d (.int (n : Int))] ∧ DealAt a q g ∧ ∀ d g', VOk n d → DealAt a q g' → Apart a q g g' → Q (.d d) g'
theorem gset_gdel {g : G} {L : Addr} {o : MO} (h : g L = some o) : gset (gdel g L) L o = g := by
  funext b
  by_cases z : b = L
  · rw [z, gset_same, h]
  · rw [gset_ne z, gdel_ne z]
theorem deal_gdel {a q L : Addr} {g : G} (h : DealAt a q g) (n1 : a ≠ L) (n2 : q ≠ L) : DealAt a q (gdel g L) := by
  obtain ⟨naq, cells, m, h1, h2, r⟩ := h
  exact ⟨naq, cells, m, by rw [gdel_ne n1]; exact h1, by rw [gdel_ne n2]; exact h2, r⟩
theorem deal_ext {a q : Addr} {g g' : G} (h : DealAt a q g) (e1 : g' a = g a) (e2 : g' q = g q) : DealAt a q g' := by
  obtain ⟨naq, cells, m, h1, h2, r⟩ := h
  exact ⟨naq, cells, m, e1.trans h1, e2.trans h2, r⟩
theorem deal_ne {a q L : Addr} {g : G} (h : DealAt a q g) (hL : g L = none) : a ≠ L ∧ q ≠ L := by
  obtain ⟨naq, cells, m, h1, h2, r⟩ := h
  exact ⟨(fun z => by rw [z, hL] at h1; cases h1), (fun z => by rw [z, hL] at h2; cases h2)⟩
theorem leaf_ok {n : Nat} {d : D} {p : PyData} (h : toPy d = some p) (h1 : p.showable = true) (h2 : p.hasDict = false) (h3 : p.depth = 0) (h4 : decide (p.shown.length ≤ 40) = true) : VOk n d :=
  VOk.le (n := 0) ⟨p, h, h1, h2, by rw [h3]; exact Nat.le_refl _, of_decide_eq_true h4⟩ (Nat.zero_le _)
theorem sc_value : FnScope n__law_value p__law_value (defScope s__law_value) := ⟨rfl, rfl, rfl, by decide +kernel, rfl, by decide +kernel, by decide +kernel⟩
theorem ok_value {f : Addr} {fd : FuncData} {n : Nat} (F : FnP W.K "_law_value" "_law_value" s__law_value [] f fd) (mR : mg "range" = none) (mT : mg "tuple" = none) (CD : CallOk P w W mg base "_law_draw" 1 2 spDraw) (CP : CallOk P w W mg base "_law_pick" 2 2 spPick)
    (C : ∀ m, n = m + 1 → CallOk P w W mg base "_law_value" (3 + m) 2 (spVal m)) : FnOk P w W.K mg base CX0 (3 + n) f fd p__law_value (liftSp W 2 (spVal n)) := by
  have e3 : 3 + n = (2 + n) + 1 := by omega
  rw [e3]
  refine fnDD F sc_value fun cdv A outer s H E svs g Q hl hr h => ?_
  obtain ⟨a, q, rfl, hD, k⟩ := h
  have hr1 : Room 1 (A.deeper (envOfC "_law_value" (defScope s__law_value) s.heap.objs.size f cdv)) := hr.mono (by omega)
  have hr2 : Room 2 (A.deeper (envOfC "_law_value" (defScope s__law_value) s.heap.objs.size f cdv)) := hr.mono (by omega)
  refine ws_cons ?_
  refine w1_set 2 sc_value.nd ?_
  refine we_callC CD hr1 ?_
  refine wa_cons ?_
  refine we_name 0 rfl ?_
  refine wa_cons ?_
  refine we_ifx ?_
  refine wt_cmp op_gt (nomark _) ?_
  refine we_name 1 rfl ?_
  refine we_int ?_
  refine rw_ib ?_
  refine ⟨_, rfl, ?_⟩
  have fin : ∀ (r : Int) (g' : G), (n = 0 → r < 4) → 0 ≤ r → r < 7 → DealAt a q g' → Apart a q g g' →
      WS (CxD P w W mg base n__law_value "_law_value" (defScope s__law_value) f cdv A outer s H E) W ((defBody s__law_value).drop 1) [some (.ob a), some (.d (.int (n : Int))), some (.d (.int r)), none, none] g' (retP Q) := by
    intro r g1 hn0 h0 h7 hD ap
    refine ws_cons ?_
    refine w1_if ?_
    refine wt_cmp op_eq (nomark _) ?_
    refine we_name 2 rfl ?_
    refine we_int ?_
    refine rw_eq rfl rfl rfl ⟨_, rfl, ?_⟩
    rw [dec_ii]
    by_cases z0 : r = 0
    · rw [if_pos (decide_eq_true z0)]
      refine ws_one ?_
      refine w1_ret ?_
      refine we_callC CP hr2 ?_
      refine wa_cons ?_
      refine we_name 0 rfl ?_
      refine wa_cons ?_
      refine we_lst ?_
      refine wa_cons ?_
      refine we_int ?_
      refine wa_cons ?_
      refine we_int ?_
      refine wa_cons ?_
      refine we_op op_sub ?_
      refine we_int ?_
      refine we_int ?_
      refine rw_ii ?_
      refine wa_cons ?_
      refine we_op op_pow ?_
      refine we_int ?_
      refine we_int ?_
      refine rw_ic ⟨by decide, by decide, by decide⟩ ?_
      refine wa_nil ?_
      refine ⟨[.int 0, .int 1, .int (0 - 7), .int (10 ^ 20)], rfl, by decide, ?_⟩
      refine wa_nil ?_
      refine ⟨rfl, a, q, _, rfl, by decide, by decide, hD, fun x g2 hx hD2 ap2 => k _ _ ?_ hD2 (ap.trans ap2)⟩
      simp only [List.mem_cons, List.not_mem_nil, or_false] at hx
      rcases hx with rfl | rfl | rfl | rfl <;> exact leaf_ok rfl (by decide +kernel) rfl rfl (by decide +kernel)
    rw [if_neg (by rw [decide_eq_false z0]; decide)]
    refine ws_nil ?_
    refine ws_cons ?_
    refine w1_if ?_
    refine wt_cmp op_eq (nomark _) ?_
    refine we_name 2 rfl ?_
    refine we_int ?_
    refine rw_eq rfl rfl rfl ⟨_, rfl, ?_⟩
    rw [dec_ii]
    by_cases z1 : r = 1
    · rw [if_pos (decide_eq_true z1)]
      refine ws_one ?_
      refine w1_ret ?_
      refine we_callC CP hr2 ?_
      refine wa_cons ?_
      refine we_name 0 rfl ?_
      refine wa_cons ?_
      refine we_lst ?_
      refine wa_cons ?_
      refine we_non ?_
      refine wa_cons ?_
      refine we_bl ?_
      refine wa_cons ?_
      refine we_bl ?_
      refine wa_nil ?_
      refine ⟨[.non, .bl true, .bl false], rfl, by decide, ?_⟩
      refine wa_nil ?_
      refine ⟨rfl, a, q, _, rfl, by decide, by decide, hD, fun x g2 hx hD2 ap2 => k _ _ ?_ hD2 (ap.trans ap2)⟩
      simp only [List.mem_cons, List.not_mem_nil, or_false] at hx
      rcases hx with rfl | rfl | rfl <;> exact leaf_ok rfl (by decide +kernel) rfl rfl (by decide +kernel)
    rw [if_neg (by rw [decide_eq_false z1]; decide)]
    refine ws_nil ?_
    refine ws_cons ?_
    refine w1_if ?_
    refine wt_cmp op_lt (nomark _) ?_
    refine we_name 2 rfl ?_
    refine we_int ?_
    refine rw_ib ?_
    refine ⟨_, rfl, ?_⟩
    by_cases z4 : r < 4
    · rw [if_pos (decide_eq_true z4)]
      refine ws_one ?_
      refine w1_ret ?_
      refine we_callC CP hr2 ?_
      refine wa_cons ?_
      refine we_name 0 rfl ?_
      refine wa_cons ?_
      refine we_lst ?_
      refine wa_cons ?_
      refine we_str ?_
      refine wa_cons ?_
      refine we_str ?_
      refine wa_cons ?_
      refine we_str ?_
      refine wa_cons ?_
      refine we_str ?_
      refine wa_cons ?_
      refine we_str ?_
      refine wa_cons ?_
      refine we_str ?_
      refine wa_cons ?_
      refine we_str ?_
      refine wa_cons ?_
      refine we_str ?_
      refine wa_nil ?_
      refine ⟨[.str "", .str "same", .str "try 1", .str "give", .str "mark k", .str "marked k", .str "not", .str "x y"], rfl, by decide, ?_⟩
      refine wa_nil ?_
      refine ⟨rfl, a, q, _, rfl, by decide, by decide, hD, fun x g2 hx hD2 ap2 => k _ _ ?_ hD2 (ap.trans ap2)⟩
      simp only [List.mem_cons, List.not_mem_nil, or_false] at hx
      rcases hx with rfl | rfl | rfl | rfl | rfl | rfl | rfl | rfl <;> exact leaf_ok rfl rfl rfl rfl (by decide +kernel)
    rw [if_neg (by rw [decide_eq_false z4]; decide)]
    cases n with
    | zero => exact absurd (hn0 rfl) z4
    | succ m =>
      have hrv : Room (3 + m) (A.deeper (envOfC "_law_value" (defScope s__law_value) s.heap.objs.size f cdv)) := hr.mono (by omega)
      have tail : ∀ (ys : List D) (g2 : G), ys.length ≤ 3 → (∀ y ∈ ys, VOk m y) → DealAt a q g2 → Apart a q g g2 →
          WS (CxD P w W mg base n__law_value "_law_value" (defScope s__law_value) f cdv A outer s H E) W ((defBody s__law_value).drop 5) [some (.ob a), some (.d (.int ((m + 1 : Nat) : Int))), some (.d (.int r)), some (.d (.lst ys)), none] g2 (retP Q) := by
        intro ys g2 hy hv hD2 ap2
        refine ws_one ?_
        refine w1_ret ?_
        refine we_ifx ?_
        refine wt_cmp op_eq (nomark _) ?_
        refine we_name 2 rfl ?_
        refine we_int ?_
        refine rw_eq rfl rfl rfl ⟨_, rfl, ?_⟩
        rw [dec_ii]
        by_cases z5 : r = 4
        · rw [if_pos (decide_eq_true z5)]
          refine we_name 3 rfl ?_
          exact k _ _ (VOk.lst hv hy) hD2 ap2
        · rw [if_neg (by rw [decide_eq_false z5]; decide)]
          refine we_callTy call_tuple_of rfl mT PyProof.Rows.boot_tuple ?_
          refine wa_cons ?_
          refine we_name 3 rfl ?_
          refine wa_nil ?_
          refine rc_tupleL ?_
          exact k _ _ (VOk.tup hv hy) hD2 ap2
      refine ws_nil ?_
      refine ws_cons (w1_setLcR (j := 4) (own := [("_law_k", 4)]) 3 (fun cnt i ys g2 => cnt ≤ 3 ∧ ys.length ≤ i ∧ (∀ y ∈ ys, VOk m y) ∧ DealAt a q g2 ∧ Apart a q g g2) rfl sc_value.nd (blkOk_by (N := n__law_value) (sc := defScope s__law_value) (by decide +kernel)) (fun _ _ _ _ _ => pg_name sc_value.nd rfl (Or.inl rfl)) (by decide) rfl mR (sw_true rfl rfl rfl (by decide +kernel)) ?_)
      refine we_callC CD hr1 ?_
      refine wa_cons ?_
      refine we_name 0 rfl ?_
      refine wa_cons ?_
      refine we_int ?_
      refine wa_nil ?_
      refine ⟨rfl, a, q, _, rfl, by decide, by decide, hD, fun cnt g2 c0 c4 hD2 ap2 => ⟨cnt, rfl, by omega, by omega, ⟨by omega, Nat.le_refl _, (fun y hy => nomatch hy), hD2, ap.trans ap2⟩, ?_, ?_⟩⟩
      · rintro i ys g3 hi ⟨_, hy, hv, hD3, ap3⟩
        intro L hL
        dsimp only [WTs]
        rw [if_pos rfl]
        intro s' H' C' cl fp
        refine we_callC (C m rfl) hrv ?_
        refine wa_cons ?_
        refine we_name 0 rfl ?_
        refine wa_cons ?_
        refine we_op op_sub ?_
        refine we_name 1 rfl ?_
        refine we_int ?_
        refine rw_ii ?_
        refine wa_nil ?_
        obtain ⟨nLa, nLq⟩ := deal_ne hD3 hL
        refine ⟨rfl, a, q, ?_, deal_ext hD3 (gset_ne nLa) (gset_ne nLq), fun d g4 hd hD4 ap4 => ?_⟩
        · have e : ((m + 1 : Nat) : Int) - 1 = (m : Int) := by omega
          rw [e]
        have hgL : g4 L = some (.lst (ys.map SV.d)) := by rw [ap4 L nLa.symm nLq.symm, gset_same]
        refine ⟨d, gdel g4 L, rfl, gdel_same, (gset_gdel hgL).symm, ⟨by omega, ?_, ?_, deal_gdel hD4 nLa nLq, fun b b1 b2 => ?_⟩⟩
        · rw [List.length_append]; show ys.length + 1 ≤ i + 1; omega
        · intro y hm
          rcases List.mem_append.mp hm with z | z
          · exact hv y z
          · rw [List.mem_singleton.mp z]; exact hd
        · by_cases z : b = L
          · rw [z, gdel_same, ← ap3 L nLa.symm nLq.symm, hL]
          · rw [gdel_ne z, ap4 b b1 b2, gset_ne z, ap3 b b1 b2]
      · rintro ys g3 hy ⟨hc, hy2, hv, hD3, ap3⟩
        exact tail ys g3 (by omega) hv hD3 ap3
  by_cases hn : (0 : Int) < (n : Int)
  · rw [if_pos (decide_eq_true hn)]
    refine we_int ?_
    refine wa_nil ?_
    exact ⟨rfl, a, q, _, rfl, by decide, by decide, hD, fun r g' h0 h7 hD' ap => fin r g' (fun z => by omega) h0 h7 hD' ap⟩
  · rw [if_neg (by rw [decide_eq_false hn]; decide)]
    refine we_int ?_
    refine wa_nil ?_
    exact ⟨rfl, a, q, _, rfl, by decide, by decide, hD, fun r g' h0 h4 hD' ap => fin r g' (fun _ => h4) h0 (by omega) hD' ap⟩
end
end K

namespace DL
open PySem PySem.Spec PyProof.Rows L2
abbrev ieBase : List Value := [.type "IndexError", .type "LookupError", .type "Exception", .type "BaseException", .type "object"]
abbrev veB : List Value := [.type "ValueError", .type "Exception", .type "BaseException", .type "object"]
def isSome2 (a : Option (Option Value)) (b : Option (Option Value)) : Bool := decide (a = b)
/-- what an own exception class must be, asked of the written part -/
def xcB (K : PySem.W.Frag) (C : Addr) (bmB : List Value) (newId : String) : Bool :=
  PySem.W.excInitIn K C bmB newId && (PySem.W.hasDictIn K C && (PySem.W.keepIn K (.ref C) && (
  decide (PySem.W.findIn K (.ref C) "__setattr__" = some (some (.builtin "object.__setattr__"))) && (
  decide (PySem.W.findIn K (.ref C) "__getattribute__" = some (some (.builtin "BaseException.__getattribute__"))) && (
  decide (PySem.W.findIn K (.ref C) "__getattr__" = some none) && (
  decide (PySem.W.subIn K (.ref C) (.type "BaseException") = some true) && (
  decide (PySem.W.findIn K (.ref C) "__class__" = some (some (.builtin "object.__class__"))) && (
  decide (PySem.W.specialIn K (.builtin "object.__class__") "__get__" = some (some (.builtin "getset_descriptor.__get__"))) && (
  decide (PySem.W.takesIn K (.builtin "object.__class__") = some true) &&
  decide (PySem.W.mroIn K C (.type "object") = some true))))))))))
theorem excK_of {K : PySem.W.Frag} {C : Addr} {bmB : List Value} {newId : String} (q : PySem.W.excInitIn K C bmB newId = true) (hd : PySem.W.hasDictIn K C = true) : ∃ nm qn N bs bm sn sub ab col dd k0 k1 k2 k3 k5,
    K.lookup C = some (excClassObj nm qn C N bs bm true sn sub ab col dd k0 k1 k2 k3 k5 newId) ∧ PySem.W.excTail bmB bm = true := by
  unfold PySem.W.excInitIn at q
  split at q
  · rename_i dd cd sl ho
    split at q
    · rename_i C' bm k0 k1 k2 k3 n k5 hm hs
      simp only [Bool.and_eq_true, beq_iff_eq, Bool.not_eq_true'] at q
      obtain ⟨⟨⟨z1, z2⟩, z3⟩, z4⟩ := q
      subst z1 z2
      obtain ⟨nm, bs, mro, ns, qn, hdc, sn, sub, ab, col, del⟩ := cd
      dsimp only at hm z3
      subst hm z3
      have es : sl = #[k0, k1, k2, k3, some (.builtin n), k5] := by
        obtain ⟨l⟩ := sl
        simp only at hs
        rw [hs]
      subst es
      obtain ⟨cd2, hc2, hh⟩ := PySem.W.any_some hd
      have e2 : PySem.W.clsIn K C' = some { name := nm, bases := bs, mro := .ref C' :: bm, ns := ns, qualname := qn, hasDict := hdc, slotNames := sn, subclasses := sub, abstract := ab, collection := col, hasDel := false } := by
        unfold PySem.W.clsIn
        rw [ho] <;> rfl
      rw [e2] at hc2
      cases hc2
      have e3 : hdc = true := hh
      subst e3
      exact ⟨nm, qn, ns, bs, bm, sn, sub, ab, col, dd, k0, k1, k2, k3, k5, ho, z4⟩
    · cases q
  · cases q
theorem xcB_ok {K : PySem.W.Frag} {C : Addr} {bmB : List Value} {B newId initId : String} (F : ExcBaseFacts B newId initId bmB) (ob : bmB.contains (.type "object") = true) (ps : ∀ self, refuseLoop self "__setattr__" bmB = pure ()) (h : xcB K C bmB newId = true) : XcC K C := by
  obtain ⟨h1, h⟩ := Bool.and_eq_true_iff.mp h
  obtain ⟨h2, h⟩ := Bool.and_eq_true_iff.mp h
  obtain ⟨h3, h⟩ := Bool.and_eq_true_iff.mp h
  obtain ⟨h4, h⟩ := Bool.and_eq_true_iff.mp h
  obtain ⟨h5, h⟩ := Bool.and_eq_true_iff.mp h
  obtain ⟨h6, h⟩ := Bool.and_eq_true_iff.mp h
  obtain ⟨h7, h⟩ := Bool.and_eq_true_iff.mp h
  obtain ⟨h8, h⟩ := Bool.and_eq_true_iff.mp h
  obtain ⟨h9, h⟩ := Bool.and_eq_true_iff.mp h
  obtain ⟨h10, h11⟩ := Bool.and_eq_true_iff.mp h
  obtain ⟨nm, qn, N, bs, bm, sn, sub, ab, col, dd, k0, k1, k2, k3, k5, hl, ht⟩ := excK_of h1 h2
  exact {
    base := ⟨B, newId, initId, bmB, F, ob, nm, qn, N, bs, bm, sn, sub, ab, col, dd, k0, k1, k2, k3, k5, hl, fun T => PySem.W.excTail_contains T _ ht, fun self => by
      rw [refuseLoop_ref]
      exact PySem.W.excTail_pass self (ps self) _ ht⟩
    sa := of_decide_eq_true h4
    kC := h3
    xf := ⟨of_decide_eq_true h5, of_decide_eq_true h6, of_decide_eq_true h7, h2⟩
    xi := ⟨of_decide_eq_true h5, of_decide_eq_true h6, of_decide_eq_true h7, h2, of_decide_eq_true h8, of_decide_eq_true h9, of_decide_eq_true h10, of_decide_eq_true h11⟩ }
theorem xcV {K : PySem.W.Frag} {C : Addr} (h : xcB K C veB "ValueError.__new__" = true) : XcC K C := xcB_ok PySem.F.excBase_ValueError (by decide +kernel) PySem.F.store_ValueError.passes h
theorem xcI {K : PySem.W.Frag} {C : Addr} (h : xcB K C ieBase "IndexError.__new__" = true) : XcC K C := xcB_ok PySem.F.excBase_IndexError (by decide +kernel) PySem.F.store_IndexError.passes h
theorem xnV {K : PySem.W.Frag} {C : Addr} (h : xcB K C veB "ValueError.__new__" = true) (hi : PySem.W.findIn K (.ref C) "__init__" = some (some (.builtin "ValueError.__init__"))) : XcN K C := by
  obtain ⟨h1, h⟩ := Bool.and_eq_true_iff.mp h
  obtain ⟨h2, h⟩ := Bool.and_eq_true_iff.mp h
  obtain ⟨nm, qn, N, bs, bm, sn, sub, ab, col, dd, k0, k1, k2, k3, k5, hl, ht⟩ := excK_of h1 h2
  exact ⟨"ValueError", _, _, _, PySem.F.excBase_ValueError, ⟨nm, qn, N, bs, bm, sn, sub, ab, col, dd, k0, k1, k2, k3, k5, hl, fun T => PySem.W.excTail_contains T _ ht⟩, hi⟩
/-- an __init__ that keeps its argument in f -/
def spInit (c : Nat) (f : Str) : SpD := fun svs g Q => ∃ a sv, svs = [.ob a, sv] ∧ g a = some (.exc c []) ∧ Q (.d .non) (gset g a (.exc c [(f, sv)]))
/-- what a caller must know of an exception class that keeps its argument in f, a parameter's name, too -/
structure XcK (P : Program) (w : World) (W : Wd) (mg : Str → Option Value) (base : Heap) (x : Str) (c : Nat) (f : Str) : Prop where
  T : XcC W.K (W.cl c)
  ex : ∃ fI fd ps, XcI W.K (W.cl c) fI ∧ FnOk P w W.K mg base CX0 1 fI fd ps (liftSp W 2 (spInit c f)) ∧ Binds W.K fd ps [] ∧ ps.length = 2 ∧ ∀ (s : Shared) (u w : Value), W.K.In s.heap → BindsTo s fd ⟨[u], [(f, w)]⟩ (ps.zip [u, w])
  m : mg x = some (.ref (W.cl c))
  no : PySem.W.findIn W.K (.ref (W.cl c)) f = some none
section
variable {X : Cx} {W : Wd} {ρ : Rho} {g : G} {Q : QE} {pos p kpos : Pos} {e : Expr} {x f : Str} {c : Nat}
/-- C(e) -/
theorem we_xC (C : XcK X.prog X.w W X.mg X.base x c f) (hr : Room 2 X.A) (h : WE X W e ρ g fun sv g1 => ∀ a, g1 a = none → Q (.ob a) (gset g1 a (.exc c [(f, sv)]))) (hK : X.K = W.K := by rfl) (hg : Gl X x := by rfl) (hdb : (x == ("__debug__" : Str)) = false := by decide)
    (he : starEach [e] X.env = (false, eval e X.env) :: starEach [] X.env := by rfl) (hpl : (backTo pos (starEach [] X.env)).any (·.1) = false := by rfl) : WE X W (.Call (.Name x p) [e] [] pos) ρ g Q := by
  obtain ⟨fI, fd, ps, Ti, F, b, hps, bk⟩ := C.ex
  rw [← hK] at F b
  refine we_xc hK C.T Ti F hr hg C.m b hps (by decide) ?_ hdb he hpl
  refine wa_cons ?_ he
  refine h.imp fun sv g1 q => ?_
  refine wa_nil ⟨rfl, fun a ha => ⟨a, sv, rfl, gset_same, rfl, ?_⟩⟩
  have z := q a ha
  rw [← gset_gset (o := MO.exc c [])] at z
  exact z
/-- C(f = e) -/
theorem we_xKC (C : XcK X.prog X.w W X.mg X.base x c f) (hr : Room 2 X.A) (h : WE X W e ρ g fun sv g1 => ∀ a, g1 a = none → Q (.ob a) (gset g1 a (.exc c [(f, sv)]))) (hK : X.K = W.K := by rfl) (hg : Gl X x := by rfl) (hdb : (x == ("__debug__" : Str)) = false := by decide) :
    WE X W (.Call (.Name x p) [] [⟨some f, e, kpos⟩] pos) ρ g Q := by
  obtain ⟨fI, fd, ps, Ti, F, b, hps, bk⟩ := C.ex
  rw [← hK] at F bk
  refine we_xck hK C.T Ti F hr hg C.m bk ?_ hdb
  refine h.imp fun sv g1 q a ha => ⟨a, sv, rfl, gset_same, rfl, ?_⟩
  have z := q a ha
  rw [← gset_gset (o := MO.exc c [])] at z
  exact z
/-- e.f, e such an exception -/
theorem we_xF (C : XcK X.prog X.w W X.mg X.base x c f) (h : WE X W e ρ g fun sv g1 => ∃ a r, sv = .ob a ∧ g1 a = some (.exc c [(f, r)]) ∧ Q r g1) (hK : X.K = W.K := by rfl) (hb : attributeBase e f X.env (eval e X.env) = eval e X.env := by rfl) :
    WE X W (.Attribute e f pos) ρ g Q := by
  refine we_xf hK C.T C.no ?_ hb
  refine h.imp fun sv g1 ⟨a, r, h1, h2, h3⟩ => ⟨a, _, r, h1, h2, ?_, h3⟩
  simp [List.lookup]
end
end DL

namespace K
open PySem PySem.Spec PyProof.Rows L2 DL
section
variable {P : Program} {w : World} {W : Wd} {mg : Str → Option Value} {base : Heap}

theorem sc_InvalidRow : FnScope n_InvalidRow_init p_InvalidRow_init (defScope s_InvalidRow_init) := ⟨rfl, rfl, rfl, by decide +kernel, rfl, by decide +kernel, by decide +kernel⟩
theorem xk_InvalidRow {fI : Addr} {fd : FuncData} (T : XcC W.K (W.cl 1)) (F : FnP W.K "__init__" "InvalidRow.__init__" s_InvalidRow_init [] fI fd) (Ti : XcI W.K (W.cl 1) fI) (m : mg "InvalidRow" = some (.ref (W.cl 1))) (no : PySem.W.findIn W.K (.ref (W.cl 1)) "word" = some none) :
    XcK P w W mg base "InvalidRow" 1 "word" := by
  refine ⟨T, ⟨fI, fd, p_InvalidRow_init, Ti, ?_, ?_, rfl, ?_⟩, m, no⟩
  · refine fnDD F sc_InvalidRow fun cdv A outer s H E svs g Q hl hr h => ?_
    obtain ⟨a, sv, rfl, ha, k⟩ := h
    refine ws_one ?_
    refine w1_xst rfl T no ?_
    refine we_name 1 rfl ?_
    refine we_name 0 rfl ?_
    exact ⟨a, rfl, ha, k⟩
  · exact FunD.bindsN F fun _ _ _ _ _ _ us hl => match us, hl with | [_, _], _ => rfl
  · intro s u w' X
    obtain ⟨oc, od, dV, kV, doc, pm, an, cdv, ct, osl, e, lk, hcd, hD, hK⟩ := F.ex
    rcases hD with ⟨_, z⟩ | ⟨z, _⟩
    · subst e z
      exact .of_eq rfl
    · exact absurd rfl z

theorem sc_InvalidTool : FnScope n_InvalidTool_init p_InvalidTool_init (defScope s_InvalidTool_init) := ⟨rfl, rfl, rfl, by decide +kernel, rfl, by decide +kernel, by decide +kernel⟩
theorem xk_InvalidTool {fI : Addr} {fd : FuncData} (T : XcC W.K (W.cl 2)) (F : FnP W.K "__init__" "InvalidTool.__init__" s_InvalidTool_init [] fI fd) (Ti : XcI W.K (W.cl 2) fI) (m : mg "InvalidTool" = some (.ref (W.cl 2))) (no : PySem.W.findIn W.K (.ref (W.cl 2)) "word" = some none) :
    XcK P w W mg base "InvalidTool" 2 "word" := by
  refine ⟨T, ⟨fI, fd, p_InvalidTool_init, Ti, ?_, ?_, rfl, ?_⟩, m, no⟩
  · refine fnDD F sc_InvalidTool fun cdv A outer s H E svs g Q hl hr h => ?_
    obtain ⟨a, sv, rfl, ha, k⟩ := h
    refine ws_one ?_
    refine w1_xst rfl T no ?_
    refine we_name 1 rfl ?_
    refine we_name 0 rfl ?_
    exact ⟨a, rfl, ha, k⟩
  · exact FunD.bindsN F fun _ _ _ _ _ _ us hl => match us, hl with | [_, _], _ => rfl
  · intro s u w' X
    obtain ⟨oc, od, dV, kV, doc, pm, an, cdv, ct, osl, e, lk, hcd, hD, hK⟩ := F.ex
    rcases hD with ⟨_, z⟩ | ⟨z, _⟩
    · subst e z
      exact .of_eq rfl
    · exact absurd rfl z

theorem sc_InvalidTerms : FnScope n_InvalidTerms_init p_InvalidTerms_init (defScope s_InvalidTerms_init) := ⟨rfl, rfl, rfl, by decide +kernel, rfl, by decide +kernel, by decide +kernel⟩
theorem xk_InvalidTerms {fI : Addr} {fd : FuncData} (T : XcC W.K (W.cl 3)) (F : FnP W.K "__init__" "InvalidTerms.__init__" s_InvalidTerms_init [] fI fd) (Ti : XcI W.K (W.cl 3) fI) (m : mg "InvalidTerms" = some (.ref (W.cl 3))) (no : PySem.W.findIn W.K (.ref (W.cl 3)) "word" = some none) :
    XcK P w W mg base "InvalidTerms" 3 "word" := by
  refine ⟨T, ⟨fI, fd, p_InvalidTerms_init, Ti, ?_, ?_, rfl, ?_⟩, m, no⟩
  · refine fnDD F sc_InvalidTerms fun cdv A outer s H E svs g Q hl hr h => ?_
    obtain ⟨a, sv, rfl, ha, k⟩ := h
    refine ws_one ?_
    refine w1_xst rfl T no ?_
    refine we_name 1 rfl ?_
    refine we_name 0 rfl ?_
    exact ⟨a, rfl, ha, k⟩
  · exact FunD.bindsN F fun _ _ _ _ _ _ us hl => match us, hl with | [_, _], _ => rfl
  · intro s u w' X
    obtain ⟨oc, od, dV, kV, doc, pm, an, cdv, ct, osl, e, lk, hcd, hD, hK⟩ := F.ex
    rcases hD with ⟨_, z⟩ | ⟨z, _⟩
    · subst e z
      exact .of_eq rfl
    · exact absurd rfl z

theorem sc_InvalidText : FnScope n_InvalidText_init p_InvalidText_init (defScope s_InvalidText_init) := ⟨rfl, rfl, rfl, by decide +kernel, rfl, by decide +kernel, by decide +kernel⟩
theorem xk_InvalidText {fI : Addr} {fd : FuncData} (T : XcC W.K (W.cl 4)) (F : FnP W.K "__init__" "InvalidText.__init__" s_InvalidText_init [] fI fd) (Ti : XcI W.K (W.cl 4) fI) (m : mg "InvalidText" = some (.ref (W.cl 4))) (no : PySem.W.findIn W.K (.ref (W.cl 4)) "at" = some none) :
    XcK P w W mg base "InvalidText" 4 "at" := by
  refine ⟨T, ⟨fI, fd, p_InvalidText_init, Ti, ?_, ?_, rfl, ?_⟩, m, no⟩
  · refine fnDD F sc_InvalidText fun cdv A outer s H E svs g Q hl hr h => ?_
    obtain ⟨a, sv, rfl, ha, k⟩ := h
    refine ws_one ?_
    refine w1_xst rfl T no ?_
    refine we_name 1 rfl ?_
    refine we_name 0 rfl ?_
    exact ⟨a, rfl, ha, k⟩
  · exact FunD.bindsN F fun _ _ _ _ _ _ us hl => match us, hl with | [_, _], _ => rfl
  · intro s u w' X
    obtain ⟨oc, od, dV, kV, doc, pm, an, cdv, ct, osl, e, lk, hcd, hD, hK⟩ := F.ex
    rcases hD with ⟨_, z⟩ | ⟨z, _⟩
    · subst e z
      exact .of_eq rfl
    · exact absurd rfl z

theorem sc_InvalidEvent : FnScope n_InvalidEvent_init p_InvalidEvent_init (defScope s_InvalidEvent_init) := ⟨rfl, rfl, rfl, by decide +kernel, rfl, by decide +kernel, by decide +kernel⟩
theorem xk_InvalidEvent {fI : Addr} {fd : FuncData} (T : XcC W.K (W.cl 5)) (F : FnP W.K "__init__" "InvalidEvent.__init__" s_InvalidEvent_init [] fI fd) (Ti : XcI W.K (W.cl 5) fI) (m : mg "InvalidEvent" = some (.ref (W.cl 5))) (no : PySem.W.findIn W.K (.ref (W.cl 5)) "at" = some none) :
    XcK P w W mg base "InvalidEvent" 5 "at" := by
  refine ⟨T, ⟨fI, fd, p_InvalidEvent_init, Ti, ?_, ?_, rfl, ?_⟩, m, no⟩
  · refine fnDD F sc_InvalidEvent fun cdv A outer s H E svs g Q hl hr h => ?_
    obtain ⟨a, sv, rfl, ha, k⟩ := h
    refine ws_one ?_
    refine w1_xst rfl T no ?_
    refine we_name 1 rfl ?_
    refine we_name 0 rfl ?_
    exact ⟨a, rfl, ha, k⟩
  · exact FunD.bindsN F fun _ _ _ _ _ _ us hl => match us, hl with | [_, _], _ => rfl
  · intro s u w' X
    obtain ⟨oc, od, dV, kV, doc, pm, an, cdv, ct, osl, e, lk, hcd, hD, hK⟩ := F.ex
    rcases hD with ⟨_, z⟩ | ⟨z, _⟩
    · subst e z
      exact .of_eq rfl
    · exact absurd rfl z

theorem sc_InvalidSeen : FnScope n_InvalidSeen_init p_InvalidSeen_init (defScope s_InvalidSeen_init) := ⟨rfl, rfl, rfl, by decide +kernel, rfl, by decide +kernel, by decide +kernel⟩
theorem xk_InvalidSeen {fI : Addr} {fd : FuncData} (T : XcC W.K (W.cl 7)) (F : FnP W.K "__init__" "InvalidSeen.__init__" s_InvalidSeen_init [] fI fd) (Ti : XcI W.K (W.cl 7) fI) (m : mg "InvalidSeen" = some (.ref (W.cl 7))) (no : PySem.W.findIn W.K (.ref (W.cl 7)) "at" = some none) :
    XcK P w W mg base "InvalidSeen" 7 "at" := by
  refine ⟨T, ⟨fI, fd, p_InvalidSeen_init, Ti, ?_, ?_, rfl, ?_⟩, m, no⟩
  · refine fnDD F sc_InvalidSeen fun cdv A outer s H E svs g Q hl hr h => ?_
    obtain ⟨a, sv, rfl, ha, k⟩ := h
    refine ws_one ?_
    refine w1_xst rfl T no ?_
    refine we_name 1 rfl ?_
    refine we_name 0 rfl ?_
    exact ⟨a, rfl, ha, k⟩
  · exact FunD.bindsN F fun _ _ _ _ _ _ us hl => match us, hl with | [_, _], _ => rfl
  · intro s u w' X
    obtain ⟨oc, od, dV, kV, doc, pm, an, cdv, ct, osl, e, lk, hcd, hD, hK⟩ := F.ex
    rcases hD with ⟨_, z⟩ | ⟨z, _⟩
    · subst e z
      exact .of_eq rfl
    · exact absurd rfl z

theorem sc_Refused : FnScope n_Refused_init p_Refused_init (defScope s_Refused_init) := ⟨rfl, rfl, rfl, by decide +kernel, rfl, by decide +kernel, by decide +kernel⟩
theorem xk_Refused {fI : Addr} {fd : FuncData} (T : XcC W.K (W.cl 9)) (F : FnP W.K "__init__" "Refused.__init__" s_Refused_init [] fI fd) (Ti : XcI W.K (W.cl 9) fI) (m : mg "Refused" = some (.ref (W.cl 9))) (no : PySem.W.findIn W.K (.ref (W.cl 9)) "at" = some none) :
    XcK P w W mg base "Refused" 9 "at" := by
  refine ⟨T, ⟨fI, fd, p_Refused_init, Ti, ?_, ?_, rfl, ?_⟩, m, no⟩
  · refine fnDD F sc_Refused fun cdv A outer s H E svs g Q hl hr h => ?_
    obtain ⟨a, sv, rfl, ha, k⟩ := h
    refine ws_one ?_
    refine w1_xst rfl T no ?_
    refine we_name 1 rfl ?_
    refine we_name 0 rfl ?_
    exact ⟨a, rfl, ha, k⟩
  · exact FunD.bindsN F fun _ _ _ _ _ _ us hl => match us, hl with | [_, _], _ => rfl
  · intro s u w' X
    obtain ⟨oc, od, dV, kV, doc, pm, an, cdv, ct, osl, e, lk, hcd, hD, hK⟩ := F.ex
    rcases hD with ⟨_, z⟩ | ⟨z, _⟩
    · subst e z
      exact .of_eq rfl
    · exact absurd rfl z

theorem sc_NoRow : FnScope n_NoRow_init p_NoRow_init (defScope s_NoRow_init) := ⟨rfl, rfl, rfl, by decide +kernel, rfl, by decide +kernel, by decide +kernel⟩
theorem xk_NoRow {fI : Addr} {fd : FuncData} (T : XcC W.K (W.cl 10)) (F : FnP W.K "__init__" "NoRow.__init__" s_NoRow_init [] fI fd) (Ti : XcI W.K (W.cl 10) fI) (m : mg "NoRow" = some (.ref (W.cl 10))) (no : PySem.W.findIn W.K (.ref (W.cl 10)) "at" = some none) :
    XcK P w W mg base "NoRow" 10 "at" := by
  refine ⟨T, ⟨fI, fd, p_NoRow_init, Ti, ?_, ?_, rfl, ?_⟩, m, no⟩
  · refine fnDD F sc_NoRow fun cdv A outer s H E svs g Q hl hr h => ?_
    obtain ⟨a, sv, rfl, ha, k⟩ := h
    refine ws_one ?_
    refine w1_xst rfl T no ?_
    refine we_name 1 rfl ?_
    refine we_name 0 rfl ?_
    exact ⟨a, rfl, ha, k⟩
  · exact FunD.bindsN F fun _ _ _ _ _ _ us hl => match us, hl with | [_, _], _ => rfl
  · intro s u w' X
    obtain ⟨oc, od, dV, kV, doc, pm, an, cdv, ct, osl, e, lk, hcd, hD, hK⟩ := F.ex
    rcases hD with ⟨_, z⟩ | ⟨z, _⟩
    · subst e z
      exact .of_eq rfl
    · exact absurd rfl z

def Gr (g g' : G) : Prop := ∀ b o, g b = some o → g' b = some o
theorem Gr.refl (g : G) : Gr g g := fun _ _ h => h
theorem Gr.trans {g g1 g2 : G} (h : Gr g g1) (k : Gr g1 g2) : Gr g g2 := fun b o e => k b o (h b o e)
theorem Gr.new {g : G} {a : Addr} {o : MO} (h : g a = none) : Gr g (gset g a o) := fun b u e => by
  rw [gset_ne (fun z => by rw [z, h] at e; cases e)]
  exact e
theorem Gr.at {g g' : G} {b : Addr} {o : MO} (h : Gr g g') (e : g b = some o) : g' b = some o := h b o e
theorem Gr.none {g g' : G} {a : Addr} (h : Gr g g') (e : g' a = none) : g a = none := by
  cases q : g a with
  | none => rfl
  | some o => rw [h a o q] at e; cases e
def spKept : SpD := fun svs g Q => ∃ sv, svs = [sv] ∧ ∀ p g', Gr g g' → g p = none → g' p = some (.lst (List.replicate 12 sv)) → Q (.ob p) g'
theorem sc_kept : FnScope n__law_kept p__law_kept (defScope s__law_kept) := ⟨rfl, rfl, rfl, by decide +kernel, rfl, by decide +kernel, by decide +kernel⟩
theorem ok_kept {f : Addr} {fd : FuncData} (F : FnP W.K "_law_kept" "_law_kept" s__law_kept [] f fd) (C1 : XcK P w W mg base "InvalidRow" 1 "word") (C2 : XcK P w W mg base "InvalidTool" 2 "word") (C3 : XcK P w W mg base "InvalidTerms" 3 "word")
    (C4 : XcK P w W mg base "InvalidText" 4 "at") (C5 : XcK P w W mg base "InvalidEvent" 5 "at") (C7 : XcK P w W mg base "InvalidSeen" 7 "at") (C9 : XcK P w W mg base "Refused" 9 "at") (C10 : XcK P w W mg base "NoRow" 10 "at") : FnOk P w W.K mg base CX0 3 f fd p__law_kept (liftSp W 1 spKept) := by
  refine fnDD F sc_kept fun cdv A outer s H E svs g Q hl hr h => ?_
  obtain ⟨sv, rfl, k⟩ := h

  refine ws_cons ?_
  refine w1_set 1 sc_kept.nd ?_
  refine we_lstO ?_
  refine wa_cons ?_
  refine we_xF C1 ?_
  refine we_xC C1 hr ?_
  refine we_name 0 rfl ?_
  refine fun a1 h1 => ?_
  refine ⟨a1, sv, rfl, gset_same, ?_⟩
  refine wa_cons ?_
  refine we_xF C2 ?_
  refine we_xKC C2 hr ?_
  refine we_name 0 rfl ?_
  refine fun a2 h2 => ?_
  refine ⟨a2, sv, rfl, gset_same, ?_⟩
  refine wa_nil ?_
  refine ⟨Nat.le_of_ble_eq_true rfl, fun p0 hp0 => ?_⟩
  refine ws_cons ?_
  refine w1_set 1 sc_kept.nd ?_
  refine we_op op_cat ?_
  refine we_name 1 rfl ?_
  refine we_lstO ?_
  refine wa_cons ?_
  refine we_xF C3 ?_
  refine we_xC C3 hr ?_
  refine we_name 0 rfl ?_
  refine fun a3 h3 => ?_
  refine ⟨a3, sv, rfl, gset_same, ?_⟩
  refine wa_cons ?_
  refine we_xF C1 ?_
  refine we_xKC C1 hr ?_
  refine we_name 0 rfl ?_
  refine fun a4 h4 => ?_
  refine ⟨a4, sv, rfl, gset_same, ?_⟩
  refine wa_nil ?_
  refine ⟨Nat.le_of_ble_eq_true rfl, fun p1 hp1 => ?_⟩
  refine rw_cat (Gr.at (Gr.trans (Gr.trans (Gr.new h3) (Gr.new h4)) (Gr.new hp1)) gset_same) gset_same (Nat.le_of_ble_eq_true rfl) fun r1 hr1 => ?_
  refine ws_cons ?_
  refine w1_set 1 sc_kept.nd ?_
  refine we_op op_cat ?_
  refine we_name 1 rfl ?_
  refine we_lstO ?_
  refine wa_cons ?_
  refine we_xF C4 ?_
  refine we_xKC C4 hr ?_
  refine we_name 0 rfl ?_
  refine fun a5 h5 => ?_
  refine ⟨a5, sv, rfl, gset_same, ?_⟩
  refine wa_cons ?_
  refine we_xF C5 ?_
  refine we_xC C5 hr ?_
  refine we_name 0 rfl ?_
  refine fun a6 h6 => ?_
  refine ⟨a6, sv, rfl, gset_same, ?_⟩
  refine wa_cons ?_
  refine we_xF C7 ?_
  refine we_xKC C7 hr ?_
  refine we_name 0 rfl ?_
  refine fun a7 h7 => ?_
  refine ⟨a7, sv, rfl, gset_same, ?_⟩
  refine wa_cons ?_
  refine we_xF C9 ?_
  refine we_xC C9 hr ?_
  refine we_name 0 rfl ?_
  refine fun a8 h8 => ?_
  refine ⟨a8, sv, rfl, gset_same, ?_⟩
  refine wa_nil ?_
  refine ⟨Nat.le_of_ble_eq_true rfl, fun p2 hp2 => ?_⟩
  refine rw_cat (Gr.at (Gr.trans (Gr.trans (Gr.trans (Gr.trans (Gr.new h5) (Gr.new h6)) (Gr.new h7)) (Gr.new h8)) (Gr.new hp2)) gset_same) gset_same (Nat.le_of_ble_eq_true rfl) fun r2 hr2 => ?_
  refine ws_one ?_
  refine w1_ret ?_
  refine we_op op_cat ?_
  refine we_name 1 rfl ?_
  refine we_lstO ?_
  refine wa_cons ?_
  refine we_xF C10 ?_
  refine we_xKC C10 hr ?_
  refine we_name 0 rfl ?_
  refine fun a9 h9 => ?_
  refine ⟨a9, sv, rfl, gset_same, ?_⟩
  refine wa_cons ?_
  refine we_xF C10 ?_
  refine we_xC C10 hr ?_
  refine we_name 0 rfl ?_
  refine fun a10 h10 => ?_
  refine ⟨a10, sv, rfl, gset_same, ?_⟩
  refine wa_cons ?_
  refine we_xF C9 ?_
  refine we_xKC C9 hr ?_
  refine we_name 0 rfl ?_
  refine fun a11 h11 => ?_
  refine ⟨a11, sv, rfl, gset_same, ?_⟩
  refine wa_cons ?_
  refine we_xF C3 ?_
  refine we_xKC C3 hr ?_
  refine we_name 0 rfl ?_
  refine fun a12 h12 => ?_
  refine ⟨a12, sv, rfl, gset_same, ?_⟩
  refine wa_nil ?_
  refine ⟨Nat.le_of_ble_eq_true rfl, fun p3 hp3 => ?_⟩
  refine rw_cat (Gr.at (Gr.trans (Gr.trans (Gr.trans (Gr.trans (Gr.new h9) (Gr.new h10)) (Gr.new h11)) (Gr.new h12)) (Gr.new hp3)) gset_same) gset_same (Nat.le_of_ble_eq_true rfl) fun r3 hr3 => ?_
  exact k r3 _ (Gr.trans (Gr.trans (Gr.trans (Gr.trans (Gr.trans (Gr.trans (Gr.trans (Gr.trans (Gr.trans (Gr.trans (Gr.trans (Gr.trans (Gr.trans (Gr.trans (Gr.trans (Gr.trans (Gr.trans (Gr.trans (Gr.new h1) (Gr.new h2)) (Gr.new hp0)) (Gr.new h3)) (Gr.new h4)) (Gr.new hp1)) (Gr.new hr1)) (Gr.new h5)) (Gr.new h6)) (Gr.new h7)) (Gr.new h8)) (Gr.new hp2)) (Gr.new hr2)) (Gr.new h9)) (Gr.new h10)) (Gr.new h11)) (Gr.new h12)) (Gr.new hp3)) (Gr.new hr3)) (Gr.none (Gr.trans (Gr.trans (Gr.trans (Gr.trans (Gr.trans (Gr.trans (Gr.trans (Gr.trans (Gr.trans (Gr.trans (Gr.trans (Gr.trans (Gr.trans (Gr.trans (Gr.trans (Gr.trans (Gr.trans (Gr.new h1) (Gr.new h2)) (Gr.new hp0)) (Gr.new h3)) (Gr.new h4)) (Gr.new hp1)) (Gr.new hr1)) (Gr.new h5)) (Gr.new h6)) (Gr.new h7)) (Gr.new h8)) (Gr.new hp2)) (Gr.new hr2)) (Gr.new h9)) (Gr.new h10)) (Gr.new h11)) (Gr.new h12)) (Gr.new hp3)) hr3) gset_same

end
end K

namespace K
open PySem PySem.Spec PyProof.Rows L2 DL
section
variable {P : Program} {w : World} {W : Wd} {mg : Str → Option Value} {base : Heap}
/-- the errors, as they are numbered -/
def nums : List Nat := [1, 2, 3, 4, 5, 6, 7, 8, 9]
def nameOf : Nat → Str
  | 1 => "InvalidRow" | 2 => "InvalidTool" | 3 => "InvalidTerms" | 4 => "InvalidText" | 5 => "InvalidEvent" | 6 => "InvalidFault" | 7 => "InvalidSeen" | 8 => "InvalidCommand" | 9 => "Refused" | 10 => "NoRow" | _ => "CardError"
structure Errs (W : Wd) (mg : Str → Option Value) : Prop where
  m : ∀ c, c ≤ 10 → mg (nameOf c) = some (.ref (W.cl c))
  xi : ∀ c, c ≤ 10 → L2.ExcC W.K (W.cl c)
  k : ∀ c ∈ nums, ∀ d ∈ nums, PySem.W.kitOne W.K (.ref (W.cl c)) (.ref (W.cl d)) = some (decide (c = d))
  kb : ∀ c ∈ nums, PySem.W.kitOne W.K (.ref (W.cl c)) (.ref (W.cl 0)) = some true
  kv : ∀ c ∈ nums, PySem.W.kitOne W.K (.ref (W.cl c)) (.type "ValueError") = some true
  kk : ∀ c ∈ nums, PySem.W.kitAny W.K (.ref (W.cl c)) [.type "KeyError", .type "IndexError"] = some false
  ni : PySem.W.kitOne W.K (.ref (W.cl 10)) (.type "IndexError") = some true
  nv : PySem.W.kitOne W.K (.ref (W.cl 10)) (.type "ValueError") = some false
  nk : PySem.W.kitOne W.K (.ref (W.cl 10)) (.type "KeyError") = some false
  mI : mg "isinstance" = none
  mV : mg "ValueError" = none
  mK : mg "KeyError" = none
  mX : mg "IndexError" = none
def spSorts : SpD := fun svs g Q => ∃ a c fs, svs = [.ob a] ∧ c ∈ nums ∧ g a = some (.exc c fs) ∧ ∀ g', Gr g g' → Q (.d (.int 1)) g'
theorem le_of_nums {c : Nat} (h : c ∈ nums) : c ≤ 10 := by
  unfold nums at h
  simp at h
  omega
theorem sc_sorts : FnScope n__law_sorts p__law_sorts (defScope s__law_sorts) := ⟨rfl, rfl, rfl, by decide +kernel, rfl, by decide +kernel, by decide +kernel⟩
theorem gr_gdel {g g' : G} {p : Addr} (h : Gr g g') (hp : g p = none) : Gr g (gdel g' p) := fun b o e => by
  rw [gdel_ne (fun z => by rw [z, hp] at e; cases e)]
  exact h b o e
theorem ones {bs : List Bool} {i : Nat} : (bs.take i).filter id = (bs.take i).filter id := rfl
theorem ok_sorts {f : Addr} {fd : FuncData} (F : FnP W.K "_law_sorts" "_law_sorts" s__law_sorts [] f fd) (mLen : mg "len" = none) (ER : Errs W mg) : FnOk P w W.K mg base CX0 1 f fd p__law_sorts (liftSp W 1 spSorts) := by
  refine fnDD F sc_sorts fun cdv A outer s H E svs g Q hl hr h => ?_
  obtain ⟨a, c, fs, rfl, hc, ha, k⟩ := h
  have hc10 := le_of_nums hc

  refine ws_cons ?_
  refine w1_set 1 sc_sorts.nd ?_
  refine we_lstO ?_
  refine wa_cons ?_
  refine we_isX rfl ER.mI (pe_glob (v := .ref (W.cl 1)) rfl (ER.m 1 (by decide)) rfl) (.own _) ?_
  refine we_name 0 rfl ?_
  refine ⟨a, c, fs, _, rfl, ha, ER.xi c hc10, ER.k c hc 1 (by decide), ?_⟩
  refine wa_cons ?_
  refine we_isX rfl ER.mI (pe_glob (v := .ref (W.cl 2)) rfl (ER.m 2 (by decide)) rfl) (.own _) ?_
  refine we_name 0 rfl ?_
  refine ⟨a, c, fs, _, rfl, ha, ER.xi c hc10, ER.k c hc 2 (by decide), ?_⟩
  refine wa_cons ?_
  refine we_isX rfl ER.mI (pe_glob (v := .ref (W.cl 3)) rfl (ER.m 3 (by decide)) rfl) (.own _) ?_
  refine we_name 0 rfl ?_
  refine ⟨a, c, fs, _, rfl, ha, ER.xi c hc10, ER.k c hc 3 (by decide), ?_⟩
  refine wa_nil ?_
  refine ⟨Nat.le_of_ble_eq_true rfl, fun p0 hp0 => ?_⟩
  refine ws_cons ?_
  refine w1_set 1 sc_sorts.nd ?_
  refine we_op op_cat ?_
  refine we_name 1 rfl ?_
  refine we_lstO ?_
  refine wa_cons ?_
  refine we_isX rfl ER.mI (pe_glob (v := .ref (W.cl 4)) rfl (ER.m 4 (by decide)) rfl) (.own _) ?_
  refine we_name 0 rfl ?_
  refine ⟨a, c, fs, _, rfl, Gr.at (Gr.new hp0) ha, ER.xi c hc10, ER.k c hc 4 (by decide), ?_⟩
  refine wa_cons ?_
  refine we_isX rfl ER.mI (pe_glob (v := .ref (W.cl 5)) rfl (ER.m 5 (by decide)) rfl) (.own _) ?_
  refine we_name 0 rfl ?_
  refine ⟨a, c, fs, _, rfl, Gr.at (Gr.new hp0) ha, ER.xi c hc10, ER.k c hc 5 (by decide), ?_⟩
  refine wa_cons ?_
  refine we_isX rfl ER.mI (pe_glob (v := .ref (W.cl 6)) rfl (ER.m 6 (by decide)) rfl) (.own _) ?_
  refine we_name 0 rfl ?_
  refine ⟨a, c, fs, _, rfl, Gr.at (Gr.new hp0) ha, ER.xi c hc10, ER.k c hc 6 (by decide), ?_⟩
  refine wa_nil ?_
  refine ⟨Nat.le_of_ble_eq_true rfl, fun p1 hp1 => ?_⟩
  refine rw_cat (Gr.at (Gr.new hp1) gset_same) gset_same (Nat.le_of_ble_eq_true rfl) ?_
  refine fun r1 hr1 => ?_
  refine ws_cons ?_
  refine w1_set 1 sc_sorts.nd ?_
  refine we_op op_cat ?_
  refine we_name 1 rfl ?_
  refine we_lstO ?_
  refine wa_cons ?_
  refine we_isX rfl ER.mI (pe_glob (v := .ref (W.cl 7)) rfl (ER.m 7 (by decide)) rfl) (.own _) ?_
  refine we_name 0 rfl ?_
  refine ⟨a, c, fs, _, rfl, Gr.at (Gr.trans (Gr.trans (Gr.new hp0) (Gr.new hp1)) (Gr.new hr1)) ha, ER.xi c hc10, ER.k c hc 7 (by decide), ?_⟩
  refine wa_cons ?_
  refine we_isX rfl ER.mI (pe_glob (v := .ref (W.cl 8)) rfl (ER.m 8 (by decide)) rfl) (.own _) ?_
  refine we_name 0 rfl ?_
  refine ⟨a, c, fs, _, rfl, Gr.at (Gr.trans (Gr.trans (Gr.new hp0) (Gr.new hp1)) (Gr.new hr1)) ha, ER.xi c hc10, ER.k c hc 8 (by decide), ?_⟩
  refine wa_cons ?_
  refine we_isX rfl ER.mI (pe_glob (v := .ref (W.cl 9)) rfl (ER.m 9 (by decide)) rfl) (.own _) ?_
  refine we_name 0 rfl ?_
  refine ⟨a, c, fs, _, rfl, Gr.at (Gr.trans (Gr.trans (Gr.new hp0) (Gr.new hp1)) (Gr.new hr1)) ha, ER.xi c hc10, ER.k c hc 9 (by decide), ?_⟩
  refine wa_nil ?_
  refine ⟨Nat.le_of_ble_eq_true rfl, fun p2 hp2 => ?_⟩
  refine rw_cat (Gr.at (Gr.new hp2) gset_same) gset_same (Nat.le_of_ble_eq_true rfl) ?_
  refine fun r2 hr2 => ?_
  refine ws_one ?_
  refine w1_ret ?_
  refine we_callB call_len rfl mLen PySem.boot_len ?_
  refine wa_cons ?_
  refine we_lcL (j := 2) (own := [("_law_is_so", 2)]) (fun l i ys g' => Gr g g' ∧ l = nums.map (fun d => D.bl (decide (c = d))) ∧ ys = ((nums.take i).filter fun d => decide (c = d)).map fun _ => D.int 1) rfl sc_sorts.nd rfl (blkOk_by (N := n__law_sorts) (sc := defScope s__law_sorts) (by decide +kernel)) (fun _ _ _ _ _ => pg_name sc_sorts.nd rfl (Or.inl rfl)) (by decide) ?_
  refine we_freeze ?_
  refine we_name 1 rfl ?_
  refine ⟨r2, rfl, .inl ⟨nums.map (fun d => D.bl (decide (c = d))), gset_same, _, rfl, Nat.le_of_ble_eq_true rfl, ⟨gr_gdel (Gr.trans (Gr.trans (Gr.trans (Gr.trans (Gr.new hp0) (Gr.new hp1)) (Gr.new hr1)) (Gr.new hp2)) (Gr.new hr2)) (Gr.none (Gr.trans (Gr.trans (Gr.trans (Gr.new hp0) (Gr.new hp1)) (Gr.new hr1)) (Gr.new hp2)) hr2), rfl, rfl⟩, ?_, ?_⟩⟩
  · rintro i x ys g' hx ⟨hG, _, rfl⟩
    rw [List.getElem?_map] at hx
    obtain ⟨d, hd, rfl⟩ : ∃ d, nums[i]? = some d ∧ x = D.bl (decide (c = d)) := by
      cases e : nums[i]? with
      | none => rw [e] at hx; cases hx
      | some d => rw [e] at hx; exact ⟨d, rfl, (Option.some.inj hx).symm⟩
    intro L hL s' H' C cl fp
    refine wt_val ?_
    refine we_name 2 rfl ?_
    refine ⟨_, rfl, ?_⟩
    by_cases z : c = d
    · rw [if_pos (decide_eq_true z)]
      intro s'' H'' C' cl' fp'
      refine we_int ?_
      refine ⟨_, _, rfl, hL, rfl, hG, rfl, ?_⟩
      rw [List.take_add_one, hd]
      simp [z]
    · rw [if_neg (by rw [decide_eq_false z]; decide)]
      refine ⟨_, hL, rfl, hG, rfl, ?_⟩
      rw [List.take_add_one, hd]
      simp [z]
  rintro ys g' _ ⟨hG, _, rfl⟩
  refine wa_nil ?_
  refine rc_len (.inl ⟨_, rfl, rfl⟩) ?_
  have e : (((((nums.take (nums.map (fun d => D.bl (decide (c = d)))).length).filter fun d => decide (c = d)).map fun _ => D.int 1).map SV.d).length : Int) = 1 := by
    rw [List.length_map, List.length_map, List.length_map, List.take_of_length_le (Nat.le_refl _)]
    unfold nums at hc ⊢
    simp only [List.mem_cons, List.not_mem_nil, or_false] at hc
    rcases hc with rfl | rfl | rfl | rfl | rfl | rfl | rfl | rfl | rfl <;> decide
  rw [e]
  exact k _ hG

end
end K

namespace K
open PySem PySem.Spec PyProof.Rows L2 DL
/-! ### what is shown -/
def PB (n b : Nat) (p : PyData) : Prop := p.showable = true ∧ p.hasDict = false ∧ p.depth ≤ n ∧ p.shown.length ≤ b
theorem pb_all {n b : Nat} : ∀ ps : List PyData, (∀ p ∈ ps, PB n b p) → PyData.showableAll ps = true ∧ PyData.hasDictAll ps = false ∧ PyData.depthAll ps ≤ n ∧ tsum (PyData.shownAll ps) ≤ ps.length * (b + 2)
  | [], _ => ⟨rfl, rfl, Nat.zero_le _, Nat.zero_le _⟩
  | p :: ps, h => by
    obtain ⟨h1, h2, h3, h4⟩ := h p List.mem_cons_self
    obtain ⟨k1, k2, k3, k4⟩ := pb_all ps fun x hx => h x (List.mem_cons_of_mem _ hx)
    refine ⟨?_, ?_, ?_, ?_⟩
    · show (PyData.showable p && PyData.showableAll ps) = true
      rw [h1, k1]; rfl
    · show (PyData.hasDict p || PyData.hasDictAll ps) = false
      rw [h2, k2]; rfl
    · show max (PyData.depth p) (PyData.depthAll ps) ≤ n
      omega
    · show p.shown.length + 2 + tsum (PyData.shownAll ps) ≤ (ps.length + 1) * (b + 2)
      rw [Nat.add_mul]; omega
theorem pb_list {n b : Nat} {ps : List PyData} (h : ∀ p ∈ ps, PB n b p) : PB (n + 1) (ps.length * (b + 2) + 2) (.list ps) := by
  obtain ⟨k1, k2, k3, k4⟩ := pb_all ps h
  refine ⟨k1, k2, Nat.succ_le_succ k3, ?_⟩
  show (listText (PyData.shownAll ps)).length ≤ _
  rw [list_len]
  split <;> omega
def ThOk (p : PyData) : Prop := PB 4 2402 p
def KeOk (p : PyData) : Prop := PB 5 28850 p
theorem PB.mono {n b m c : Nat} {p : PyData} (h : PB n b p) (h1 : n ≤ m) (h2 : b ≤ c) : PB m c p := ⟨h.1, h.2.1, Nat.le_trans h.2.2.1 h1, Nat.le_trans h.2.2.2 h2⟩
theorem th_one {p : PyData} (h : PB 3 1197 p) : ThOk (.list [p]) := (pb_list (ps := [p]) (fun x hx => by rw [List.mem_singleton.mp hx]; exact h)).mono (by decide) (by show 1 * 1199 + 2 ≤ 2402; decide)
theorem th_two {p r : PyData} (h : PB 3 1197 p) (k : PB 3 1197 r) : ThOk (.list [p, r]) := (pb_list (ps := [p, r]) (fun x hx => by
  rcases List.mem_cons.mp hx with z | z
  · rw [z]; exact h
  · rw [List.mem_singleton.mp z]; exact k)).mono (by decide) (by show 2 * 1199 + 2 ≤ 2402; decide)
theorem ke_of {p : PyData} (h : ThOk p) : KeOk (.list (List.replicate 12 p)) := (pb_list (ps := List.replicate 12 p) (fun x hx => by rw [List.eq_of_mem_replicate hx]; exact h)).mono (by decide) (by rw [List.length_replicate]; show 12 * 2404 + 2 ≤ 28850; decide)
theorem ke_len {p : PyData} : (PyData.list (List.replicate 12 p)).shown.length = 12 * (p.shown.length + 2) := by
  show (listText (PyData.shownAll (List.replicate 12 p))).length = _
  rw [list_len, if_neg (by show PyData.shownAll (p :: List.replicate 11 p) ≠ []; simp [PyData.shownAll])]
  show tsum [p.shown, p.shown, p.shown, p.shown, p.shown, p.shown, p.shown, p.shown, p.shown, p.shown, p.shown, p.shown] = _
  simp only [tsum]
  omega
theorem th1_len {p : PyData} : (PyData.list [p]).shown.length = p.shown.length + 2 := by
  show (listText [p.shown]).length = _
  rw [list_len, if_neg (by simp)]
  simp only [tsum]
theorem th2_len {p r : PyData} : (PyData.list [p, r]).shown.length = p.shown.length + 2 + (r.shown.length + 2) := by
  show (listText [p.shown, r.shown]).length = _
  rw [list_len, if_neg (by simp)]
  simp only [tsum]
theorem ke_ne {p r : PyData} : (PyData.list (List.replicate 12 (.list [p]))).shown ≠ (PyData.list (List.replicate 12 (.list [p, r]))).shown := fun e => by
  have z := congrArg Str.length e
  rw [ke_len, ke_len, th1_len, th2_len] at z
  omega
theorem pb_of {n : Nat} {p : PyData} (h : POk n p) (hn : n ≤ 3) : PB 3 1197 p := by
  refine PB.mono (n := n) (b := LB n) h hn ?_
  match n, hn with
  | 0, _ => decide
  | 1, _ => decide
  | 2, _ => decide
  | 3, _ => decide
theorem pyr_rep {g : G} {n : Nat} {sv : SV} {p : PyData} (h : PyR g n sv p) : ∀ m : Nat, Paired (PyR g n) (List.replicate m sv) (List.replicate m p)
  | 0 => .nil
  | m + 1 => .cons h (pyr_rep h m)
theorem pyr_kept {g : G} {p t : Addr} {d : PyData} (hp : g p = some (.lst (List.replicate 12 (.ob t)))) (h : PyR g 1 (.ob t) d) : PyR g 2 (.ob p) (.list (List.replicate 12 d)) := .inr ⟨p, _, _, rfl, hp, pyr_rep h 12, rfl⟩
theorem pyr_one {g : G} {t : Addr} {d : D} {p : PyData} (ht : g t = some (.lst [.d d])) (h : toPy d = some p) : PyR g 1 (.ob t) (.list [p]) := .inr ⟨t, _, _, rfl, ht, .cons ⟨d, rfl, h⟩ .nil, rfl⟩
theorem pyr_two {g : G} {t : Addr} {d e : D} {p r : PyData} (ht : g t = some (.lst ([.d d] ++ [.d e]))) (h : toPy d = some p) (k : toPy e = some r) : PyR g 1 (.ob t) (.list [p, r]) := .inr ⟨t, _, _, rfl, ht, .cons ⟨d, rfl, h⟩ (.cons ⟨e, rfl, k⟩ .nil), rfl⟩
theorem rc_th {W : Wd} {g : G} {Q : QE} {n : Nat} {sv : SV} {ps : List PyData} {m b : Nat} (h : PyR g n sv (.list ps)) (k : PB m b (.list ps)) (hm : m ≤ 60) (hb : b ≤ 16777216) (q : Q (.d (.str (PyData.list ps).shown)) g) : RC W (rRepr W.K) [sv] g Q :=
  rc_reprR n h trivial k.1 k.2.1 (Nat.le_trans k.2.2.1 hm) (by rw [sizeLine_eq]; exact Nat.le_trans k.2.2.2 hb) q
theorem deal_gr {a q : Addr} {g g' : G} (h : DealAt a q g) (k : Gr g g') : DealAt a q g' := by
  obtain ⟨naq, cells, m, h1, h2, r⟩ := h
  exact ⟨naq, cells, m, k a _ h1, k q _ h2, r⟩
section
variable {P : Program} {w : World} {W : Wd} {mg : Str → Option Value} {base : Heap}
theorem sc_law : FnScope n_law p_law (defScope s_law) := ⟨rfl, rfl, rfl, by decide +kernel, rfl, by decide +kernel, by decide +kernel⟩
theorem ok_law {f : Addr} {fd : FuncData} (F : FnP W.K "law" "law" s_law [] f fd) (mR : mg "repr" = none) (mRange : mg "range" = none) (ER : Errs W mg)
    (CDeal : CallOk P w W mg base "_law_deal" 1 2 spDeal) (CV3 : CallOk P w W mg base "_law_value" 6 2 (spVal 3)) (CV2 : CallOk P w W mg base "_law_value" 5 2 (spVal 2)) (CK : CallOk P w W mg base "_law_kept" 3 1 spKept) (CS : CallOk P w W mg base "_law_sorts" 1 1 spSorts)
    (C1 : XcK P w W mg base "InvalidRow" 1 "word") (C2 : XcK P w W mg base "InvalidTool" 2 "word") (C3 : XcK P w W mg base "InvalidTerms" 3 "word") (C4 : XcK P w W mg base "InvalidText" 4 "at") (C5 : XcK P w W mg base "InvalidEvent" 5 "at")
    (C7 : XcK P w W mg base "InvalidSeen" 7 "at") (C9 : XcK P w W mg base "Refused" 9 "at") (C10 : XcK P w W mg base "NoRow" 10 "at") (N6 : XcN W.K (W.cl 6)) (N8 : XcN W.K (W.cl 8)) (k6 : PySem.W.keepIn W.K (.ref (W.cl 6)) = true) (k8 : PySem.W.keepIn W.K (.ref (W.cl 8)) = true) :
    LawAt P w W.K mg base f fd "_law_script" (spLawD W) := by
  refine lawD (k := 8) F sc_law rfl ⟨rfl, by decide, by decide⟩ fun cdv s H ns hns hr => ?_
  have hr1 := hr.mono (j := 1) (by decide)
  have hr2 := hr.mono (j := 2) (by decide)
  have hr3 := hr.mono (j := 3) (by decide)
  have hr5 := hr.mono (j := 5) (by decide)
  have hr6 := hr.mono (j := 6) (by decide)
  refine ws_cons ?_
  refine w1_set 1 sc_law.nd ?_
  refine we_callC CDeal hr1 ?_
  refine wa_cons ?_
  refine we_name 0 rfl ?_
  refine wa_cons ?_
  refine we_int ?_
  refine wa_nil ?_
  refine ⟨rfl, ns, 0, rfl, hns, by decide, by decide, fun a q g0 hD _ _ _ => ?_⟩
  refine ws_cons (w1_forR PassesOwn.never rfl rfl mRange (pg_name (i := 2) sc_law.nd rfl (Or.inl rfl)) (fun n i ρ' g' => n = 6 ∧ DealAt a q g' ∧ ∃ z2 z3 z4 z5, ρ' = [some (.d (.lst (ns.map D.int))), some (.ob a), z2, z3, z4, z5, none, none, none]) ?_)
  refine we_int ?_
  refine ⟨6, rfl, by decide, by decide, ⟨rfl, hD, none, none, none, none, rfl⟩, ?_, ?_⟩
  · rintro i ρ' g' hi ⟨_, hD, z2, z3, z4, z5, rfl⟩
    refine wg_name ?_
    refine ws_cons ?_
    refine w1_set 3 sc_law.nd ?_
    refine we_lstO ?_
    refine wa_cons ?_
    refine we_callC CV3 hr6 ?_
    refine wa_cons ?_
    refine we_name 1 rfl ?_
    refine wa_cons ?_
    refine we_int ?_
    refine wa_nil ?_
    refine ⟨rfl, a, q, rfl, hD, fun d0 g1 hd0 hD1 ap1 => ?_⟩
    refine wa_nil ?_
    refine ⟨Nat.le_of_ble_eq_true rfl, fun t ht => ?_⟩
    obtain ⟨p0, hp0, ok0⟩ := hd0
    have b0 := pb_of ok0 (Nat.le_refl _)
    obtain ⟨nta, ntq⟩ := deal_ne hD1 ht
    refine ws_cons (w1_par 4 5 rfl sc_law.nd ?_)
    refine wa_cons ?_
    refine we_xC C10 hr2 ?_
    refine we_name 3 rfl ?_
    refine fun e he => ?_
    refine wa_cons ?_
    refine we_callB (cr_repr rfl hr.units) rfl mR PyProof.Rows.boot_repr ?_
    refine wa_cons ?_
    refine we_callC CK hr3 ?_
    refine wa_cons ?_
    refine we_name 3 rfl ?_
    refine wa_nil ?_
    refine ⟨rfl, _, rfl, fun p g2 G2 np hp => ?_⟩
    have ht2 : g2 t = some (.lst [.d d0]) := G2 t _ (Gr.at (Gr.new he) gset_same)
    have he2 : g2 e = some (.exc 10 [("at", .ob t)]) := G2 e _ gset_same
    have hD2 : DealAt a q g2 := deal_gr hD1 (Gr.trans (Gr.trans (Gr.new ht) (Gr.new he)) G2)
    refine wa_nil ?_
    refine rc_th (pyr_kept hp (pyr_one ht2 hp0)) (ke_of (th_one b0)) (by decide) (by decide) ?_
    refine wa_nil ?_
    refine ⟨_, _, rfl, ?_⟩
    refine ws_cons ?_
    refine w1_expr ?_
    refine we_bm rfl PySem.F.plainAttrs_list PySem.F.slot_list_append PySem.F.type_list_append mt_append ?_
    refine we_name 3 rfl ?_
    refine ⟨⟨rfl, _, ht2⟩, ?_⟩
    refine wa_cons ?_
    refine we_callC CV2 hr5 ?_
    refine wa_cons ?_
    refine we_name 1 rfl ?_
    refine wa_cons ?_
    refine we_int ?_
    refine wa_nil ?_
    refine ⟨rfl, a, q, rfl, hD2, fun d1 g3 hd1 hD3 ap3 => ?_⟩
    refine wa_nil ?_
    obtain ⟨p1, hp1, ok1⟩ := hd1
    have b1 := pb_of ok1 (by decide)
    have ht3 : g3 t = some (.lst [.d d0]) := (ap3 t nta.symm ntq.symm).trans ht2
    have nte : t ≠ e := fun z => by rw [← z, gset_same] at he; cases he
    have nea : e ≠ a ∧ e ≠ q := by
      have z := deal_ne (deal_gr hD1 (Gr.new (o := MO.lst [.d d0]) ht)) he
      exact ⟨z.1.symm, z.2.symm⟩
    have he3 : g3 e = some (.exc 10 [("at", .ob t)]) := (ap3 e nea.1 nea.2).trans he2
    refine rm_append ht3 (Nat.lt_of_lt_of_le (Nat.lt_succ_self _) (Nat.le_of_ble_eq_true rfl)) ?_
    have he4 : (gset g3 t (.lst ([.d d0] ++ [.d d1]))) e = some (.exc 10 [("at", .ob t)]) := by rw [gset_ne nte.symm]; exact he3
    have hD4 : DealAt a q (gset g3 t (.lst ([.d d0] ++ [.d d1]))) := deal_ext hD3 (gset_ne nta) (gset_ne ntq)
    refine ws_cons ?_
    refine w1_if ?_
    refine wt_w ?_
    refine ww_or ?_
    refine wt_cmp op_eq (nomark _) ?_
    refine we_name 5 rfl ?_
    refine we_callB (cr_repr rfl hr.units) rfl mR PyProof.Rows.boot_repr ?_
    refine wa_cons ?_
    refine we_callC CK hr3 ?_
    refine wa_cons ?_
    refine we_name 3 rfl ?_
    refine wa_nil ?_
    refine ⟨rfl, _, rfl, fun p5 g5 G5 np5 hp5 => ?_⟩
    have ht5 : g5 t = some (.lst ([.d d0] ++ [.d d1])) := G5 t _ gset_same
    have he5 := G5 e _ he4
    refine wa_nil ?_
    refine rc_th (pyr_kept hp5 (pyr_two ht5 hp0 hp1)) (ke_of (th_two b0 b1)) (by decide) (by decide) ?_
    refine rw_eq rfl rfl rfl ⟨_, rfl, ?_⟩
    rw [if_neg (by rw [decide_eq_false (fun z => ke_ne (V.str.inj z))]; decide)]
    refine ww_or1 ?_
    refine wt_cmp op_ne (nomark _) ?_
    refine we_callB (cr_repr rfl hr.units) rfl mR PyProof.Rows.boot_repr ?_
    refine wa_cons ?_
    refine we_xF C10 ?_
    refine we_name 4 rfl ?_
    refine ⟨e, .ob t, rfl, he5, ?_⟩
    refine wa_nil ?_
    refine rc_th (pyr_two ht5 hp0 hp1) (th_two b0 b1) (by decide) (by decide) ?_
    refine we_callB (cr_repr rfl hr.units) rfl mR PyProof.Rows.boot_repr ?_
    refine wa_cons ?_
    refine we_name 3 rfl ?_
    refine wa_nil ?_
    refine rc_th (pyr_two ht5 hp0 hp1) (th_two b0 b1) (by decide) (by decide) ?_
    refine rw_ne rfl rfl rfl ⟨_, rfl, ?_⟩
    rw [if_neg (by rw [decide_eq_true rfl]; decide)]
    refine ws_nil ?_
    refine ws_one ?_
    refine w1_if ?_
    refine wt_cmp (op_neD hr.units) (nomark _) ?_
    refine we_lcO (j := 8) (own := [("_law_kept_here", 8)]) (fun p as i ys g' => Gr g5 g' ∧ ys = [] ∧ as = List.replicate 12 t ∧ g' p = some (.lst (as.map .ob))) rfl sc_law.nd rfl (blkOk_by (N := n_law) (sc := defScope s_law) (by decide +kernel)) (fun _ _ _ _ _ => pg_name sc_law.nd rfl (Or.inl rfl)) (by decide) ?_
    refine we_callC CK hr3 ?_
    refine wa_cons ?_
    refine we_name 3 rfl ?_
    refine wa_nil ?_
    refine ⟨rfl, _, rfl, fun p6 g6 G6 np6 hp6 => ⟨p6, List.replicate 12 t, rfl, by rw [List.length_replicate]; decide, ⟨G6, rfl, rfl, hp6⟩, fun _ _ _ h => h.2.2.2, ?_, ?_⟩⟩
    · rintro i x ys g' hx ⟨hG, rfl, _, hp⟩
      obtain rfl : x = t := List.eq_of_mem_replicate (List.mem_of_getElem? hx)
      intro L hL s' H' C cl fp
      have ht7 : (gset g' L (.lst (([] : List D).map SV.d))) x = some (.lst ([.d d0] ++ [.d d1])) := Gr.at (Gr.trans hG (Gr.new hL)) ht5
      refine wt_cmp op_ne (nomark _) ?_
      refine we_callB (cr_repr rfl hr.units) rfl mR PyProof.Rows.boot_repr ?_
      refine wa_cons ?_
      refine we_name 8 rfl ?_
      refine wa_nil ?_
      refine rc_th (pyr_two ht7 hp0 hp1) (th_two b0 b1) (by decide) (by decide) ?_
      refine we_callB (cr_repr rfl hr.units) rfl mR PyProof.Rows.boot_repr ?_
      refine wa_cons ?_
      refine we_name 3 rfl ?_
      refine wa_nil ?_
      refine rc_th (pyr_two ht7 hp0 hp1) (th_two b0 b1) (by decide) (by decide) ?_
      refine rw_ne rfl rfl rfl ⟨_, rfl, ?_⟩
      rw [if_neg (by rw [decide_eq_true rfl]; decide)]
      exact ⟨_, hL, rfl, hG, rfl, rfl, hp⟩
    · rintro ys g' _ ⟨hG, rfl, _, _⟩
      refine we_lst ?_
      refine wa_nil ?_
      refine ⟨[], rfl, by decide, rw_neP (p := .list []) (q := .list []) (.inl ⟨_, rfl, rfl⟩) (.inl ⟨_, rfl, rfl⟩) rfl rfl ⟨_, rfl, ?_⟩⟩
      rw [if_neg (by decide)]
      refine ws_nil ?_
      exact ⟨rfl, deal_gr hD4 (Gr.trans G5 hG), _, _, _, _, rfl⟩
  rintro ρ' g' ⟨_, hD, z2, z3, z4, z5, rfl⟩
  refine ws_cons ?_
  refine w1_set 6 sc_law.nd ?_
  refine we_lstO ?_
  refine wa_cons ?_
  refine we_xC C1 hr2 ?_
  refine we_str ?_
  refine fun e1 h1 => ?_
  refine wa_cons ?_
  refine we_xC C2 hr2 ?_
  refine we_str ?_
  refine fun e2 h2 => ?_
  refine wa_cons ?_
  refine we_xC C3 hr2 ?_
  refine we_str ?_
  refine fun e3 h3 => ?_
  refine wa_cons ?_
  refine we_xC C4 hr2 ?_
  refine we_int ?_
  refine fun e4 h4 => ?_
  refine wa_cons ?_
  refine we_xC C5 hr2 ?_
  refine we_int ?_
  refine fun e5 h5 => ?_
  refine wa_cons ?_
  refine we_xn rfl k6 N6 rfl (ER.m 6 (by decide)) ?_
  refine fun e6 h6 => ?_
  refine wa_nil ?_
  refine ⟨Nat.le_of_ble_eq_true rfl, fun p0 hp0 => ?_⟩
  refine ws_cons (w1_forO PassesOwn.never rfl rfl (pg_name (i := 7) sc_law.nd rfl (Or.inl rfl)) (fun p as i ρ' g' => g' p = some (.lst (as.map SV.ob)) ∧ (∀ x ∈ as, ∃ c fs, c ∈ nums ∧ g' x = some (.exc c fs)) ∧ ∃ y2 y3 y4 y5 y6 y7, ρ' = [some (.d (.lst (ns.map D.int))), some (.ob a), y2, y3, y4, y5, y6, y7, none]) ?_)
  refine we_op op_cat ?_
  refine we_name 6 rfl ?_
  refine we_lstO ?_
  refine wa_cons ?_
  refine we_xC C7 hr2 ?_
  refine we_int ?_
  refine fun e7 h7 => ?_
  refine wa_cons ?_
  refine we_xn rfl k8 N8 rfl (ER.m 8 (by decide)) ?_
  refine fun e8 h8 => ?_
  refine wa_cons ?_
  refine we_xC C9 hr2 ?_
  refine we_int ?_
  refine fun e9 h9 => ?_
  refine wa_nil ?_
  refine ⟨Nat.le_of_ble_eq_true rfl, fun p1 hp1 => ?_⟩
  refine rw_cat (Gr.at (Gr.trans (Gr.trans (Gr.trans (Gr.new h7) (Gr.new h8)) (Gr.new h9)) (Gr.new hp1)) gset_same) gset_same (Nat.le_of_ble_eq_true rfl) ?_
  refine fun r hr' => ?_
  refine ⟨r, [e1, e2, e3, e4, e5, e6, e7, e8, e9], rfl, ⟨gset_same, ?_, _, _, _, _, _, _, rfl⟩, fun _ _ _ h => h.1, ?_, ?_⟩
  · intro x hx
    simp only [List.mem_cons, List.not_mem_nil, or_false] at hx
    rcases hx with rfl | rfl | rfl | rfl | rfl | rfl | rfl | rfl | rfl
    · exact ⟨1, _, by decide, Gr.at (Gr.trans (Gr.trans (Gr.trans (Gr.trans (Gr.trans (Gr.trans (Gr.trans (Gr.trans (Gr.trans (Gr.trans (Gr.new h2) (Gr.new h3)) (Gr.new h4)) (Gr.new h5)) (Gr.new h6)) (Gr.new hp0)) (Gr.new h7)) (Gr.new h8)) (Gr.new h9)) (Gr.new hp1)) (Gr.new hr')) gset_same⟩
    · exact ⟨2, _, by decide, Gr.at (Gr.trans (Gr.trans (Gr.trans (Gr.trans (Gr.trans (Gr.trans (Gr.trans (Gr.trans (Gr.trans (Gr.new h3) (Gr.new h4)) (Gr.new h5)) (Gr.new h6)) (Gr.new hp0)) (Gr.new h7)) (Gr.new h8)) (Gr.new h9)) (Gr.new hp1)) (Gr.new hr')) gset_same⟩
    · exact ⟨3, _, by decide, Gr.at (Gr.trans (Gr.trans (Gr.trans (Gr.trans (Gr.trans (Gr.trans (Gr.trans (Gr.trans (Gr.new h4) (Gr.new h5)) (Gr.new h6)) (Gr.new hp0)) (Gr.new h7)) (Gr.new h8)) (Gr.new h9)) (Gr.new hp1)) (Gr.new hr')) gset_same⟩
    · exact ⟨4, _, by decide, Gr.at (Gr.trans (Gr.trans (Gr.trans (Gr.trans (Gr.trans (Gr.trans (Gr.trans (Gr.new h5) (Gr.new h6)) (Gr.new hp0)) (Gr.new h7)) (Gr.new h8)) (Gr.new h9)) (Gr.new hp1)) (Gr.new hr')) gset_same⟩
    · exact ⟨5, _, by decide, Gr.at (Gr.trans (Gr.trans (Gr.trans (Gr.trans (Gr.trans (Gr.trans (Gr.new h6) (Gr.new hp0)) (Gr.new h7)) (Gr.new h8)) (Gr.new h9)) (Gr.new hp1)) (Gr.new hr')) gset_same⟩
    · exact ⟨6, _, by decide, Gr.at (Gr.trans (Gr.trans (Gr.trans (Gr.trans (Gr.trans (Gr.new hp0) (Gr.new h7)) (Gr.new h8)) (Gr.new h9)) (Gr.new hp1)) (Gr.new hr')) gset_same⟩
    · exact ⟨7, _, by decide, Gr.at (Gr.trans (Gr.trans (Gr.trans (Gr.new h8) (Gr.new h9)) (Gr.new hp1)) (Gr.new hr')) gset_same⟩
    · exact ⟨8, _, by decide, Gr.at (Gr.trans (Gr.trans (Gr.new h9) (Gr.new hp1)) (Gr.new hr')) gset_same⟩
    · exact ⟨9, _, by decide, Gr.at (Gr.trans (Gr.new hp1) (Gr.new hr')) gset_same⟩
  · rintro i x ρ' g1 hx ⟨hp, hall, y2, y3, y4, y5, y6, y7, rfl⟩
    obtain ⟨c, fs, hc, hxe⟩ := hall x (List.mem_of_getElem? hx)
    have xi := ER.xi c (le_of_nums hc)
    refine wg_name ?_
    refine ws_cons ?_
    refine w1_if ?_
    refine wt_w ?_
    refine ww_or ?_
    refine wt_not ?_
    refine wt_val ?_
    refine we_isX rfl ER.mI (pe_glob (v := .ref (W.cl 0)) rfl (ER.m 0 (by decide)) rfl) (.own _) ?_
    refine we_name 7 rfl ?_
    refine ⟨x, c, fs, _, rfl, hxe, xi, ER.kb c hc, ?_⟩
    refine ⟨_, rfl, ?_⟩
    rw [if_neg (by decide)]
    refine ww_or1 ?_
    refine wt_not ?_
    refine wt_val ?_
    refine we_isX rfl ER.mI (pe_bltn (v := .ty "ValueError") rfl ER.mV PyProof.Rows.Boot.«ValueError» rfl) (.ty _) ?_
    refine we_name 7 rfl ?_
    refine ⟨x, c, fs, _, rfl, hxe, xi, ER.kv c hc, ?_⟩
    refine ⟨_, rfl, ?_⟩
    rw [if_neg (by decide)]
    refine ws_nil ?_
    refine ws_one ?_
    refine w1_if ?_
    refine wt_w ?_
    refine ww_or ?_
    refine wt_val ?_
    refine we_isX2 rfl ER.mI (pe_bltn (v := .ty "KeyError") rfl ER.mK PyProof.Rows.Boot.«KeyError» rfl) (pe_bltn (v := .ty "IndexError") rfl ER.mX PyProof.Rows.Boot.«IndexError» rfl) (.ty _) (.ty _) ?_
    refine we_name 7 rfl ?_
    refine ⟨x, c, fs, _, rfl, hxe, xi, ER.kk c hc, ?_⟩
    refine ⟨_, rfl, ?_⟩
    rw [if_neg (by decide)]
    refine ww_or1 ?_
    refine wt_cmp op_ne (nomark _) ?_
    refine we_callC CS hr1 ?_
    refine wa_cons ?_
    refine we_name 7 rfl ?_
    refine wa_nil ?_
    refine ⟨rfl, x, c, fs, rfl, hc, hxe, fun g2 G2 => ?_⟩
    refine we_int ?_
    refine rw_ne rfl rfl rfl ⟨_, rfl, ?_⟩
    rw [if_neg (by decide)]
    refine ws_nil ?_
    exact ⟨G2 _ _ hp, fun y hy => (hall y hy).imp fun c h => h.imp fun fs k => ⟨k.1, G2 _ _ k.2⟩, _, _, _, _, _, _, rfl⟩
  rintro ρ' g1 ⟨hp, hall, y2, y3, y4, y5, y6, y7, rfl⟩
  refine ws_cons ?_
  refine w1_set 7 sc_law.nd ?_
  refine we_xC C10 hr2 ?_
  refine we_int ?_
  refine fun e he => ?_
  have xi := ER.xi 10 (by decide)
  refine ws_one ?_
  refine w1_ret ?_
  refine we_and ?_
  refine we_isX rfl ER.mI (pe_bltn (v := .ty "IndexError") rfl ER.mX PyProof.Rows.Boot.«IndexError» rfl) (.ty _) ?_
  refine we_name 7 rfl ?_
  refine ⟨e, 10, _, _, rfl, gset_same, xi, ER.ni, ?_⟩
  refine ⟨_, rfl, ?_⟩
  rw [if_pos rfl]
  refine we_and ?_
  refine we_notv ?_
  refine we_isX rfl ER.mI (pe_bltn (v := .ty "ValueError") rfl ER.mV PyProof.Rows.Boot.«ValueError» rfl) (.ty _) ?_
  refine we_name 7 rfl ?_
  refine ⟨e, 10, _, _, rfl, gset_same, xi, ER.nv, ?_⟩
  refine ⟨_, rfl, ?_⟩
  refine ⟨_, rfl, ?_⟩
  rw [if_pos (by decide)]
  refine we_one ?_
  refine we_notv ?_
  refine we_isX rfl ER.mI (pe_bltn (v := .ty "KeyError") rfl ER.mK PyProof.Rows.Boot.«KeyError» rfl) (.ty _) ?_
  refine we_name 7 rfl ?_
  refine ⟨e, 10, _, _, rfl, gset_same, xi, ER.nk, ?_⟩
  refine ⟨_, rfl, ?_⟩
  exact rfl
end
end K

namespace K
open PySem PySem.Spec PyProof.Rows L2 DL
/-! ### the head: facts by names -/
def loose : List Str := ["CardError", "InvalidRow", "InvalidTool", "InvalidTerms", "InvalidText", "InvalidEvent", "InvalidFault", "InvalidSeen", "InvalidCommand", "Refused", "NoRow", "_law_deal", "_law_draw", "_law_pick", "_law_value", "_law_sorts", "_law_kept"]
def d_InvalidRow : He.DefD := ⟨("InvalidRow", some "__init__"), "__init__", "InvalidRow.__init__", defArgs s_InvalidRow_init, defBody s_InvalidRow_init, defScope s_InvalidRow_init, [], []⟩
def d_InvalidTool : He.DefD := ⟨("InvalidTool", some "__init__"), "__init__", "InvalidTool.__init__", defArgs s_InvalidTool_init, defBody s_InvalidTool_init, defScope s_InvalidTool_init, [], []⟩
def d_InvalidTerms : He.DefD := ⟨("InvalidTerms", some "__init__"), "__init__", "InvalidTerms.__init__", defArgs s_InvalidTerms_init, defBody s_InvalidTerms_init, defScope s_InvalidTerms_init, [], []⟩
def d_InvalidText : He.DefD := ⟨("InvalidText", some "__init__"), "__init__", "InvalidText.__init__", defArgs s_InvalidText_init, defBody s_InvalidText_init, defScope s_InvalidText_init, [], []⟩
def d_InvalidEvent : He.DefD := ⟨("InvalidEvent", some "__init__"), "__init__", "InvalidEvent.__init__", defArgs s_InvalidEvent_init, defBody s_InvalidEvent_init, defScope s_InvalidEvent_init, [], []⟩
def d_InvalidSeen : He.DefD := ⟨("InvalidSeen", some "__init__"), "__init__", "InvalidSeen.__init__", defArgs s_InvalidSeen_init, defBody s_InvalidSeen_init, defScope s_InvalidSeen_init, [], []⟩
def d_Refused : He.DefD := ⟨("Refused", some "__init__"), "__init__", "Refused.__init__", defArgs s_Refused_init, defBody s_Refused_init, defScope s_Refused_init, [], []⟩
def d_NoRow : He.DefD := ⟨("NoRow", some "__init__"), "__init__", "NoRow.__init__", defArgs s_NoRow_init, defBody s_NoRow_init, defScope s_NoRow_init, [], []⟩
def d__law_deal : He.DefD := ⟨("_law_deal", none), "_law_deal", "_law_deal", defArgs s__law_deal, defBody s__law_deal, defScope s__law_deal, [], []⟩
def d__law_draw : He.DefD := ⟨("_law_draw", none), "_law_draw", "_law_draw", defArgs s__law_draw, defBody s__law_draw, defScope s__law_draw, [], []⟩
def d__law_pick : He.DefD := ⟨("_law_pick", none), "_law_pick", "_law_pick", defArgs s__law_pick, defBody s__law_pick, defScope s__law_pick, [], []⟩
def d__law_value : He.DefD := ⟨("_law_value", none), "_law_value", "_law_value", defArgs s__law_value, defBody s__law_value, defScope s__law_value, [], []⟩
def d__law_sorts : He.DefD := ⟨("_law_sorts", none), "_law_sorts", "_law_sorts", defArgs s__law_sorts, defBody s__law_sorts, defScope s__law_sorts, [], []⟩
def d__law_kept : He.DefD := ⟨("_law_kept", none), "_law_kept", "_law_kept", defArgs s__law_kept, defBody s__law_kept, defScope s__law_kept, [], []⟩
def d_law : He.DefD := ⟨("law", none), "law", "law", defArgs s_law, defBody s_law, defScope s_law, [], []⟩
def fn : List He.DefD := [d_InvalidRow, d_InvalidTool, d_InvalidTerms, d_InvalidText, d_InvalidEvent, d_InvalidSeen, d_Refused, d_NoRow, d__law_deal, d__law_draw, d__law_pick, d__law_value, d__law_sorts, d__law_kept, d_law]
def gloN : List Str := ["CardError", "InvalidRow", "InvalidTool", "InvalidTerms", "InvalidText", "InvalidEvent", "InvalidFault", "InvalidSeen", "InvalidCommand", "Refused", "NoRow", "_law_deal", "_law_draw", "_law_pick", "_law_value", "_law_sorts", "_law_kept", "law"]
def freeN : List Str := ["int", "len", "abs", "range", "tuple", "repr", "isinstance", "ValueError", "KeyError", "IndexError"]
def fa : List He.Fa := gloN.map He.Fa.glo ++ freeN.map He.Fa.free
def wd (K : PySem.W.Frag) : Wd := ⟨K, fun c => He.ga K (nameOf c)⟩
def keeps : List (Nat × Str) := [(1, "word"), (2, "word"), (3, "word"), (4, "at"), (5, "at"), (7, "at"), (9, "at"), (10, "at")]
def same (a b : Option Bool) : Bool := decide (a = b)
/-- what is asked of the classes -/
def exB (K : PySem.W.Frag) : Bool :=
  [0, 1, 2, 3, 4, 5, 6, 7, 8, 9].all (fun c => xcB K ((wd K).cl c) veB "ValueError.__new__") && (xcB K ((wd K).cl 10) ieBase "IndexError.__new__" && (
  keeps.all (fun p => decide (PySem.W.findIn K (.ref ((wd K).cl p.1)) p.2 = some none) && (decide (PySem.W.findIn K (.ref ((wd K).cl p.1)) "__init__" = some (some (.ref (He.ma K ((wd K).cl p.1) "__init__")))) && decide (PySem.W.typeIn K (.ref (He.ma K ((wd K).cl p.1) "__init__")) = some (.type "function")))) && (
  [6, 8].all (fun c => decide (PySem.W.findIn K (.ref ((wd K).cl c)) "__init__" = some (some (.builtin "ValueError.__init__")))) && (
  nums.all (fun c => nums.all (fun d => same (PySem.W.kitOne K (.ref ((wd K).cl c)) (.ref ((wd K).cl d))) (some (decide (c = d))))) && (
  nums.all (fun c => same (PySem.W.kitOne K (.ref ((wd K).cl c)) (.ref ((wd K).cl 0))) (some true)) && (
  nums.all (fun c => same (PySem.W.kitOne K (.ref ((wd K).cl c)) (.type "ValueError")) (some true)) && (
  nums.all (fun c => same (PySem.W.kitAny K (.ref ((wd K).cl c)) [.type "KeyError", .type "IndexError"]) (some false)) && (
  same (PySem.W.kitOne K (.ref ((wd K).cl 10)) (.type "IndexError")) (some true) && (same (PySem.W.kitOne K (.ref ((wd K).cl 10)) (.type "ValueError")) (some false) && same (PySem.W.kitOne K (.ref ((wd K).cl 10)) (.type "KeyError")) (some false))))))))))
abbrev R : PySem.W.OpenRow := PySem.W.OpenLaw.row PySem.Challenge.rw_deskcards_k01_errors_and_what_they_keep
abbrev hk : PySem.W.Hook := He.hookX 5 fa fn [] [] exB
def ob (s : PySem.W.SharedT) : He.AlX := He.obsX 5 fa fn [] [] exB (HandSHeadRun.getT s)
theorem ob_eq (s : PySem.W.SharedT) : ob s = hk.obs s.abs := He.obsX_eq (HandSHeadRun.getT_eq s)
theorem run (w : World) : HandSHeadRun.RunEq R (PySem.W.view R.prog [19]) hk ob 4000 loose w := by
  intro os
  kernel_rfl
theorem facts {P : Program} {w : World} {K : PySem.W.Frag} {h : Heap} {mg : Str → Option Value} {f : Addr} (X : K.In h) (G : h.Ns mainGlobals mg) (hfa : mg ("law" : Str) = some (.ref f)) (c : He.SaysD fa fn K) (ex : exB K = true) :
    ∃ fd : FuncData, (∀ (s : Shared) (v : Value), BindsTo s fd ⟨[v], []⟩ [("_law_script", v)]) ∧ ∀ base : Heap, K.In base → base.Ns mainGlobals mg → LawAt P w K mg base f fd "_law_script" (spLawD (wd K)) := by
  obtain ⟨x1, ex⟩ := Bool.and_eq_true_iff.mp ex
  obtain ⟨x2, ex⟩ := Bool.and_eq_true_iff.mp ex
  obtain ⟨x3, ex⟩ := Bool.and_eq_true_iff.mp ex
  obtain ⟨x4, ex⟩ := Bool.and_eq_true_iff.mp ex
  obtain ⟨x5, ex⟩ := Bool.and_eq_true_iff.mp ex
  obtain ⟨x6, ex⟩ := Bool.and_eq_true_iff.mp ex
  obtain ⟨x7, ex⟩ := Bool.and_eq_true_iff.mp ex
  obtain ⟨x8, ex⟩ := Bool.and_eq_true_iff.mp ex
  obtain ⟨x9, ex⟩ := Bool.and_eq_true_iff.mp ex
  obtain ⟨x10, x11⟩ := Bool.and_eq_true_iff.mp ex
  have hg : ∀ x, x ∈ gloN → mg x = some (.ref (He.ga K x)) := fun x hx => He.glo_ok X G (He.SaysD.facts c (List.mem_append_left _ (List.mem_map_of_mem hx)))
  have hfr : ∀ x, x ∈ freeN → mg x = none := fun x hx => He.free_ok X G (He.SaysD.facts c (List.mem_append_right _ (List.mem_map_of_mem hx)))
  have T : ∀ c, c ≤ 9 → XcC (wd K).K ((wd K).cl c) := fun c hc => xcV (List.all_eq_true.mp x1 c (by
    rcases c with _ | _ | _ | _ | _ | _ | _ | _ | _ | _ | c <;> first | decide | omega))
  have T10 : XcC (wd K).K ((wd K).cl 10) := xcI x2
  have TI : ∀ p ∈ keeps, PySem.W.findIn K (.ref ((wd K).cl p.1)) p.2 = some none ∧ XcI (wd K).K ((wd K).cl p.1) (He.ma K ((wd K).cl p.1) "__init__") := fun p hp => by
    obtain ⟨y1, y⟩ := Bool.and_eq_true_iff.mp (List.all_eq_true.mp x3 p hp)
    obtain ⟨y2, y3⟩ := Bool.and_eq_true_iff.mp y
    exact ⟨of_decide_eq_true y1, of_decide_eq_true y2, of_decide_eq_true y3⟩
  have V : ∀ c ∈ nums, xcB K ((wd K).cl c) veB "ValueError.__new__" = true := fun c hc => List.all_eq_true.mp x1 c (by
    unfold nums at hc
    simp only [List.mem_cons, List.not_mem_nil, or_false] at hc
    rcases hc with rfl | rfl | rfl | rfl | rfl | rfl | rfl | rfl | rfl <;> decide)
  have N6 : XcN (wd K).K ((wd K).cl 6) := xnV (V 6 (by decide)) (of_decide_eq_true (List.all_eq_true.mp x4 6 (by decide)))
  have N8 : XcN (wd K).K ((wd K).cl 8) := xnV (V 8 (by decide)) (of_decide_eq_true (List.all_eq_true.mp x4 8 (by decide)))
  have M : ∀ c, c ≤ 10 → mg (nameOf c) = some (.ref ((wd K).cl c)) := fun c hc => by
    rcases c with _ | _ | _ | _ | _ | _ | _ | _ | _ | _ | _ | c
    all_goals first | exact hg _ (by decide +kernel) | omega
  have ER : Errs (wd K) mg := {
    m := M
    xi := (fun c hc => by
      by_cases z : c = 10
      · rw [z]; exact T10.xi
      · exact (T c (by omega)).xi)
    k := (fun c hc d hd => of_decide_eq_true (List.all_eq_true.mp (List.all_eq_true.mp x5 c hc) d hd))
    kb := (fun c hc => of_decide_eq_true (List.all_eq_true.mp x6 c hc))
    kv := (fun c hc => of_decide_eq_true (List.all_eq_true.mp x7 c hc))
    kk := (fun c hc => of_decide_eq_true (List.all_eq_true.mp x8 c hc))
    ni := of_decide_eq_true x9
    nv := of_decide_eq_true x10
    nk := of_decide_eq_true x11
    mI := hfr _ (by decide +kernel)
    mV := hfr _ (by decide +kernel)
    mK := hfr _ (by decide +kernel)
    mX := hfr _ (by decide +kernel) }
  obtain ⟨g1, G1⟩ := He.SaysD.defs c (d := d_InvalidRow) (by unfold fn; simp)
  obtain ⟨g2, G2⟩ := He.SaysD.defs c (d := d_InvalidTool) (by unfold fn; simp)
  obtain ⟨g3, G3⟩ := He.SaysD.defs c (d := d_InvalidTerms) (by unfold fn; simp)
  obtain ⟨g4, G4⟩ := He.SaysD.defs c (d := d_InvalidText) (by unfold fn; simp)
  obtain ⟨g5, G5⟩ := He.SaysD.defs c (d := d_InvalidEvent) (by unfold fn; simp)
  obtain ⟨g7, G7⟩ := He.SaysD.defs c (d := d_InvalidSeen) (by unfold fn; simp)
  obtain ⟨g9, G9⟩ := He.SaysD.defs c (d := d_Refused) (by unfold fn; simp)
  obtain ⟨g10, G10⟩ := He.SaysD.defs c (d := d_NoRow) (by unfold fn; simp)
  obtain ⟨f_law_deal, F_law_deal⟩ := He.SaysD.defs c (d := d__law_deal) (by unfold fn; simp)
  obtain ⟨f_law_draw, F_law_draw⟩ := He.SaysD.defs c (d := d__law_draw) (by unfold fn; simp)
  obtain ⟨f_law_pick, F_law_pick⟩ := He.SaysD.defs c (d := d__law_pick) (by unfold fn; simp)
  obtain ⟨f_law_value, F_law_value⟩ := He.SaysD.defs c (d := d__law_value) (by unfold fn; simp)
  obtain ⟨f_law_sorts, F_law_sorts⟩ := He.SaysD.defs c (d := d__law_sorts) (by unfold fn; simp)
  obtain ⟨f_law_kept, F_law_kept⟩ := He.SaysD.defs c (d := d__law_kept) (by unfold fn; simp)
  obtain ⟨flaw, Flaw⟩ := He.SaysD.defs c (d := d_law) (by unfold fn; simp)
  have e := hfa.symm.trans (hg "law" (by decide +kernel))
  cases e
  have b := FunD.bindsA (ps := ["_law_script"]) Flaw fun _ _ _ _ _ _ us hl => match us, hl with | [_], _ => rfl
  refine ⟨flaw, fun s v => b s [v] rfl, fun base _ _ => ?_⟩
  have C1 : XcK P w (wd K) mg base "InvalidRow" 1 "word" := xk_InvalidRow (T 1 (by decide)) G1 (TI (1, "word") (by decide)).2 (M 1 (by decide)) (TI (1, "word") (by decide)).1
  have C2 : XcK P w (wd K) mg base "InvalidTool" 2 "word" := xk_InvalidTool (T 2 (by decide)) G2 (TI (2, "word") (by decide)).2 (M 2 (by decide)) (TI (2, "word") (by decide)).1
  have C3 : XcK P w (wd K) mg base "InvalidTerms" 3 "word" := xk_InvalidTerms (T 3 (by decide)) G3 (TI (3, "word") (by decide)).2 (M 3 (by decide)) (TI (3, "word") (by decide)).1
  have C4 : XcK P w (wd K) mg base "InvalidText" 4 "at" := xk_InvalidText (T 4 (by decide)) G4 (TI (4, "at") (by decide)).2 (M 4 (by decide)) (TI (4, "at") (by decide)).1
  have C5 : XcK P w (wd K) mg base "InvalidEvent" 5 "at" := xk_InvalidEvent (T 5 (by decide)) G5 (TI (5, "at") (by decide)).2 (M 5 (by decide)) (TI (5, "at") (by decide)).1
  have C7 : XcK P w (wd K) mg base "InvalidSeen" 7 "at" := xk_InvalidSeen (T 7 (by decide)) G7 (TI (7, "at") (by decide)).2 (M 7 (by decide)) (TI (7, "at") (by decide)).1
  have C9 : XcK P w (wd K) mg base "Refused" 9 "at" := xk_Refused (T 9 (by decide)) G9 (TI (9, "at") (by decide)).2 (M 9 (by decide)) (TI (9, "at") (by decide)).1
  have C10 : XcK P w (wd K) mg base "NoRow" 10 "at" := xk_NoRow T10 G10 (TI (10, "at") (by decide)).2 (M 10 (by decide)) (TI (10, "at") (by decide)).1
  have CDraw : CallOk P w (wd K) mg base "_law_draw" 1 2 spDraw := ⟨_, _, _, ok_draw F_law_draw (hfr _ (by decide +kernel)), hg _ (by decide +kernel), F_law_draw.kp, (FunD.bindsN F_law_draw fun _ _ _ _ _ _ us hl => match us, hl with | [_, _], _ => rfl)⟩
  have CPick : CallOk P w (wd K) mg base "_law_pick" 2 2 spPick := ⟨_, _, _, ok_pick F_law_pick (hfr _ (by decide +kernel)) CDraw, hg _ (by decide +kernel), F_law_pick.kp, (FunD.bindsN F_law_pick fun _ _ _ _ _ _ us hl => match us, hl with | [_, _], _ => rfl)⟩
  have CDeal : CallOk P w (wd K) mg base "_law_deal" 1 2 spDeal := ⟨_, _, _, ok_deal F_law_deal (hfr _ (by decide +kernel)) (hfr _ (by decide +kernel)), hg _ (by decide +kernel), F_law_deal.kp, (FunD.bindsN F_law_deal fun _ _ _ _ _ _ us hl => match us, hl with | [_, _], _ => rfl)⟩
  have CV : ∀ n, CallOk P w (wd K) mg base "_law_value" (3 + n) 2 (spVal n) := fun n => by
    induction n with
    | zero => exact ⟨_, _, _, ok_value F_law_value (hfr _ (by decide +kernel)) (hfr _ (by decide +kernel)) CDraw CPick (fun m e => by cases e), hg _ (by decide +kernel), F_law_value.kp, (FunD.bindsN F_law_value fun _ _ _ _ _ _ us hl => match us, hl with | [_, _], _ => rfl)⟩
    | succ n ih => exact ⟨_, _, _, ok_value F_law_value (hfr _ (by decide +kernel)) (hfr _ (by decide +kernel)) CDraw CPick (fun m e => by cases e; exact ih), hg _ (by decide +kernel), F_law_value.kp, (FunD.bindsN F_law_value fun _ _ _ _ _ _ us hl => match us, hl with | [_, _], _ => rfl)⟩
  have CK : CallOk P w (wd K) mg base "_law_kept" 3 1 spKept := ⟨_, _, _, ok_kept F_law_kept C1 C2 C3 C4 C5 C7 C9 C10, hg _ (by decide +kernel), F_law_kept.kp, (FunD.bindsN F_law_kept fun _ _ _ _ _ _ us hl => match us, hl with | [_], _ => rfl)⟩
  have CS : CallOk P w (wd K) mg base "_law_sorts" 1 1 spSorts := ⟨_, _, _, ok_sorts F_law_sorts (hfr _ (by decide +kernel)) ER, hg _ (by decide +kernel), F_law_sorts.kp, (FunD.bindsN F_law_sorts fun _ _ _ _ _ _ us hl => match us, hl with | [_], _ => rfl)⟩
  exact ok_law Flaw (hfr _ (by decide +kernel)) (hfr _ (by decide +kernel)) ER CDeal (CV 3) (CV 2) CK CS C1 C2 C3 C4 C5 C7 C9 C10 N6 N8 (T 6 (by decide)).kC (T 8 (by decide)).kC
end K
open PySem PySem.W PySem.Calls PyProof.Rows
theorem PySem.Challenge.cw_deskcards_k01_errors_and_what_they_keep_holds : PySem.Challenge.rw_deskcards_k01_errors_and_what_they_keep.Holds := by
  w_on; o_law
  refine HandSHeadRun.head_any (r := OpenLaw.row PySem.Challenge.rw_deskcards_k01_errors_and_what_they_keep) (q := view (OpenLaw.row PySem.Challenge.rw_deskcards_k01_errors_and_what_they_keep).prog [19]) (H := K.hk) (ob := K.ob) (M := 4000) (loose := K.loose) (d := HandSHeadRun.topDef (OpenLaw.row PySem.Challenge.rw_deskcards_k01_errors_and_what_they_keep).prog 19) (kwd := []) K.ob_eq
    (by kernel_rfl) (fun s => by kernel_rfl) K.run (by kernel_rfl) (by kernel_rfl) (by kernel_rfl) (by rfl) (by first | assumption | decide +kernel) (by decide +kernel) ⟨rfl, rfl, rfl, rfl, rfl, by decide +kernel⟩ ?hw ?hc
  case hw => w_witness2
  case hc =>
    refine DL.walkAt (l := PySem.Challenge.rw_deskcards_k01_errors_and_what_they_keep) (n := 63) (x := "_law_script") rfl (by decide) (by kernel_rfl) ?F
    intro w mg fa h Y G hmg0
    obtain ⟨K, KX, c⟩ := Y
    have hmg : mg ("law" : PySem.Str) = some (.ref fa) := by
      have e : (HandSHeadRun.topDef (OpenLaw.row PySem.Challenge.rw_deskcards_k01_errors_and_what_they_keep).prog 19).name = ("law" : PySem.Str) := by kernel_rfl
      rw [← e]
      exact hmg0
    obtain ⟨fd, hb, hF⟩ := _root_.K.facts (P := (PySem.Challenge.rw_deskcards_k01_errors_and_what_they_keep).prog) (w := w) KX G hmg (congrArg (fun z : He.AlT => z.1) c.t) c.more
    exact ⟨K, fd, DL.spLawD (_root_.K.wd K), KX, hb, fun H a ns hl _ hS => ⟨a, ns, rfl, hS, hl, fun _ => rfl⟩, hF⟩

