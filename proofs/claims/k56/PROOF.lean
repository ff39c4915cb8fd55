import PyProof.Rows.All
import Wide.All
import OpenK.AllK
import Wide.FinOn
import HandS.ForMost
import HandS.Zip
import HandS.IsInst
import HandS.Style
import HandS.Deep
import HandS.TupMul
import HandS.TupLe
import HandS.Strs
import HandS.SetFor
import HandS.TupSets
import HandS.SortInts
import HandS.Flow
import HandS.Wide
import PyProof.P3In
import PyProof.Rows.InDataRows
import HandS.TupAny
import HandS.Walk
import KE.KStateDown
import HandS.More
import HandS.WordsExc
import HandS.Defaults
import HandS.Head0
import HandS.Head1
import HandS.Head2
import HandS.HeadEnd
import HandS.HeadHook1
import HandS.HeadHook2
import PyProof.ReprRoads
import HandS.RaiseMore
import PyProof.ReprLen
import KE.GoesEnum
import KE.SortData
import KE.DataMinMax
import PyProof.P3Eq
import HandS.Conv
import HandS.Text
import KE.GoesMore
import PyProof.StrOps2
import PyProof.StrBlock2
import PyProof.Rows.StrSigns2
import PyProof.Rows.RegReprOcc
import HandS.Star
import HandS.StrMore
import KE.DataFind
import HandS.DictTup
import HandS.TupLen
import HandS.Small
import KE.SortLaws
import HandS.DictComp
import KE.KDictOf
import HandS.Replace
import KE.KDictPairs
import KE.DataCmp
import HandS.NoneIn
import KE.KUnpackStar
import KE.KIntText
import PyProof.Rows.StrAscii
import PyProof.Rows.StrCase2
import PyProof.Rows.ReprOcc
import KE.SortCalls
import PySem.Challenge.RW_namelines_k56_weavings_read
set_option Elab.async false
set_option linter.all false
set_option maxRecDepth 100000
set_option maxHeartbeats 4000000
set_option autoImplicit false
namespace NL
open PySem L2

/-! ### values of the plain meaning -/
inductive Ty where
  | non | bl | int | str | lst | tup | dic
  deriving DecidableEq
def Ty.name : Ty → String
  | .non => "NoneType" | .bl => "bool" | .int => "int" | .str => "str" | .lst => "list" | .tup => "tuple" | .dic => "dict"
inductive Val where
  | non | bl (b : Bool) | int (i : Int) | str (x : Str) | tup (vs : List Val) | ref (p : Nat) | ty (t : Ty)
/-- what stands in the plain heap -/
inductive Ob where
  | lst (xs : List Val)
  | dK (kvs : List (Key × Val))
  | dT (kvs : List (List Key × Val))
  | fK (kvs : List (Key × Val))
  | fT (kvs : List (List Key × Val))
  | ins (C : Addr) (fs : List (Str × Val))
/-- not locked -/
def Ob.nf : Ob → Bool
  | .fK _ => false
  | .fT _ => false
  | _ => true
/-- what an expression gives, what a slot holds: a value; a list that is read (l) or owned (o) -/
inductive R where
  | v (x : Val) | l (xs : List Val) | o (xs : List Val) | z (xs : List Val)
abbrev Hh := List Ob
abbrev Sl := List (Option R)
abbrev ME := Sl → Hh → Option (R × Hh)
abbrev MT := Sl → Hh → Option (Bool × Hh)
abbrev MA := Sl → Hh → Option (List R × Hh)
inductive Fl where
  | nx | bk | ct | rt (r : R)
abbrev MS := Sl → Hh → Option (Fl × Sl × Hh)

/-- the written part of the program that is walked -/
class HasK where
  K : PySem.W.Frag
variable [HasK]
/-- a list of the written part -/
def KL (a : Addr) (xs : List V) : Prop := ∃ o its n, List.lookup a HasK.K = some o ∧ o.cls = Value.type "list" ∧ o.dict = none ∧ o.data = Data.seq its n ∧ its.size ≤ sizeLine ∧ Vals xs its.toList
/-! ### how they stand in HandS's heap -/
mutual
def VR (c : List Addr) (H : Hp) : Val → V → Prop
  | .non, x => x = .non
  | .bl b, x => x = .bl b
  | .int i, x => x = .int i
  | .str s, x => x = .str s
  | .tup vs, x => ∃ a xs, x = .ref a ∧ H a = some (.tup xs) ∧ VRs c H vs xs
  | .ref p, x => ∃ a, x = .ref a ∧ c[p]? = some a
  | .ty t, x => x = .ty t.name
def VRs (c : List Addr) (H : Hp) : List Val → List V → Prop
  | [], xs => xs = []
  | v :: vs, xs => ∃ y ys, xs = y :: ys ∧ VR c H v y ∧ VRs c H vs ys
end

/-- pairs of keys and values -/
def PRs {κ : Type} (c : List Addr) (H : Hp) : List (κ × Val) → List (κ × V) → Prop
  | [], xs => xs = []
  | p :: ps, xs => ∃ y ys, xs = (p.1, y) :: ys ∧ VR c H p.2 y ∧ PRs c H ps ys
def OR (c : List Addr) (H : Hp) : Ob → Addr → Prop
  | .lst xs, a => ∃ ys, H a = some (.lst ys) ∧ VRs c H xs ys
  | .dK kvs, a => ∃ ys, H a = some (.dK ys) ∧ PRs c H kvs ys
  | .dT kvs, a => ∃ ys, H a = some (.dT ys) ∧ PRs c H kvs ys
  | .fK kvs, a => ∃ ys, (∃ o, H a = some (.frz o (.dK ys))) ∧ PRs c H kvs ys
  | .fT kvs, a => ∃ ys, (∃ o, H a = some (.frz o (.dT ys))) ∧ PRs c H kvs ys
  | .ins C fs, a => ∃ ys, (∃ dx, H a = some (.ins C dx ys)) ∧ PRs c H fs ys
/-- the object of a thing of the plain heap: no tuple -/
theorem OR.ob {c : List Addr} {H : Hp} {a : Addr} : ∀ {o : Ob}, OR c H o a → ∃ u, H a = some u ∧ ∀ xs, u ≠ .tup xs
  | .lst _, ⟨ys, e, _⟩ => ⟨_, e, fun _ z => by cases z⟩
  | .dK _, ⟨ys, e, _⟩ => ⟨_, e, fun _ z => by cases z⟩
  | .dT _, ⟨ys, e, _⟩ => ⟨_, e, fun _ z => by cases z⟩
  | .fK _, ⟨ys, ⟨o, e⟩, _⟩ => ⟨_, e, fun _ z => by cases z⟩
  | .fT _, ⟨ys, ⟨o, e⟩, _⟩ => ⟨_, e, fun _ z => by cases z⟩
  | .ins _ _, ⟨ys, ⟨o, e⟩, _⟩ => ⟨_, e, fun _ z => by cases z⟩
theorem OR.nf {c : List Addr} {H : Hp} {a : Addr} : ∀ {o : Ob}, OR c H o a → o.nf = true → ∀ o' v, H a ≠ some (.frz o' v)
  | .lst _, ⟨ys, e, _⟩, _, o', v => fun z => by rw [e] at z; cases z
  | .dK _, ⟨ys, e, _⟩, _, o', v => fun z => by rw [e] at z; cases z
  | .dT _, ⟨ys, e, _⟩, _, o', v => fun z => by rw [e] at z; cases z
  | .ins _ _, ⟨ys, ⟨o, e⟩, _⟩, _, o', v => fun z => by rw [e] at z; cases z
  | .fK _, _, h, _, _ => by cases h
  | .fT _, _, h, _, _ => by cases h

structure HR (c : List Addr) (h : Hh) (H : Hp) : Prop where
  nd : c.Nodup
  len : h.length = c.length
  cell : ∀ (p : Nat) (a : Addr), c[p]? = some a → ∃ o, h[p]? = some o ∧ OR c H o a

theorem HR.dom {c : List Addr} {h : Hh} {H : Hp} (r : HR c h H) {a : Addr} (m : a ∈ c) : ∃ u, H a = some u ∧ ∀ xs, u ≠ .tup xs := by
  obtain ⟨p, hp⟩ := List.getElem?_of_mem m
  obtain ⟨o, _, ho⟩ := r.cell p a hp
  exact ho.ob

/-- from one state to a later one, by an expression -/
structure Ext (c c' : List Addr) (H H' : Hp) : Prop where
  pre : ∃ d, c' = c ++ d
  keep : ∀ a o, H a = some o → a ∉ c → H' a = some o
  new : ∀ a, a ∈ c' → a ∉ c → H a = none
  dom : ∀ a o, H a = some o → ∃ o', H' a = some o'
  frz : ∀ a o u, H a = some (.frz o u) → H' a = some (.frz o u)

theorem Ext.refl (c : List Addr) (H : Hp) : Ext c c H H := ⟨⟨[], by simp⟩, fun _ _ h _ => h, fun _ h n => absurd h n, fun _ o h => ⟨o, h⟩, fun _ _ _ h => h⟩
theorem Ext.back {c c' : List Addr} {H H' : Hp} (e : Ext c c' H H') {a : Addr} (h : H' a = none) : H a = none := by
  cases q : H a with
  | none => rfl
  | some o =>
    obtain ⟨o', e'⟩ := e.dom a o q
    rw [h] at e'; cases e'
theorem Ext.mem {c c' : List Addr} {H H' : Hp} (e : Ext c c' H H') {a : Addr} (h : a ∈ c) : a ∈ c' := by
  obtain ⟨d, rfl⟩ := e.pre
  exact List.mem_append_left _ h
theorem Ext.get {c c' : List Addr} {H H' : Hp} (e : Ext c c' H H') {p : Nat} {a : Addr} (h : c[p]? = some a) : c'[p]? = some a := by
  obtain ⟨d, rfl⟩ := e.pre
  rw [List.getElem?_append_left (List.getElem?_eq_some_iff.mp h).1]
  exact h
theorem Ext.notin {c c' : List Addr} {H H' : Hp} (e : Ext c c' H H') {a : Addr} {o : HO} (h : H a = some o) (n : a ∉ c) : a ∉ c' := fun m => by
  rw [e.new a m n] at h; cases h
theorem Ext.trans {c c1 c2 : List Addr} {H H1 H2 : Hp} (a : Ext c c1 H H1) (b : Ext c1 c2 H1 H2) : Ext c c2 H H2 where
  pre := by
    obtain ⟨d, rfl⟩ := a.pre
    obtain ⟨d', rfl⟩ := b.pre
    exact ⟨d ++ d', by simp⟩
  keep := fun x o h n => b.keep x o (a.keep x o h n) (a.notin h n)
  new := fun x m n => by
    by_cases q : x ∈ c1
    · exact a.new x q n
    · exact a.back (b.new x m q)
  dom := fun x o h => by
    obtain ⟨o1, h1⟩ := a.dom x o h
    exact b.dom x o1 h1
  frz := fun x o u h => b.frz x o u (a.frz x o u h)
theorem Ext.rd {c c' : List Addr} {H H' : Hp} (e : Ext c c' H H') {a : Addr} {u : HO} (h : Rd H a u) (n : a ∉ c) : Rd H' a u := by
  rcases h with h | ⟨o, h⟩
  · exact .inl (e.keep a _ h n)
  · exact .inr ⟨o, e.keep a _ h n⟩
theorem rd_some {H : Hp} {a : Addr} {u : HO} (h : Rd H a u) : ∃ o, H a = some o := by
  rcases h with h | ⟨o, h⟩
  · exact ⟨_, h⟩
  · exact ⟨_, h⟩
theorem Ext.nin {c c' : List Addr} {H H' : Hp} (e : Ext c c' H H') {a : Addr} {u : HO} (h : Rd H a u) (n : a ∉ c) : a ∉ c' := by
  obtain ⟨o, q⟩ := rd_some h
  exact e.notin q n

/-- tuples stand apart from the plain heap's lists -/
theorem HR.tup {c : List Addr} {h : Hh} {H : Hp} (r : HR c h H) {a : Addr} {xs : List V} (t : H a = some (.tup xs)) : a ∉ c := fun m => by
  obtain ⟨u, e, n⟩ := r.dom m
  rw [e] at t; cases t; exact n _ rfl

/-- tuples are kept -/
def TK (c c' : List Addr) (H H' : Hp) : Prop := (∀ a xs, H a = some (.tup xs) → H' a = some (.tup xs)) ∧ ∀ (p : Nat) (a : Addr), c[p]? = some a → c'[p]? = some a
theorem Ext.tk {c c' : List Addr} {h : Hh} {H H' : Hp} (e : Ext c c' H H') (r : HR c h H) : TK c c' H H' := ⟨fun _ _ t => e.keep _ _ t (r.tup t), fun _ _ q => e.get q⟩
mutual
theorem VR.mono {c c' : List Addr} {H H' : Hp} (e : TK c c' H H') : ∀ (v : Val) (x : V), VR c H v x → VR c' H' v x
  | .non, _, q => q
  | .bl _, _, q => q
  | .int _, _, q => q
  | .str _, _, q => q
  | .ty _, _, q => q
  | .ref p, x, q => by
    unfold VR at q ⊢
    obtain ⟨a, e1, e2⟩ := q
    exact ⟨a, e1, e.2 _ _ e2⟩
  | .tup vs, x, q => by
    unfold VR at q ⊢
    obtain ⟨a, xs, e1, e2, e3⟩ := q
    exact ⟨a, xs, e1, e.1 _ _ e2, VRs.mono e vs xs e3⟩
theorem VRs.mono {c c' : List Addr} {H H' : Hp} (e : TK c c' H H') : ∀ (vs : List Val) (xs : List V), VRs c H vs xs → VRs c' H' vs xs
  | [], _, q => q
  | v :: vs, xs, q => by
    unfold VRs at q ⊢
    obtain ⟨y, ys, e1, e2, e3⟩ := q
    exact ⟨y, ys, e1, VR.mono e v y e2, VRs.mono e vs ys e3⟩
end
theorem PRs.mono {κ : Type} {c c' : List Addr} {H H' : Hp} (e : TK c c' H H') : ∀ (vs : List (κ × Val)) (xs : List (κ × V)), PRs c H vs xs → PRs c' H' vs xs
  | [], _, q => q
  | p :: ps, xs, ⟨y, ys, e1, e2, e3⟩ => ⟨y, ys, e1, VR.mono e _ _ e2, PRs.mono e ps ys e3⟩
theorem OR.to {c c' : List Addr} {H H' : Hp} {a : Addr} (t : TK c c' H H') (k : ∀ u, H a = some u → H' a = some u) : ∀ {o : Ob}, OR c H o a → OR c' H' o a
  | .lst _, ⟨ys, e, q⟩ => ⟨ys, k _ e, VRs.mono t _ _ q⟩
  | .dK _, ⟨ys, e, q⟩ => ⟨ys, k _ e, PRs.mono t _ _ q⟩
  | .dT _, ⟨ys, e, q⟩ => ⟨ys, k _ e, PRs.mono t _ _ q⟩
  | .fK _, ⟨ys, ⟨o, e⟩, q⟩ => ⟨ys, ⟨o, k _ e⟩, PRs.mono t _ _ q⟩
  | .fT _, ⟨ys, ⟨o, e⟩, q⟩ => ⟨ys, ⟨o, k _ e⟩, PRs.mono t _ _ q⟩
  | .ins _ _, ⟨ys, ⟨o, e⟩, q⟩ => ⟨ys, ⟨o, k _ e⟩, PRs.mono t _ _ q⟩

/-- a result: H the heap ahead, H' behind -/
def RR (c : List Addr) (H H' : Hp) : R → V → Prop
  | .v v, x => VR c H' v x
  | .l xs, x => ∃ a ys, x = .ref a ∧ H' a = some (.lst ys) ∧ VRs c H' xs ys ∧ a ∉ c
  | .z xs, x => ∃ a ys, x = .ref a ∧ VRs c H' xs ys ∧ ((Rd H' a (.lst ys) ∧ a ∉ c) ∨ KL a ys)
  | .o xs, x => ∃ a ys, x = .ref a ∧ H a = none ∧ H' a = some (.lst ys) ∧ VRs c H' xs ys ∧ a ∉ c
def RRs (c : List Addr) (H H' : Hp) : List R → List V → Prop
  | [], xs => xs = []
  | r :: rs, xs => ∃ y ys, xs = y :: ys ∧ RR c H H' r y ∧ RRs c H H' rs ys

theorem RR.mono {c c' : List Addr} {h : Hh} {H0 H H' : Hp} (e : Ext c c' H H') (r : HR c h H) : ∀ {a : R} {x : V}, RR c H0 H a x → RR c' H0 H' a x
  | .v v, x, q => VR.mono (e.tk r) v x q
  | .l xs, x, ⟨a, ys, e1, e2, e3, e4⟩ => ⟨a, ys, e1, e.keep _ _ e2 e4, VRs.mono (e.tk r) _ _ e3, e.notin e2 e4⟩
  | .z xs, x, ⟨a, ys, e1, e3, e4⟩ => ⟨a, ys, e1, VRs.mono (e.tk r) _ _ e3, e4.imp (fun z => ⟨e.rd z.1 z.2, e.nin z.1 z.2⟩) fun z => z⟩
  | .o xs, x, ⟨a, ys, e1, e0, e2, e3, e4⟩ => ⟨a, ys, e1, e0, e.keep _ _ e2 e4, VRs.mono (e.tk r) _ _ e3, e.notin e2 e4⟩
theorem RRs.mono {c c' : List Addr} {h : Hh} {H0 H H' : Hp} (e : Ext c c' H H') (r : HR c h H) : ∀ {as : List R} {xs : List V}, RRs c H0 H as xs → RRs c' H0 H' as xs
  | [], _, q => q
  | a :: as, xs, ⟨y, ys, e1, e2, e3⟩ => ⟨y, ys, e1, RR.mono e r e2, RRs.mono e r e3⟩
/-- a result of a later heap is one of an earlier -/
theorem RR.early {c c0 c1 : List Addr} {H0 H1 H' : Hp} (e : Ext c0 c1 H0 H1) : ∀ {a : R} {x : V}, RR c H1 H' a x → RR c H0 H' a x
  | .v _, _, q => q
  | .l _, _, q => q
  | .z _, _, q => q
  | .o _, _, ⟨a, ys, e1, e0, e2⟩ => ⟨a, ys, e1, e.back e0, e2⟩
theorem RRs.early {c c0 c1 : List Addr} {H0 H1 H' : Hp} (e : Ext c0 c1 H0 H1) : ∀ {as : List R} {xs : List V}, RRs c H1 H' as xs → RRs c H0 H' as xs
  | [], _, q => q
  | a :: as, xs, ⟨y, ys, e1, e2, e3⟩ => ⟨y, ys, e1, RR.early e e2, RRs.early e e3⟩

/-! ### slots -/
def SR (c : List Addr) (ow : Nat → Option Addr) (H : Hp) (i : Nat) : R → V → Prop
  | .v v, x => VR c H v x
  | .l xs, x => ∃ a ys, x = .ref a ∧ H a = some (.lst ys) ∧ VRs c H xs ys ∧ a ∉ c ∧ ∀ j, ow j ≠ some a
  | .z xs, x => ∃ a ys, x = .ref a ∧ VRs c H xs ys ∧ ((Rd H a (.lst ys) ∧ a ∉ c ∧ ∀ j, ow j ≠ some a) ∨ KL a ys)
  | .o xs, x => ∃ a ys, x = .ref a ∧ H a = some (.lst ys) ∧ VRs c H xs ys ∧ ow i = some a

structure Rel (c : List Addr) (ow : Nat → Option Addr) (σa : Sl) (h : Hh) (σ : St) (H : Hp) : Prop where
  hr : HR c h H
  inj : ∀ i j a, ow i = some a → ow j = some a → i = j
  oc : ∀ i a, ow i = some a → a ∉ c ∧ ∃ ys, H a = some (.lst ys)
  sl : ∀ (i : Nat) (r : R), σa[i]? = some (some r) → ∃ x, σ[i]? = some (some x) ∧ SR c ow H i r x
  len : σa.length = σ.length

theorem Rel.ext {c c' : List Addr} {ow : Nat → Option Addr} {σa : Sl} {h h' : Hh} {σ : St} {H H' : Hp} (r : Rel c ow σa h σ H) (e : Ext c c' H H') (k : HR c' h' H') : Rel c' ow σa h' σ H' where
  hr := k
  inj := r.inj
  oc := fun i a q => by
    obtain ⟨n, ys, e1⟩ := r.oc i a q
    exact ⟨e.notin e1 n, ys, e.keep _ _ e1 n⟩
  sl := fun i a q => by
    obtain ⟨x, e1, e2⟩ := r.sl i a q
    refine ⟨x, e1, ?_⟩
    cases a with
    | v v => exact VR.mono (e.tk r.hr) _ _ e2
    | l xs =>
      obtain ⟨b, ys, e3, e4, e5, e6, e7⟩ := e2
      exact ⟨b, ys, e3, e.keep _ _ e4 e6, VRs.mono (e.tk r.hr) _ _ e5, e.notin e4 e6, e7⟩
    | z xs =>
      obtain ⟨b, ys, e3, e5, e6⟩ := e2
      exact ⟨b, ys, e3, VRs.mono (e.tk r.hr) _ _ e5, e6.imp (fun z => ⟨e.rd z.1 z.2.1, e.nin z.1 z.2.1, z.2.2⟩) fun z => z⟩
    | o xs =>
      obtain ⟨b, ys, e3, e4, e5, e6⟩ := e2
      exact ⟨b, ys, e3, e.keep _ _ e4 (r.oc i b e6).1, VRs.mono (e.tk r.hr) _ _ e5, e6⟩
  len := r.len

/-! ### the judgements -/
/-- the reading of a plain meaning -/
def rdE (m : ME) : TE := fun σ H Q => ∃ c ow σa h r h', Rel c ow σa h σ H ∧ m σa h = some (r, h') ∧ ∀ c' H' x, Ext c c' H H' → HR c' h' H' → RR c' H H' r x → Q x H'
def rdT (m : MT) : TT := fun σ H Q => ∃ c ow σa h b h', Rel c ow σa h σ H ∧ m σa h = some (b, h') ∧ ∀ c' H', Ext c c' H H' → HR c' h' H' → Q b H'
def rdA (m : MA) : TA := fun σ H Q => ∃ c ow σa h rs h', Rel c ow σa h σ H ∧ m σa h = some (rs, h') ∧ ∀ c' H' xs, Ext c c' H H' → HR c' h' H' → RRs c' H H' rs xs → Q xs H'
abbrev SE (X : Cx) (e : Expr) (m : ME) : Prop := PE X e (rdE m)
abbrev ST (X : Cx) (e : Expr) (m : MT) : Prop := PT X e (rdT m)
abbrev SA (X : Cx) (es : List Expr) (m : MA) : Prop := PA X es (rdA m)

section
variable {X : Cx} {e a b : Expr} {pos : Pos}
theorem pe_imp {t t' : TE} (h : PE X e t) (f : ∀ σ H Q, t' σ H Q → t σ H Q) : PE X e t' := ⟨fun pins s σ H Q I q => h.run pins s σ H Q I (f σ H Q q)⟩
theorem pt_imp {t t' : TT} (h : PT X e t) (f : ∀ σ H Q, t' σ H Q → t σ H Q) : PT X e t' := ⟨fun pins s σ H Q I q => h.run pins s σ H Q I (f σ H Q q)⟩
theorem pw_imp {t t' : TT} (h : PW X e t) (f : ∀ σ H Q, t' σ H Q → t σ H Q) : PW X e t' := ⟨fun wh pins s σ H Q I q => h.run wh pins s σ H Q I (f σ H Q q)⟩
theorem pa_imp {es : List Expr} {t t' : TA} (h : PA X es t) (f : ∀ σ H Q, t' σ H Q → t σ H Q) : PA X es t' := ⟨fun pos pins s σ H Q I q => h.run pos pins s σ H Q I (f σ H Q q)⟩
theorem ps_imp {st : Stmt} {t t' : TS} (h : PS X st t) (f : ∀ D σ H, t' D σ H → t D σ H) : PS X st t' := ⟨fun pins s σ H D I q => h.run pins s σ H D I (f D σ H q)⟩
theorem pss_imp {st : List Stmt} {t t' : TS} (h : PSs X st t) (f : ∀ D σ H, t' D σ H → t D σ H) : PSs X st t' := ⟨fun pins s σ H D I q => h.run pins s σ H D I (f D σ H q)⟩

/-! ### names and constants -/
def bor : R → R
  | .o xs => .l xs
  | r => r
def mVar (i : Nat) : ME := fun s h => match s[i]? with
  | some (some r) => some (bor r, h)
  | _ => none
theorem rd_var {i : Nat} {σ : St} {H : Hp} {Q : VK} (q : rdE (mVar i) σ H Q) : tVar i σ H Q := by
  obtain ⟨c, ow, σa, h, r, h', k, e, f⟩ := q
  unfold mVar at e
  split at e
  · rename_i r0 e0
    simp only [Option.some.injEq, Prod.mk.injEq] at e
    obtain ⟨rfl, rfl⟩ := e
    obtain ⟨x, e1, e2⟩ := k.sl i r0 e0
    refine ⟨x, e1, f c H x (Ext.refl c H) k.hr ?_⟩
    cases r0 with
    | v v => exact e2
    | l xs =>
      obtain ⟨b, ys, e3, e4, e5, e6, e7⟩ := e2
      exact ⟨b, ys, e3, e4, e5, e6⟩
    | z xs =>
      obtain ⟨b, ys, e3, e5, e6⟩ := e2
      exact ⟨b, ys, e3, e5, e6.imp (fun z => ⟨z.1, z.2.1⟩) fun z => z⟩
    | o xs =>
      obtain ⟨b, ys, e3, e4, e5, e6⟩ := e2
      exact ⟨b, ys, e3, e4, e5, (k.oc i b e6).1⟩
  · cases e
theorem se_var (i : Nat) {x : Str} (hN : X.N[i]? = some x := by rfl) (hv : Vis X.env.scope x := by first | exact Or.inl rfl | exact Or.inr (Or.inl rfl) | exact Or.inr (Or.inr rfl)) (hd : (x == ("__debug__" : Str)) = false := by decide)
    (hcd : (x == ("__classdict__" : Str)) = false := by decide) : SE X (.Name x pos) (mVar i) := pe_imp (pe_var hN hv hd hcd) fun _ _ _ => rd_var
def mC (v : Val) : ME := fun _ h => some (.v v, h)
theorem rd_c {v : Val} {x : V} {σ : St} {H : Hp} {Q : VK} (hx : ∀ c, VR c H v x) (q : rdE (mC v) σ H Q) : tC x σ H Q := by
  obtain ⟨c, ow, σa, h, r, h', k, e, f⟩ := q
  simp only [mC, Option.some.injEq, Prod.mk.injEq] at e
  obtain ⟨rfl, rfl⟩ := e
  exact f c H x (Ext.refl c H) k.hr (hx c)
theorem se_int {i : Int} {j : Nat} : SE X (.Constant (.int i) j pos) (mC (.int i)) := pe_imp pe_int fun _ _ _ => rd_c fun _ => by unfold VR; rfl
theorem se_bl {i : Bool} {j : Nat} : SE X (.Constant (.bool i) j pos) (mC (.bl i)) := pe_imp pe_bl fun _ _ _ => rd_c fun _ => by unfold VR; rfl
theorem se_non {j : Nat} : SE X (.Constant .none j pos) (mC .non) := pe_imp pe_non fun _ _ _ => rd_c fun _ => by unfold VR; rfl
theorem se_str {i : Str} {j : Nat} : SE X (.Constant (.str i) j pos) (mC (.str i)) := pe_imp pe_str fun _ _ _ => rd_c fun _ => by unfold VR; rfl

/-! ### two in a row -/
abbrev F2 := R → R → Hh → Option (R × Hh)
def m2 (f : F2) (a b : ME) : ME := fun s h => (a s h).bind fun p => (b s p.2).bind fun q => f p.1 q.1 q.2
/-- a two-place rule of HandS carries f -/
def V2 (r : R2) (f : F2) : Prop := ∀ (c : List Addr) (h : Hh) (H0 H : Hp) (x y : V) (rx ry r' : R) (h' : Hh) (Q : VK), HR c h H → RR c H0 H rx x → RR c H0 H ry y → f rx ry h = some (r', h') →
  (∀ c' H' z, Ext c c' H H' → HR c' h' H' → RR c' H H' r' z → Q z H') → r x y H Q
theorem rd_2 {r : R2} {f : F2} {ma mb : ME} (v : V2 r f) {σ : St} {H : Hp} {Q : VK} (q : rdE (m2 f ma mb) σ H Q) : tOp r (rdE ma) (rdE mb) σ H Q := by
  obtain ⟨c, ow, σa, h, rr, h', k, e, g⟩ := q
  simp only [m2, Option.bind_eq_some_iff] at e
  obtain ⟨⟨ra, h1⟩, e1, ⟨rb, h2⟩, e2, e3⟩ := e
  refine ⟨c, ow, σa, h, ra, h1, k, e1, fun c1 H1 x E1 K1 R1 => ?_⟩
  refine ⟨c1, ow, σa, h1, rb, h2, k.ext E1 K1, e2, fun c2 H2 y E2 K2 R2 => ?_⟩
  refine v c2 h2 H H2 x y ra rb rr h' Q K2 (RR.mono E2 K1 R1) (RR.early E1 R2) e3 fun c3 H3 z E3 K3 R3 => ?_
  exact g c3 H3 z ((E1.trans E2).trans E3) K3 (RR.early (E1.trans E2) R3)
theorem se_op {op : Operator} {r : R2} {f : F2} {ma mb : ME} (ho : OpR X (binaryOp op) r) (v : V2 r f) (ha : SE X a ma) (hb : SE X b mb) : SE X (.BinOp a op b pos) (m2 f ma mb) := pe_imp (pe_op ho ha hb) fun _ _ _ => rd_2 v
theorem se_cmp {op : CmpOp} {r : R2} {f : F2} {ma mb : ME} (ho : OpR X (compareOp op) r) (v : V2 r f) (ha : SE X a ma) (hb : SE X b mb) (hm : behindInMarks op b = false := by first | exact nomark _ | rfl) : SE X (.Compare a [op] [b] pos) (m2 f ma mb) :=
  pe_imp (pe_cmpR ho ha hb hm) fun _ _ _ => rd_2 v
theorem se_ix {r : R2} {f : F2} {ma mb : ME} (ho : IxR X r) (v : V2 r f) (ha : SE X a ma) (hb : SE X b mb) (hs : PlainIx b := by exact fun _ _ => rfl) : SE X (.Subscript a b pos) (m2 f ma mb) := pe_imp (pe_ix ho ha hb hs) fun _ _ _ => rd_2 v
theorem or_op {f : Value → Value → Sem Value} {r1 r2 : R2} (h1 : OpR X f r1) (h2 : OpR X f r2) : OpR X f (fun x y H Q => r1 x y H Q ∨ r2 x y H Q) := fun pins s σ H x y v u Q I rx ry h => by
  rcases h with h | h
  · exact h1 pins s σ H x y v u Q I rx ry h
  · exact h2 pins s σ H x y v u Q I rx ry h
end
end NL
set_option Elab.async false
set_option linter.all false
set_option maxRecDepth 100000
set_option maxHeartbeats 4000000
set_option autoImplicit false
namespace NL
open PySem L2
variable [HasK]

/-! ### new objects that the plain heap does not know -/
theorem Ext.alloc {c : List Addr} {H : Hp} {p : Addr} {o : HO} (hp : H p = none) : Ext c c H (upd H p o) where
  pre := ⟨[], by simp⟩
  keep := fun a u h _ => by rw [upd_ne (ne_of_none h hp)]; exact h
  new := fun a h n => absurd h n
  dom := fun a u h => ⟨u, by rw [upd_ne (ne_of_none h hp)]; exact h⟩
  frz := fun a o u h => by rw [upd_ne (ne_of_none h hp)]; exact h
theorem tk_alloc {c : List Addr} {H : Hp} {p : Addr} {o : HO} (hp : H p = none) : TK c c H (upd H p o) := ⟨fun a xs t => by rw [upd_ne (ne_of_none t hp)]; exact t, fun _ _ q => q⟩
theorem HR.alloc {c : List Addr} {h : Hh} {H : Hp} {p : Addr} {o : HO} (k : HR c h H) (hp : H p = none) : HR c h (upd H p o) where
  nd := k.nd
  len := k.len
  cell := fun q a e => by
    obtain ⟨ob, e1, e2⟩ := k.cell q a e
    exact ⟨ob, e1, e2.to (tk_alloc hp) fun u e3 => by rw [upd_ne (ne_of_none e3 hp)]; exact e3⟩
theorem HR.nin {c : List Addr} {h : Hh} {H : Hp} (k : HR c h H) {p : Addr} (hp : H p = none) : p ∉ c := fun m => by
  obtain ⟨u, e, _⟩ := k.dom m
  rw [hp] at e; cases e
/-- a new tuple is a value -/
theorem RR.newTup {c : List Addr} {h : Hh} {H : Hp} {p : Addr} {vs : List Val} {xs : List V} {H0 : Hp} (k : HR c h H) (hp : H p = none) (v : VRs c H vs xs) : RR c H0 (upd H p (.tup xs)) (.v (.tup vs)) (.ref p) := by
  show VR c _ (.tup vs) _
  unfold VR
  exact ⟨p, xs, rfl, upd_same, VRs.mono (tk_alloc hp) _ _ v⟩
/-- a new list is owned -/
theorem RR.newLst {c : List Addr} {h : Hh} {H : Hp} {p : Addr} {vs : List Val} {xs : List V} (k : HR c h H) (hp : H p = none) (v : VRs c H vs xs) : RR c H (upd H p (.lst xs)) (.o vs) (.ref p) :=
  ⟨p, xs, rfl, hp, upd_same, VRs.mono (tk_alloc hp) _ _ v, k.nin hp⟩

/-! ### lists of related values -/
theorem VRs.length {c : List Addr} {H : Hp} : ∀ {vs : List Val} {xs : List V}, VRs c H vs xs → vs.length = xs.length
  | [], _, q => by unfold VRs at q; subst q; rfl
  | v :: vs, xs, q => by
    unfold VRs at q
    obtain ⟨y, ys, rfl, _, e⟩ := q
    simp [VRs.length e]
theorem VRs.nil {c : List Addr} {H : Hp} : VRs c H [] [] := by unfold VRs; rfl
theorem VRs.cons {c : List Addr} {H : Hp} {v : Val} {x : V} {vs : List Val} {xs : List V} (a : VR c H v x) (b : VRs c H vs xs) : VRs c H (v :: vs) (x :: xs) := by unfold VRs; exact ⟨x, xs, rfl, a, b⟩
theorem VRs.append {c : List Addr} {H : Hp} : ∀ {vs ws : List Val} {xs ys : List V}, VRs c H vs xs → VRs c H ws ys → VRs c H (vs ++ ws) (xs ++ ys)
  | [], _, _, _, q, r => by unfold VRs at q; subst q; exact r
  | v :: vs, ws, xs, ys, q, r => by
    unfold VRs at q
    obtain ⟨y, zs, rfl, e1, e2⟩ := q
    exact VRs.cons e1 (VRs.append e2 r)
theorem VRs.get {c : List Addr} {H : Hp} : ∀ {vs : List Val} {xs : List V} {i : Nat} {v : Val}, VRs c H vs xs → vs[i]? = some v → ∃ x, xs[i]? = some x ∧ VR c H v x
  | [], _, _, _, _, e => by simp at e
  | v :: vs, xs, 0, w, q, e => by
    unfold VRs at q
    obtain ⟨y, zs, rfl, e1, e2⟩ := q
    simp at e; subst e
    exact ⟨y, rfl, e1⟩
  | v :: vs, xs, i + 1, w, q, e => by
    unfold VRs at q
    obtain ⟨y, zs, rfl, e1, e2⟩ := q
    obtain ⟨x, h1, h2⟩ := VRs.get (i := i) e2 (by simpa using e)
    exact ⟨x, by simpa using h1, h2⟩
theorem VRs.drop {c : List Addr} {H : Hp} : ∀ (n : Nat) {vs : List Val} {xs : List V}, VRs c H vs xs → VRs c H (vs.drop n) (xs.drop n)
  | 0, _, _, q => q
  | n + 1, [], xs, q => by unfold VRs at q; subst q; exact VRs.nil
  | n + 1, v :: vs, xs, q => by
    unfold VRs at q
    obtain ⟨y, zs, rfl, e1, e2⟩ := q
    exact VRs.drop n e2
theorem VRs.take {c : List Addr} {H : Hp} : ∀ (n : Nat) {vs : List Val} {xs : List V}, VRs c H vs xs → VRs c H (vs.take n) (xs.take n)
  | 0, _, _, q => VRs.nil
  | n + 1, [], xs, q => by unfold VRs at q; subst q; exact VRs.nil
  | n + 1, v :: vs, xs, q => by
    unfold VRs at q
    obtain ⟨y, zs, rfl, e1, e2⟩ := q
    exact VRs.cons e1 (VRs.take n e2)
theorem VRs.set {c : List Addr} {H : Hp} {w : Val} {z : V} (r : VR c H w z) : ∀ {vs : List Val} {xs : List V} (i : Nat), VRs c H vs xs → VRs c H (vs.set i w) (xs.set i z)
  | [], _, _, q => by unfold VRs at q; subst q; exact VRs.nil
  | v :: vs, xs, 0, q => by
    unfold VRs at q
    obtain ⟨y, zs, rfl, e1, e2⟩ := q
    exact VRs.cons r e2
  | v :: vs, xs, i + 1, q => by
    unfold VRs at q
    obtain ⟨y, zs, rfl, e1, e2⟩ := q
    exact VRs.cons e1 (VRs.set r i e2)
theorem VRs.ints {c : List Addr} {H : Hp} : ∀ {ns : List Int} {xs : List V}, VRs c H (ns.map .int) xs → xs = ns.map .int
  | [], _, q => by unfold VRs at q; exact q
  | n :: ns, xs, q => by
    simp only [List.map_cons] at q
    unfold VRs at q
    obtain ⟨y, zs, rfl, e1, e2⟩ := q
    unfold VR at e1
    simp [e1, VRs.ints e2]
theorem VRs.of_ints {c : List Addr} {H : Hp} : ∀ (ns : List Int), VRs c H (ns.map .int) (ns.map .int)
  | [] => VRs.nil
  | n :: ns => VRs.cons (by unfold VR; rfl) (VRs.of_ints ns)
theorem VRs.bls {c : List Addr} {H : Hp} : ∀ {ns : List Bool} {xs : List V}, VRs c H (ns.map .bl) xs → xs = ns.map .bl
  | [], _, q => by unfold VRs at q; exact q
  | n :: ns, xs, q => by
    simp only [List.map_cons] at q
    unfold VRs at q
    obtain ⟨y, zs, rfl, e1, e2⟩ := q
    unfold VR at e1
    simp [e1, VRs.bls e2]

/-! ### what is read off a result -/
/-- the list that a result is -/
def asL (h : Hh) : R → Option (List Val)
  | .l xs => some xs
  | .o xs => some xs
  | .v (.ref p) => match h[p]? with
    | some (.lst xs) => some xs
    | _ => none
  | _ => none
theorem asL_rr {c : List Addr} {h : Hh} {H0 H : Hp} (k : HR c h H) {r : R} {x : V} {xs : List Val} (e : asL h r = some xs) (q : RR c H0 H r x) : ∃ a ys, x = .ref a ∧ Rd H a (.lst ys) ∧ VRs c H xs ys := by
  cases r with
  | l zs =>
    simp only [asL, Option.some.injEq] at e
    subst e
    obtain ⟨a, ys, e1, e2, e3, _⟩ := q
    exact ⟨a, ys, e1, .inl e2, e3⟩
  | z zs => simp [asL] at e
  | o zs =>
    simp only [asL, Option.some.injEq] at e
    subst e
    obtain ⟨a, ys, e1, _, e2, e3, _⟩ := q
    exact ⟨a, ys, e1, .inl e2, e3⟩
  | v w =>
    cases w with
    | ref p =>
      have q : VR c H (.ref p) x := q
      unfold VR at q
      obtain ⟨a, e1, e2⟩ := q
      obtain ⟨ob, e3, e4⟩ := k.cell p a e2
      simp only [asL, e3] at e
      cases ob with
      | lst zs =>
        simp only [Option.some.injEq] at e
        subst e
        obtain ⟨ys, e5, e6⟩ := e4
        exact ⟨a, ys, e1, .inl e5, e6⟩
      | _ => cases e
    | _ => simp [asL] at e
/-- .. that may be changed by others, not the script -/
def asW (h : Hh) : R → Option (List Val)
  | .z _ => none
  | r => asL h r
theorem asW_rr {c : List Addr} {h : Hh} {H0 H : Hp} (k : HR c h H) {r : R} {x : V} {xs : List Val} (e : asW h r = some xs) (q : RR c H0 H r x) : ∃ a ys, x = .ref a ∧ H a = some (.lst ys) ∧ VRs c H xs ys := by
  cases r with
  | l zs =>
    simp only [asW, asL, Option.some.injEq] at e
    subst e
    obtain ⟨a, ys, e1, e2, e3, _⟩ := q
    exact ⟨a, ys, e1, e2, e3⟩
  | z zs => simp [asW] at e
  | o zs =>
    simp only [asW, asL, Option.some.injEq] at e
    subst e
    obtain ⟨a, ys, e1, _, e2, e3, _⟩ := q
    exact ⟨a, ys, e1, e2, e3⟩
  | v w =>
    cases w with
    | ref p =>
      have q : VR c H (.ref p) x := q
      unfold VR at q
      obtain ⟨a, e1, e2⟩ := q
      obtain ⟨ob, e3, e4⟩ := k.cell p a e2
      simp only [asW, asL, e3] at e
      cases ob with
      | lst zs =>
        simp only [Option.some.injEq] at e
        subst e
        obtain ⟨ys, e5, e6⟩ := e4
        exact ⟨a, ys, e1, e5, e6⟩
      | _ => cases e
    | _ => simp [asW, asL] at e
def asT : R → Option (List Val)
  | .v (.tup xs) => some xs
  | _ => none
theorem asT_rr {c : List Addr} {H0 H : Hp} {r : R} {x : V} {xs : List Val} (e : asT r = some xs) (q : RR c H0 H r x) : ∃ a ys, x = .ref a ∧ H a = some (.tup ys) ∧ VRs c H xs ys := by
  cases r with
  | v w =>
    cases w with
    | tup zs =>
      simp only [asT, Option.some.injEq] at e
      subst e
      have q : VR c H (.tup zs) x := q
      unfold VR at q
      exact q
    | _ => simp [asT] at e
  | _ => simp [asT] at e
theorem int_rr {c : List Addr} {H0 H : Hp} {i : Int} {x : V} (q : RR c H0 H (.v (.int i)) x) : x = .int i := by
  have q : VR c H (.int i) x := q
  unfold VR at q; exact q
theorem bl_rr {c : List Addr} {H0 H : Hp} {i : Bool} {x : V} (q : RR c H0 H (.v (.bl i)) x) : x = .bl i := by
  have q : VR c H (.bl i) x := q
  unfold VR at q; exact q
theorem non_rr {c : List Addr} {H0 H : Hp} {x : V} (q : RR c H0 H (.v .non) x) : x = .non := by
  have q : VR c H .non x := q
  unfold VR at q; exact q
theorem rr_int {c : List Addr} {H0 H : Hp} {i : Int} : RR c H0 H (.v (.int i)) (.int i) := by
  show VR c H (.int i) _
  unfold VR; rfl
theorem rr_bl {c : List Addr} {H0 H : Hp} {i : Bool} : RR c H0 H (.v (.bl i)) (.bl i) := by
  show VR c H (.bl i) _
  unfold VR; rfl
theorem rr_non {c : List Addr} {H0 H : Hp} : RR c H0 H (.v .non) .non := by
  show VR c H .non _
  unfold VR; rfl

/-! ### whole numbers -/
def fI (C : Int → Int → Bool) (g : Int → Int → Val) : F2 := fun x y h => match x, y with
  | .v (.int i), .v (.int j) => if C i j then some (.v (g i j), h) else none
  | _, _ => none
theorem v_I {C : Int → Int → Prop} {C' : Int → Int → Bool} {g : Int → Int → V} {g' : Int → Int → Val} (hC : ∀ i j, C' i j = true → C i j) (hg : ∀ c H i j, VR c H (g' i j) (g i j)) : V2 (rI C g) (fI C' g') := by
  intro c h H0 H x y rx ry r' h' Q k qx qy e f
  unfold fI at e
  split at e
  · rename_i i j
    split at e
    · rename_i hc
      simp only [Option.some.injEq, Prod.mk.injEq] at e
      obtain ⟨rfl, rfl⟩ := e
      exact ⟨i, j, int_rr qx, int_rr qy, hC i j hc, f c H _ (Ext.refl c H) k (hg c H i j)⟩
    · cases e
  · cases e
theorem v_I0 {g : Int → Int → V} {g' : Int → Int → Val} (hg : ∀ c H i j, VR c H (g' i j) (g i j)) : V2 (rI0 g) (fI (fun _ _ => true) g') := by
  intro c h H0 H x y rx ry r' h' Q k qx qy e f
  unfold fI at e
  split at e
  · rename_i i j
    simp only [if_true, Option.some.injEq, Prod.mk.injEq] at e
    obtain ⟨rfl, rfl⟩ := e
    exact ⟨i, j, int_rr qx, int_rr qy, f c H _ (Ext.refl c H) k (hg c H i j)⟩
  · cases e
def fAdd : F2 := fI (fun _ _ => true) fun i j => .int (i + j)
def fSub : F2 := fI (fun _ _ => true) fun i j => .int (i - j)
def fLt : F2 := fI (fun _ _ => true) fun i j => .bl (decide (i < j))
def fLe : F2 := fI (fun _ _ => true) fun i j => .bl (decide (i ≤ j))
def fGt : F2 := fI (fun _ _ => true) fun i j => .bl (decide (j < i))
def fGe : F2 := fI (fun _ _ => true) fun i j => .bl (decide (j ≤ i))
def small64 (i : Int) : Bool := decide (-(2 ^ 64) < i) && decide (i < 2 ^ 64)
def fMul : F2 := fI (fun i j => small64 i || small64 j) fun i j => .int (i * j)
def fMod : F2 := fI (fun _ j => decide (j ≠ 0)) fun i j => .int (i.fmod j)
def fDiv : F2 := fI (fun _ j => decide (j ≠ 0) && decide (j.natAbs < 1073741824)) fun i j => .int (i.fdiv j)
def fPow : F2 := fI (fun i j => decide (0 ≤ j) && decide (j ≤ 1000000) && decide (i.natAbs < 2 ^ 64)) fun i j => .int (i ^ j.toNat)
section
variable {X : Cx} {a b : Expr} {pos : Pos} {ma mb : ME}
theorem se_sub (ha : SE X a ma) (hb : SE X b mb) : SE X (.BinOp a .Sub b pos) (m2 fSub ma mb) := se_op op_sub (v_I0 fun _ _ _ _ => by unfold VR; rfl) ha hb
theorem se_mod (ha : SE X a ma) (hb : SE X b mb) : SE X (.BinOp a .Mod b pos) (m2 fMod ma mb) := se_op op_modN (v_I (fun i j e => of_decide_eq_true e) fun _ _ _ _ => by unfold VR; rfl) ha hb
theorem se_div (ha : SE X a ma) (hb : SE X b mb) : SE X (.BinOp a .FloorDiv b pos) (m2 fDiv ma mb) := se_op op_fdivN (v_I (fun i j e => by
  simp only [Bool.and_eq_true, decide_eq_true_eq] at e
  exact e) fun _ _ _ _ => by unfold VR; rfl) ha hb
theorem se_pow (ha : SE X a ma) (hb : SE X b mb) : SE X (.BinOp a .Pow b pos) (m2 fPow ma mb) := se_op op_pow (v_I (fun i j e => by
  simp only [Bool.and_eq_true, decide_eq_true_eq] at e
  exact ⟨e.1.1, e.1.2, e.2⟩) fun _ _ _ _ => by unfold VR; rfl) ha hb
theorem se_lt (ha : SE X a ma) (hb : SE X b mb) : SE X (.Compare a [.Lt] [b] pos) (m2 fLt ma mb) := se_cmp op_lt (v_I0 fun _ _ _ _ => by unfold VR; rfl) ha hb (nomark _)
theorem se_le (ha : SE X a ma) (hb : SE X b mb) : SE X (.Compare a [.LtE] [b] pos) (m2 fLe ma mb) := se_cmp op_le (v_I0 fun _ _ _ _ => by unfold VR; rfl) ha hb (nomark _)
theorem se_gt (ha : SE X a ma) (hb : SE X b mb) : SE X (.Compare a [.Gt] [b] pos) (m2 fGt ma mb) := se_cmp op_gt (v_I0 fun _ _ _ _ => by unfold VR; rfl) ha hb (nomark _)
theorem se_ge (ha : SE X a ma) (hb : SE X b mb) : SE X (.Compare a [.GtE] [b] pos) (m2 fGe ma mb) := se_cmp op_ge (v_I0 fun _ _ _ _ => by unfold VR; rfl) ha hb (nomark _)
end

end NL
set_option Elab.async false
set_option linter.all false
set_option maxRecDepth 100000
set_option maxHeartbeats 4000000
set_option autoImplicit false
namespace NL
open PySem L2
variable [HasK]

/-! ### data for == and in -/
def mapO {α β : Type} (f : α → Option β) : List α → Option (List β)
  | [] => some []
  | a :: as => (f a).bind fun b => (mapO f as).bind fun bs => some (b :: bs)
def datV (h : Hh) : Nat → Val → Option PyData
  | _, .non => some .none
  | _, .bl b => some (.bool b)
  | _, .int i => some (.int i)
  | _, .str x => if PyData.strOk x then some (.str x) else none
  | n + 1, .tup vs => (mapO (datV h n) vs).map .tuple
  | n + 1, .ref p => match h[p]? with
    | some (.lst xs) => (mapO (datV h n) xs).map .list
    | _ => none
  | 0, .tup _ => none
  | 0, .ref _ => none
  | _, .ty _ => none
def dat (h : Hh) : R → Option PyData
  | .v v => datV h 20 v
  | .l xs => (mapO (datV h 20) xs).map .list
  | .o xs => (mapO (datV h 20) xs).map .list
  | .z _ => none
theorem mapO_lay {f : Val → Option PyData} {n : Nat} (hf : ∀ v d, f v = some d → d.canLay0 = true ∧ d.depth ≤ n) : ∀ {vs : List Val} {ds : List PyData}, mapO f vs = some ds → PyData.canLayAll0 ds = true ∧ PyData.depthAll ds ≤ n
  | [], ds, e => by
    simp only [mapO, Option.some.injEq] at e
    subst e
    exact ⟨by simp [PyData.canLayAll0], by simp [PyData.depthAll]⟩
  | v :: vs, ds, e => by
    simp only [mapO, Option.bind_eq_some_iff, Option.some.injEq] at e
    obtain ⟨b, e1, bs, e2, rfl⟩ := e
    obtain ⟨h1, h2⟩ := hf v b e1
    obtain ⟨h3, h4⟩ := mapO_lay hf e2
    exact ⟨by simp [PyData.canLayAll0, h1, h3], by simp only [PyData.depthAll]; omega⟩
theorem datV_lay {h : Hh} : ∀ (n : Nat) (v : Val) (d : PyData), datV h n v = some d → d.canLay0 = true ∧ d.depth ≤ n
  | n, .non, d, e => by
    simp only [datV, Option.some.injEq] at e; subst e
    simp [PyData.canLay0, PyData.depth]
  | n, .bl _, d, e => by
    simp only [datV, Option.some.injEq] at e; subst e
    simp [PyData.canLay0, PyData.depth]
  | n, .int _, d, e => by
    simp only [datV, Option.some.injEq] at e; subst e
    simp [PyData.canLay0, PyData.depth]
  | n, .str x, d, e => by
    simp only [datV] at e
    split at e
    · rename_i hx
      simp only [Option.some.injEq] at e; subst e
      exact ⟨by simp [PyData.canLay0, hx], by simp [PyData.depth]⟩
    · cases e
  | 0, .tup _, d, e => by simp [datV] at e
  | n, .ty _, d, e => by cases n <;> simp [datV] at e
  | 0, .ref _, d, e => by simp [datV] at e
  | n + 1, .tup vs, d, e => by
    simp only [datV, Option.map_eq_some_iff] at e
    obtain ⟨ds, e1, rfl⟩ := e
    obtain ⟨h1, h2⟩ := mapO_lay (datV_lay n) e1
    exact ⟨by simp [PyData.canLay0, h1], by simp only [PyData.depth]; omega⟩
  | n + 1, .ref p, d, e => by
    simp only [datV] at e
    split at e
    · simp only [Option.map_eq_some_iff] at e
      obtain ⟨ds, e1, rfl⟩ := e
      obtain ⟨h1, h2⟩ := mapO_lay (datV_lay n) e1
      exact ⟨by simp [PyData.canLay0, h1], by simp only [PyData.depth]; omega⟩
    · cases e
theorem dat_shaped {h : Hh} {r : R} {d : PyData} (e : dat h r = some d) : SeqAt.shaped d = true := by
  have key : ∀ xs, (mapO (datV h 20) xs).map PyData.list = some d → SeqAt.shaped d = true := fun xs e => by
    simp only [Option.map_eq_some_iff] at e
    obtain ⟨ds, e1, rfl⟩ := e
    obtain ⟨h1, h2⟩ := mapO_lay (datV_lay 20) e1
    unfold SeqAt.shaped
    rw [Bool.and_eq_true]
    refine ⟨by simp [PyData.canLay0, h1], decide_eq_true ?_⟩
    show PyData.depth (.list ds) ≤ 64
    simp only [PyData.depth]
    omega
  cases r with
  | v v =>
    obtain ⟨h1, h2⟩ := datV_lay 20 v d e
    unfold SeqAt.shaped
    simp only [Bool.and_eq_true, decide_eq_true_eq]
    exact ⟨h1, by omega⟩
  | l xs => exact key xs e
  | o xs => exact key xs e
  | z xs => simp [dat] at e
theorem mapO_dp {K : PySem.W.Frag} {c : List Addr} {H : Hp} {f : Val → Option PyData} (hf : ∀ v x d, VR c H v x → f v = some d → Dp K H x d) : ∀ {vs : List Val} {xs : List V} {ds : List PyData}, VRs c H vs xs → mapO f vs = some ds → DpAll K H xs ds
  | [], xs, ds, q, e => by
    simp only [mapO, Option.some.injEq] at e
    subst e
    unfold VRs at q; subst q
    exact .nil
  | v :: vs, xs, ds, q, e => by
    simp only [mapO, Option.bind_eq_some_iff, Option.some.injEq] at e
    obtain ⟨b, e1, bs, e2, rfl⟩ := e
    unfold VRs at q
    obtain ⟨y, ys, rfl, q1, q2⟩ := q
    exact .cons (hf v y b q1 e1) (mapO_dp hf q2 e2)
theorem datV_dp {K : PySem.W.Frag} {c : List Addr} {h : Hh} {H : Hp} (k : HR c h H) : ∀ (n : Nat) (v : Val) (x : V) (d : PyData), VR c H v x → datV h n v = some d → Dp K H x d
  | n, .non, x, d, q, e => by
    simp only [datV, Option.some.injEq] at e; subst e
    unfold VR at q; subst q; exact .non
  | n, .bl b, x, d, q, e => by
    simp only [datV, Option.some.injEq] at e; subst e
    unfold VR at q; subst q; exact .bl b
  | n, .int i, x, d, q, e => by
    simp only [datV, Option.some.injEq] at e; subst e
    unfold VR at q; subst q; exact .int i
  | n, .str s, x, d, q, e => by
    simp only [datV] at e
    split at e
    · simp only [Option.some.injEq] at e; subst e
      unfold VR at q; subst q; exact .str s
    · cases e
  | 0, .tup _, x, d, q, e => by simp [datV] at e
  | n, .ty _, x, d, q, e => by cases n <;> simp [datV] at e
  | 0, .ref _, x, d, q, e => by simp [datV] at e
  | n + 1, .tup vs, x, d, q, e => by
    simp only [datV, Option.map_eq_some_iff] at e
    obtain ⟨ds, e1, rfl⟩ := e
    unfold VR at q
    obtain ⟨a, xs, rfl, q1, q2⟩ := q
    exact .tup (.inl (.inl q1)) (mapO_dp (datV_dp k n) q2 e1)
  | n + 1, .ref p, x, d, q, e => by
    unfold VR at q
    obtain ⟨a, rfl, q1⟩ := q
    obtain ⟨ob, e1, e2⟩ := k.cell p a q1
    simp only [datV, e1] at e
    cases ob with
    | lst zs =>
      simp only [Option.map_eq_some_iff] at e
      obtain ⟨ds, e3, rfl⟩ := e
      obtain ⟨ys, e4, e5⟩ := e2
      exact .lst (.inl (.inl e4)) (mapO_dp (datV_dp k n) e5 e3)
    | _ => cases e
theorem dat_dp {K : PySem.W.Frag} {c : List Addr} {h : Hh} {H0 H : Hp} (k : HR c h H) {r : R} {x : V} {d : PyData} (q : RR c H0 H r x) (e : dat h r = some d) : Dp K H x d := by
  cases r with
  | v v => exact datV_dp k 20 v x d q e
  | l xs =>
    obtain ⟨a, ys, rfl, e2, e3, _⟩ := q
    simp only [dat, Option.map_eq_some_iff] at e
    obtain ⟨ds, e1, rfl⟩ := e
    exact .lst (.inl (.inl e2)) (mapO_dp (datV_dp k 20) e3 e1)
  | o xs =>
    obtain ⟨a, ys, rfl, _, e2, e3, _⟩ := q
    simp only [dat, Option.map_eq_some_iff] at e
    obtain ⟨ds, e1, rfl⟩ := e
    exact .lst (.inl (.inl e2)) (mapO_dp (datV_dp k 20) e3 e1)
  | z xs => simp [dat] at e
def fEq (neg : Bool) : F2 := fun x y h => (dat h x).bind fun d => (dat h y).bind fun e => some (.v (.bl (PyData.eqv d e != neg)), h)
theorem v_eq {K : PySem.W.Frag} : V2 (rEqD K) (fEq false) := by
  intro c h H0 H x y rx ry r' h' Q k qx qy e f
  simp only [fEq, Option.bind_eq_some_iff, Option.some.injEq, Prod.mk.injEq] at e
  obtain ⟨d, e1, d2, e2, rfl, rfl⟩ := e
  refine ⟨d, d2, dat_dp k qx e1, dat_dp k qy e2, dat_shaped e1, dat_shaped e2, ?_⟩
  exact f c H _ (Ext.refl c H) k (by simpa using rr_bl)
theorem v_ne {K : PySem.W.Frag} : V2 (rNeD K) (fEq true) := by
  intro c h H0 H x y rx ry r' h' Q k qx qy e f
  simp only [fEq, Option.bind_eq_some_iff, Option.some.injEq, Prod.mk.injEq] at e
  obtain ⟨d, e1, d2, e2, rfl, rfl⟩ := e
  refine ⟨d, d2, dat_dp k qx e1, dat_dp k qy e2, dat_shaped e1, dat_shaped e2, ?_⟩
  exact f c H _ (Ext.refl c H) k (by simpa using rr_bl)
/-- x in a list or tuple -/
def rInT (K : PySem.W.Frag) (neg : Bool) : R2 := fun x y H Q => ∃ d ds, Dp K H x d ∧ (Dp K H y (.list ds) ∨ Dp K H y (.tuple ds)) ∧ SeqAt.shaped d = true ∧ PyData.canLayAll0 ds = true ∧ Q (.bl ((ds.any fun z => PyData.eqv z d) != neg)) H
theorem op_inT {X : Cx} (hu : X.A.units + 65 < cLine) : OpR X (compareOp .In) (rInT X.K false) := by
  intro pins s σ H x y v u Q I rx ry h
  obtain ⟨d, ds, hd, he, sd, se, q⟩ := h
  obtain ⟨as, r1⟩ := Dp.reads I d x v hd rx
  rcases he with he | he
  · obtain ⟨bs, r2⟩ := Dp.reads I (.list ds) y u he ry
    exact SeqAt.in_list_reads r2 r1 se (SeqAt.canLay_of_shaped sd) (PyProof.Rows.room_in_shaped sd hu) ⟨.bl _, H, I, rfl, by simpa using q⟩
  · obtain ⟨bs, r2⟩ := Dp.reads I (.tuple ds) y u he ry
    exact SeqAt.in_tuple_reads r2 r1 se (SeqAt.canLay_of_shaped sd) (PyProof.Rows.room_in_shaped sd hu) ⟨.bl _, H, I, rfl, by simpa using q⟩
theorem op_notInT {X : Cx} (hu : X.A.units + 65 < cLine) : OpR X (compareOp .NotIn) (rInT X.K true) := by
  intro pins s σ H x y v u Q I rx ry h
  obtain ⟨d, ds, hd, he, sd, se, q⟩ := h
  obtain ⟨as, r1⟩ := Dp.reads I d x v hd rx
  rcases he with he | he
  · obtain ⟨bs, r2⟩ := Dp.reads I (.list ds) y u he ry
    exact SeqAt.notIn_list_reads r2 r1 se (SeqAt.canLay_of_shaped sd) (PyProof.Rows.room_in_shaped sd hu) ⟨.bl _, H, I, rfl, by simpa using q⟩
  · obtain ⟨bs, r2⟩ := Dp.reads I (.tuple ds) y u he ry
    exact SeqAt.notIn_tuple_reads r2 r1 se (SeqAt.canLay_of_shaped sd) (PyProof.Rows.room_in_shaped sd hu) ⟨.bl _, H, I, rfl, by simpa using q⟩
def fIn (neg : Bool) : F2 := fun x y h => (dat h x).bind fun d => (dat h y).bind fun e => match e with
  | .list ds => some (.v (.bl ((ds.any fun z => PyData.eqv z d) != neg)), h)
  | .tuple ds => some (.v (.bl ((ds.any fun z => PyData.eqv z d) != neg)), h)
  | _ => none
theorem v_in {K : PySem.W.Frag} {neg : Bool} : V2 (rInT K neg) (fIn neg) := by
  intro c h H0 H x y rx ry r' h' Q k qx qy e f
  simp only [fIn, Option.bind_eq_some_iff] at e
  obtain ⟨d, e1, d2, e2, e3⟩ := e
  have s2 := SeqAt.canLay_of_shaped (dat_shaped e2)
  split at e3
  · simp only [Option.some.injEq, Prod.mk.injEq] at e3
    obtain ⟨rfl, rfl⟩ := e3
    exact ⟨d, _, dat_dp k qx e1, .inl (dat_dp k qy e2), dat_shaped e1, by simpa [PyData.canLay0] using s2, f c H _ (Ext.refl c H) k rr_bl⟩
  · simp only [Option.some.injEq, Prod.mk.injEq] at e3
    obtain ⟨rfl, rfl⟩ := e3
    exact ⟨d, _, dat_dp k qx e1, .inr (dat_dp k qy e2), dat_shaped e1, by simpa [PyData.canLay0] using s2, f c H _ (Ext.refl c H) k rr_bl⟩
  · cases e3

/-! ### is -/
def fIs (neg : Bool) : F2 := fun x y h => match x, y with
  | .v (.bl a), .v (.bl b) => some (.v (.bl ((a == b) != neg)), h)
  | .v .non, .v .non => some (.v (.bl (true != neg)), h)
  | .v (.int _), .v .non => some (.v (.bl (false != neg)), h)
  | .v (.bl _), .v .non => some (.v (.bl (false != neg)), h)
  | .v (.str _), .v .non => some (.v (.bl (false != neg)), h)
  | .v (.tup _), .v .non => some (.v (.bl (false != neg)), h)
  | .v (.ref _), .v .non => some (.v (.bl (false != neg)), h)
  | .l _, .v .non => some (.v (.bl (false != neg)), h)
  | .o _, .v .non => some (.v (.bl (false != neg)), h)
  | _, _ => none
def rIs (neg : Bool) : R2 := fun x y H Q => (∃ a b, x = .bl a ∧ y = .bl b ∧ Q (.bl ((a == b) != neg)) H) ∨ (y = .non ∧ Q (.bl (decide (x = .non) != neg)) H)
theorem op_is {X : Cx} : OpR X (compareOp .Is) (rIs false) := by
  intro pins s σ H x y v u Q I rx ry h
  rcases h with ⟨a, b, rfl, rfl, q⟩ | ⟨rfl, q⟩
  · exact op_isBl pins s σ H _ _ v u Q I rx ry ⟨a, b, rfl, rfl, by simpa [Bool.beq_eq_decide_eq] using q⟩
  · exact op_isN pins s σ H _ _ v u Q I rx ry ⟨rfl, by simpa using q⟩
theorem op_isnt {X : Cx} : OpR X (compareOp .IsNot) (rIs true) := by
  intro pins s σ H x y v u Q I rx ry h
  rcases h with ⟨a, b, rfl, rfl, q⟩ | ⟨rfl, q⟩
  · exact op_notBl pins s σ H _ _ v u Q I rx ry ⟨a, b, rfl, rfl, by simpa [Bool.beq_eq_decide_eq] using q⟩
  · exact op_notN pins s σ H _ _ v u Q I rx ry ⟨rfl, by simpa using q⟩
theorem v_is {neg : Bool} : V2 (rIs neg) (fIs neg) := by
  intro c h H0 H x y rx ry r' h' Q k qx qy e f
  unfold fIs at e
  split at e <;> first
    | cases e; done
    | (simp only [Option.some.injEq, Prod.mk.injEq] at e
       obtain ⟨rfl, rfl⟩ := e
       first
         | (rw [bl_rr qx, bl_rr qy]; exact .inl ⟨_, _, rfl, rfl, f c H _ (Ext.refl c H) k rr_bl⟩)
         | (rw [non_rr qy]
            refine .inr ⟨rfl, ?_⟩
            have z := f c H _ (Ext.refl c H) k rr_bl
            first
              | (rw [non_rr qx]; simpa using z)
              | (rw [int_rr qx]; simpa using z)
              | (rw [bl_rr qx]; simpa using z)
              | (have qx : VR c H _ x := qx
                 unfold VR at qx
                 obtain ⟨a, rest⟩ := qx
                 first
                   | (obtain ⟨ys, rfl, _⟩ := rest; simpa using z)
                   | (obtain ⟨rfl, _⟩ := rest; simpa using z))
              | (have qx : VR c H (.str _) x := qx
                 unfold VR at qx
                 subst qx
                 simpa using z)
              | (obtain ⟨a, ys, rfl, _⟩ := qx; simpa using z)))
section
variable {X : Cx} {a b : Expr} {pos : Pos} {ma mb : ME}
theorem se_eq (hu : X.A.units + 64 < cLine) (ha : SE X a ma) (hb : SE X b mb) : SE X (.Compare a [.Eq] [b] pos) (m2 (fEq false) ma mb) := se_cmp (op_eqD hu) v_eq ha hb (nomark _)
theorem se_ne (hu : X.A.units + 64 < cLine) (ha : SE X a ma) (hb : SE X b mb) : SE X (.Compare a [.NotEq] [b] pos) (m2 (fEq true) ma mb) := se_cmp (op_neD hu) v_ne ha hb (nomark _)
theorem se_in (hu : X.A.units + 65 < cLine) (ha : SE X a ma) (hb : SE X b mb) (hm : behindInMarks .In b = false := by rfl) : SE X (.Compare a [.In] [b] pos) (m2 (fIn false) ma mb) := se_cmp (op_inT hu) v_in ha hb hm
theorem se_nin (hu : X.A.units + 65 < cLine) (ha : SE X a ma) (hb : SE X b mb) (hm : behindInMarks .NotIn b = false := by rfl) : SE X (.Compare a [.NotIn] [b] pos) (m2 (fIn true) ma mb) := se_cmp (op_notInT hu) v_in ha hb hm
theorem se_is (ha : SE X a ma) (hb : SE X b mb) : SE X (.Compare a [.Is] [b] pos) (m2 (fIs false) ma mb) := se_cmp op_is v_is ha hb (nomark _)
theorem se_isnt (ha : SE X a ma) (hb : SE X b mb) : SE X (.Compare a [.IsNot] [b] pos) (m2 (fIs true) ma mb) := se_cmp op_isnt v_is ha hb (nomark _)
end
end NL
set_option Elab.async false
set_option linter.all false
set_option maxRecDepth 100000
set_option maxHeartbeats 4000000
set_option autoImplicit false
namespace NL
open PySem L2
variable [HasK]

/-! ### a new list goes to the plain heap -/
def mAl (m : ME) : ME := fun s h => (m s h).bind fun p => match p.1 with
  | .o xs => some (.v (.ref p.2.length), p.2 ++ [.lst xs])
  | _ => none
theorem HR.pushO {c : List Addr} {h : Hh} {H : Hp} {a : Addr} {ob : Ob} (k : HR c h H) (n : a ∉ c) (v : OR c H ob a) : HR (c ++ [a]) (h ++ [ob]) H := by
  have tk : TK c (c ++ [a]) H H := ⟨fun _ _ t => t, fun p b q => by rw [List.getElem?_append_left (List.getElem?_eq_some_iff.mp q).1]; exact q⟩
  refine ⟨?_, by simp [k.len], fun p b q => ?_⟩
  · rw [List.nodup_append]
    refine ⟨k.nd, by simp, fun x hx y hy => ?_⟩
    simp only [List.mem_singleton] at hy
    subst hy
    exact fun e => n (e ▸ hx)
  · by_cases hp : p < c.length
    · rw [List.getElem?_append_left hp] at q
      obtain ⟨o, e1, e2⟩ := k.cell p b q
      exact ⟨o, by rw [List.getElem?_append_left (by rw [k.len]; exact hp)]; exact e1, e2.to tk fun _ z => z⟩
    · have hp2 : p = c.length := by
        have := (List.getElem?_eq_some_iff.mp q).1
        simp at this
        omega
      subst hp2
      simp at q
      subst q
      exact ⟨ob, by rw [← k.len]; simp, v.to tk fun _ z => z⟩
theorem HR.push {c : List Addr} {h : Hh} {H : Hp} {a : Addr} {xs : List Val} {ys : List V} (k : HR c h H) (n : a ∉ c) (e : H a = some (.lst ys)) (v : VRs c H xs ys) : HR (c ++ [a]) (h ++ [.lst xs]) H := k.pushO (ob := .lst xs) n ⟨ys, e, v⟩
theorem rd_al {m : ME} {σ : St} {H : Hp} {Q : VK} (q : rdE (mAl m) σ H Q) : rdE m σ H Q := by
  obtain ⟨c, ow, σa, h, r, h', k, e, f⟩ := q
  simp only [mAl, Option.bind_eq_some_iff] at e
  obtain ⟨⟨r1, h1⟩, e1, e2⟩ := e
  refine ⟨c, ow, σa, h, r1, h1, k, e1, fun c' H' x E K R => ?_⟩
  cases r1 with
  | o xs =>
    simp only [Option.some.injEq, Prod.mk.injEq] at e2
    obtain ⟨rfl, rfl⟩ := e2
    obtain ⟨a, ys, rfl, e3, e4, e5, e6⟩ := R
    refine f (c' ++ [a]) H' (.ref a) ⟨?_, E.keep, fun b hb hn => ?_, E.dom, E.frz⟩ (K.push e6 e4 e5) ?_
    · obtain ⟨d, rfl⟩ := E.pre
      exact ⟨d ++ [a], by simp⟩
    · rcases List.mem_append.mp hb with hb | hb
      · exact E.new b hb hn
      · simp only [List.mem_singleton] at hb
        subst hb; exact e3
    · show VR (c' ++ [a]) H' (.ref h1.length) (.ref a)
      unfold VR
      exact ⟨a, rfl, by rw [K.len]; simp⟩
  | v _ => simp at e2
  | l _ => simp at e2
  | z _ => simp at e2

/-! ### arguments, displays -/
def aNil : MA := fun _ h => some ([], h)
def aCons (a : ME) (t : MA) : MA := fun s h => (a s h).bind fun p => (t s p.2).bind fun q => some (p.1 :: q.1, q.2)
def vals : List R → Option (List Val)
  | [] => some []
  | .v x :: rs => (vals rs).map (x :: ·)
  | _ => none
theorem vals_rr {c : List Addr} {H0 H : Hp} : ∀ {rs : List R} {vs : List Val} {xs : List V}, vals rs = some vs → RRs c H0 H rs xs → VRs c H vs xs
  | [], vs, xs, e, q => by
    simp only [vals, Option.some.injEq] at e
    subst e
    unfold RRs at q; subst q; exact VRs.nil
  | .v x :: rs, vs, xs, e, q => by
    simp only [vals, Option.map_eq_some_iff] at e
    obtain ⟨ws, e1, rfl⟩ := e
    obtain ⟨y, ys, rfl, q1, q2⟩ := q
    exact VRs.cons q1 (vals_rr e1 q2)
  | .l _ :: _, _, _, e, _ => by simp [vals] at e
  | .o _ :: _, _, _, e, _ => by simp [vals] at e
  | .z _ :: _, _, _, e, _ => by simp [vals] at e
def mTup (t : MA) : ME := fun s h => (t s h).bind fun p => (vals p.1).bind fun vs => if vs.length ≤ 1000000 then some (.v (.tup vs), p.2) else none
def mLst (t : MA) : ME := fun s h => (t s h).bind fun p => (vals p.1).bind fun vs => if vs.length ≤ 1000000 then some (.o vs, p.2) else none
theorem szl {n : Nat} (h : n ≤ 1000000) : n ≤ sizeLine := Nat.le_trans h (by decide)
section
variable {X : Cx} {e a b : Expr} {es : List Expr} {pos : Pos} {m ma mb : ME} {t : MA}
theorem se_al (h : SE X e m) : SE X e (mAl m) := pe_imp h fun _ _ _ => rd_al
theorem sa_nil : SA X [] aNil := pa_imp pa_nil fun σ H Q q => by
  obtain ⟨c, ow, σa, h, r, h', k, e, f⟩ := q
  simp only [aNil, Option.some.injEq, Prod.mk.injEq] at e
  obtain ⟨rfl, rfl⟩ := e
  exact f c H [] (Ext.refl c H) k.hr rfl
theorem rd_cons {σ : St} {H : Hp} {Q : List V → Hp → Prop} (q : rdA (aCons m t) σ H Q) : tCons (rdE m) (rdA t) σ H Q := by
  obtain ⟨c, ow, σa, h, r, h', k, e, f⟩ := q
  simp only [aCons, Option.bind_eq_some_iff, Option.some.injEq, Prod.mk.injEq] at e
  obtain ⟨⟨r1, h1⟩, e1, ⟨r2, h2⟩, e2, rfl, rfl⟩ := e
  refine ⟨c, ow, σa, h, r1, h1, k, e1, fun c1 H1 x E1 K1 R1 => ?_⟩
  refine ⟨c1, ow, σa, h1, r2, h2, k.ext E1 K1, e2, fun c2 H2 xs E2 K2 R2 => ?_⟩
  exact f c2 H2 (x :: xs) (E1.trans E2) K2 ⟨x, xs, rfl, RR.mono E2 K1 R1, RRs.early E1 R2⟩
theorem sa_cons (he : SE X e m) (hr : SA X es t) (hs : starEach (e :: es) X.env = (false, eval e X.env) :: starEach es X.env := by rfl) : SA X (e :: es) (aCons m t) := pa_imp (pa_cons he hr hs) fun _ _ _ => rd_cons
theorem se_tup {x1 : Nat} (h : SA X es t) : SE X (.Tuple es x1 pos) (mTup t) := pe_imp (pe_tup h) fun σ H Q q => by
  obtain ⟨c, ow, σa, hh, r, h', k, e, f⟩ := q
  simp only [mTup, Option.bind_eq_some_iff] at e
  obtain ⟨⟨rs, h1⟩, e1, vs, e2, e3⟩ := e
  split at e3
  · rename_i hz
    simp only [Option.some.injEq, Prod.mk.injEq] at e3
    obtain ⟨rfl, rfl⟩ := e3
    refine ⟨c, ow, σa, hh, rs, h1, k, e1, fun c1 H1 xs E1 K1 R1 => ?_⟩
    have v := vals_rr e2 R1
    refine ⟨szl (by rw [← v.length]; exact hz), fun p hp => ?_⟩
    exact f c1 _ _ (E1.trans (Ext.alloc hp)) (K1.alloc hp) (RR.newTup K1 hp v)
  · cases e3
theorem se_lst (h : SA X es t) : SE X (.List es pos) (mLst t) := pe_imp (pe_lst h) fun σ H Q q => by
  obtain ⟨c, ow, σa, hh, r, h', k, e, f⟩ := q
  simp only [mLst, Option.bind_eq_some_iff] at e
  obtain ⟨⟨rs, h1⟩, e1, vs, e2, e3⟩ := e
  split at e3
  · rename_i hz
    simp only [Option.some.injEq, Prod.mk.injEq] at e3
    obtain ⟨rfl, rfl⟩ := e3
    refine ⟨c, ow, σa, hh, rs, h1, k, e1, fun c1 H1 xs E1 K1 R1 => ?_⟩
    have v := vals_rr e2 R1
    refine ⟨szl (by rw [← v.length]; exact hz), fun p hp => ?_⟩
    exact f c1 _ _ (E1.trans (Ext.alloc hp)) (K1.alloc hp) (RR.early E1 (RR.newLst K1 hp v))
  · cases e3
end

/-! ### + * and items -/
def fPlus : F2 := fun x y h => match x, y with
  | .v (.int i), .v (.int j) => some (.v (.int (i + j)), h)
  | .v (.tup xs), .v (.tup ys) => if xs.length + ys.length ≤ 1000000 then some (.v (.tup (xs ++ ys)), h) else none
  | x, y => (asW h x).bind fun xs => (asW h y).bind fun ys => if xs.length + ys.length ≤ 1000000 then some (.o (xs ++ ys), h) else none
def rPlus (K : PySem.W.Frag) : R2 := fun x y H Q => rI0 (fun i j => .int (i + j)) x y H Q ∨ (rCatA K x y H Q ∨ rCat x y H Q)
theorem op_plus {X : Cx} : OpR X (binaryOp .Add) (rPlus X.K) := or_op op_add (or_op op_catA op_cat)
theorem v_plus {K : PySem.W.Frag} : V2 (rPlus K) fPlus := by
  intro c h H0 H x y rx ry r' h' Q k qx qy e f
  unfold fPlus at e
  split at e
  · simp only [Option.some.injEq, Prod.mk.injEq] at e
    obtain ⟨rfl, rfl⟩ := e
    exact .inl ⟨_, _, int_rr qx, int_rr qy, f c H _ (Ext.refl c H) k rr_int⟩
  · rename_i xs ys
    split at e
    · rename_i hz
      simp only [Option.some.injEq, Prod.mk.injEq] at e
      obtain ⟨rfl, rfl⟩ := e
      obtain ⟨a, us, rfl, t1, v1⟩ := asT_rr (xs := xs) rfl qx
      obtain ⟨b, ws, rfl, t2, v2⟩ := asT_rr (xs := ys) rfl qy
      have l1 := v1.length
      have l2 := v2.length
      refine .inr (.inl ⟨a, b, us, ws, rfl, rfl, .inl (.inl t1), .inl (.inl t2), szl (by omega), fun z => ?_, fun z1 z2 => ?_, fun _ _ p hp => ?_⟩)
      · subst z
        have z3 : xs = [] := List.eq_nil_of_length_eq_zero (by simpa using l1)
        subst z3
        exact f c H _ (Ext.refl c H) k qy
      · subst z2
        have z3 : ys = [] := List.eq_nil_of_length_eq_zero (by simpa using l2)
        subst z3
        exact f c H _ (Ext.refl c H) k (by rw [List.append_nil]; exact qx)
      · exact f c _ _ (Ext.alloc hp) (k.alloc hp) (RR.newTup k hp (v1.append v2))
    · cases e
  · simp only [Option.bind_eq_some_iff] at e
    obtain ⟨xs, e1, ys, e2, e3⟩ := e
    split at e3
    · rename_i hz
      simp only [Option.some.injEq, Prod.mk.injEq] at e3
      obtain ⟨rfl, rfl⟩ := e3
      obtain ⟨a, us, rfl, t1, v1⟩ := asW_rr k e1 qx
      obtain ⟨b, ws, rfl, t2, v2⟩ := asW_rr k e2 qy
      have l1 := v1.length
      have l2 := v2.length
      exact .inr (.inr ⟨a, b, us, ws, rfl, rfl, t1, t2, szl (by omega), fun p hp => f c _ _ (Ext.alloc hp) (k.alloc hp) (RR.newLst k hp (v1.append v2))⟩)
    · cases e3
def rep {α : Type} (xs : List α) : Nat → List α
  | 0 => []
  | n + 1 => xs ++ rep xs n
theorem VRs.rep {c : List Addr} {H : Hp} {vs : List Val} {xs : List V} (q : VRs c H vs xs) : ∀ n, VRs c H (rep vs n) (List.replicate n xs).flatten
  | 0 => by simp [NL.rep, VRs.nil]
  | n + 1 => by
    simp only [NL.rep, List.replicate_succ, List.flatten_cons]
    exact q.append (VRs.rep q n)
def fTimes : F2 := fun x y h => match x, y with
  | .v (.int i), .v (.int j) => if small64 i || small64 j then some (.v (.int (i * j)), h) else none
  | .v (.tup xs), .v (.int j) => if xs ≠ [] ∧ 2 ≤ j ∧ j ≤ 1000 ∧ xs.length ≤ 1000 then some (.v (.tup (rep xs j.toNat)), h) else none
  | x, .v (.int j) => (asW h x).bind fun xs => if -(2 ^ 62) ≤ j ∧ j < 2 ^ 62 ∧ xs.length * j.toNat ≤ 1000000 then some (.o (rep xs j.toNat), h) else none
  | _, _ => none
def rTimes (K : PySem.W.Frag) : R2 := fun x y H Q => rI CMul (fun i j => .int (i * j)) x y H Q ∨ (rRepT K x y H Q ∨ rRep x y H Q)
theorem op_times {X : Cx} : OpR X (binaryOp .Mult) (rTimes X.K) := or_op op_mul (or_op op_repT op_rep)
theorem v_times {K : PySem.W.Frag} : V2 (rTimes K) fTimes := by
  intro c h H0 H x y rx ry r' h' Q k qx qy e f
  unfold fTimes at e
  split at e
  · split at e
    · rename_i hc
      simp only [Option.some.injEq, Prod.mk.injEq] at e
      obtain ⟨rfl, rfl⟩ := e
      refine .inl ⟨_, _, int_rr qx, int_rr qy, ?_, f c H _ (Ext.refl c H) k rr_int⟩
      simp only [small64, Bool.or_eq_true, Bool.and_eq_true, decide_eq_true_eq] at hc
      exact hc
    · cases e
  · rename_i xs j
    split at e
    · rename_i hz
      obtain ⟨z1, z2, z3, z4⟩ := hz
      simp only [Option.some.injEq, Prod.mk.injEq] at e
      obtain ⟨rfl, rfl⟩ := e
      obtain ⟨a, us, rfl, t1, v1⟩ := asT_rr (xs := xs) rfl qx
      have l1 := v1.length
      refine .inr (.inl ⟨a, j, us, rfl, int_rr qy, .inl (.inl t1), fun z => ?_, z2, z3, by omega, fun p hp => ?_⟩)
      · subst z
        exact z1 (List.eq_nil_of_length_eq_zero (by simpa using l1))
      · exact f c _ _ (Ext.alloc hp) (k.alloc hp) (RR.newTup k hp (v1.rep _))
    · cases e
  · rename_i j hx1 hx2
    simp only [Option.bind_eq_some_iff] at e
    obtain ⟨xs, e1, e3⟩ := e
    split at e3
    · rename_i hz
      obtain ⟨z1, z2, z3⟩ := hz
      simp only [Option.some.injEq, Prod.mk.injEq] at e3
      obtain ⟨rfl, rfl⟩ := e3
      obtain ⟨a, us, rfl, t1, v1⟩ := asW_rr k e1 qx
      have l1 := v1.length
      refine .inr (.inr ⟨a, j, us, rfl, int_rr qy, t1, by omega, by omega, szl (by rw [← l1]; exact z3), fun p hp => f c _ _ (Ext.alloc hp) (k.alloc hp) (RR.newLst k hp (v1.rep _))⟩)
    · cases e3
  · cases e
theorem atI_rr {c : List Addr} {H : Hp} {vs : List Val} {xs : List V} {i : Int} {v : Val} (q : VRs c H vs xs) (e : atI vs i = some v) : ∃ x, atI xs i = some x ∧ VR c H v x := by
  unfold atI at e ⊢
  rw [q.length] at e
  simp only [Option.bind_eq_some_iff] at e ⊢
  obtain ⟨j, e1, e2⟩ := e
  obtain ⟨x, h1, h2⟩ := q.get e2
  exact ⟨x, ⟨j, e1, h1⟩, h2⟩
def fIx : F2 := fun x y h => match x, y with
  | .v (.tup xs), .v (.int i) => (atI xs i).map fun v => (.v v, h)
  | x, .v (.int i) => (asL h x).bind fun xs => (atI xs i).map fun v => (.v v, h)
  | _, _ => none
theorem v_ix {K : PySem.W.Frag} : V2 (rIx K) fIx := by
  intro c h H0 H x y rx ry r' h' Q k qx qy e f
  unfold fIx at e
  split at e
  · rename_i xs i
    simp only [Option.map_eq_some_iff, Prod.mk.injEq] at e
    obtain ⟨v, e1, rfl, rfl⟩ := e
    obtain ⟨a, us, rfl, t1, v1⟩ := asT_rr (xs := xs) rfl qx
    obtain ⟨z, e2, e3⟩ := atI_rr v1 e1
    exact .inr (.inl ⟨a, us, i, z, rfl, int_rr qy, .inl (.inl t1), e2, f c H _ (Ext.refl c H) k e3⟩)
  · rename_i i _
    simp only [Option.bind_eq_some_iff, Option.map_eq_some_iff, Prod.mk.injEq] at e
    obtain ⟨xs, e0, v, e1, rfl, rfl⟩ := e
    obtain ⟨a, us, rfl, t1, v1⟩ := asL_rr k e0 qx
    obtain ⟨z, e2, e3⟩ := atI_rr v1 e1
    exact .inl ⟨a, us, i, z, rfl, int_rr qy, .inl t1, e2, f c H _ (Ext.refl c H) k e3⟩
  · cases e
section
variable {X : Cx} {a b : Expr} {pos : Pos} {ma mb : ME}
theorem se_add (ha : SE X a ma) (hb : SE X b mb) : SE X (.BinOp a .Add b pos) (m2 fPlus ma mb) := se_op op_plus v_plus ha hb
theorem se_mul (ha : SE X a ma) (hb : SE X b mb) : SE X (.BinOp a .Mult b pos) (m2 fTimes ma mb) := se_op op_times v_times ha hb
theorem se_item (ha : SE X a ma) (hb : SE X b mb) (hs : PlainIx b := by exact fun _ _ => rfl) : SE X (.Subscript a b pos) (m2 fIx ma mb) := se_ix ix_seq v_ix ha hb hs
end
end NL
#print L2.rIx
set_option Elab.async false
set_option linter.all false
set_option maxRecDepth 100000
set_option maxHeartbeats 4000000
set_option autoImplicit false
namespace NL
open PySem L2
variable [HasK]

/-! ### slices -/
abbrev MO := Sl → Hh → Option (Option Int × Hh)
def rdO (m : MO) : TO := fun σ H Q => ∃ c ow σa h i h', Rel c ow σa h σ H ∧ m σa h = some (i, h') ∧ ∀ c' H', Ext c c' H H' → HR c' h' H' → Q i H'
abbrev SO (X : Cx) (e : Option Expr) (m : MO) : Prop := PO X e (rdO m)
def oNone : MO := fun _ h => some (none, h)
def oSome (m : ME) : MO := fun s h => (m s h).bind fun p => match p.1 with
  | .v (.int i) => some (some i, p.2)
  | _ => none
theorem po_imp {X : Cx} {e : Option Expr} {t t' : TO} (h : PO X e t) (f : ∀ σ H Q, t' σ H Q → t σ H Q) : PO X e t' := ⟨fun pins s σ H Q I q => h.run pins s σ H Q I (f σ H Q q)⟩
theorem so_none {X : Cx} : SO X none oNone := po_imp po_none fun σ H Q q => by
  obtain ⟨c, ow, σa, h, i, h', k, e, f⟩ := q
  simp only [oNone, Option.some.injEq, Prod.mk.injEq] at e
  obtain ⟨rfl, rfl⟩ := e
  exact f c H (Ext.refl c H) k.hr
theorem so_some {X : Cx} {e : Expr} {m : ME} (he : SE X e m) : SO X (some e) (oSome m) := po_imp (po_some he) fun σ H Q q => by
  obtain ⟨c, ow, σa, h, i, h', k, e, f⟩ := q
  simp only [oSome, Option.bind_eq_some_iff] at e
  obtain ⟨⟨r, h1⟩, e1, e2⟩ := e
  refine ⟨c, ow, σa, h, r, h1, k, e1, fun c1 H1 x E1 K1 R1 => ?_⟩
  dsimp only at e2
  split at e2
  · simp only [Option.some.injEq, Prod.mk.injEq] at e2
    obtain ⟨rfl, rfl⟩ := e2
    exact ⟨_, int_rr R1, f c1 H1 E1 K1⟩
  · cases e2
def cut {α : Type} (xs : List α) (lo hi : Option Int) : List α := (xs.drop (HT.sIx xs.length 0 lo)).take (HT.sIx xs.length xs.length hi - HT.sIx xs.length 0 lo)
theorem VRs.cut {c : List Addr} {H : Hp} {vs : List Val} {xs : List V} (q : VRs c H vs xs) (lo hi : Option Int) : VRs c H (cut vs lo hi) (cutV xs lo hi) := by
  unfold NL.cut cutV
  rw [q.length]
  exact (q.drop _).take _
def mSl (m : ME) (lo hi : MO) : ME := fun s h => (m s h).bind fun p => (lo s p.2).bind fun q => (hi s q.2).bind fun r => match p.1 with
  | .v (.tup xs) => some (.v (.tup (cut xs q.1 r.1)), r.2)
  | x => (asL r.2 x).map fun xs => (.o (cut xs q.1 r.1), r.2)
theorem se_slice {X : Cx} {e : Expr} {lo hi : Option Expr} {p2 pos : Pos} {m : ME} {ml mh : MO} (he : SE X e m) (hl : SO X lo ml) (hh : SO X hi mh) : SE X (.Subscript e (.Slice lo hi none p2) pos) (mSl m ml mh) :=
  pe_imp (pe_slice (sl_tupA.or sl_list) he hl hh) fun σ H Q q => by
    obtain ⟨c, ow, σa, h, r, h', k, e, f⟩ := q
    simp only [mSl, Option.bind_eq_some_iff] at e
    obtain ⟨⟨r1, h1⟩, e1, ⟨i, h2⟩, e2, ⟨j, h3⟩, e3, e4⟩ := e
    refine ⟨c, ow, σa, h, r1, h1, k, e1, fun c1 H1 x E1 K1 R1 => ?_⟩
    refine ⟨c1, ow, σa, h1, i, h2, k.ext E1 K1, e2, fun c2 H2 E2 K2 => ?_⟩
    refine ⟨c2, ow, σa, h2, j, h3, (k.ext E1 K1).ext E2 K2, e3, fun c3 H3 E3 K3 => ?_⟩
    have R3 := RR.mono (E2.trans E3) K1 R1
    have E := (E1.trans E2).trans E3
    dsimp only at e4
    split at e4
    · rename_i xs
      simp only [Option.some.injEq, Prod.mk.injEq] at e4
      obtain ⟨rfl, rfl⟩ := e4
      obtain ⟨a, us, rfl, t1, v1⟩ := asT_rr (xs := xs) rfl R3
      refine .inl ⟨a, us, rfl, .inl (.inl t1), fun z => ?_, fun z p hp => ?_⟩
      · refine f c3 H3 _ E K3 ?_
        have e5 : cut xs i j = xs := by
          unfold cut
          rw [v1.length, z.1, z.2, List.drop_zero, Nat.sub_zero]
          exact List.take_of_length_le (Nat.le_of_eq v1.length)
        rw [e5]
        exact R3
      · exact f c3 _ _ (E.trans (Ext.alloc hp)) (K3.alloc hp) (RR.newTup K3 hp (v1.cut i j))
    · simp only [Option.map_eq_some_iff, Prod.mk.injEq] at e4
      obtain ⟨xs, e5, rfl, rfl⟩ := e4
      obtain ⟨a, us, rfl, t1, v1⟩ := asL_rr K3 e5 R3
      refine .inr ⟨a, us, rfl, .inl t1, fun p hp => ?_⟩
      exact f c3 _ _ (E.trans (Ext.alloc hp)) (K3.alloc hp) (RR.early E (RR.newLst K3 hp (v1.cut i j)))
def mRev (m : ME) : ME := fun s h => (m s h).bind fun p => (asL p.2 p.1).map fun xs => (.o xs.reverse, p.2)
theorem VRs.reverse {c : List Addr} {H : Hp} : ∀ {vs : List Val} {xs : List V}, VRs c H vs xs → VRs c H vs.reverse xs.reverse
  | [], xs, q => by unfold VRs at q; subst q; exact VRs.nil
  | v :: vs, xs, q => by
    unfold VRs at q
    obtain ⟨y, ys, rfl, e1, e2⟩ := q
    rw [List.reverse_cons, List.reverse_cons]
    exact (VRs.reverse e2).append (VRs.cons e1 VRs.nil)
theorem se_rev {X : Cx} {e : Expr} {k : Nat} {p1 p2 p3 pos : Pos} {m : ME} (he : SE X e m) : SE X (.Subscript e (.Slice none none (some (.UnaryOp .USub (.Constant (.int 1) k p1) p2)) p3) pos) (mRev m) :=
  pe_imp (pe_revL he) fun σ H Q q => by
    obtain ⟨c, ow, σa, h, r, h', k, e, f⟩ := q
    simp only [mRev, Option.bind_eq_some_iff, Option.map_eq_some_iff, Prod.mk.injEq] at e
    obtain ⟨⟨r1, h1⟩, e1, xs, e2, rfl, rfl⟩ := e
    refine ⟨c, ow, σa, h, r1, h1, k, e1, fun c1 H1 x E1 K1 R1 => ?_⟩
    obtain ⟨a, us, rfl, t1, v1⟩ := asL_rr K1 e2 R1
    exact ⟨a, us, rfl, .inl t1, fun p hp => f c1 _ _ (E1.trans (Ext.alloc hp)) (K1.alloc hp) (RR.early E1 (RR.newLst K1 hp v1.reverse))⟩

/-! ### one place -/
def mNeg (m : ME) : ME := fun s h => (m s h).bind fun p => match p.1 with
  | .v (.int i) => some (.v (.int (-i)), p.2)
  | _ => none
theorem se_neg {X : Cx} {e : Expr} {pos : Pos} {m : ME} (he : SE X e m) : SE X (.UnaryOp .USub e pos) (mNeg m) := pe_imp (pe_un un_neg he) fun σ H Q q => by
  obtain ⟨c, ow, σa, h, r, h', k, e, f⟩ := q
  simp only [mNeg, Option.bind_eq_some_iff] at e
  obtain ⟨⟨r1, h1⟩, e1, e2⟩ := e
  refine ⟨c, ow, σa, h, r1, h1, k, e1, fun c1 H1 x E1 K1 R1 => ?_⟩
  dsimp only at e2
  split at e2
  · simp only [Option.some.injEq, Prod.mk.injEq] at e2
    obtain ⟨rfl, rfl⟩ := e2
    exact ⟨_, int_rr R1, f c1 H1 _ E1 K1 rr_int⟩
  · cases e2

/-! ### tests -/
def mTst (m : ME) : MT := fun s h => (m s h).bind fun p => match p.1 with
  | .v (.bl b) => some (b, p.2)
  | _ => none
theorem rd_tst {m : ME} {σ : St} {H : Hp} {Q : Bool → Hp → Prop} (q : rdT (mTst m) σ H Q) : rdE m σ H fun x H' => ∃ k, x = .bl k ∧ Q k H' := by
  obtain ⟨c, ow, σa, h, r, h', k, e, f⟩ := q
  simp only [mTst, Option.bind_eq_some_iff] at e
  obtain ⟨⟨r1, h1⟩, e1, e2⟩ := e
  refine ⟨c, ow, σa, h, r1, h1, k, e1, fun c1 H1 x E1 K1 R1 => ?_⟩
  dsimp only at e2
  split at e2
  · simp only [Option.some.injEq, Prod.mk.injEq] at e2
    obtain ⟨rfl, rfl⟩ := e2
    exact ⟨_, bl_rr R1, f c1 H1 E1 K1⟩
  · cases e2
def tru (h : Hh) : R → Option Bool
  | .v .non => some false
  | .v (.bl b) => some b
  | .v (.int i) => some (i != 0)
  | .v (.tup xs) => some (!xs.isEmpty)
  | r => (asL h r).map fun xs => !xs.isEmpty
def mTru (m : ME) : MT := fun s h => (m s h).bind fun p => (tru p.2 p.1).map fun b => (b, p.2)
theorem VRs.empty {c : List Addr} {H : Hp} {vs : List Val} {xs : List V} (q : VRs c H vs xs) : vs.isEmpty = xs.isEmpty := by
  have := q.length
  cases vs <;> cases xs <;> simp_all
section
variable {X : Cx} {e a b c' : Expr} {rest : List Expr} {pos : Pos} {m ma mb mc : ME} {t ta tb : MT}
theorem st_cmp {op : CmpOp} {r : R2} {f : F2} (ho : OpR X (compareOp op) r) (v : V2 r f) (ha : SE X a ma) (hb : SE X b mb) (hm : behindInMarks op b = false) : ST X (.Compare a [op] [b] pos) (mTst (m2 f ma mb)) :=
  pt_imp (pt_cmpR ho ha hb hm) fun _ _ _ q => rd_2 v (rd_tst q)
theorem st_val (h : SE X e m) (he : ∀ whole, isTrue e X.env whole = (do let v ← whole; standAt e.pos; holding [v] (truthy v)) := by intro _; rfl) : ST X e (mTst m) := pt_imp (pt_val h he) fun _ _ _ q => rd_tst q
theorem st_tru (h : SE X e m) (he : ∀ whole, isTrue e X.env whole = (do let v ← whole; standAt e.pos; holding [v] (truthy v)) := by intro _; rfl) : ST X e (mTru m) := pt_imp (pt_truth h he) fun σ H Q q => by
  obtain ⟨c, ow, σa, h, r, h', k, e, f⟩ := q
  simp only [mTru, Option.bind_eq_some_iff, Option.map_eq_some_iff, Prod.mk.injEq] at e
  obtain ⟨⟨r1, h1⟩, e1, bb, e2, rfl, rfl⟩ := e
  refine ⟨c, ow, σa, h, r1, h1, k, e1, fun c1 H1 x E1 K1 R1 => ⟨bb, ?_, f c1 H1 E1 K1⟩⟩
  dsimp only at e2
  unfold tru at e2
  split at e2
  · rw [non_rr R1]; exact (Option.some.inj e2).symm
  · rw [bl_rr R1]; exact (Option.some.inj e2).symm
  · rw [int_rr R1]; exact (Option.some.inj e2).symm
  · rename_i xs
    obtain ⟨a, us, rfl, t1, v1⟩ := asT_rr (xs := xs) rfl R1
    exact .inr (.inl ⟨us, .inl (.inl t1), by rw [← Option.some.inj e2, v1.empty]⟩)
  · simp only [Option.map_eq_some_iff] at e2
    obtain ⟨xs, e3, rfl⟩ := e2
    obtain ⟨a, us, rfl, t1, v1⟩ := asL_rr K1 e3 R1
    exact .inl ⟨us, .inl t1, by rw [v1.empty]⟩
theorem st_lt (ha : SE X a ma) (hb : SE X b mb) : ST X (.Compare a [.Lt] [b] pos) (mTst (m2 fLt ma mb)) := st_cmp op_lt (v_I0 fun _ _ _ _ => by unfold VR; rfl) ha hb (nomark _)
theorem st_le (ha : SE X a ma) (hb : SE X b mb) : ST X (.Compare a [.LtE] [b] pos) (mTst (m2 fLe ma mb)) := st_cmp op_le (v_I0 fun _ _ _ _ => by unfold VR; rfl) ha hb (nomark _)
theorem st_gt (ha : SE X a ma) (hb : SE X b mb) : ST X (.Compare a [.Gt] [b] pos) (mTst (m2 fGt ma mb)) := st_cmp op_gt (v_I0 fun _ _ _ _ => by unfold VR; rfl) ha hb (nomark _)
theorem st_ge (ha : SE X a ma) (hb : SE X b mb) : ST X (.Compare a [.GtE] [b] pos) (mTst (m2 fGe ma mb)) := st_cmp op_ge (v_I0 fun _ _ _ _ => by unfold VR; rfl) ha hb (nomark _)
theorem st_eq (hu : X.A.units + 64 < cLine) (ha : SE X a ma) (hb : SE X b mb) : ST X (.Compare a [.Eq] [b] pos) (mTst (m2 (fEq false) ma mb)) := st_cmp (op_eqD hu) v_eq ha hb (nomark _)
theorem st_ne (hu : X.A.units + 64 < cLine) (ha : SE X a ma) (hb : SE X b mb) : ST X (.Compare a [.NotEq] [b] pos) (mTst (m2 (fEq true) ma mb)) := st_cmp (op_neD hu) v_ne ha hb (nomark _)
theorem st_in (hu : X.A.units + 65 < cLine) (ha : SE X a ma) (hb : SE X b mb) (hm : behindInMarks .In b = false := by rfl) : ST X (.Compare a [.In] [b] pos) (mTst (m2 (fIn false) ma mb)) := st_cmp (op_inT hu) v_in ha hb hm
theorem st_nin (hu : X.A.units + 65 < cLine) (ha : SE X a ma) (hb : SE X b mb) (hm : behindInMarks .NotIn b = false := by rfl) : ST X (.Compare a [.NotIn] [b] pos) (mTst (m2 (fIn true) ma mb)) := st_cmp (op_notInT hu) v_in ha hb hm
theorem st_is (ha : SE X a ma) (hb : SE X b mb) : ST X (.Compare a [.Is] [b] pos) (mTst (m2 (fIs false) ma mb)) := st_cmp op_is v_is ha hb (nomark _)
theorem st_isnt (ha : SE X a ma) (hb : SE X b mb) : ST X (.Compare a [.IsNot] [b] pos) (mTst (m2 (fIs true) ma mb)) := st_cmp op_isnt v_is ha hb (nomark _)

/-! ### and, or, not, if else -/
def tNo (t : MT) : MT := fun s h => (t s h).map fun p => (!p.1, p.2)
def tAn (t u : MT) : MT := fun s h => (t s h).bind fun p => if p.1 then u s p.2 else some (false, p.2)
def tOo (t u : MT) : MT := fun s h => (t s h).bind fun p => if p.1 then some (true, p.2) else u s p.2
abbrev SW (X : Cx) (e : Expr) (m : MT) : Prop := PW X e (rdT m)
theorem st_w (h : SW X e t) : ST X e t := h.pt
theorem sw_and1 (h : ST X a t) : SW X (.BoolOp .And [a] pos) t := pw_and1 h
theorem sw_or1 (h : ST X a t) : SW X (.BoolOp .Or [a] pos) t := pw_or1 h
theorem sw_and (ha : ST X a ta) (hb : SW X (.BoolOp .And (b :: rest) pos) tb) : SW X (.BoolOp .And (a :: b :: rest) pos) (tAn ta tb) := pw_imp (pw_and ha hb) fun σ H Q q => by
  obtain ⟨c, ow, σa, h, r, h', k, e, f⟩ := q
  simp only [tAn, Option.bind_eq_some_iff] at e
  obtain ⟨⟨r1, h1⟩, e1, e2⟩ := e
  refine ⟨c, ow, σa, h, r1, h1, k, e1, fun c1 H1 E1 K1 => ?_⟩
  cases r1 with
  | true =>
    simp only [if_true] at e2 ⊢
    exact ⟨c1, ow, σa, h1, r, h', k.ext E1 K1, e2, fun c2 H2 E2 K2 => f c2 H2 (E1.trans E2) K2⟩
  | false =>
    simp only [Bool.false_eq_true, if_false, Option.some.injEq, Prod.mk.injEq] at e2 ⊢
    obtain ⟨rfl, rfl⟩ := e2
    exact f c1 H1 E1 K1
theorem sw_or (ha : ST X a ta) (hb : SW X (.BoolOp .Or (b :: rest) pos) tb) : SW X (.BoolOp .Or (a :: b :: rest) pos) (tOo ta tb) := pw_imp (pw_or ha hb) fun σ H Q q => by
  obtain ⟨c, ow, σa, h, r, h', k, e, f⟩ := q
  simp only [tOo, Option.bind_eq_some_iff] at e
  obtain ⟨⟨r1, h1⟩, e1, e2⟩ := e
  refine ⟨c, ow, σa, h, r1, h1, k, e1, fun c1 H1 E1 K1 => ?_⟩
  cases r1 with
  | false =>
    simp only [Bool.false_eq_true, if_false] at e2 ⊢
    exact ⟨c1, ow, σa, h1, r, h', k.ext E1 K1, e2, fun c2 H2 E2 K2 => f c2 H2 (E1.trans E2) K2⟩
  | true =>
    simp only [if_true, Option.some.injEq, Prod.mk.injEq] at e2 ⊢
    obtain ⟨rfl, rfl⟩ := e2
    exact f c1 H1 E1 K1
theorem st_not (ha : ST X a ta) : ST X (.UnaryOp .Not a pos) (tNo ta) := pt_imp (pt_not ha) fun σ H Q q => by
  obtain ⟨c, ow, σa, h, r, h', k, e, f⟩ := q
  simp only [tNo, Option.map_eq_some_iff, Prod.mk.injEq] at e
  obtain ⟨⟨r1, h1⟩, e1, rfl, rfl⟩ := e
  exact ⟨c, ow, σa, h, r1, h1, k, e1, fun c1 H1 E1 K1 => f c1 H1 E1 K1⟩
/-- values that are bools -/
def mAn (a b : ME) : ME := fun s h => (a s h).bind fun p => match p.1 with
  | .v (.bl true) => b s p.2
  | .v (.bl false) => some (.v (.bl false), p.2)
  | _ => none
def mOo (a b : ME) : ME := fun s h => (a s h).bind fun p => match p.1 with
  | .v (.bl false) => b s p.2
  | .v (.bl true) => some (.v (.bl true), p.2)
  | _ => none
def mNo (a : ME) : ME := fun s h => (a s h).bind fun p => match p.1 with
  | .v (.bl b) => some (.v (.bl (!b)), p.2)
  | _ => none
theorem se_one {op : BoolOp} (h : SE X a m) : SE X (.BoolOp op [a] pos) m := pe_one h
theorem se_and (ha : SE X a ma) (hb : SE X (.BoolOp .And (b :: rest) pos) mb) : SE X (.BoolOp .And (a :: b :: rest) pos) (mAn ma mb) := pe_imp (pe_and ha hb) fun σ H Q q => by
  obtain ⟨c, ow, σa, h, r, h', k, e, f⟩ := q
  simp only [mAn, Option.bind_eq_some_iff] at e
  obtain ⟨⟨r1, h1⟩, e1, e2⟩ := e
  refine ⟨c, ow, σa, h, r1, h1, k, e1, fun c1 H1 x E1 K1 R1 => ?_⟩
  dsimp only at e2
  split at e2
  · refine ⟨true, bl_rr R1, ?_⟩
    simp only [if_true]
    exact ⟨c1, ow, σa, h1, r, h', k.ext E1 K1, e2, fun c2 H2 z E2 K2 R2 => f c2 H2 z (E1.trans E2) K2 (RR.early E1 R2)⟩
  · refine ⟨false, bl_rr R1, ?_⟩
    simp only [Bool.false_eq_true, if_false, Option.some.injEq, Prod.mk.injEq] at e2 ⊢
    obtain ⟨rfl, rfl⟩ := e2
    exact f c1 H1 _ E1 K1 rr_bl
  · cases e2
theorem se_or (ha : SE X a ma) (hb : SE X (.BoolOp .Or (b :: rest) pos) mb) : SE X (.BoolOp .Or (a :: b :: rest) pos) (mOo ma mb) := pe_imp (pe_or ha hb) fun σ H Q q => by
  obtain ⟨c, ow, σa, h, r, h', k, e, f⟩ := q
  simp only [mOo, Option.bind_eq_some_iff] at e
  obtain ⟨⟨r1, h1⟩, e1, e2⟩ := e
  refine ⟨c, ow, σa, h, r1, h1, k, e1, fun c1 H1 x E1 K1 R1 => ?_⟩
  dsimp only at e2
  split at e2
  · refine ⟨false, bl_rr R1, ?_⟩
    simp only [Bool.false_eq_true, if_false]
    exact ⟨c1, ow, σa, h1, r, h', k.ext E1 K1, e2, fun c2 H2 z E2 K2 R2 => f c2 H2 z (E1.trans E2) K2 (RR.early E1 R2)⟩
  · refine ⟨true, bl_rr R1, ?_⟩
    simp only [if_true, Option.some.injEq, Prod.mk.injEq] at e2 ⊢
    obtain ⟨rfl, rfl⟩ := e2
    exact f c1 H1 _ E1 K1 rr_bl
  · cases e2
theorem se_not (ha : SE X a ma) : SE X (.UnaryOp .Not a pos) (mNo ma) := pe_imp (pe_not ha) fun σ H Q q => by
  obtain ⟨c, ow, σa, h, r, h', k, e, f⟩ := q
  simp only [mNo, Option.bind_eq_some_iff] at e
  obtain ⟨⟨r1, h1⟩, e1, e2⟩ := e
  refine ⟨c, ow, σa, h, r1, h1, k, e1, fun c1 H1 x E1 K1 R1 => ?_⟩
  dsimp only at e2
  split at e2
  · simp only [Option.some.injEq, Prod.mk.injEq] at e2
    obtain ⟨rfl, rfl⟩ := e2
    exact ⟨_, bl_rr R1, f c1 H1 _ E1 K1 rr_bl⟩
  · cases e2
def mIf (t : MT) (a b : ME) : ME := fun s h => (t s h).bind fun p => if p.1 then a s p.2 else b s p.2
theorem se_if (hc : ST X c' t) (ha : SE X a ma) (hb : SE X b mb) : SE X (.IfExp c' a b pos) (mIf t ma mb) := pe_imp (pe_ifExp hc ha hb) fun σ H Q q => by
  obtain ⟨c, ow, σa, h, r, h', k, e, f⟩ := q
  simp only [mIf, Option.bind_eq_some_iff] at e
  obtain ⟨⟨r1, h1⟩, e1, e2⟩ := e
  refine ⟨c, ow, σa, h, r1, h1, k, e1, fun c1 H1 E1 K1 => ?_⟩
  cases r1 with
  | true =>
    simp only [if_true] at e2 ⊢
    exact ⟨c1, ow, σa, h1, r, h', k.ext E1 K1, e2, fun c2 H2 z E2 K2 R2 => f c2 H2 z (E1.trans E2) K2 (RR.early E1 R2)⟩
  | false =>
    simp only [Bool.false_eq_true, if_false] at e2 ⊢
    exact ⟨c1, ow, σa, h1, r, h', k.ext E1 K1, e2, fun c2 H2 z E2 K2 R2 => f c2 H2 z (E1.trans E2) K2 (RR.early E1 R2)⟩
/-- a < b < c of numbers -/
def mChain (f g : Int → Int → Bool) (a b c : ME) : ME := fun s h => (a s h).bind fun p => (b s p.2).bind fun q => match p.1, q.1 with
  | .v (.int i), .v (.int j) => if f i j then (c s q.2).bind fun r => match r.1 with
      | .v (.int l) => some (.v (.bl (g j l)), r.2)
      | _ => none
    else some (.v (.bl false), q.2)
  | _, _ => none
theorem rd_chain {f g : Int → Int → Bool} {σ : St} {H : Hp} {Q : VK} (q : rdE (mChain f g ma mb mc) σ H Q) : tChain (rI0 fun i j => .bl (f i j)) (rI0 fun i j => .bl (g i j)) (rdE ma) (rdE mb) (rdE mc) σ H Q := by
  obtain ⟨c, ow, σa, h, r, h', k, e, ff⟩ := q
  simp only [mChain, Option.bind_eq_some_iff] at e
  obtain ⟨⟨r1, h1⟩, e1, ⟨r2, h2⟩, e2, e3⟩ := e
  refine ⟨c, ow, σa, h, r1, h1, k, e1, fun c1 H1 x E1 K1 R1 => ?_⟩
  refine ⟨c1, ow, σa, h1, r2, h2, k.ext E1 K1, e2, fun c2 H2 y E2 K2 R2 => ?_⟩
  dsimp only at e3
  split at e3
  · rename_i i j
    refine ⟨i, j, int_rr R1, int_rr R2, f i j, rfl, ?_⟩
    split at e3
    · rename_i hf
      rw [if_pos hf]
      simp only [Option.bind_eq_some_iff] at e3
      obtain ⟨⟨r3, h3⟩, e4, e5⟩ := e3
      refine ⟨c2, ow, σa, h2, r3, h3, (k.ext E1 K1).ext E2 K2, e4, fun c3 H3 z E3 K3 R3 => ?_⟩
      dsimp only at e5
      split at e5
      · rename_i l
        simp only [Option.some.injEq, Prod.mk.injEq] at e5
        obtain ⟨rfl, rfl⟩ := e5
        exact ⟨j, l, int_rr R2, int_rr R3, ff c3 H3 _ ((E1.trans E2).trans E3) K3 rr_bl⟩
      · cases e5
    · rename_i hf
      rw [if_neg hf]
      simp only [Option.some.injEq, Prod.mk.injEq] at e3
      obtain ⟨rfl, rfl⟩ := e3
      exact ff c2 H2 _ (E1.trans E2) K2 rr_bl
  · cases e3
theorem se_chain {op op' : CmpOp} {f g : Int → Int → Bool} (ho : OpR X (compareOp op) (rI0 fun i j => .bl (f i j))) (ho' : OpR X (compareOp op') (rI0 fun i j => .bl (g i j))) (ha : SE X a ma) (hb : SE X b mb) (hc : SE X c' mc)
    (hm : lastMarks [op, op'] [b, c'] = false := by with_unfolding_all rfl) : SE X (.Compare a [op, op'] [b, c'] pos) (mChain f g ma mb mc) := pe_imp (pe_chain ho ho' ha hb hc hm) fun _ _ _ => rd_chain
theorem st_chain {op op' : CmpOp} {f g : Int → Int → Bool} (ho : OpR X (compareOp op) (rI0 fun i j => .bl (f i j))) (ho' : OpR X (compareOp op') (rI0 fun i j => .bl (g i j))) (ha : SE X a ma) (hb : SE X b mb) (hc : SE X c' mc)
    (hm : lastMarks [op, op'] [b, c'] = false := by with_unfolding_all rfl) : ST X (.Compare a [op, op'] [b, c'] pos) (mTst (mChain f g ma mb mc)) := pt_imp (pt_chain ho ho' ha hb hc hm) fun _ _ _ q => rd_chain (rd_tst q)
end

/-! ### calls of what is built in -/
abbrev FC := List R → Hh → Option (R × Hh)
def mB (f : FC) (t : MA) : ME := fun s h => (t s h).bind fun p => f p.1 p.2
def VC (r : List V → Hp → VK → Prop) (f : FC) : Prop := ∀ (c : List Addr) (h : Hh) (H0 H : Hp) (xs : List V) (rs : List R) (r' : R) (h' : Hh) (Q : VK), HR c h H → RRs c H0 H rs xs → f rs h = some (r', h') →
  (∀ c' H' z, Ext c c' H H' → HR c' h' H' → RR c' H H' r' z → Q z H') → r xs H Q
theorem rd_B {r : List V → Hp → VK → Prop} {f : FC} {t : MA} (v : VC r f) {σ : St} {H : Hp} {Q : VK} (q : rdE (mB f t) σ H Q) : tCB r (rdA t) σ H Q := by
  obtain ⟨c, ow, σa, h, rr, h', k, e, g⟩ := q
  simp only [mB, Option.bind_eq_some_iff] at e
  obtain ⟨⟨rs, h1⟩, e1, e2⟩ := e
  refine ⟨c, ow, σa, h, rs, h1, k, e1, fun c1 H1 xs E1 K1 R1 => ?_⟩
  refine v c1 h1 H H1 xs rs rr h' Q K1 R1 e2 fun c2 H2 z E2 K2 R2 => ?_
  exact g c2 H2 z (E1.trans E2) K2 (RR.early E1 R2)
section
variable {X : Cx} {e : Expr} {es : List Expr} {p pos : Pos} {t : MA} {x : Str} {r : List V → Hp → VK → Prop} {f : FC}
theorem se_B {id : String} (hc : CallR X (.builtin id) r) (v : VC r f) (hm : X.mg x = none) (ha : SA X (e :: es) t) (hv : bootBuiltins x = some (.builtin id) := by decide +kernel) (hg : Gl X x := by rfl) (hn : x ≠ "__name__" := by decide) (hdb : (x == ("__debug__" : Str)) = false := by decide)
    (he : starEach (e :: es) X.env = (false, eval e X.env) :: starEach es X.env := by rfl) (hpl : (backTo pos (starEach es X.env)).any (·.1) = false := by rfl) : SE X (.Call (.Name x p) (e :: es) [] pos) (mB f t) :=
  pe_imp (pe_callB hc hg hm hv ha hn hdb he hpl) fun _ _ _ => rd_B v
theorem se_Ty {T : String} (hc : CallR X (.type T) r) (v : VC r f) (hm : X.mg x = none) (ha : SA X (e :: es) t) (hv : bootBuiltins x = some (.type T) := by decide +kernel) (hg : Gl X x := by rfl) (hn : x ≠ "__name__" := by decide) (hdb : (x == ("__debug__" : Str)) = false := by decide)
    (he : starEach (e :: es) X.env = (false, eval e X.env) :: starEach es X.env := by rfl) (hpl : (backTo pos (starEach es X.env)).any (·.1) = false := by rfl) : SE X (.Call (.Name x p) (e :: es) [] pos) (mB f t) :=
  pe_imp (pe_callTy hc hg hm hv ha hn hdb he hpl) fun _ _ _ => rd_B v
/-- a built-in class as a value -/
theorem se_ty (ty : Ty) (hm : X.mg x = none) (hv : bootBuiltins x = some (.type ty.name) := by decide +kernel) (hg : Gl X x := by rfl) (hn : x ≠ "__name__" := by decide) (hdb : (x == ("__debug__" : Str)) = false := by decide) : SE X (.Name x pos) (mC (.ty ty)) :=
  pe_imp (pe_bltn hg hm hv (v := .ty ty.name) rfl hn hdb) fun _ _ _ => rd_c fun _ => by unfold VR; rfl
/-- a module's whole number -/
theorem se_glob {i : Int} {tk : Tok} (hm : X.mg x = some (.int i tk)) (hg : Gl X x := by rfl) (hdb : (x == ("__debug__" : Str)) = false := by decide) : SE X (.Name x pos) (mC (.int i)) :=
  pe_imp (pe_glob hg hm (v := .int i) ⟨_, rfl⟩ hdb) fun _ _ _ => rd_c fun _ => by unfold VR; rfl
end
end NL
set_option Elab.async false
set_option linter.all false
set_option maxRecDepth 100000
set_option maxHeartbeats 4000000
set_option autoImplicit false
namespace NL
open PySem L2
variable [HasK]

theorem rrs1 {c : List Addr} {H0 H : Hp} {r : R} {xs : List V} (q : RRs c H0 H [r] xs) : ∃ x, xs = [x] ∧ RR c H0 H r x := by
  obtain ⟨y, ys, rfl, q1, q2⟩ := q
  unfold RRs at q2; subst q2
  exact ⟨y, rfl, q1⟩
theorem rrs2 {c : List Addr} {H0 H : Hp} {r r' : R} {xs : List V} (q : RRs c H0 H [r, r'] xs) : ∃ x y, xs = [x, y] ∧ RR c H0 H r x ∧ RR c H0 H r' y := by
  obtain ⟨y, ys, rfl, q1, q2⟩ := q
  obtain ⟨z, rfl, q3⟩ := rrs1 q2
  exact ⟨y, z, rfl, q1, q3⟩
/-- the items of a list or tuple -/
def asQ (h : Hh) : R → Option (List Val)
  | .v (.tup xs) => some xs
  | r => asL h r
theorem asQ_rr {K : PySem.W.Frag} {c : List Addr} {h : Hh} {H0 H : Hp} (k : HR c h H) {r : R} {x : V} {xs : List Val} (e : asQ h r = some xs) (q : RR c H0 H r x) : ∃ a ys, x = .ref a ∧ (SqL K H a ys ∨ SqT K H a ys) ∧ VRs c H xs ys := by
  unfold asQ at e
  split at e
  · cases e
    obtain ⟨a, us, rfl, t1, v1⟩ := asT_rr (xs := xs) rfl q
    exact ⟨a, us, rfl, .inr (.inl (.inl t1)), v1⟩
  · obtain ⟨a, us, rfl, t1, v1⟩ := asL_rr k e q
    exact ⟨a, us, rfl, .inl (.inl t1), v1⟩
def fLen : FC := fun rs h => match rs with
  | [r] => (asQ h r).map fun xs => (.v (.int xs.length), h)
  | _ => none
theorem v_len {K : PySem.W.Frag} : VC (fun xs H Q => ∃ p ys, xs = [V.ref p] ∧ (SqL K H p ys ∨ SqT K H p ys) ∧ Q (.int ys.length) H) fLen := by
  intro c h H0 H xs rs r' h' Q k q e f
  unfold fLen at e
  split at e
  · simp only [Option.map_eq_some_iff, Prod.mk.injEq] at e
    obtain ⟨zs, e1, rfl, rfl⟩ := e
    obtain ⟨x, rfl, q1⟩ := rrs1 q
    obtain ⟨a, us, rfl, t1, v1⟩ := asQ_rr k e1 q1
    exact ⟨a, us, rfl, t1, f c H _ (Ext.refl c H) k (by rw [v1.length]; exact rr_int)⟩
  · cases e
def fAbs : FC := fun rs h => match rs with
  | [.v (.int i)] => some (.v (.int (if i < 0 then -i else i)), h)
  | _ => none
theorem v_abs : VC (fun xs H Q => ∃ i, xs = [V.int i] ∧ Q (.int (if i < 0 then -i else i)) H) fAbs := by
  intro c h H0 H xs rs r' h' Q k q e f
  unfold fAbs at e
  split at e
  · simp only [Option.some.injEq, Prod.mk.injEq] at e
    obtain ⟨rfl, rfl⟩ := e
    obtain ⟨x, rfl, q1⟩ := rrs1 q
    exact ⟨_, by rw [int_rr q1], f c H _ (Ext.refl c H) k rr_int⟩
  · cases e
def fMax2 : FC := fun rs h => match rs with
  | [.v (.int i), .v (.int j)] => some (.v (.int (if j > i then j else i)), h)
  | _ => none
theorem v_max2 : VC (fun xs H Q => ∃ i j, xs = [V.int i, V.int j] ∧ Q (.int (if j > i then j else i)) H) fMax2 := by
  intro c h H0 H xs rs r' h' Q k q e f
  unfold fMax2 at e
  split at e
  · simp only [Option.some.injEq, Prod.mk.injEq] at e
    obtain ⟨rfl, rfl⟩ := e
    obtain ⟨x, y, rfl, q1, q2⟩ := rrs2 q
    exact ⟨_, _, by rw [int_rr q1, int_rr q2], f c H _ (Ext.refl c H) k rr_int⟩
  · cases e
def fMin2 : FC := fun rs h => match rs with
  | [.v (.int i), .v (.int j)] => some (.v (.int (if j < i then j else i)), h)
  | _ => none
theorem v_min2 : VC (fun xs H Q => ∃ i j, xs = [V.int i, V.int j] ∧ Q (.int (if j < i then j else i)) H) fMin2 := by
  intro c h H0 H xs rs r' h' Q k q e f
  unfold fMin2 at e
  split at e
  · simp only [Option.some.injEq, Prod.mk.injEq] at e
    obtain ⟨rfl, rfl⟩ := e
    obtain ⟨x, y, rfl, q1, q2⟩ := rrs2 q
    exact ⟨_, _, by rw [int_rr q1, int_rr q2], f c H _ (Ext.refl c H) k rr_int⟩
  · cases e
def fInt : FC := fun rs h => match rs with
  | [.v (.int i)] => some (.v (.int i), h)
  | [.v (.bl b)] => some (.v (.int (if b then 1 else 0)), h)
  | _ => none
theorem v_int : VC (fun xs H Q => (∃ i, xs = [V.int i] ∧ Q (.int i) H) ∨ ∃ k, xs = [V.bl k] ∧ Q (.int (if k then 1 else 0)) H) fInt := by
  intro c h H0 H xs rs r' h' Q k q e f
  unfold fInt at e
  split at e
  · simp only [Option.some.injEq, Prod.mk.injEq] at e
    obtain ⟨rfl, rfl⟩ := e
    obtain ⟨x, rfl, q1⟩ := rrs1 q
    exact .inl ⟨_, by rw [int_rr q1], f c H _ (Ext.refl c H) k rr_int⟩
  · simp only [Option.some.injEq, Prod.mk.injEq] at e
    obtain ⟨rfl, rfl⟩ := e
    obtain ⟨x, rfl, q1⟩ := rrs1 q
    exact .inr ⟨_, by rw [bl_rr q1], f c H _ (Ext.refl c H) k rr_int⟩
  · cases e
def fList : FC := fun rs h => match rs with
  | [r] => (asQ h r).map fun xs => (.o xs, h)
  | _ => none
theorem v_list {K : PySem.W.Frag} : VC (fun xs H Q => ∃ p ys, xs = [V.ref p] ∧ (SqL K H p ys ∨ SqT K H p ys) ∧ ∀ l, H l = none → Q (.ref l) (upd H l (.lst ys))) fList := by
  intro c h H0 H xs rs r' h' Q k q e f
  unfold fList at e
  split at e
  · simp only [Option.map_eq_some_iff, Prod.mk.injEq] at e
    obtain ⟨zs, e1, rfl, rfl⟩ := e
    obtain ⟨x, rfl, q1⟩ := rrs1 q
    obtain ⟨a, us, rfl, t1, v1⟩ := asQ_rr k e1 q1
    exact ⟨a, us, rfl, t1, fun l hl => f c _ _ (Ext.alloc hl) (k.alloc hl) (RR.newLst k hl v1)⟩
  · cases e
def fTuple : FC := fun rs h => match rs with
  | [r] => (asQ h r).map fun xs => (.v (.tup xs), h)
  | _ => none
theorem v_tuple {K : PySem.W.Frag} : VC (fun xs H Q => ∃ p ys, xs = [V.ref p] ∧ ((SqL K H p ys ∧ ∀ l, H l = none → Q (.ref l) (upd H l (.tup ys))) ∨ (SqT K H p ys ∧ Q (.ref p) H))) fTuple := by
  intro c h H0 H xs rs r' h' Q k q e f
  unfold fTuple at e
  split at e
  · simp only [Option.map_eq_some_iff, Prod.mk.injEq] at e
    obtain ⟨zs, e1, rfl, rfl⟩ := e
    obtain ⟨x, rfl, q1⟩ := rrs1 q
    unfold asQ at e1
    split at e1
    · rename_i ws
      cases e1
      obtain ⟨a, us, rfl, t1, v1⟩ := asT_rr (xs := zs) rfl q1
      exact ⟨a, us, rfl, .inr ⟨.inl (.inl t1), f c H _ (Ext.refl c H) k q1⟩⟩
    · obtain ⟨a, us, rfl, t1, v1⟩ := asL_rr k e1 q1
      exact ⟨a, us, rfl, .inl ⟨.inl t1, fun l hl => f c _ _ (Ext.alloc hl) (k.alloc hl) (RR.newTup k hl v1)⟩⟩
  · cases e
def asBl : Val → Option Bool
  | .bl b => some b
  | _ => none
def asInt : Val → Option Int
  | .int i => some i
  | _ => none
omit [HasK] in
theorem mapO_bl : ∀ {vs : List Val} {bs : List Bool}, mapO asBl vs = some bs → vs = bs.map .bl
  | [], bs, e => by simp only [mapO, Option.some.injEq] at e; subst e; rfl
  | v :: vs, bs, e => by
    simp only [mapO, Option.bind_eq_some_iff, Option.some.injEq] at e
    obtain ⟨b, e1, bs', e2, rfl⟩ := e
    cases v <;> simp only [asBl, Option.some.injEq, reduceCtorEq] at e1
    subst e1
    rw [mapO_bl e2]; rfl
omit [HasK] in
theorem mapO_int : ∀ {vs : List Val} {bs : List Int}, mapO asInt vs = some bs → vs = bs.map .int
  | [], bs, e => by simp only [mapO, Option.some.injEq] at e; subst e; rfl
  | v :: vs, bs, e => by
    simp only [mapO, Option.bind_eq_some_iff, Option.some.injEq] at e
    obtain ⟨b, e1, bs', e2, rfl⟩ := e
    cases v <;> simp only [asInt, Option.some.injEq, reduceCtorEq] at e1
    subst e1
    rw [mapO_int e2]; rfl
omit [HasK] in
theorem mapO_int_map : ∀ (ns : List Int), mapO asInt (ns.map .int) = some ns
  | [] => rfl
  | n :: ns => by simp [mapO, asInt, mapO_int_map ns]
omit [HasK] in
theorem mapO_bl_map : ∀ (ns : List Bool), mapO asBl (ns.map .bl) = some ns
  | [] => rfl
  | n :: ns => by simp [mapO, asBl, mapO_bl_map ns]
def fAll : FC := fun rs h => match rs with
  | [r] => (asL h r).bind fun xs => (mapO asBl xs).map fun bs => (.v (.bl (bs.all id)), h)
  | _ => none
theorem v_all {K : PySem.W.Frag} : VC (rAll K) fAll := by
  intro c h H0 H xs rs r' h' Q k q e f
  unfold fAll at e
  split at e
  · simp only [Option.bind_eq_some_iff, Option.map_eq_some_iff, Prod.mk.injEq] at e
    obtain ⟨zs, e1, bs, e2, rfl, rfl⟩ := e
    obtain ⟨x, rfl, q1⟩ := rrs1 q
    obtain ⟨a, us, rfl, t1, v1⟩ := asL_rr k e1 q1
    rw [mapO_bl e2] at v1
    have e3 := v1.bls
    subst e3
    exact ⟨a, bs, rfl, .inl t1, f c H _ (Ext.refl c H) k rr_bl⟩
  · cases e
def fAny : FC := fun rs h => match rs with
  | [r] => (asL h r).bind fun xs => (mapO asBl xs).map fun bs => (.v (.bl (bs.any id)), h)
  | _ => none
theorem v_any {K : PySem.W.Frag} : VC (rAny K) fAny := by
  intro c h H0 H xs rs r' h' Q k q e f
  unfold fAny at e
  split at e
  · simp only [Option.bind_eq_some_iff, Option.map_eq_some_iff, Prod.mk.injEq] at e
    obtain ⟨zs, e1, bs, e2, rfl, rfl⟩ := e
    obtain ⟨x, rfl, q1⟩ := rrs1 q
    obtain ⟨a, us, rfl, t1, v1⟩ := asL_rr k e1 q1
    rw [mapO_bl e2] at v1
    have e3 := v1.bls
    subst e3
    exact ⟨a, bs, rfl, .inl t1, f c H _ (Ext.refl c H) k rr_bl⟩
  · cases e
def fSum : FC := fun rs h => match rs with
  | [r] => (asL h r).bind fun xs => (mapO asInt xs).map fun ns => (.v (.int ns.sum), h)
  | _ => none
theorem v_sum {K : PySem.W.Frag} : VC (rSum K) fSum := by
  intro c h H0 H xs rs r' h' Q k q e f
  unfold fSum at e
  split at e
  · simp only [Option.bind_eq_some_iff, Option.map_eq_some_iff, Prod.mk.injEq] at e
    obtain ⟨zs, e1, bs, e2, rfl, rfl⟩ := e
    obtain ⟨x, rfl, q1⟩ := rrs1 q
    obtain ⟨a, us, rfl, t1, v1⟩ := asL_rr k e1 q1
    rw [mapO_int e2] at v1
    have e3 := v1.ints
    subst e3
    exact ⟨a, bs, rfl, .inl t1, f c H _ (Ext.refl c H) k rr_int⟩
  · cases e
/-! sorted of whole numbers -/
def ins (a : Int) : List Int → List Int
  | [] => [a]
  | b :: bs => if a ≤ b then a :: b :: bs else b :: ins a bs
def isort : List Int → List Int
  | [] => []
  | a :: as => ins a (isort as)
omit [HasK] in
theorem ins_perm (a : Int) : ∀ bs, (ins a bs).Perm (a :: bs)
  | [] => .refl _
  | b :: bs => by
    unfold ins
    split
    · exact .refl _
    · exact ((ins_perm a bs).cons b).trans (.swap a b bs)
omit [HasK] in
theorem isort_perm : ∀ as, (isort as).Perm as
  | [] => .refl _
  | a :: as => (ins_perm a _).trans ((isort_perm as).cons a)
omit [HasK] in
theorem ins_pw (a : Int) : ∀ bs, bs.Pairwise (· ≤ ·) → (ins a bs).Pairwise (· ≤ ·)
  | [], _ => by simp [ins]
  | b :: bs, h => by
    unfold ins
    rw [List.pairwise_cons] at h
    split
    · rename_i hab
      rw [List.pairwise_cons, List.pairwise_cons]
      exact ⟨fun x hx => by
        rcases List.mem_cons.mp hx with rfl | hx
        · exact hab
        · exact Int.le_trans hab (h.1 x hx), h⟩
    · rename_i hab
      rw [List.pairwise_cons]
      refine ⟨fun x hx => ?_, ins_pw a bs h.2⟩
      rcases List.mem_cons.mp ((ins_perm a bs).mem_iff.mp hx) with rfl | hx
      · omega
      · exact h.1 x hx
omit [HasK] in
theorem isort_pw : ∀ as, (isort as).Pairwise (· ≤ ·)
  | [] => by simp [isort]
  | a :: as => ins_pw a _ (isort_pw as)
omit [HasK] in
theorem pw_same {a b : List Int} (hp : a.Perm b) (ha : a.Pairwise (· ≤ ·)) (hb : b.Pairwise (· ≤ ·)) : a = b := hp.eq_of_pairwise (fun x y _ _ h1 h2 => Int.le_antisymm h1 h2) ha hb
def fSorted : FC := fun rs h => match rs with
  | [r] => (asL h r).bind fun xs => (mapO asInt xs).map fun ns => (.o ((isort ns).map .int), h)
  | _ => none
theorem v_sorted {K : PySem.W.Frag} : VC (rSortedI K) fSorted := by
  intro c h H0 H xs rs r' h' Q k q e f
  unfold fSorted at e
  split at e
  · simp only [Option.bind_eq_some_iff, Option.map_eq_some_iff, Prod.mk.injEq] at e
    obtain ⟨zs, e1, ns, e2, rfl, rfl⟩ := e
    obtain ⟨x, rfl, q1⟩ := rrs1 q
    obtain ⟨a, us, rfl, t1, v1⟩ := asL_rr k e1 q1
    rw [mapO_int e2] at v1
    have e3 := v1.ints
    subst e3
    refine ⟨a, ns, rfl, .inl t1, fun ns' p hp hw hn => ?_⟩
    have e4 : ns' = isort ns := pw_same (hp.trans (isort_perm ns).symm) hw (isort_pw ns)
    subst e4
    exact f c _ _ (Ext.alloc hn) (k.alloc hn) (RR.newLst k hn (VRs.of_ints _))
  · cases e
/-! isinstance -/
def isi (a b : Ty) : Bool := a == b || (a == .bl && b == .int)
omit [HasK] in
theorem isi_kit : ∀ a b : Ty, kitB a.name b.name = some (isi a b) := by
  intro a b
  cases a <;> cases b <;> decide +kernel
def tyR (h : Hh) : R → Option Ty
  | .v .non => some .non
  | .v (.bl _) => some .bl
  | .v (.int _) => some .int
  | .v (.str _) => some .str
  | .v (.tup _) => some .tup
  | .v (.ty _) => none
  | r => (asL h r).map fun _ => .lst
theorem tyR_ok {K : PySem.W.Frag} {c : List Addr} {h : Hh} {H0 H : Hp} (k : HR c h H) {r : R} {x : V} {t : Ty} (e : tyR h r = some t) (q : RR c H0 H r x) : TyX K H x (.type t.name) := by
  unfold tyR at e
  split at e
  · cases e; rw [non_rr q]; exact .base .non
  · cases e; rw [bl_rr q]; exact .base (.bl _)
  · cases e; rw [int_rr q]; exact .base (.int _)
  · cases e
    have q : VR c H (.str _) x := q
    unfold VR at q
    subst q
    exact .base (.str _)
  · rename_i zs
    cases e
    obtain ⟨a, us, rfl, t1, v1⟩ := asT_rr (xs := zs) rfl q
    exact .base (.tup t1)
  · cases e
  · simp only [Option.map_eq_some_iff] at e
    obtain ⟨zs, e1, rfl⟩ := e
    obtain ⟨a, us, rfl, t1, v1⟩ := asL_rr k e1 q
    rcases t1 with t1 | ⟨o, t1⟩
    · exact .base (.lst t1)
    · exact .base (.frz t1)
def fIsi : FC := fun rs h => match rs with
  | [r, .v (.ty t)] => (tyR h r).map fun u => (.v (.bl (isi u t)), h)
  | _ => none
theorem v_isi {K : PySem.W.Frag} : VC (rIsi K) fIsi := by
  intro c h H0 H xs rs r' h' Q k q e f
  unfold fIsi at e
  split at e
  · rename_i r t
    simp only [Option.map_eq_some_iff, Prod.mk.injEq] at e
    obtain ⟨u, e1, rfl, rfl⟩ := e
    obtain ⟨x, y, rfl, q1, q2⟩ := rrs2 q
    have q2 : VR c H (.ty t) y := q2
    unfold VR at q2
    subst q2
    exact ⟨x, .ty t.name, _, _, isi u t, rfl, .ty _, tyR_ok k e1 q1, kit_ty (isi_kit u t), f c H _ (Ext.refl c H) k rr_bl⟩
  · cases e
def asTy : Val → Option Ty
  | .ty t => some t
  | _ => none
def fIsiT : FC := fun rs h => match rs with
  | [r, .v (.tup ts)] => (tyR h r).bind fun u => (mapO asTy ts).map fun ts => (.v (.bl (ts.any fun t => isi u t)), h)
  | _ => none
theorem isiT_aux {K : PySem.W.Frag} {c : List Addr} {H : Hp} {u : Ty} : ∀ {vs : List Val} {ts : List Ty} {xs : List V}, mapO asTy vs = some ts → VRs c H vs xs → ∃ us, Paired ClsV xs us ∧ PySem.W.kitAny K (.type u.name) us = some (ts.any fun t => isi u t)
  | [], ts, xs, e, q => by
    simp only [mapO, Option.some.injEq] at e
    subst e
    unfold VRs at q; subst q
    exact ⟨[], .nil, kitAny_nil⟩
  | v :: vs, ts, xs, e, q => by
    simp only [mapO, Option.bind_eq_some_iff, Option.some.injEq] at e
    obtain ⟨t, e1, ts', e2, rfl⟩ := e
    cases v <;> simp only [asTy, Option.some.injEq, reduceCtorEq] at e1
    subst e1
    unfold VRs at q
    obtain ⟨y, ys, rfl, q1, q2⟩ := q
    unfold VR at q1
    subst q1
    obtain ⟨us, p, e3⟩ := isiT_aux (K := K) (u := u) e2 q2
    refine ⟨.type _ :: us, .cons (.ty _) p, kitAny_cons (kit_ty (isi_kit u _)) (fun z => ?_) fun z => ?_⟩
    · rw [e3, List.any_cons, z, Bool.false_or]
    · rw [List.any_cons, z, Bool.true_or]
theorem v_isiT {K : PySem.W.Frag} : VC (rIsiT K) fIsiT := by
  intro c h H0 H xs rs r' h' Q k q e f
  unfold fIsiT at e
  split at e
  · rename_i r ts
    simp only [Option.bind_eq_some_iff, Option.map_eq_some_iff, Prod.mk.injEq] at e
    obtain ⟨u, e1, ts', e2, rfl, rfl⟩ := e
    obtain ⟨x, y, rfl, q1, q2⟩ := rrs2 q
    obtain ⟨a, us, rfl, t1, v1⟩ := asT_rr (xs := ts) rfl q2
    obtain ⟨ws, p, e3⟩ := isiT_aux (K := K) (u := u) e2 v1
    exact ⟨x, a, us, _, ws, _, rfl, t1, p, tyR_ok k e1 q1, e3, f c H _ (Ext.refl c H) k rr_bl⟩
  · cases e
end NL
set_option Elab.async false
set_option linter.all false
set_option maxRecDepth 100000
set_option maxHeartbeats 4000000
set_option autoImplicit false
namespace NL
open PySem L2
variable [HasK]

abbrev Ow := Nat → Option Addr
/-- from one state to a later one, by a statement -/
structure ExtS (c : List Addr) (ow : Ow) (c' : List Addr) (ow' : Ow) (H H' : Hp) : Prop where
  pre : ∃ d, c' = c ++ d
  keep : ∀ a o, H a = some o → a ∉ c → (∀ i, ow i ≠ some a) → H' a = some o
  new : ∀ a, a ∈ c' → a ∉ c → H a = none
  dom : ∀ a o, H a = some o → ∃ o', H' a = some o'
  own : ∀ i a, ow' i = some a → (∃ j, ow j = some a) ∨ H a = none
  frz : ∀ a o u, H a = some (.frz o u) → H' a = some (.frz o u)
theorem ExtS.back {c c' : List Addr} {ow ow' : Ow} {H H' : Hp} (e : ExtS c ow c' ow' H H') {a : Addr} (h : H' a = none) : H a = none := by
  cases q : H a with
  | none => rfl
  | some o =>
    obtain ⟨o', e'⟩ := e.dom a o q
    rw [h] at e'; cases e'
theorem Ext.s {c c' : List Addr} {ow : Ow} {H H' : Hp} (e : Ext c c' H H') : ExtS c ow c' ow H H' := ⟨e.pre, fun a o h n _ => e.keep a o h n, e.new, e.dom, fun i a h => .inl ⟨i, h⟩, e.frz⟩
theorem ExtS.refl (c : List Addr) (ow : Ow) (H : Hp) : ExtS c ow c ow H H := (Ext.refl c H).s
theorem ExtS.trans {c c1 c2 : List Addr} {ow ow1 ow2 : Ow} {H H1 H2 : Hp} (a : ExtS c ow c1 ow1 H H1) (b : ExtS c1 ow1 c2 ow2 H1 H2) : ExtS c ow c2 ow2 H H2 where
  pre := by
    obtain ⟨d, rfl⟩ := a.pre
    obtain ⟨d', rfl⟩ := b.pre
    exact ⟨d ++ d', by simp⟩
  keep := fun x o h n m => by
    refine b.keep x o (a.keep x o h n m) (fun q => ?_) fun i q => ?_
    · rw [a.new x q n] at h; cases h
    · rcases a.own i x q with ⟨j, z⟩ | z
      · exact m j z
      · rw [z] at h; cases h
  new := fun x m n => by
    by_cases q : x ∈ c1
    · exact a.new x q n
    · exact a.back (b.new x m q)
  dom := fun x o h => by
    obtain ⟨o1, h1⟩ := a.dom x o h
    exact b.dom x o1 h1
  frz := fun x o u h => b.frz x o u (a.frz x o u h)
  own := fun i x h => by
    rcases b.own i x h with ⟨j, z⟩ | z
    · exact a.own j x z
    · exact .inr (a.back z)
/-- what a def hands back -/
def RT (c : List Addr) (ow : Ow) (H H' : Hp) : R → V → Prop
  | .v v, x => VR c H' v x
  | .o xs, x => ∃ a ys, x = .ref a ∧ (H a = none ∨ ∃ i, ow i = some a) ∧ H' a = some (.lst ys) ∧ VRs c H' xs ys ∧ a ∉ c
  | _, _ => False
theorem RT.early {c c0 c1 : List Addr} {ow ow1 : Ow} {H H1 H' : Hp} (e : ExtS c0 ow c1 ow1 H H1) : ∀ {r : R} {x : V}, RT c ow1 H1 H' r x → RT c ow H H' r x
  | .v _, _, q => q
  | .o _, _, ⟨a, ys, e1, e2, e3⟩ => ⟨a, ys, e1, by
    rcases e2 with z | ⟨i, z⟩
    · exact .inl (e.back z)
    · rcases e.own i a z with w | w
      · exact .inr w
      · exact .inl w, e3⟩
  | .l _, _, q => q.elim
  | .z _, _, q => q.elim
/-- where a statement ends -/
def EndS (D : Ends) (ow : Ow) (H : Hp) (c' : List Addr) (σ' : St) (H' : Hp) : Fl → Prop
  | .nx => D.nx σ' H'
  | .bk => D.bk σ' H'
  | .ct => D.ct σ' H'
  | .rt r => ∀ x, RT c' ow H H' r x → D.rt x H'
def rdS (m : MS) : TS := fun D σ H => ∃ c ow σa h fl σa' h', Rel c ow σa h σ H ∧ m σa h = some (fl, σa', h') ∧ ∀ c' ow' σ' H', ExtS c ow c' ow' H H' → Rel c' ow' σa' h' σ' H' → EndS D ow H c' σ' H' fl
abbrev SS (X : Cx) (st : Stmt) (m : MS) : Prop := PS X st (rdS m)
abbrev SSs (X : Cx) (st : List Stmt) (m : MS) : Prop := PSs X st (rdS m)

/-! ### blocks -/
def sNil : MS := fun s h => some (.nx, s, h)
def sSeq (a b : MS) : MS := fun s h => (a s h).bind fun p => match p.1 with
  | .nx => b p.2.1 p.2.2
  | f => some (f, p.2.1, p.2.2)
theorem rd_seq {ma mb : MS} {D : Ends} {σ : St} {H : Hp} (q : rdS (sSeq ma mb) D σ H) : tSeq (rdS ma) (rdS mb) D σ H := by
  obtain ⟨c, ow, σa, h, fl, σa', h', k, e, f⟩ := q
  simp only [sSeq, Option.bind_eq_some_iff] at e
  obtain ⟨⟨f1, s1, h1⟩, e1, e2⟩ := e
  refine ⟨c, ow, σa, h, f1, s1, h1, k, e1, fun c1 ow1 σ1 H1 E1 K1 => ?_⟩
  dsimp only at e2
  cases f1 with
  | nx =>
    refine ⟨c1, ow1, s1, h1, fl, σa', h', K1, e2, fun c2 ow2 σ2 H2 E2 K2 => ?_⟩
    have z := f c2 ow2 σ2 H2 (E1.trans E2) K2
    cases fl with
    | nx => exact z
    | bk => exact z
    | ct => exact z
    | rt r => exact fun x hx => z x (RT.early E1 hx)
  | bk =>
    simp only [Option.some.injEq, Prod.mk.injEq] at e2
    obtain ⟨rfl, rfl, rfl⟩ := e2
    exact f c1 ow1 σ1 H1 E1 K1
  | ct =>
    simp only [Option.some.injEq, Prod.mk.injEq] at e2
    obtain ⟨rfl, rfl, rfl⟩ := e2
    exact f c1 ow1 σ1 H1 E1 K1
  | rt r =>
    simp only [Option.some.injEq, Prod.mk.injEq] at e2
    obtain ⟨rfl, rfl, rfl⟩ := e2
    exact f c1 ow1 σ1 H1 E1 K1
section
variable {X : Cx} {st : Stmt} {rest a b : List Stmt} {ma mb : MS} {pos : Pos} {e c' : Expr} {m : ME} {t : MT}
theorem ss_nil : SSs X [] sNil := pss_imp pss_nil fun D σ H q => by
  obtain ⟨c, ow, σa, h, fl, σa', h', k, e, f⟩ := q
  simp only [sNil, Option.some.injEq, Prod.mk.injEq] at e
  obtain ⟨rfl, rfl, rfl⟩ := e
  exact f c ow σ H (ExtS.refl c ow H) k
theorem ss_cons (h1 : SS X st ma) (h2 : SSs X rest mb) : SSs X (st :: rest) (sSeq ma mb) := pss_imp (pss_cons h1 h2) fun _ _ _ => rd_seq
theorem ss_one (h1 : SS X st ma) : SSs X [st] ma := pss_one h1
theorem ss_pass : SS X (.Pass pos) sNil := ps_imp ps_pass fun D σ H q => by
  obtain ⟨c, ow, σa, h, fl, σa', h', k, e, f⟩ := q
  simp only [sNil, Option.some.injEq, Prod.mk.injEq] at e
  obtain ⟨rfl, rfl, rfl⟩ := e
  exact f c ow σ H (ExtS.refl c ow H) k
def sBrk : MS := fun s h => some (.bk, s, h)
theorem ss_break : SS X (.Break pos) sBrk := ps_imp ps_break fun D σ H q => by
  obtain ⟨c, ow, σa, h, fl, σa', h', k, e, f⟩ := q
  simp only [sBrk, Option.some.injEq, Prod.mk.injEq] at e
  obtain ⟨rfl, rfl, rfl⟩ := e
  exact f c ow σ H (ExtS.refl c ow H) k
def sIf (t : MT) (a b : MS) : MS := fun s h => (t s h).bind fun p => if p.1 then a s p.2 else b s p.2
theorem ss_if (hc : ST X c' t) (ha : SSs X a ma) (hb : SSs X b mb) : SS X (.If c' a b pos) (sIf t ma mb) := ps_imp (ps_if hc ha hb) fun D σ H q => by
  obtain ⟨c, ow, σa, h, fl, σa', h', k, e, f⟩ := q
  simp only [sIf, Option.bind_eq_some_iff] at e
  obtain ⟨⟨r1, h1⟩, e1, e2⟩ := e
  refine ⟨c, ow, σa, h, r1, h1, k, e1, fun c1 H1 E1 K1 => ?_⟩
  have go : ∀ mm : MS, mm σa h1 = some (fl, σa', h') → rdS mm D σ H1 := fun mm e2 => ⟨c1, ow, σa, h1, fl, σa', h', k.ext E1 K1, e2, fun c2 ow2 σ2 H2 E2 K2 => by
    have z := f c2 ow2 σ2 H2 (E1.s.trans E2) K2
    cases fl with
    | nx => exact z
    | bk => exact z
    | ct => exact z
    | rt r => exact fun x hx => z x (RT.early E1.s hx)⟩
  cases r1 with
  | true => simp only [if_true] at e2 ⊢; exact go _ e2
  | false => simp only [Bool.false_eq_true, if_false] at e2 ⊢; exact go _ e2
/-- return of a value or of a new list -/
def sRet (m : ME) : MS := fun s h => (m s h).bind fun p => match p.1 with
  | .v x => some (.rt (.v x), s, p.2)
  | .o x => some (.rt (.o x), s, p.2)
  | _ => none
theorem ss_ret (he : SE X e m) : SS X (.Return (some e) pos) (sRet m) := ps_imp (ps_ret he) fun D σ H q => by
  obtain ⟨c, ow, σa, h, fl, σa', h', k, e, f⟩ := q
  simp only [sRet, Option.bind_eq_some_iff] at e
  obtain ⟨⟨r1, h1⟩, e1, e2⟩ := e
  refine ⟨c, ow, σa, h, r1, h1, k, e1, fun c1 H1 x E1 K1 R1 => ?_⟩
  cases r1 with
  | v y =>
    simp only [Option.some.injEq, Prod.mk.injEq] at e2
    obtain ⟨rfl, rfl, rfl⟩ := e2
    exact f c1 ow σ H1 E1.s (k.ext E1 K1) x R1
  | o y =>
    simp only [Option.some.injEq, Prod.mk.injEq] at e2
    obtain ⟨rfl, rfl, rfl⟩ := e2
    obtain ⟨a, ys, e3, e4, e5, e6, e7⟩ := R1
    exact f c1 ow σ H1 E1.s (k.ext E1 K1) x ⟨a, ys, e3, .inl e4, e5, e6, e7⟩
  | l y => simp at e2
  | z y => simp at e2
/-- return of an own list by its name -/
def sRetO (i : Nat) : MS := fun s h => match s[i]? with
  | some (some (.o xs)) => some (.rt (.o xs), s, h)
  | _ => none
theorem ss_retO (i : Nat) {x : Str} {p : Pos} (hN : X.N[i]? = some x := by rfl) (hv : Vis X.env.scope x := by first | exact Or.inl rfl | exact Or.inr (Or.inl rfl) | exact Or.inr (Or.inr rfl)) (hd : (x == ("__debug__" : Str)) = false := by decide)
    (hcd : (x == ("__classdict__" : Str)) = false := by decide) : SS X (.Return (some (.Name x p)) pos) (sRetO i) := ps_imp (ps_ret (pe_var hN hv hd hcd)) fun D σ H q => by
  obtain ⟨c, ow, σa, h, fl, σa', h', k, e, f⟩ := q
  unfold sRetO at e
  split at e
  · rename_i xs e0
    simp only [Option.some.injEq, Prod.mk.injEq] at e
    obtain ⟨rfl, rfl, rfl⟩ := e
    obtain ⟨y, e1, e2⟩ := k.sl i _ e0
    obtain ⟨a, ys, e3, e4, e5, e6⟩ := e2
    exact ⟨y, e1, f c ow σ H (ExtS.refl c ow H) k y ⟨a, ys, e3, .inr ⟨i, e6⟩, e4, e5, (k.oc i a e6).1⟩⟩
  · cases e
def sDrop (m : ME) : MS := fun s h => (m s h).map fun p => (.nx, s, p.2)
theorem ss_expr (he : SE X e m) (hs : swapsWith e none pos.line X.env = pure false := by rfl) : SS X (.Expr e pos) (sDrop m) := ps_imp (ps_expr he hs) fun D σ H q => by
  obtain ⟨c, ow, σa, h, fl, σa', h', k, e, f⟩ := q
  simp only [sDrop, Option.map_eq_some_iff, Prod.mk.injEq] at e
  obtain ⟨⟨r1, h1⟩, e1, rfl, rfl, rfl⟩ := e
  exact ⟨c, ow, σa, h, r1, h1, k, e1, fun c1 H1 x E1 K1 R1 => f c1 ow σ H1 E1.s (k.ext E1 K1)⟩
end

/-! ### slots are stored -/
def put (ow : Ow) (i : Nat) (o : Option Addr) : Ow := fun j => if j = i then o else ow j
theorem put_same {ow : Ow} {i : Nat} {o : Option Addr} : put ow i o i = o := by simp [put]
theorem put_ne {ow : Ow} {i j : Nat} {o : Option Addr} (h : j ≠ i) : put ow i o j = ow j := by simp [put, h]
theorem Rel.setV {c : List Addr} {ow : Ow} {σa : Sl} {h : Hh} {σ : St} {H : Hp} {i : Nat} {v : Val} {x : V} (k : Rel c ow σa h σ H) (q : VR c H v x) : Rel c (put ow i none) (σa.set i (some (.v v))) h (σ.set i (some x)) H where
  hr := k.hr
  inj := fun a b y h1 h2 => by
    by_cases ha : a = i
    · rw [ha, put_same] at h1; cases h1
    · by_cases hb : b = i
      · rw [hb, put_same] at h2; cases h2
      · rw [put_ne ha] at h1; rw [put_ne hb] at h2; exact k.inj a b y h1 h2
  oc := fun a y h1 => by
    by_cases ha : a = i
    · rw [ha, put_same] at h1; cases h1
    · rw [put_ne ha] at h1; exact k.oc a y h1
  sl := fun j r e => by
    by_cases hj : j = i
    · subst hj
      have hlt : j < σa.length := by
        have := (List.getElem?_eq_some_iff.mp e).1
        simpa using this
      rw [List.getElem?_set_self hlt] at e
      simp only [Option.some.injEq] at e
      subst e
      exact ⟨x, by rw [List.getElem?_set_self (by rw [← k.len]; exact hlt)], q⟩
    · rw [List.getElem?_set_ne (Ne.symm hj)] at e
      obtain ⟨y, e1, e2⟩ := k.sl j r e
      refine ⟨y, by rw [List.getElem?_set_ne (Ne.symm hj)]; exact e1, ?_⟩
      have hq : ∀ (b : Addr), (∀ l, ow l ≠ some b) → ∀ l, put ow i none l ≠ some b := fun b hb l z => by
        by_cases hl : l = i
        · rw [hl, put_same] at z; cases z
        · rw [put_ne hl] at z; exact hb l z
      cases r with
      | v w => exact e2
      | l w =>
        obtain ⟨b, ys, e3, e4, e5, e6, e7⟩ := e2
        exact ⟨b, ys, e3, e4, e5, e6, hq b e7⟩
      | z w =>
        obtain ⟨b, ys, e3, e5, e6⟩ := e2
        exact ⟨b, ys, e3, e5, e6.imp (fun z => ⟨z.1, z.2.1, hq b z.2.2⟩) fun z => z⟩
      | o w =>
        obtain ⟨b, ys, e3, e4, e5, e6⟩ := e2
        exact ⟨b, ys, e3, e4, e5, by rw [put_ne hj]; exact e6⟩
  len := by simp [k.len]
/-- a new list a (nobody's yet) becomes the own list of slot i -/
theorem Rel.setO {c0 c : List Addr} {ow : Ow} {σa : Sl} {h0 h : Hh} {σ : St} {H0 H : Hp} {i : Nat} {xs : List Val} {a : Addr} {ys : List V} (k0 : Rel c0 ow σa h0 σ H0) (E : Ext c0 c H0 H) (kh : HR c h H) (hn0 : H0 a = none) (hn : a ∉ c) (e : H a = some (.lst ys)) (q : VRs c H xs ys) :
    Rel c (put ow i (some a)) (σa.set i (some (.o xs))) h (σ.set i (some (.ref a))) H := by
  have k := k0.ext E kh
  have hw : ∀ j, ow j ≠ some a := fun j z => by
    obtain ⟨_, zs, e1⟩ := k0.oc j a z
    rw [hn0] at e1; cases e1
  have hq : ∀ (b : Addr) (u : HO), Rd H0 b u → (∀ l, ow l ≠ some b) → ∀ l, put ow i (some a) l ≠ some b := fun b u hu hb l z => by
    by_cases hl : l = i
    · rw [hl, put_same] at z; cases z
      obtain ⟨o, e1⟩ := rd_some hu
      rw [hn0] at e1; cases e1
    · rw [put_ne hl] at z; exact hb l z
  refine ⟨kh, fun l b y h1 h2 => ?_, fun l y h1 => ?_, fun j r e0 => ?_, by simp [k0.len]⟩
  · by_cases ha : l = i
    · by_cases hb : b = i
      · rw [ha, hb]
      · rw [ha, put_same] at h1; rw [put_ne hb] at h2; cases h1; exact absurd h2 (hw b)
    · by_cases hb : b = i
      · rw [hb, put_same] at h2; rw [put_ne ha] at h1; cases h2; exact absurd h1 (hw l)
      · rw [put_ne ha] at h1; rw [put_ne hb] at h2; exact k.inj l b y h1 h2
  · by_cases ha : l = i
    · rw [ha, put_same] at h1; cases h1; exact ⟨hn, ys, e⟩
    · rw [put_ne ha] at h1; exact k.oc l y h1
  · by_cases hj : j = i
    · subst hj
      have hlt : j < σa.length := by
        have := (List.getElem?_eq_some_iff.mp e0).1
        simpa using this
      rw [List.getElem?_set_self hlt] at e0
      simp only [Option.some.injEq] at e0
      subst e0
      exact ⟨.ref a, by rw [List.getElem?_set_self (by rw [← k0.len]; exact hlt)], a, ys, rfl, e, q, put_same⟩
    · rw [List.getElem?_set_ne (Ne.symm hj)] at e0
      obtain ⟨y, e1, e2⟩ := k0.sl j r e0
      refine ⟨y, by rw [List.getElem?_set_ne (Ne.symm hj)]; exact e1, ?_⟩
      have tk := E.tk k0.hr
      cases r with
      | v w => exact VR.mono tk _ _ e2
      | l w =>
        obtain ⟨b, zs, e3, e4, e5, e6, e7⟩ := e2
        exact ⟨b, zs, e3, E.keep _ _ e4 e6, VRs.mono tk _ _ e5, E.notin e4 e6, hq b _ (.inl e4) e7⟩
      | z w =>
        obtain ⟨b, zs, e3, e5, e6⟩ := e2
        exact ⟨b, zs, e3, VRs.mono tk _ _ e5, e6.imp (fun z => ⟨E.rd z.1 z.2.1, E.nin z.1 z.2.1, hq b _ z.1 z.2.2⟩) fun z => z⟩
      | o w =>
        obtain ⟨b, zs, e3, e4, e5, e6⟩ := e2
        exact ⟨b, zs, e3, E.keep _ _ e4 (k0.oc j b e6).1, VRs.mono tk _ _ e5, by rw [put_ne hj]; exact e6⟩
theorem Rel.noown {c : List Addr} {ow : Ow} {σa : Sl} {h : Hh} {σ : St} {H : Hp} (k : Rel c ow σa h σ H) {a : Addr} (hn : H a = none) : ∀ j, ow j ≠ some a := fun j z => by
  obtain ⟨_, ys, e⟩ := k.oc j a z
  rw [hn] at e; cases e

/-! ### name = value -/
def sSet (i : Nat) (m : ME) : MS := fun s h => (m s h).bind fun p => match p.1 with
  | .v x => some (.nx, s.set i (some (.v x)), p.2)
  | .o x => some (.nx, s.set i (some (.o x)), p.2)
  | _ => none
theorem rd_set {i : Nat} {m : ME} {D : Ends} {σ : St} {H : Hp} (q : rdS (sSet i m) D σ H) : tAsg (rdE m) (gName i) D σ H := by
  obtain ⟨c, ow, σa, h, fl, σa', h', k, e, f⟩ := q
  simp only [sSet, Option.bind_eq_some_iff] at e
  obtain ⟨⟨r1, h1⟩, e1, e2⟩ := e
  refine ⟨c, ow, σa, h, r1, h1, k, e1, fun c1 H1 x E1 K1 R1 => ?_⟩
  have k1 := k.ext E1 K1
  cases r1 with
  | v y =>
    simp only [Option.some.injEq, Prod.mk.injEq] at e2
    obtain ⟨rfl, rfl, rfl⟩ := e2
    refine f c1 (put ow i none) (σ.set i (some x)) H1 (E1.s.trans ⟨⟨[], by simp⟩, fun a o h _ _ => h, fun a h n => absurd h n, fun a o h => ⟨o, h⟩, fun j a z => ?_, fun _ _ _ h => h⟩) (k1.setV R1)
    by_cases hj : j = i
    · rw [hj, put_same] at z; cases z
    · rw [put_ne hj] at z; exact .inl ⟨j, z⟩
  | o y =>
    simp only [Option.some.injEq, Prod.mk.injEq] at e2
    obtain ⟨rfl, rfl, rfl⟩ := e2
    obtain ⟨a, ys, rfl, e4, e5, e6, e7⟩ := R1
    refine f c1 (put ow i (some a)) (σ.set i (some (.ref a))) H1 ⟨E1.pre, fun b o h n _ => E1.keep b o h n, E1.new, E1.dom, fun j b z => ?_, E1.frz⟩ (k.setO E1 K1 e4 e7 e5 e6)
    by_cases hj : j = i
    · rw [hj, put_same] at z; cases z; exact .inr e4
    · rw [put_ne hj] at z; exact .inl ⟨j, z⟩
  | l y => simp at e2
  | z y => simp at e2
section
variable {X : Cx} {pos : Pos} {e : Expr} {m : ME}
theorem ss_set (i : Nat) {x : Str} {pos' : Pos} (hN : X.N.Nodup) (he : SE X e m) (hi : X.N[i]? = some x := by rfl) (hx : Loc X.env.scope x := by first | exact Or.inl rfl | exact Or.inr rfl) (hs : swapsWith e (some (.Name x pos')) pos.line X.env = pure false := by rfl)
    (hf : X.fn x = true ∨ X.env.scope.names.lookup x = some .local := by first | exact .inl rfl | exact .inr rfl) : SS X (.Assign [.Name x pos'] e pos) (sSet i m) := ps_imp (ps_set hN hi hx he hs hf) fun _ _ _ => rd_set
end
end NL
set_option Elab.async false
set_option linter.all false
set_option maxRecDepth 100000
set_option maxHeartbeats 4000000
set_option autoImplicit false
namespace NL
open PySem L2
open Classical
variable [HasK]

/-! ### targets -/
inductive Tg where
  | nm (i : Nat) | tp (is : List Nat)
def Tg.slots : Tg → List Nat
  | .nm i => [i]
  | .tp is => is
def gNames : List Nat → TGs
  | [] => gNil
  | i :: is => gCons (gName i) (gNames is)
def gTg (K : PySem.W.Frag) : Tg → TG
  | .nm i => gName i
  | .tp is => gTup K is.length (gNames is)
def setAll : List Nat → List Val → Sl → Option Sl
  | [], [], s => some s
  | i :: is, v :: vs, s => setAll is vs (s.set i (some (.v v)))
  | _, _, _ => none
def asg : Tg → Val → Sl → Option Sl
  | .nm i, v, s => some (s.set i (some (.v v)))
  | .tp is, .tup vs, s => setAll is vs s
  | _, _, _ => none
theorem wipe_in {σ : St} : ∀ {W : List Nat} {j : Nat}, j ∈ W → (wipe σ W)[j]? = if j < σ.length then some none else none
  | [], j, h => by simp at h
  | v :: vs, j, h => by
    unfold wipe
    by_cases e : v = j
    · subst e
      by_cases hl : v < σ.length
      · rw [List.getElem?_set_self (by rw [wipe_length]; exact hl), if_pos hl]
      · rw [if_neg hl, List.getElem?_eq_none]
        rw [List.length_set, wipe_length]; omega
    · rw [List.getElem?_set_ne e]
      rcases List.mem_cons.mp h with z | z
      · exact absurd z.symm e
      · exact wipe_in z
theorem wipe_set {σ : St} {W : List Nat} {i : Nat} {y : Option V} (h : i ∈ W) : wipe (σ.set i y) W = wipe σ W := by
  apply List.ext_getElem?
  intro j
  by_cases hj : j ∈ W
  · rw [wipe_in hj, wipe_in hj, List.length_set]
  · rw [wipe_out hj, wipe_out hj, List.getElem?_set_ne (fun e => hj (by rw [← e]; exact h))]
theorem names_rd {c : List Addr} {h : Hh} {H : Hp} {W : List Nat} {Q : St → Hp → Prop} {σ0 : St} {ow0 : Ow} : ∀ {is : List Nat} {vs : List Val} {xs : List V} {ow : Ow} {σa σa' : Sl} {σ : St},
    Rel c ow σa h σ H → VRs c H vs xs → setAll is vs σa = some σa' → (∀ i ∈ is, i ∈ W) → wipe σ W = wipe σ0 W → (∀ i a, ow i = some a → ow0 i = some a) →
    (∀ ow' σ', (∀ i a, ow' i = some a → ow0 i = some a) → Rel c ow' σa' h σ' H → wipe σ' W = wipe σ0 W → Q σ' H) → gNames is xs σ H Q
  | [], [], xs, ow, σa, σa', σ, k, q, e, hW, hw, ho, f => by
    simp only [setAll, Option.some.injEq] at e
    subst e
    unfold VRs at q; subst q
    exact ⟨rfl, f ow σ ho k hw⟩
  | i :: is, v :: vs, xs, ow, σa, σa', σ, k, q, e, hW, hw, ho, f => by
    simp only [setAll] at e
    unfold VRs at q
    obtain ⟨y, ys, rfl, q1, q2⟩ := q
    refine ⟨y, ys, rfl, ?_⟩
    refine names_rd (k.setV q1) q2 e (fun j hj => hW j (List.mem_cons_of_mem _ hj)) ?_ (fun j a z => ?_) f
    · rw [wipe_set (hW i (List.mem_cons_self ..))]; exact hw
    · by_cases hj : j = i
      · rw [hj, put_same] at z; cases z
      · rw [put_ne hj] at z; exact ho j a z
  | [], _ :: _, xs, ow, σa, σa', σ, k, q, e, hW, hw, ho, f => by simp [setAll] at e
  | _ :: _, [], xs, ow, σa, σa', σ, k, q, e, hW, hw, ho, f => by simp [setAll] at e
theorem setAll_len : ∀ {is : List Nat} {vs : List Val} {s s' : Sl}, setAll is vs s = some s' → vs.length = is.length
  | [], [], _, _, _ => rfl
  | i :: is, v :: vs, s, s', e => by
    simp only [setAll] at e
    simp [setAll_len e]
  | [], _ :: _, _, _, e => by simp [setAll] at e
  | _ :: _, [], _, _, e => by simp [setAll] at e
theorem tg_rd {K : PySem.W.Frag} {T : Tg} {c : List Addr} {ow : Ow} {σa σa' : Sl} {h : Hh} {σ : St} {H : Hp} {W : List Nat} {v : Val} {x : V} {Q : St → Hp → Prop} (k : Rel c ow σa h σ H) (q : VR c H v x) (e : asg T v σa = some σa') (hW : ∀ i ∈ T.slots, i ∈ W)
    (f : ∀ ow' σ', (∀ i a, ow' i = some a → ow i = some a) → Rel c ow' σa' h σ' H → wipe σ' W = wipe σ W → Q σ' H) : gTg K T x σ H Q := by
  cases T with
  | nm i =>
    simp only [asg, Option.some.injEq] at e
    subst e
    refine f (put ow i none) _ (fun j a z => ?_) (k.setV q) (wipe_set (hW i (by simp [Tg.slots])))
    by_cases hj : j = i
    · rw [hj, put_same] at z; cases z
    · rw [put_ne hj] at z; exact z
  | tp is =>
    cases v with
    | tup vs =>
      simp only [asg] at e
      unfold VR at q
      obtain ⟨a, xs, rfl, q1, q2⟩ := q
      exact ⟨a, xs, rfl, .inl (.inl q1), by rw [← q2.length, setAll_len e], names_rd k q2 e hW rfl (fun _ _ z => z) f⟩
    | _ => simp [asg] at e

/-! ### what is walked -/
def WS (c : List Addr) (P : Addr → Prop) (H : Hp) (chk : Hh → Prop) (J : It) (items : List Val) : Prop := ∃ (G : Hp → Prop) (Y : Nat → Hp → V → Hp → Prop), Walk J items.length G Y ∧ ∀ (c' : List Addr) (h' : Hh) (H' : Hp), (∃ d, c' = c ++ d) →
  (∀ a o, H a = some o → a ∉ c → P a → H' a = some o) → HR c' h' H' → chk h' → (∀ a o u, H a = some (.frz o u) → H' a = some (.frz o u)) → G H' ∧ ∀ i x H'', i < items.length → Y i H' x H'' → ∃ v, items[i]? = some v ∧ (H'' = H' ∨ ∃ T o, H' T = none ∧ H'' = upd H' T o) ∧ VR c' H'' v x
abbrev MI := Sl → Hh → Option (List Val × (Hh → Prop) × Hh)
abbrev MJ := Sl → Hh → Option (List Val × (Hh → Prop) × Sl × Hh)
def rdI (m : MI) : TI := fun σ H R => ∃ c ow σa h items chk h', Rel c ow σa h σ H ∧ m σa h = some (items, chk, h') ∧ ∀ c' H' J, Ext c c' H H' → HR c' h' H' → WS c' (fun _ => True) H' chk J items → R J H'
def rdJ (m : MJ) : TI := fun σ H R => ∃ c ow σa h items chk σa' h', Rel c ow σa h σ H ∧ m σa h = some (items, chk, σa', h') ∧ ∀ c' ow' H' J, ExtS c ow c' ow' H H' → Rel c' ow' σa' h' σ H' → WS c' (fun a => ∀ i, ow' i ≠ some a) H' chk J items → R J H'
abbrev SI (X : Cx) (tg it : Expr) (m : MI) : Prop := PI X tg it (rdI m)
abbrev SJ (X : Cx) (tg it : Expr) (m : MJ) : Prop := PI X tg it (rdJ m)
theorem pi_imp {X : Cx} {tg it : Expr} {w w' : TI} (h : PI X tg it w) (f : ∀ σ H R, w' σ H R → w σ H R) : PI X tg it w' := ⟨fun pins s σ H R I q => h.run pins s σ H R I (f σ H R q)⟩
theorem pi_or {X : Cx} {tg it : Expr} {w w' : TI} (h : PI X tg it w) (h' : PI X tg it w') : PI X tg it (fun σ H R => w σ H R ∨ w' σ H R) := ⟨fun pins s σ H R I q => by
  rcases q with q | q
  · exact h.run pins s σ H R I q
  · exact h'.run pins s σ H R I q⟩
/-- one that is walked in a comprehension is walked in a for, if it does not hang on what is owned -/
def WSr (J : It) (items : List Val) : Prop := ∀ c P H, WS c P H (fun _ => True) J items
theorem ws_range {lo : Int} {n : Nat} : WSr (Itr lo n) ((List.range n).map fun (i : Nat) => .int (lo + (i : Int))) := fun c P H => by
  refine ⟨_, _, by simpa using walk_range (lo := lo) (n := n), fun c' h' H' _ _ _ _ _ => ⟨trivial, fun i x H'' hi y => ?_⟩⟩
  obtain ⟨rfl, rfl⟩ := y
  simp only [List.length_map, List.length_range] at hi
  exact ⟨.int (lo + i), by simp [hi], .inl rfl, by unfold VR; rfl⟩
theorem tk_kp {c c' : List Addr} {P : Addr → Prop} {h : Hh} {H H' : Hp} (k : HR c h H) (hT : ∀ b ys, H b = some (.tup ys) → P b) (pre : ∃ d, c' = c ++ d) (kp : ∀ a o, H a = some o → a ∉ c → P a → H' a = some o) : TK c c' H H' :=
  ⟨fun b ys e => kp b _ e (k.tup e) (hT b ys e), fun p a e => by
    obtain ⟨d, rfl⟩ := pre
    rw [List.getElem?_append_left (List.getElem?_eq_some_iff.mp e).1]; exact e⟩
section
variable {K : PySem.W.Frag} {c : List Addr} {P : Addr → Prop} {h : Hh} {H : Hp} {a b : Addr} {vs ws : List Val} {xs ys : List V}
theorem yat {c' : List Addr} {H' H'' : Hp} {x : V} {i : Nat} (q : VRs c' H' vs xs) (y : YAt xs i H' x H'') (hi : i < vs.length) : ∃ v, vs[i]? = some v ∧ (H'' = H' ∨ ∃ T o, H' T = none ∧ H'' = upd H' T o) ∧ VR c' H'' v x := by
  obtain ⟨rfl, hx⟩ := y
  obtain ⟨z, e1, e2⟩ := q.get (List.getElem?_eq_getElem hi)
  rw [hx] at e1
  cases e1
  exact ⟨_, List.getElem?_eq_getElem hi, .inl rfl, e2⟩
theorem ws_tup (k : HR c h H) (hT : ∀ b ys, H b = some (.tup ys) → P b) (ha : H a = some (.tup xs)) (q : VRs c H vs xs) : WS c P H (fun _ => True) (Itt K a) vs := by
  refine ⟨_, _, by rw [q.length]; exact walk_tup (K := K) (a := a) (xs := xs), fun c' h' H' pre kp k' _ _ => ?_⟩
  have tk := tk_kp k hT pre kp
  exact ⟨.inl (.inl (tk.1 _ _ ha)), fun i x H'' hi y => yat (VRs.mono tk _ _ q) y hi⟩
/-- a list that nobody changes -/
theorem ws_lst (k : HR c h H) (hT : ∀ b ys, H b = some (.tup ys) → P b) (ha : Rd H a (.lst xs)) (hn : a ∉ c) (hP : P a) (q : VRs c H vs xs) : WS c P H (fun _ => True) (Itl K a) vs := by
  refine ⟨_, _, by rw [q.length]; exact walk_list (K := K) (a := a) (xs := xs), fun c' h' H' pre kp k' _ _ => ?_⟩
  have tk := tk_kp k hT pre kp
  refine ⟨.inl ?_, fun i x H'' hi y => yat (VRs.mono tk _ _ q) y hi⟩
  rcases ha with ha | ⟨o, ha⟩
  · exact .inl (kp a _ ha hn hP)
  · exact .inr ⟨o, kp a _ ha hn hP⟩
/-- a list of the plain heap, that must stay -/
theorem ws_cell {p : Nat} (k : HR c h H) (hp : c[p]? = some a) (hh : h[p]? = some (.lst vs)) : WS c P H (fun h' => h'[p]? = some (.lst vs)) (Itl K a) vs := by
  obtain ⟨o, e1, e2⟩ := k.cell p a hp
  rw [hh] at e1
  cases e1
  obtain ⟨zs, e3, e4⟩ := e2
  refine ⟨fun H => ∃ ys, SqL K H a ys ∧ ys.length = vs.length, fun i H x H' => H' = H ∧ ∀ ys, SqL K H a ys → ys[i]? = some x, ⟨fun i H hi q => ?_, fun H q => ?_, fun i H x H' hi _ y => y⟩, fun c' h' H' pre kp k' ck _ => ?_⟩
  · obtain ⟨ys, q1, q2⟩ := q
    exact ⟨ys, ys[i]'(by omega), q1, by simp⟩
  · obtain ⟨ys, q1, q2⟩ := q
    exact ⟨ys, q1, by omega⟩
  · obtain ⟨d, rfl⟩ := pre
    have hp' : (c ++ d)[p]? = some a := by rw [List.getElem?_append_left (List.getElem?_eq_some_iff.mp hp).1]; exact hp
    obtain ⟨o', e5, e6⟩ := k'.cell p a hp'
    have ck : h'[p]? = some (.lst vs) := ck
    rw [ck] at e5
    cases e5
    obtain ⟨ys, e7, e8⟩ := e6
    refine ⟨⟨ys, .inl (.inl e7), e8.length.symm⟩, fun i x H'' hi y => ?_⟩
    obtain ⟨rfl, hx⟩ := y
    exact yat e8 ⟨rfl, hx ys (.inl (.inl e7))⟩ hi
theorem ypair {c' : List Addr} {h' : Hh} {H' H'' : Hp} {x : V} {i : Nat} (k : HR c' h' H') (q1 : VRs c' H' vs xs) (q2 : VRs c' H' ws ys) (y : YPair (fun i => xs[i]?) (fun i => ys[i]?) i H' x H'') (hi : i < (vs.zip ws).length) :
    ∃ v, ((vs.zip ws).map fun p => Val.tup [p.1, p.2])[i]? = some v ∧ (H'' = H' ∨ ∃ T o, H' T = none ∧ H'' = upd H' T o) ∧ VR c' H'' v x := by
  obtain ⟨T, u, w, rfl, hT, rfl, e1, e2⟩ := y
  rw [List.length_zip] at hi
  have h1 : i < vs.length := by omega
  have h2 : i < ws.length := by omega
  obtain ⟨z1, e3, e4⟩ := q1.get (List.getElem?_eq_getElem h1)
  obtain ⟨z2, e5, e6⟩ := q2.get (List.getElem?_eq_getElem h2)
  dsimp only at e1 e2
  rw [e1] at e3
  rw [e2] at e5
  cases e3
  cases e5
  refine ⟨.tup [vs[i], ws[i]], by simp [List.getElem?_zip_eq_some, h1, h2], .inr ⟨T, _, hT, rfl⟩, ?_⟩
  exact RR.newTup (H0 := H') k hT (VRs.cons e4 (VRs.cons e6 VRs.nil))
end
end NL
set_option Elab.async false
set_option linter.all false
set_option maxRecDepth 100000
set_option maxHeartbeats 4000000
set_option autoImplicit false
namespace NL
open PySem L2 RZ
open Classical
variable [HasK]

theorem Rel.tupP {c : List Addr} {ow : Ow} {σa : Sl} {h : Hh} {σ : St} {H : Hp} (k : Rel c ow σa h σ H) : ∀ b ys, H b = some (.tup ys) → ∀ i, ow i ≠ some b := fun b ys e i z => by
  obtain ⟨_, zs, e2⟩ := k.oc i b z
  rw [e] at e2; cases e2

/-! ### iterables -/
noncomputable def iE (m : ME) : MI := fun s h => (m s h).bind fun p => match p.1 with
  | .v (.tup xs) => some (xs, (fun _ => True), p.2)
  | .v (.ref q) => match p.2[q]? with
    | some (.lst xs) => some (xs, (fun h => h[q]? = some (.lst xs)), p.2)
    | _ => none
  | .l xs => some (xs, (fun _ => True), p.2)
  | .o xs => some (xs, (fun _ => True), p.2)
  | _ => none
/-- a list or tuple that is no name -/
noncomputable def jE (m : ME) : MJ := fun s h => (m s h).bind fun p => match p.1 with
  | .v (.tup xs) => some (xs, (fun _ => True), s, p.2)
  | .v (.ref q) => match p.2[q]? with
    | some (.lst xs) => some (xs, (fun h => h[q]? = some (.lst xs)), s, p.2)
    | _ => none
  | .o xs => some (xs, (fun _ => True), s, p.2)
  | _ => none
/-- a name's list: from then on it is read alone -/
noncomputable def jV (i : Nat) : MJ := fun s h => match s[i]? with
  | some (some (.v (.tup xs))) => some (xs, (fun _ => True), s, h)
  | some (some (.v (.ref q))) => match h[q]? with
    | some (.lst xs) => some (xs, (fun h => h[q]? = some (.lst xs)), s, h)
    | _ => none
  | some (some (.l xs)) => some (xs, (fun _ => True), s, h)
  | some (some (.o xs)) => some (xs, (fun _ => True), s.set i (some (.l xs)), h)
  | _ => none
theorem Rel.disown {c : List Addr} {ow : Ow} {σa : Sl} {h : Hh} {σ : St} {H : Hp} {i : Nat} {xs : List Val} (k : Rel c ow σa h σ H) (e : σa[i]? = some (some (.o xs))) : Rel c (put ow i none) (σa.set i (some (.l xs))) h σ H where
  hr := k.hr
  inj := fun a b y h1 h2 => by
    by_cases ha : a = i
    · rw [ha, put_same] at h1; cases h1
    · by_cases hb : b = i
      · rw [hb, put_same] at h2; cases h2
      · rw [put_ne ha] at h1; rw [put_ne hb] at h2; exact k.inj a b y h1 h2
  oc := fun a y h1 => by
    by_cases ha : a = i
    · rw [ha, put_same] at h1; cases h1
    · rw [put_ne ha] at h1; exact k.oc a y h1
  sl := fun j r e0 => by
    have hq : ∀ (b : Addr), (∀ l, ow l ≠ some b) → ∀ l, put ow i none l ≠ some b := fun b hb l z => by
      by_cases hl : l = i
      · rw [hl, put_same] at z; cases z
      · rw [put_ne hl] at z; exact hb l z
    by_cases hj : j = i
    · subst hj
      have hlt : j < σa.length := (List.getElem?_eq_some_iff.mp e).1
      rw [List.getElem?_set_self hlt] at e0
      simp only [Option.some.injEq] at e0
      subst e0
      obtain ⟨y, e1, b, ys, e3, e4, e5, e6⟩ := k.sl j _ e
      refine ⟨y, e1, b, ys, e3, e4, e5, (k.oc j b e6).1, fun l z => ?_⟩
      by_cases hl : l = j
      · rw [hl, put_same] at z; cases z
      · rw [put_ne hl] at z; exact hl (k.inj l j b z e6)
    · rw [List.getElem?_set_ne (Ne.symm hj)] at e0
      obtain ⟨y, e1, e2⟩ := k.sl j r e0
      refine ⟨y, e1, ?_⟩
      cases r with
      | v w => exact e2
      | l w =>
        obtain ⟨b, ys, e3, e4, e5, e6, e7⟩ := e2
        exact ⟨b, ys, e3, e4, e5, e6, hq b e7⟩
      | z w =>
        obtain ⟨b, ys, e3, e5, e6⟩ := e2
        exact ⟨b, ys, e3, e5, e6.imp (fun z => ⟨z.1, z.2.1, hq b z.2.2⟩) fun z => z⟩
      | o w =>
        obtain ⟨b, ys, e3, e4, e5, e6⟩ := e2
        exact ⟨b, ys, e3, e4, e5, by rw [put_ne hj]; exact e6⟩
  len := by simp [k.len]
theorem exts_drop {c : List Addr} {ow : Ow} {i : Nat} {H : Hp} : ExtS c ow c (put ow i none) H H := ⟨⟨[], by simp⟩, fun a o h _ _ => h, fun a h n => absurd h n, fun a o h => ⟨o, h⟩, fun j a z => by
  by_cases hj : j = i
  · rw [hj, put_same] at z; cases z
  · rw [put_ne hj] at z; exact .inl ⟨j, z⟩, fun _ _ _ h => h⟩
section
variable {X : Cx} {tg e : Expr} {m : ME} {pos : Pos}
theorem si_e (he : SE X e m) : SI X tg e (iE m) := pi_imp (pi_or (pi_tup he) (pi_list he)) fun σ H Q q => by
  obtain ⟨c, ow, σa, h, items, chk, h', k, e, f⟩ := q
  simp only [iE, Option.bind_eq_some_iff] at e
  obtain ⟨⟨r1, h1⟩, e1, e2⟩ := e
  have T : ∀ {H : Hp} (b : Addr) (ys : List V), H b = some (.tup ys) → (fun _ : Addr => True) b := fun _ _ _ => trivial
  cases r1 with
  | v w =>
    cases w with
    | tup zs =>
      simp only [Option.some.injEq, Prod.mk.injEq] at e2
      obtain ⟨rfl, rfl, rfl⟩ := e2
      refine .inl ⟨c, ow, σa, h, _, h1, k, e1, fun c1 H1 x E1 K1 R1 => ?_⟩
      obtain ⟨a, us, rfl, t1, v1⟩ := asT_rr (xs := zs) rfl R1
      exact ⟨a, rfl, ⟨us, .inl (.inl t1)⟩, f c1 H1 _ E1 K1 (ws_tup K1 T t1 v1)⟩
    | ref q =>
      dsimp only at e2
      split at e2
      · rename_i zs hz
        simp only [Option.some.injEq, Prod.mk.injEq] at e2
        obtain ⟨rfl, rfl, rfl⟩ := e2
        refine .inr ⟨c, ow, σa, h, _, h1, k, e1, fun c1 H1 x E1 K1 R1 => ?_⟩
        have R1' : VR c1 H1 (.ref q) x := R1
        unfold VR at R1'
        obtain ⟨a, rfl, e5⟩ := R1'
        obtain ⟨o, e6, e7⟩ := K1.cell q a e5
        rw [hz] at e6
        cases e6
        obtain ⟨ys, e8, e9⟩ := e7
        exact ⟨a, rfl, ⟨ys, .inl (.inl e8)⟩, f c1 H1 _ E1 K1 (ws_cell K1 e5 hz)⟩
      · cases e2
    | _ => simp at e2
  | l zs =>
    simp only [Option.some.injEq, Prod.mk.injEq] at e2
    obtain ⟨rfl, rfl, rfl⟩ := e2
    refine .inr ⟨c, ow, σa, h, _, h1, k, e1, fun c1 H1 x E1 K1 R1 => ?_⟩
    obtain ⟨a, ys, rfl, e5, e6, e7⟩ := R1
    exact ⟨a, rfl, ⟨ys, .inl (.inl e5)⟩, f c1 H1 _ E1 K1 (ws_lst K1 T (.inl e5) e7 trivial e6)⟩
  | z zs => simp at e2
  | o zs =>
    simp only [Option.some.injEq, Prod.mk.injEq] at e2
    obtain ⟨rfl, rfl, rfl⟩ := e2
    refine .inr ⟨c, ow, σa, h, _, h1, k, e1, fun c1 H1 x E1 K1 R1 => ?_⟩
    obtain ⟨a, ys, rfl, _, e5, e6, e7⟩ := R1
    exact ⟨a, rfl, ⟨ys, .inl (.inl e5)⟩, f c1 H1 _ E1 K1 (ws_lst K1 T (.inl e5) e7 trivial e6)⟩
theorem sj_e (he : SE X e m) : SJ X tg e (jE m) := pi_imp (pi_or (pi_tup he) (pi_list he)) fun σ H Q q => by
  obtain ⟨c, ow, σa, h, items, chk, σa', h', k, e, f⟩ := q
  simp only [jE, Option.bind_eq_some_iff] at e
  obtain ⟨⟨r1, h1⟩, e1, e2⟩ := e
  cases r1 with
  | v w =>
    cases w with
    | tup zs =>
      simp only [Option.some.injEq, Prod.mk.injEq] at e2
      obtain ⟨rfl, rfl, rfl, rfl⟩ := e2
      refine .inl ⟨c, ow, σa, h, _, h1, k, e1, fun c1 H1 x E1 K1 R1 => ?_⟩
      obtain ⟨a, us, rfl, t1, v1⟩ := asT_rr (xs := zs) rfl R1
      have k1 := k.ext E1 K1
      exact ⟨a, rfl, ⟨us, .inl (.inl t1)⟩, f c1 ow H1 _ E1.s k1 (ws_tup K1 k1.tupP t1 v1)⟩
    | ref q =>
      dsimp only at e2
      split at e2
      · rename_i zs hz
        simp only [Option.some.injEq, Prod.mk.injEq] at e2
        obtain ⟨rfl, rfl, rfl, rfl⟩ := e2
        refine .inr ⟨c, ow, σa, h, _, h1, k, e1, fun c1 H1 x E1 K1 R1 => ?_⟩
        have R1' : VR c1 H1 (.ref q) x := R1
        unfold VR at R1'
        obtain ⟨a, rfl, e5⟩ := R1'
        obtain ⟨o, e6, e7⟩ := K1.cell q a e5
        rw [hz] at e6
        cases e6
        obtain ⟨ys, e8, e9⟩ := e7
        exact ⟨a, rfl, ⟨ys, .inl (.inl e8)⟩, f c1 ow H1 _ E1.s (k.ext E1 K1) (ws_cell K1 e5 hz)⟩
      · cases e2
    | _ => simp at e2
  | l zs => simp at e2
  | z zs => simp at e2
  | o zs =>
    simp only [Option.some.injEq, Prod.mk.injEq] at e2
    obtain ⟨rfl, rfl, rfl, rfl⟩ := e2
    refine .inr ⟨c, ow, σa, h, _, h1, k, e1, fun c1 H1 x E1 K1 R1 => ?_⟩
    obtain ⟨a, ys, rfl, e4, e5, e6, e7⟩ := R1
    have k1 := k.ext E1 K1
    exact ⟨a, rfl, ⟨ys, .inl (.inl e5)⟩, f c1 ow H1 _ E1.s k1 (ws_lst K1 k1.tupP (.inl e5) e7 (k.noown e4) e6)⟩
theorem sj_v (i : Nat) {x : Str} (hN : X.N[i]? = some x := by rfl) (hv : Vis X.env.scope x := by first | exact Or.inl rfl | exact Or.inr (Or.inl rfl) | exact Or.inr (Or.inr rfl)) (hd : (x == ("__debug__" : Str)) = false := by decide)
    (hcd : (x == ("__classdict__" : Str)) = false := by decide) : SJ X tg (.Name x pos) (jV i) := pi_imp (pi_or (pi_tup (pe_var hN hv hd hcd)) (pi_list (pe_var hN hv hd hcd))) fun σ H Q q => by
  obtain ⟨c, ow, σa, h, items, chk, σa', h', k, e, f⟩ := q
  unfold jV at e
  split at e
  · rename_i zs e0
    simp only [Option.some.injEq, Prod.mk.injEq] at e
    obtain ⟨rfl, rfl, rfl, rfl⟩ := e
    obtain ⟨y, e1, e2⟩ := k.sl i _ e0
    obtain ⟨a, us, rfl, t1, v1⟩ := asT_rr (H0 := H) (xs := zs) rfl (show RR c H H (.v (.tup zs)) y from e2)
    exact .inl ⟨_, e1, a, rfl, ⟨us, .inl (.inl t1)⟩, f c ow H _ (ExtS.refl c ow H) k (ws_tup k.hr k.tupP t1 v1)⟩
  · rename_i q e0
    split at e
    · rename_i zs hz
      simp only [Option.some.injEq, Prod.mk.injEq] at e
      obtain ⟨rfl, rfl, rfl, rfl⟩ := e
      obtain ⟨y, e1, e2⟩ := k.sl i _ e0
      have e2 : VR c H (.ref q) y := e2
      unfold VR at e2
      obtain ⟨a, rfl, e5⟩ := e2
      obtain ⟨o, e6, e7⟩ := k.hr.cell q a e5
      rw [hz] at e6
      cases e6
      obtain ⟨ys, e8, e9⟩ := e7
      exact .inr ⟨_, e1, a, rfl, ⟨ys, .inl (.inl e8)⟩, f c ow H _ (ExtS.refl c ow H) k (ws_cell k.hr e5 hz)⟩
    · cases e
  · rename_i zs e0
    simp only [Option.some.injEq, Prod.mk.injEq] at e
    obtain ⟨rfl, rfl, rfl, rfl⟩ := e
    obtain ⟨y, e1, e2⟩ := k.sl i _ e0
    obtain ⟨a, ys, rfl, e5, e6, e7, e8⟩ := e2
    exact .inr ⟨_, e1, a, rfl, ⟨ys, .inl (.inl e5)⟩, f c ow H _ (ExtS.refl c ow H) k (ws_lst k.hr k.tupP (.inl e5) e7 e8 e6)⟩
  · rename_i zs e0
    simp only [Option.some.injEq, Prod.mk.injEq] at e
    obtain ⟨rfl, rfl, rfl, rfl⟩ := e
    obtain ⟨y, e1, e2⟩ := k.sl i _ e0
    obtain ⟨a, ys, rfl, e5, e6, e7⟩ := e2
    have k1 := k.disown e0
    refine .inr ⟨_, e1, a, rfl, ⟨ys, .inl (.inl e5)⟩, f c _ H _ exts_drop k1 (ws_lst k1.hr k1.tupP (.inl e5) (k.oc i a e7).1 (fun l z => ?_) e6)⟩
    by_cases hl : l = i
    · rw [hl, put_same] at z; cases z
    · rw [put_ne hl] at z; exact hl (k.inj l i a z e7)
  · cases e
/-! range, zip -/
noncomputable def iR1 (m : ME) : MI := fun s h => (m s h).bind fun p => match p.1 with
  | .v (.int n) => if -(2 ^ 62) ≤ n ∧ n < 2 ^ 62 then some ((List.range n.toNat).map (fun (i : Nat) => .int (0 + (i : Int))), (fun _ => True), p.2) else none
  | _ => none
noncomputable def iR2 (m m' : ME) : MI := fun s h => (m s h).bind fun p => (m' s p.2).bind fun q => match p.1, q.1 with
  | .v (.int l), .v (.int n) => if -(2 ^ 62) ≤ l ∧ l < 2 ^ 62 ∧ -(2 ^ 62) ≤ n ∧ n < 2 ^ 62 then some ((List.range (n - l).toNat).map (fun (i : Nat) => .int (l + (i : Int))), (fun _ => True), q.2) else none
  | _, _ => none
noncomputable def iZ (m m' : ME) : MI := fun s h => (m s h).bind fun p => (m' s p.2).bind fun q => match p.1, q.1 with
  | .v (.tup xs), .v (.tup ys) => some ((xs.zip ys).map (fun p => .tup [p.1, p.2]), (fun _ => True), q.2)
  | .l xs, .l ys => some ((xs.zip ys).map (fun p => .tup [p.1, p.2]), (fun _ => True), q.2)
  | .l xs, .o ys => some ((xs.zip ys).map (fun p => .tup [p.1, p.2]), (fun _ => True), q.2)
  | _, _ => none
noncomputable def jI (m : MI) : MJ := fun s h => (m s h).map fun p => (p.1, p.2.1, s, p.2.2)
variable {a b : Expr} {p : Pos} {ma mb : ME}
theorem rd_rng1 {σ : St} {H : Hp} {Q : It → Hp → Prop} {c : List Addr} {ow : Ow} {σa : Sl} {h h' : Hh} {items : List Val} {chk : Hh → Prop} (k : Rel c ow σa h σ H) (e : iR1 ma σa h = some (items, chk, h')) (f : ∀ c' H' J, Ext c c' H H' → HR c' h' H' → (∀ c P H, WS c P H chk J items) → Q J H') :
    iRng1 (rdA (aCons ma aNil)) σ H Q := by
  simp only [iR1, Option.bind_eq_some_iff] at e
  obtain ⟨⟨r1, h1⟩, e1, e2⟩ := e
  refine ⟨c, ow, σa, h, [r1], h1, k, by simp [aCons, aNil, e1], fun c1 H1 xs E1 K1 R1 => ?_⟩
  obtain ⟨x, rfl, q1⟩ := rrs1 R1
  dsimp only at e2
  split at e2
  · rename_i n
    split at e2
    · rename_i hn
      simp only [Option.some.injEq, Prod.mk.injEq] at e2
      obtain ⟨rfl, rfl, rfl⟩ := e2
      exact ⟨n, by rw [int_rr q1], hn.1, hn.2, f c1 H1 _ E1 K1 ws_range⟩
    · cases e2
  · cases e2
theorem rd_rng2 {σ : St} {H : Hp} {Q : It → Hp → Prop} {c : List Addr} {ow : Ow} {σa : Sl} {h h' : Hh} {items : List Val} {chk : Hh → Prop} (k : Rel c ow σa h σ H) (e : iR2 ma mb σa h = some (items, chk, h')) (f : ∀ c' H' J, Ext c c' H H' → HR c' h' H' → (∀ c P H, WS c P H chk J items) → Q J H') :
    iRng2 (rdA (aCons ma (aCons mb aNil))) σ H Q := by
  simp only [iR2, Option.bind_eq_some_iff] at e
  obtain ⟨⟨r1, h1⟩, e1, ⟨r2, h2⟩, e2, e3⟩ := e
  refine ⟨c, ow, σa, h, [r1, r2], h2, k, by simp [aCons, aNil, e1, e2], fun c1 H1 xs E1 K1 R1 => ?_⟩
  obtain ⟨x, y, rfl, q1, q2⟩ := rrs2 R1
  dsimp only at e3
  split at e3
  · rename_i l n
    split at e3
    · rename_i hn
      simp only [Option.some.injEq, Prod.mk.injEq] at e3
      obtain ⟨rfl, rfl, rfl⟩ := e3
      exact ⟨l, n, by rw [int_rr q1, int_rr q2], hn, f c1 H1 _ E1 K1 ws_range⟩
    · cases e3
  · cases e3
theorem si_range1 (hm : X.mg "range" = none) (ha : SE X a ma) (hg : Gl X "range" := by rfl) (hs : starEach [a] X.env = [(false, eval a X.env)] := by rfl) : SI X tg (.Call (.Name "range" p) [a] [] pos) (iR1 ma) :=
  pi_imp (pi_range1 hg hm (sa_cons ha sa_nil hs) hs) fun σ H Q q => by
    obtain ⟨c, ow, σa, h, items, chk, h', k, e, f⟩ := q
    exact rd_rng1 k e fun c' H' J E K w => f c' H' J E K (w _ _ _)
theorem sj_range1 (hm : X.mg "range" = none) (ha : SE X a ma) (hg : Gl X "range" := by rfl) (hs : starEach [a] X.env = [(false, eval a X.env)] := by rfl) : SJ X tg (.Call (.Name "range" p) [a] [] pos) (jI (iR1 ma)) :=
  pi_imp (pi_range1 hg hm (sa_cons ha sa_nil hs) hs) fun σ H Q q => by
    obtain ⟨c, ow, σa, h, items, chk, σa', h', k, e, f⟩ := q
    simp only [jI, Option.map_eq_some_iff, Prod.mk.injEq] at e
    obtain ⟨⟨it, ck, h1⟩, e1, rfl, rfl, rfl, rfl⟩ := e
    exact rd_rng1 k e1 fun c' H' J E K w => f c' ow H' J E.s (k.ext E K) (w _ _ _)
theorem si_range2 (hm : X.mg "range" = none) (ha : SE X a ma) (hb : SE X b mb) (hg : Gl X "range" := by rfl) (hs : starEach [a, b] X.env = [(false, eval a X.env), (false, eval b X.env)] := by rfl) (hs2 : starEach [b] X.env = [(false, eval b X.env)] := by rfl) : SI X tg (.Call (.Name "range" p) [a, b] [] pos) (iR2 ma mb) :=
  pi_imp (pi_range2 hg hm (sa_cons ha (sa_cons hb sa_nil hs2) (by rw [hs, hs2])) hs hs2) fun σ H Q q => by
    obtain ⟨c, ow, σa, h, items, chk, h', k, e, f⟩ := q
    exact rd_rng2 k e fun c' H' J E K w => f c' H' J E K (w _ _ _)
theorem walk_zipT {K : PySem.W.Frag} {a b : Addr} {xs ys : List V} : Walk (ItzT K a b) (min xs.length ys.length) (fun H => SqT K H a xs ∧ SqT K H b ys) (YPair (fun i => xs[i]?) (fun i => ys[i]?)) := by
  refine ⟨fun i _ hi q => ?_, fun _ q => ⟨xs, ys, q.1, q.2, by omega⟩, fun i H v H' _ q y => ?_⟩
  · have h1 : i < xs.length := by omega
    have h2 : i < ys.length := by omega
    exact ⟨xs, ys, xs[i], ys[i], q.1, q.2, by simp [h1], by simp [h2]⟩
  · obtain ⟨T, x, z, h1, h2, h3, h4, h5⟩ := y
    exact ⟨T, x, z, h1, h2, h3, h4 xs q.1, h5 ys q.2⟩
theorem ws_zipT {K : PySem.W.Frag} {c : List Addr} {P : Addr → Prop} {h : Hh} {H : Hp} {a b : Addr} {vs ws : List Val} {xs ys : List V} (k : HR c h H) (hT : ∀ b ys, H b = some (.tup ys) → P b) (ha : H a = some (.tup xs)) (hb : H b = some (.tup ys)) (q : VRs c H vs xs) (r : VRs c H ws ys) :
    WS c P H (fun _ => True) (ItzT K a b) ((vs.zip ws).map fun p => .tup [p.1, p.2]) := by
  refine ⟨_, _, by rw [List.length_map, List.length_zip, q.length, r.length]; exact walk_zipT (K := K) (a := a) (b := b) (xs := xs) (ys := ys), fun c' h' H' pre kp k' _ _ => ?_⟩
  have tk := tk_kp k hT pre kp
  exact ⟨⟨.inl (.inl (tk.1 _ _ ha)), .inl (.inl (tk.1 _ _ hb))⟩, fun i x H'' hi y => ypair k' (VRs.mono tk _ _ q) (VRs.mono tk _ _ r) y (by simpa using hi)⟩
theorem ws_zipL {K : PySem.W.Frag} {c : List Addr} {P : Addr → Prop} {h : Hh} {H : Hp} {a b : Addr} {vs ws : List Val} {xs ys : List V} (k : HR c h H) (hT : ∀ b ys, H b = some (.tup ys) → P b) (ha : H a = some (.lst xs)) (hb : H b = some (.lst ys)) (q : VRs c H vs xs) (r : VRs c H ws ys) (na : a ∉ c) (nb : b ∉ c) (pa : P a) (pb : P b) :
    WS c P H (fun _ => True) (Itz K a b) ((vs.zip ws).map fun p => .tup [p.1, p.2]) := by
  refine ⟨_, _, by rw [List.length_map, List.length_zip, q.length, r.length]; exact walk_zip (K := K) (a := a) (b := b) (xs := xs) (ys := ys) rfl, fun c' h' H' pre kp k' _ _ => ?_⟩
  have tk := tk_kp k hT pre kp
  exact ⟨⟨.inl (.inl (kp _ _ ha na pa)), .inl (.inl (kp _ _ hb nb pb))⟩, fun i x H'' hi y => ypair k' (VRs.mono tk _ _ q) (VRs.mono tk _ _ r) y (by simpa using hi)⟩
theorem si_zip {elts : List Expr} {kk : Nat} {tpos : Pos} (hm : X.mg "zip" = none) (ha : SE X a ma) (hb : SE X b mb) (hg : Gl X "zip" := by rfl) (hs : starEach [a, b] X.env = (false, eval a X.env) :: starEach [b] X.env := by rfl) (hs2 : starEach [b] X.env = [(false, eval b X.env)] := by rfl) (hpl : (backTo pos (starEach [b] X.env)).any (·.1) = false := by rfl) :
    SI X (.Tuple elts kk tpos) (.Call (.Name "zip" p) [a, b] [] pos) (iZ ma mb) :=
  pi_imp (pi_zipA hg hm (sa_cons ha (sa_cons hb sa_nil hs2) hs) hs hpl) fun σ H Q q => by
    obtain ⟨c, ow, σa, h, items, chk, h', k, e, f⟩ := q
    simp only [iZ, Option.bind_eq_some_iff] at e
    obtain ⟨⟨r1, h1⟩, e1, ⟨r2, h2⟩, e2, e3⟩ := e
    refine ⟨c, ow, σa, h, [r1, r2], h2, k, by simp [aCons, aNil, e1, e2], fun c1 H1 xs E1 K1 R1 => ?_⟩
    obtain ⟨x, y, rfl, q1, q2⟩ := rrs2 R1
    dsimp only at e3
    split at e3
    · rename_i us ws
      simp only [Option.some.injEq, Prod.mk.injEq] at e3
      obtain ⟨rfl, rfl, rfl⟩ := e3
      obtain ⟨a1, ys, rfl, t1, v1⟩ := asT_rr (xs := us) rfl q1
      obtain ⟨a2, zs, rfl, t2, v2⟩ := asT_rr (xs := ws) rfl q2
      exact ⟨a1, a2, ys, zs, rfl, .inr ⟨.inl (.inl t1), .inl (.inl t2), f c1 H1 _ E1 K1 (ws_zipT K1 (fun _ _ _ => trivial) t1 t2 v1 v2)⟩⟩
    · simp only [Option.some.injEq, Prod.mk.injEq] at e3
      obtain ⟨rfl, rfl, rfl⟩ := e3
      obtain ⟨a1, ys, rfl, t1, v1, n1⟩ := q1
      obtain ⟨a2, zs, rfl, t2, v2, n2⟩ := q2
      exact ⟨a1, a2, ys, zs, rfl, .inl ⟨.inl (.inl t1), .inl (.inl t2), f c1 H1 _ E1 K1 (ws_zipL K1 (fun _ _ _ => trivial) t1 t2 v1 v2 n1 n2 trivial trivial)⟩⟩
    · simp only [Option.some.injEq, Prod.mk.injEq] at e3
      obtain ⟨rfl, rfl, rfl⟩ := e3
      obtain ⟨a1, ys, rfl, t1, v1, n1⟩ := q1
      obtain ⟨a2, zs, rfl, _, t2, v2, n2⟩ := q2
      exact ⟨a1, a2, ys, zs, rfl, .inl ⟨.inl (.inl t1), .inl (.inl t2), f c1 H1 _ E1 K1 (ws_zipL K1 (fun _ _ _ => trivial) t1 t2 v1 v2 n1 n2 trivial trivial)⟩⟩
    · cases e3
end
end NL
set_option Elab.async false
set_option linter.all false
set_option maxRecDepth 100000
set_option maxHeartbeats 4000000
set_option autoImplicit false
namespace NL
open PySem L2
open Classical
variable [HasK]

/-! ### for -/
noncomputable def forL (chk : Hh → Prop) (T : Tg) (b : MS) : List Val → MS
  | [], s, h => if chk h then some (.nx, s, h) else none
  | x :: xs, s, h => if chk h then (asg T x s).bind fun s1 => (b s1 h).bind fun p => match p.1 with
      | .nx => forL chk T b xs p.2.1 p.2.2
      | .ct => forL chk T b xs p.2.1 p.2.2
      | .bk => some (.nx, p.2.1, p.2.2)
      | .rt r => some (.rt r, p.2.1, p.2.2)
    else none
noncomputable def sFor (m : MJ) (T : Tg) (b : MS) : MS := fun s h => (m s h).bind fun p => forL p.2.1 T b p.1 p.2.2.1 p.2.2.2
theorem forL_chk {chk : Hh → Prop} {T : Tg} {b : MS} : ∀ {xs : List Val} {s : Sl} {h : Hh} {r : Fl × Sl × Hh}, forL chk T b xs s h = some r → chk h
  | [], s, h, r, e => by
    unfold forL at e
    split at e
    · assumption
    · cases e
  | x :: xs, s, h, r, e => by
    unfold forL at e
    split at e
    · assumption
    · cases e
theorem HR.step {c : List Addr} {h : Hh} {H H'' : Hp} (k : HR c h H) (e : H'' = H ∨ ∃ T o, H T = none ∧ H'' = upd H T o) : HR c h H'' ∧ Ext c c H H'' := by
  rcases e with rfl | ⟨T, o, hT, rfl⟩
  · exact ⟨k, Ext.refl _ _⟩
  · exact ⟨k.alloc hT, Ext.alloc hT⟩
theorem exts_sub {c : List Addr} {ow ow' : Ow} {H : Hp} (h : ∀ i a, ow' i = some a → ow i = some a) : ExtS c ow c ow' H H := ⟨⟨[], by simp⟩, fun a o h _ _ => h, fun a h n => absurd h n, fun a o h => ⟨o, h⟩, fun j a z => .inl ⟨j, h j a z⟩, fun _ _ _ h => h⟩
theorem rd_for {K : PySem.W.Frag} {m : MJ} {T : Tg} {b : MS} {D : Ends} {σ : St} {H : Hp} (q : rdS (sFor m T b) D σ H) : tFor (rdJ m) (gTg K T) (rdS b) D σ H := by
  obtain ⟨c, ow, σa, h, fl, σa', h', k, e, f⟩ := q
  simp only [sFor, Option.bind_eq_some_iff] at e
  obtain ⟨⟨items, chk, s1, h1⟩, e1, e2⟩ := e
  refine ⟨c, ow, σa, h, items, chk, s1, h1, k, e1, fun c1 ow1 H1 J E1 K1 ws => ?_⟩
  obtain ⟨G, Y, w, st⟩ := ws
  dsimp only at e2
  refine for_it w (fun i σ' H' => ∃ c' ow' s' hh', ExtS c1 ow1 c' ow' H1 H' ∧ Rel c' ow' s' hh' σ' H' ∧ forL chk T b (items.drop i) s' hh' = some (fl, σa', h'))
    ⟨c1, ow1, s1, h1, ExtS.refl _ _ _, K1, by simpa using e2⟩ ?_ ?_ ?_
  · rintro i σ' H' _ ⟨c', ow', s', hh', E, K', ef⟩
    exact (st c' hh' H' E.pre E.keep K'.hr (forL_chk ef) E.frz).1
  · rintro i x σ' H' H'' hi ⟨c', ow', s', hh', E, K', ef⟩ y
    obtain ⟨v, ev, eh, vr⟩ := (st c' hh' H' E.pre E.keep K'.hr (forL_chk ef) E.frz).2 i x H'' hi y
    obtain ⟨K2, E2⟩ := K'.hr.step eh
    have ed : items.drop i = v :: items.drop (i + 1) := by
      rw [List.getElem?_eq_getElem hi] at ev
      cases ev
      exact List.drop_eq_getElem_cons hi
    rw [ed] at ef
    unfold forL at ef
    split at ef
    · simp only [Option.bind_eq_some_iff] at ef
      obtain ⟨s2, ea, ⟨f3, s3, h3⟩, eb, er⟩ := ef
      refine tg_rd (W := T.slots) (K'.ext E2 K2) vr ea (fun _ z => z) fun ow'' σ'' hs kk _ => ?_
      have EE : ExtS c1 ow1 c' ow'' H1 H'' := (E.trans E2.s).trans (exts_sub hs)
      refine ⟨c', ow'', s2, hh', f3, s3, h3, kk, eb, fun c4 ow4 σ4 H4 E4 K4 => ?_⟩
      have E14 := EE.trans E4
      dsimp only at er
      cases f3 with
      | nx => exact ⟨c4, ow4, s3, h3, E14, K4, er⟩
      | ct => exact ⟨c4, ow4, s3, h3, E14, K4, er⟩
      | bk =>
        simp only [Option.some.injEq, Prod.mk.injEq] at er
        obtain ⟨rfl, rfl, rfl⟩ := er
        exact f c4 ow4 σ4 H4 (E1.trans E14) K4
      | rt r =>
        simp only [Option.some.injEq, Prod.mk.injEq] at er
        obtain ⟨rfl, rfl, rfl⟩ := er
        exact fun x hx => f c4 ow4 σ4 H4 (E1.trans E14) K4 x (RT.early (E1.trans EE) hx)
    · cases ef
  · rintro σ' H' ⟨c', ow', s', hh', E, K', ef⟩
    rw [List.drop_length] at ef
    unfold forL at ef
    split at ef
    · simp only [Option.some.injEq, Prod.mk.injEq] at ef
      obtain ⟨rfl, rfl, rfl⟩ := ef
      exact f c' ow' σ' H' (E1.trans E) K'
    · cases ef
theorem ss_for {X : Cx} {tg it : Expr} {body : List Stmt} {m : MJ} {T : Tg} {b : MS} {pos : Pos} (hc : X.calm = true) (hp : PassesOwn (model X.prog X.w) X.A X.env X.xe) (hi : SJ X tg it m) (hg : PG X tg (gTg X.K T)) (hb : SSs X body b)
    (hs : ∀ x, foldedSetIterable it X.env x = pure x := by intro _; rfl) : SS X (.For tg it body [] pos) (sFor m T b) := ps_imp (ps_for hp hc hi hg hb hs) fun _ _ _ => rd_for
end NL
set_option Elab.async false
set_option linter.all false
set_option maxRecDepth 100000
set_option maxHeartbeats 4000000
set_option autoImplicit false
namespace NL
open PySem L2
open Classical
variable [HasK]

/-! ### comprehensions -/
def wipeA (s : Sl) : List Nat → Sl
  | [] => s
  | v :: vs => (wipeA s vs).set v none
def dropW (ow : Ow) (W : List Nat) : Ow := fun i => if i ∈ W then none else ow i
theorem wipeA_some {s : Sl} {i : Nat} {r : R} : ∀ {W : List Nat}, (wipeA s W)[i]? = some (some r) → s[i]? = some (some r) ∧ i ∉ W
  | [], e => ⟨e, by simp⟩
  | v :: vs, e => by
    unfold wipeA at e
    by_cases hv : v = i
    · subst hv
      by_cases hl : v < (wipeA s vs).length
      · rw [List.getElem?_set_self hl] at e; cases e
      · rw [List.getElem?_eq_none (by rw [List.length_set]; omega)] at e; cases e
    · rw [List.getElem?_set_ne hv] at e
      obtain ⟨h1, h2⟩ := wipeA_some e
      exact ⟨h1, fun z => by
        rcases List.mem_cons.mp z with z | z
        · exact hv z.symm
        · exact h2 z⟩
theorem wipeA_length (s : Sl) : ∀ W : List Nat, (wipeA s W).length = s.length
  | [] => rfl
  | v :: vs => by unfold wipeA; rw [List.length_set, wipeA_length s vs]
theorem Rel.wipe {c : List Addr} {ow : Ow} {σa : Sl} {h : Hh} {σ : St} {H : Hp} (k : Rel c ow σa h σ H) (W : List Nat) : Rel c (dropW ow W) (wipeA σa W) h (L2.wipe σ W) H where
  hr := k.hr
  inj := fun i j a h1 h2 => by
    unfold dropW at h1 h2
    split at h1 <;> first | (cases h1; done) | skip
    split at h2 <;> first | (cases h2; done) | skip
    exact k.inj i j a h1 h2
  oc := fun i a h1 => by
    unfold dropW at h1
    split at h1 <;> first | (cases h1; done) | skip
    exact k.oc i a h1
  sl := fun i r e => by
    obtain ⟨e0, hi⟩ := wipeA_some e
    obtain ⟨x, e1, e2⟩ := k.sl i r e0
    refine ⟨x, by rw [wipe_out hi]; exact e1, ?_⟩
    have hq : ∀ (b : Addr), (∀ l, ow l ≠ some b) → ∀ l, dropW ow W l ≠ some b := fun b hb l z => by
      unfold dropW at z
      split at z
      · cases z
      · exact hb l z
    cases r with
    | v w => exact e2
    | l w =>
      obtain ⟨b, ys, e3, e4, e5, e6, e7⟩ := e2
      exact ⟨b, ys, e3, e4, e5, e6, hq b e7⟩
    | z w =>
      obtain ⟨b, ys, e3, e5, e6⟩ := e2
      exact ⟨b, ys, e3, e5, e6.imp (fun z => ⟨z.1, z.2.1, hq b z.2.2⟩) fun z => z⟩
    | o w =>
      obtain ⟨b, ys, e3, e4, e5, e6⟩ := e2
      exact ⟨b, ys, e3, e4, e5, by unfold dropW; rw [if_neg hi]; exact e6⟩
  len := by rw [wipeA_length, wipe_length, k.len]
theorem wipe_wipe (σ : St) (W : List Nat) : L2.wipe (L2.wipe σ W) W = L2.wipe σ W := by
  apply List.ext_getElem?
  intro j
  by_cases hj : j ∈ W
  · rw [wipe_in hj, wipe_in hj, wipe_length]
  · rw [wipe_out hj]
noncomputable def lcL (chk : Hh → Prop) (T : Tg) (t : MT) (e : ME) (s0 : Sl) : List Val → List Val → Hh → Option (List Val × Hh)
  | [], acc, h => if chk h then some (acc, h) else none
  | x :: xs, acc, h => if chk h ∧ acc.length < 1000000 then (asg T x s0).bind fun s1 => (t s1 h).bind fun p =>
      if p.1 then (e s1 p.2).bind fun q => match q.1 with
        | .v y => lcL chk T t e s0 xs (acc ++ [y]) q.2
        | _ => none
      else lcL chk T t e s0 xs acc p.2
    else none
noncomputable def mLc (W : List Nat) (m : MI) (T : Tg) (t : MT) (e : ME) : ME := fun s h => (m s h).bind fun p => (lcL p.2.1 T t e (wipeA s W) p.1 [] p.2.2).map fun q => (.o q.1, q.2)
def tYe : MT := fun _ h => some (true, h)
theorem lcL_chk {chk : Hh → Prop} {T : Tg} {t : MT} {e : ME} {s0 : Sl} : ∀ {xs acc : List Val} {h : Hh} {r : List Val × Hh}, lcL chk T t e s0 xs acc h = some r → chk h
  | [], acc, h, r, q => by
    unfold lcL at q
    split at q
    · assumption
    · cases q
  | x :: xs, acc, h, r, q => by
    unfold lcL at q
    split at q
    · rename_i z; exact z.1
    · cases q
/-- a list that the plain heap does not know is changed -/
theorem HR.other {c : List Addr} {h : Hh} {H : Hp} {D : Addr} {us ys : List V} (k : HR c h H) (hD : H D = some (.lst us)) (hn : D ∉ c) : HR c h (upd H D (.lst ys)) ∧ TK c c H (upd H D (.lst ys)) := by
  have tk : TK c c H (upd H D (.lst ys)) := ⟨fun a xs t => by
    rw [upd_ne (fun z => by rw [z, hD] at t; cases t)]; exact t, fun _ _ q => q⟩
  refine ⟨⟨k.nd, k.len, fun p a e => ?_⟩, tk⟩
  obtain ⟨o, e1, e2⟩ := k.cell p a e
  exact ⟨o, e1, e2.to tk fun u e3 => by rw [upd_ne (fun z => hn (by rw [← z]; exact List.mem_of_getElem? e))]; exact e3⟩
theorem rd_lc {K : PySem.W.Frag} {W : List Nat} {m : MI} {T : Tg} {t : MT} {e : ME} {σ : St} {H : Hp} {Q : VK} (hW : ∀ i ∈ T.slots, i ∈ W) (q : rdE (mLc W m T t e) σ H Q) : tLc (rdI m) (gTg K T) (rdT t) (rdE e) W σ H Q := by
  obtain ⟨c, ow, σa, h, r, h', k, ee, f⟩ := q
  simp only [mLc, Option.bind_eq_some_iff, Option.map_eq_some_iff, Prod.mk.injEq] at ee
  obtain ⟨⟨items, chk, h1⟩, e1, ⟨res, h2⟩, e2, rfl, rfl⟩ := ee
  dsimp only at e2
  refine ⟨c, ow, σa, h, items, chk, h1, k, e1, fun c1 H1 J E1 K1 ws D hD => ?_⟩
  obtain ⟨G, Y, w, st⟩ := ws
  have HD : H D = none := E1.back hD
  refine lc_it w (Qd := fun H' => Q (.ref D) H') (fun i H' => ∃ c' hh' acc ys, Ext c1 c' H1 H' ∧ HR c' hh' H' ∧ H' D = some (.lst ys) ∧ D ∉ c' ∧ VRs c' H' acc ys ∧ lcL chk T t e (wipeA σa W) (items.drop i) acc hh' = some (res, h2))
    ⟨c1, h1, [], [], Ext.alloc hD, K1.alloc hD, upd_same, K1.nin hD, VRs.nil, by simpa using e2⟩ ?_ ?_ ?_
  · rintro i H' _ ⟨c', hh', acc, ys, E, K', _, _, _, ef⟩
    exact (st c' hh' H' E.pre (fun a o z n _ => E.keep a o z n) K' (lcL_chk ef) E.frz).1
  · rintro i x H' H'' hi ⟨c', hh', acc, ys, E, K', eD, nD, vD, ef⟩ y
    obtain ⟨v, ev, eh, vr⟩ := (st c' hh' H' E.pre (fun a o z n _ => E.keep a o z n) K' (lcL_chk ef) E.frz).2 i x H'' hi y
    obtain ⟨K2, E2⟩ := K'.step eh
    have ed : items.drop i = v :: items.drop (i + 1) := by
      rw [List.getElem?_eq_getElem hi] at ev
      cases ev
      exact List.drop_eq_getElem_cons hi
    rw [ed] at ef
    unfold lcL at ef
    split at ef
    · rename_i hck
      simp only [Option.bind_eq_some_iff] at ef
      obtain ⟨s1, ea, ⟨bb, h3⟩, et, er⟩ := ef
      have kw := (k.ext ((E1.trans E).trans E2) K2).wipe W
      refine tg_rd (W := W) kw vr ea hW fun ow'' σ'' hs kk hw => ⟨?_, ?_⟩
      · rw [hw, wipe_wipe]
      · refine ⟨c', ow'', s1, hh', bb, h3, kk, et, fun c4 H4 E4 K4 => ?_⟩
        have eD2 : H'' D = some (.lst ys) := E2.keep _ _ eD nD
        have eD4 := E4.keep _ _ eD2 nD
        have nD4 := E4.notin eD2 nD
        have vD4 := VRs.mono (E4.tk K2) _ _ (VRs.mono (E2.tk K') _ _ vD)
        dsimp only at er
        cases bb with
        | false =>
          simp only [Bool.false_eq_true, if_false] at er ⊢
          exact ⟨c4, h3, acc, ys, (E.trans E2).trans E4, K4, eD4, nD4, vD4, er⟩
        | true =>
          simp only [if_true, Option.bind_eq_some_iff] at er ⊢
          obtain ⟨⟨ry, h5⟩, ey, er⟩ := er
          refine ⟨c4, ow'', s1, h3, ry, h5, kk.ext E4 K4, ey, fun c5 H5 y5 E5 K5 R5 => ?_⟩
          dsimp only at er
          cases ry with
          | v yy =>
            have eD5 := E5.keep _ _ eD4 nD4
            have nD5 := E5.notin eD4 nD4
            have vD5 := VRs.mono (E5.tk K4) _ _ vD4
            obtain ⟨K6, tk6⟩ := K5.other (ys := ys ++ [y5]) eD5 nD5
            refine ⟨ys, eD5, Nat.lt_of_lt_of_le (by rw [← vD.length]; exact hck.2) (by decide), c5, h5, acc ++ [yy], ys ++ [y5], ?_, K6, upd_same, nD5, VRs.mono tk6 _ _ (vD5.append (VRs.cons R5 VRs.nil)), er⟩
            have EE := ((E.trans E2).trans E4).trans E5
            refine ⟨EE.pre, fun a o z n => ?_, EE.new, fun a o z => ?_, fun a o u z => by rw [upd_ne (fun q => by rw [q, hD] at z; cases z)]; exact EE.frz a o u z⟩
            · rw [upd_ne (fun q => by rw [q, hD] at z; cases z)]; exact EE.keep a o z n
            · by_cases q : a = D
              · exact ⟨_, by rw [q]; exact upd_same⟩
              · rw [upd_ne q]; exact EE.dom a o z
          | l _ => simp at er
          | z _ => simp at er
          | o _ => simp at er
    · cases ef
  · rintro H' ⟨c', hh', acc, ys, E, K', eD, nD, vD, ef⟩
    rw [List.drop_length] at ef
    unfold lcL at ef
    split at ef
    · simp only [Option.some.injEq, Prod.mk.injEq] at ef
      obtain ⟨rfl, rfl⟩ := ef
      exact f c' H' _ (E1.trans E) K' ⟨D, ys, rfl, HD, eD, vD, nD⟩
    · cases ef
section
variable {X : Cx} {elt tg iter c' : Expr} {scope : Scope} {own : List (Str × Nat)} {pos : Pos} {m : MI} {T : Tg} {t : MT} {e : ME}
theorem pts_ye : PTs X [] (rdT tYe) := ⟨fun pins s σ H Q I q => (pts_nil (X := X)).run pins s σ H Q I (by
  obtain ⟨c, ow, σa, h, b, h', k, e, f⟩ := q
  simp only [tYe, Option.some.injEq, Prod.mk.injEq] at e
  obtain ⟨rfl, rfl⟩ := e
  exact f c H (Ext.refl c H) k.hr)⟩
/-- [elt for tg in iter] -/
theorem se_lc (own : List (Str × Nat)) (hc : X.calm = true) (hN : X.N.Nodup) (hi : SI X tg iter m) (ok : BlkOk X.N X.env.scope scope own)
    (hg : ∀ (s : Shared) (H : Hp) (C : Addr) (cl : List (Str × Addr)) (fp : List Addr), PG (X.blk s H scope (compEnvC scope cl C X.env) fp) tg (gTg X.K T))
    (he : ∀ (s : Shared) (H : Hp) (C : Addr) (cl : List (Str × Addr)) (fp : List Addr), SE (X.blk s H scope (compEnvC scope cl C X.env) fp) elt e) (hW : ∀ i ∈ T.slots, i ∈ own.map (·.2) := by decide) (hs : ∀ x, foldedSetIterable iter X.env x = pure x := by intro _; rfl) :
    SE X (.ListComp elt [⟨tg, iter, [], 0⟩] scope pos) (mLc (own.map (·.2)) m T tYe e) :=
  pe_imp (pe_lc hc hN hi ok hg (fun _ _ _ _ _ => pts_ye) he hs) fun _ _ _ => rd_lc hW
/-- [elt for tg in iter if c'] -/
theorem se_lcIf (own : List (Str × Nat)) (hc : X.calm = true) (hN : X.N.Nodup) (hi : SI X tg iter m) (ok : BlkOk X.N X.env.scope scope own)
    (hg : ∀ (s : Shared) (H : Hp) (C : Addr) (cl : List (Str × Addr)) (fp : List Addr), PG (X.blk s H scope (compEnvC scope cl C X.env) fp) tg (gTg X.K T))
    (ht : ∀ (s : Shared) (H : Hp) (C : Addr) (cl : List (Str × Addr)) (fp : List Addr), ST (X.blk s H scope (compEnvC scope cl C X.env) fp) c' t)
    (he : ∀ (s : Shared) (H : Hp) (C : Addr) (cl : List (Str × Addr)) (fp : List Addr), SE (X.blk s H scope (compEnvC scope cl C X.env) fp) elt e) (hW : ∀ i ∈ T.slots, i ∈ own.map (·.2) := by decide) (hs : ∀ x, foldedSetIterable iter X.env x = pure x := by intro _; rfl) :
    SE X (.ListComp elt [⟨tg, iter, [c'], 0⟩] scope pos) (mLc (own.map (·.2)) m T t e) :=
  pe_imp (pe_lc hc hN hi ok hg (fun s H C cl fp => pts_one (ht s H C cl fp)) he hs) fun _ _ _ => rd_lc hW
/-- name = [..] -/
theorem ss_lc (i : Nat) {y : Str} {py spos : Pos} (own : List (Str × Nat)) (hc : X.calm = true) (hN : X.N.Nodup) (hyl : X.env.scope.names.lookup y = some .local) (hsw : swapsWith (.ListComp elt [⟨tg, iter, [], 0⟩] scope pos) (some (.Name y py)) spos.line X.env = pure true) (hi : SI X tg iter m) (ok : BlkOk X.N X.env.scope scope own)
    (hg : ∀ (s : Shared) (H : Hp) (C : Addr) (cl : List (Str × Addr)) (fp : List Addr), PG (X.blk s H scope (compEnvC scope cl C X.env) fp) tg (gTg X.K T))
    (he : ∀ (s : Shared) (H : Hp) (C : Addr) (cl : List (Str × Addr)) (fp : List Addr), SE (X.blk s H scope (compEnvC scope cl C X.env) fp) elt e) (hy : X.N[i]? = some y := by rfl) (hW : ∀ i ∈ T.slots, i ∈ own.map (·.2) := by decide) (hs : ∀ x, foldedSetIterable iter X.env x = pure x := by intro _; rfl) :
    SS X (.Assign [.Name y py] (.ListComp elt [⟨tg, iter, [], 0⟩] scope pos) spos) (sSet i (mLc (own.map (·.2)) m T tYe e)) :=
  ps_imp (ps_setLc hc hN hy hyl hsw hi ok hg (fun _ _ _ _ _ => pts_ye) he hs) fun D σ H q => by
    have z := rd_set q
    exact rd_lc hW z
theorem ss_lcIf (i : Nat) {y : Str} {py spos : Pos} (own : List (Str × Nat)) (hc : X.calm = true) (hN : X.N.Nodup) (hyl : X.env.scope.names.lookup y = some .local) (hsw : swapsWith (.ListComp elt [⟨tg, iter, [c'], 0⟩] scope pos) (some (.Name y py)) spos.line X.env = pure true) (hi : SI X tg iter m) (ok : BlkOk X.N X.env.scope scope own)
    (hg : ∀ (s : Shared) (H : Hp) (C : Addr) (cl : List (Str × Addr)) (fp : List Addr), PG (X.blk s H scope (compEnvC scope cl C X.env) fp) tg (gTg X.K T))
    (ht : ∀ (s : Shared) (H : Hp) (C : Addr) (cl : List (Str × Addr)) (fp : List Addr), ST (X.blk s H scope (compEnvC scope cl C X.env) fp) c' t)
    (he : ∀ (s : Shared) (H : Hp) (C : Addr) (cl : List (Str × Addr)) (fp : List Addr), SE (X.blk s H scope (compEnvC scope cl C X.env) fp) elt e) (hy : X.N[i]? = some y := by rfl) (hW : ∀ i ∈ T.slots, i ∈ own.map (·.2) := by decide) (hs : ∀ x, foldedSetIterable iter X.env x = pure x := by intro _; rfl) :
    SS X (.Assign [.Name y py] (.ListComp elt [⟨tg, iter, [c'], 0⟩] scope pos) spos) (sSet i (mLc (own.map (·.2)) m T t e)) :=
  ps_imp (ps_setLc hc hN hy hyl hsw hi ok hg (fun s H C cl fp => pts_one (ht s H C cl fp)) he hs) fun D σ H q => by
    have z := rd_set q
    exact rd_lc hW z
end
end NL
set_option Elab.async false
set_option linter.all false
set_option maxRecDepth 100000
set_option maxHeartbeats 4000000
set_option autoImplicit false
namespace NL
open PySem L2
open Classical
variable [HasK]

/-! ### while -/
def whF (t : MT) (b : MS) : Nat → MS
  | 0, _, _ => none
  | n + 1, s, h => (t s h).bind fun p => if p.1 then (b s p.2).bind fun q => match q.1 with
      | .nx => whF t b n q.2.1 q.2.2
      | .ct => whF t b n q.2.1 q.2.2
      | .bk => some (.nx, q.2.1, q.2.2)
      | .rt r => some (.rt r, q.2.1, q.2.2)
    else some (.nx, s, p.2)
noncomputable def sWhile (t : MT) (b : MS) : MS := fun s h => if hh : ∃ n, (whF t b n s h).isSome then whF t b (Classical.choose hh) s h else none
theorem whF_mono {t : MT} {b : MS} : ∀ {n k : Nat} {s : Sl} {h : Hh} {r : Fl × Sl × Hh}, whF t b n s h = some r → n ≤ k → whF t b k s h = some r
  | 0, _, _, _, _, e, _ => by simp [whF] at e
  | n + 1, 0, _, _, _, _, hk => by omega
  | n + 1, k + 1, s, h, r, e, hk => by
    unfold whF at e ⊢
    simp only [Option.bind_eq_some_iff] at e ⊢
    obtain ⟨p, e1, e2⟩ := e
    refine ⟨p, e1, ?_⟩
    split at e2
    · rename_i hp
      rw [if_pos hp]
      simp only [Option.bind_eq_some_iff] at e2 ⊢
      obtain ⟨q, e3, e4⟩ := e2
      refine ⟨q, e3, ?_⟩
      split at e4
      · exact whF_mono e4 (by omega)
      · exact whF_mono e4 (by omega)
      · exact e4
      · exact e4
    · rename_i hp
      rw [if_neg hp]; exact e2
theorem sWhile_of {t : MT} {b : MS} {n : Nat} {s : Sl} {h : Hh} {r : Fl × Sl × Hh} (e : whF t b n s h = some r) : sWhile t b s h = some r := by
  have hh : ∃ n, (whF t b n s h).isSome := ⟨n, by rw [e]; rfl⟩
  unfold sWhile
  rw [dif_pos hh]
  have h1 := Classical.choose_spec hh
  obtain ⟨r', e'⟩ := Option.isSome_iff_exists.mp h1
  rw [e']
  by_cases hl : n ≤ Classical.choose hh
  · rw [whF_mono e hl] at e'; exact e'.symm
  · have := whF_mono e' (Nat.le_of_lt (Nat.lt_of_not_le hl))
    rw [e] at this; exact this.symm
theorem rd_while {t : MT} {b : MS} {D : Ends} {σ : St} {H : Hp} (q : rdS (sWhile t b) D σ H) : tWhile (rdT t) (rdS b) D σ H := by
  obtain ⟨c, ow, σa, h, fl, σa', h', k, e, f⟩ := q
  unfold sWhile at e
  split at e
  · rename_i hh
    refine ⟨fun n σ' H' => ∃ c1 ow1 s1 h1, ExtS c ow c1 ow1 H H' ∧ Rel c1 ow1 s1 h1 σ' H' ∧ whF t b n s1 h1 = some (fl, σa', h'), ⟨_, c, ow, σa, h, ExtS.refl _ _ _, k, e⟩, ?_⟩
    rintro n σ' H' ⟨c1, ow1, s1, h1, E1, K1, e1⟩
    cases n with
    | zero => simp [whF] at e1
    | succ n =>
      unfold whF at e1
      simp only [Option.bind_eq_some_iff] at e1
      obtain ⟨⟨bb, h2⟩, e2, e3⟩ := e1
      refine ⟨c1, ow1, s1, h1, bb, h2, K1, e2, fun c2 H2 E2 K2 => ?_⟩
      have k2 := K1.ext E2 K2
      have E12 : ExtS c ow c2 ow1 H H2 := E1.trans E2.s
      dsimp only at e3
      cases bb with
      | false =>
        simp only [Bool.false_eq_true, if_false, Option.some.injEq, Prod.mk.injEq] at e3 ⊢
        obtain ⟨rfl, rfl, rfl⟩ := e3
        exact f c2 ow1 σ' H2 E12 k2
      | true =>
        simp only [if_true, Option.bind_eq_some_iff] at e3 ⊢
        obtain ⟨⟨f3, s3, h3⟩, e4, e5⟩ := e3
        refine ⟨fun σ'' H'' => ∃ c4 ow4, ExtS c ow c4 ow4 H H'' ∧ Rel c4 ow4 s3 h3 σ'' H'' ∧ whF t b n s3 h3 = some (fl, σa', h'), fun σ'' H'' ⟨c4, ow4, E4, K4, e6⟩ => ⟨n, Nat.lt_succ_self n, c4, ow4, s3, h3, E4, K4, e6⟩, ?_⟩
        refine ⟨c2, ow1, s1, h2, f3, s3, h3, k2, e4, fun c4 ow4 σ4 H4 E4 K4 => ?_⟩
        dsimp only at e5
        cases f3 with
        | nx => exact ⟨c4, ow4, E12.trans E4, K4, e5⟩
        | ct => exact ⟨c4, ow4, E12.trans E4, K4, e5⟩
        | bk =>
          simp only [Option.some.injEq, Prod.mk.injEq] at e5
          obtain ⟨rfl, rfl, rfl⟩ := e5
          exact f c4 ow4 σ4 H4 (E12.trans E4) K4
        | rt r =>
          simp only [Option.some.injEq, Prod.mk.injEq] at e5
          obtain ⟨rfl, rfl, rfl⟩ := e5
          exact fun x hx => f c4 ow4 σ4 H4 (E12.trans E4) K4 x (RT.early E12 hx)
  · cases e
theorem ss_while {X : Cx} {c' : Expr} {body : List Stmt} {t : MT} {b : MS} {pos : Pos} (hp : PassesOwn (model X.prog X.w) X.A X.env X.xe) (hc : ST X c' t) (hb : SSs X body b) : SS X (.While c' body [] pos) (sWhile t b) := ps_imp (ps_while hp hc hb) fun _ _ _ => rd_while

/-! ### lists are changed -/
theorem HR.setCellO {c : List Addr} {h : Hh} {H : Hp} {p : Nat} {a : Addr} {ob : Ob} {u : HO} (k : HR c h H) (hp : c[p]? = some a) {ob0 : Ob} (e0 : h[p]? = some ob0) (hnf : ob0.nf = true) (q : TK c c H (upd H a u) → OR c (upd H a u) ob a) : HR c (h.set p ob) (upd H a u) ∧ Ext c c H (upd H a u) ∧ TK c c H (upd H a u) := by
  have ma : a ∈ c := List.mem_of_getElem? hp
  obtain ⟨us, ea, nt⟩ := k.dom ma
  have tk : TK c c H (upd H a u) := ⟨fun b zs t => by rw [upd_ne (fun z => by rw [z, ea] at t; cases t; exact nt _ rfl)]; exact t, fun _ _ q => q⟩
  refine ⟨⟨k.nd, by simp [k.len], fun l b e => ?_⟩, ⟨⟨[], by simp⟩, fun b o e n => by rw [upd_ne (show b ≠ a from fun z => n (by rw [z]; exact ma))]; exact e, fun b m n => absurd m n, fun b o e => ?_, fun b o v e => ?_⟩, tk⟩
  · by_cases hl : l = p
    · subst hl
      rw [hp] at e
      cases e
      have hlt : l < h.length := by
        rw [k.len]; exact (List.getElem?_eq_some_iff.mp hp).1
      exact ⟨ob, List.getElem?_set_self hlt, q tk⟩
    · obtain ⟨o, e1, e2⟩ := k.cell l b e
      have hb : b ≠ a := fun z => hl (by
        rw [z] at e
        obtain ⟨h1, e1⟩ := List.getElem?_eq_some_iff.mp e
        obtain ⟨h2, e2⟩ := List.getElem?_eq_some_iff.mp hp
        exact (List.getElem_inj k.nd).mp (e1.trans e2.symm))
      exact ⟨o, by rw [List.getElem?_set_ne (Ne.symm hl)]; exact e1, e2.to tk fun u e3 => by rw [upd_ne hb]; exact e3⟩
  · by_cases hb : b = a
    · exact ⟨_, by rw [hb]; exact upd_same⟩
    · exact ⟨o, by rw [upd_ne hb]; exact e⟩
  · obtain ⟨o1, f1, f2⟩ := k.cell p a hp
    rw [e0] at f1
    cases f1
    rw [upd_ne (show b ≠ a from fun z => f2.nf hnf o v (by rw [← z]; exact e))]
    exact e
theorem HR.setCell {c : List Addr} {h : Hh} {H : Hp} {p : Nat} {a : Addr} {xs : List Val} {ys : List V} (k : HR c h H) (hp : c[p]? = some a) {ob0 : Ob} (e0 : h[p]? = some ob0) (hnf : ob0.nf = true) (q : VRs c H xs ys) : HR c (h.set p (.lst xs)) (upd H a (.lst ys)) ∧ Ext c c H (upd H a (.lst ys)) ∧ TK c c H (upd H a (.lst ys)) :=
  k.setCellO (ob := .lst xs) hp e0 hnf fun tk => ⟨ys, upd_same, VRs.mono tk _ _ q⟩
theorem Rel.setOwn {c : List Addr} {ow : Ow} {σa : Sl} {h : Hh} {σ : St} {H : Hp} {i : Nat} {a : Addr} {zs xs : List Val} {ys : List V} (k : Rel c ow σa h σ H) (e : σa[i]? = some (some (.o zs))) (eo : ow i = some a) (es : σ[i]? = some (some (.ref a))) (q : VRs c H xs ys) :
    Rel c ow (σa.set i (some (.o xs))) h σ (upd H a (.lst ys)) ∧ ExtS c ow c ow H (upd H a (.lst ys)) := by
  obtain ⟨na, us, ea⟩ := k.oc i a eo
  obtain ⟨kh, tk⟩ := k.hr.other (ys := ys) ea na
  refine ⟨⟨kh, k.inj, fun j b z => ?_, fun j r e0 => ?_, by simp [k.len]⟩, ⟨⟨[], by simp⟩, fun b o z n m => by rw [upd_ne (show b ≠ a from fun w => m i (by rw [w]; exact eo))]; exact z, fun b m n => absurd m n, fun b o z => ?_, fun j b z => .inl ⟨j, z⟩, fun b o v z => by rw [upd_ne (fun w => by rw [w, ea] at z; cases z)]; exact z⟩⟩
  · obtain ⟨n, vs, e1⟩ := k.oc j b z
    refine ⟨n, ?_⟩
    by_cases hb : b = a
    · exact ⟨ys, by rw [hb]; exact upd_same⟩
    · exact ⟨vs, by rw [upd_ne hb]; exact e1⟩
  · by_cases hj : j = i
    · subst hj
      have hlt : j < σa.length := (List.getElem?_eq_some_iff.mp e).1
      rw [List.getElem?_set_self hlt] at e0
      simp only [Option.some.injEq] at e0
      subst e0
      exact ⟨.ref a, es, a, ys, rfl, upd_same, VRs.mono tk _ _ q, eo⟩
    · rw [List.getElem?_set_ne (Ne.symm hj)] at e0
      obtain ⟨y, e1, e2⟩ := k.sl j r e0
      refine ⟨y, e1, ?_⟩
      cases r with
      | v w => exact VR.mono tk _ _ e2
      | l w =>
        obtain ⟨b, vs, e3, e4, e5, e6, e7⟩ := e2
        exact ⟨b, vs, e3, by rw [upd_ne (show b ≠ a from fun z => e7 i (by rw [z]; exact eo))]; exact e4, VRs.mono tk _ _ e5, e6, e7⟩
      | z w =>
        obtain ⟨b, vs, e3, e5, e6⟩ := e2
        refine ⟨b, vs, e3, VRs.mono tk _ _ e5, e6.imp (fun z => ⟨?_, z.2⟩) fun z => z⟩
        obtain ⟨e4, e6, e7⟩ := z
        rcases e4 with e4 | ⟨o, e4⟩
        · exact .inl (by rw [upd_ne (show b ≠ a from fun z => e7 i (by rw [z]; exact eo))]; exact e4)
        · exact .inr ⟨o, by rw [upd_ne (show b ≠ a from fun z => e7 i (by rw [z]; exact eo))]; exact e4⟩
      | o w =>
        obtain ⟨b, vs, e3, e4, e5, e6⟩ := e2
        exact ⟨b, vs, e3, by rw [upd_ne (show b ≠ a from fun z => hj (k.inj j i a (by rw [← z]; exact e6) eo))]; exact e4, VRs.mono tk _ _ e5, e6⟩
  · by_cases hb : b = a
    · exact ⟨_, by rw [hb]; exact upd_same⟩
    · exact ⟨o, by rw [upd_ne hb]; exact z⟩
/-- a list of the plain heap -/
def isLs (h : Hh) (q : Nat) : Bool := match h[q]? with
  | some (.lst _) => true
  | _ => false
theorem isLs_rr {c : List Addr} {h : Hh} {H : Hp} {q : Nat} {a : Addr} (k : HR c h H) (e : c[q]? = some a) (l : isLs h q = true) : ∃ us, H a = some (.lst us) := by
  obtain ⟨o, e1, e2⟩ := k.cell q a e
  unfold isLs at l
  rw [e1] at l
  cases o with
  | lst xs => obtain ⟨ys, e3, _⟩ := e2; exact ⟨ys, e3⟩
  | _ => cases l
theorem isLs_of {h : Hh} {q : Nat} {xs : List Val} (e : h[q]? = some (.lst xs)) : isLs h q = true := by unfold isLs; rw [e]
/-- x.append(e), x a name: an own list, or one of the plain heap -/
def sApp (i : Nat) (m : ME) : MS := fun s h => match s[i]? with
  | some (some (.o xs)) => (m s h).bind fun p => match p.1 with
    | .v y => if xs.length < 1000000 then some (.nx, s.set i (some (.o (xs ++ [y]))), p.2) else none
    | _ => none
  | some (some (.v (.ref q))) => if isLs h q then (m s h).bind fun p => match p.1 with
    | .v y => match p.2[q]? with
      | some (.lst xs) => if xs.length < 1000000 then some (.nx, s, p.2.set q (.lst (xs ++ [y]))) else none
      | _ => none
    | _ => none else none
  | _ => none
theorem szlt {n : Nat} (h : n < 1000000) : n < sizeLine := Nat.lt_of_lt_of_le h (by decide)
theorem rd_app {K : PySem.W.Frag} {i : Nat} {m : ME} {D : Ends} {σ : St} {H : Hp} (q : rdS (sApp i m) D σ H) : tDrop (tBM K "list" rAppend (tVar i) (tCons (rdE m) tNil)) D σ H := by
  obtain ⟨c, ow, σa, h, fl, σa', h', k, e, f⟩ := q
  unfold sApp at e
  split at e
  · rename_i xs e0
    simp only [Option.bind_eq_some_iff] at e
    obtain ⟨⟨r1, h1⟩, e1, e2⟩ := e
    obtain ⟨y, es, a, ys, rfl, e3, e4, e5⟩ := k.sl i _ e0
    refine ⟨_, es, .inl ⟨rfl, ys, .inl (.inl e3)⟩, c, ow, σa, h, r1, h1, k, e1, fun c1 H1 x E1 K1 R1 => ?_⟩
    have k1 := k.ext E1 K1
    have na := (k.oc i a e5).1
    dsimp only at e2
    cases r1 with
    | v y =>
      dsimp only at e2
      split at e2
      · rename_i hl
        simp only [Option.some.injEq, Prod.mk.injEq] at e2
        obtain ⟨rfl, rfl, rfl⟩ := e2
        have e4' := VRs.mono (E1.tk k.hr) _ _ e4
        refine ⟨a, ys, x, rfl, rfl, E1.keep _ _ e3 na, szlt (by rw [← e4.length]; exact hl), ?_⟩
        obtain ⟨k2, x2⟩ := k1.setOwn e0 e5 es (e4'.append (VRs.cons R1 VRs.nil))
        exact f c1 ow σ _ (E1.s.trans x2) k2
      · cases e2
    | l _ => simp at e2
    | z _ => simp at e2
    | o _ => simp at e2
  · rename_i q e0
    split at e
    case isFalse => cases e
    rename_i hls
    simp only [Option.bind_eq_some_iff] at e
    obtain ⟨⟨r1, h1⟩, e1, e2⟩ := e
    obtain ⟨y, es, e3⟩ := k.sl i _ e0
    have e3 : VR c H (.ref q) y := e3
    unfold VR at e3
    obtain ⟨a, rfl, e4⟩ := e3
    obtain ⟨us, ea⟩ := isLs_rr k.hr e4 hls
    refine ⟨_, es, .inl ⟨rfl, us, .inl (.inl ea)⟩, c, ow, σa, h, r1, h1, k, e1, fun c1 H1 x E1 K1 R1 => ?_⟩
    have k1 := k.ext E1 K1
    dsimp only at e2
    cases r1 with
    | v y =>
      dsimp only at e2
      split at e2
      · rename_i xs ex
        split at e2
        · rename_i hl
          simp only [Option.some.injEq, Prod.mk.injEq] at e2
          obtain ⟨rfl, rfl, rfl⟩ := e2
          have e5 := E1.get e4
          obtain ⟨o, e6, e7⟩ := K1.cell q a e5
          rw [ex] at e6
          cases e6
          obtain ⟨ys, e8, e9⟩ := e7
          obtain ⟨k2, x2, tk2⟩ := K1.setCell e5 ex rfl (e9.append (VRs.cons R1 VRs.nil))
          refine ⟨a, ys, x, rfl, rfl, e8, szlt (by rw [← e9.length]; exact hl), ?_⟩
          exact f c1 ow σ _ (E1.trans x2).s (k1.ext x2 k2)
        · cases e2
      · cases e2
    | l _ => simp at e2
    | z _ => simp at e2
    | o _ => simp at e2
  · cases e
section
variable {X : Cx} {e o ix : Expr} {m mo mi : ME} {pos apos cpos tpos : Pos}
theorem ss_append (i : Nat) {x : Str} {p : Pos} (he : SE X e m) (hN : X.N[i]? = some x := by rfl) (hv : Vis X.env.scope x := by first | exact Or.inl rfl | exact Or.inr (Or.inl rfl) | exact Or.inr (Or.inr rfl)) (hd : (x == ("__debug__" : Str)) = false := by decide)
    (hcd : (x == ("__classdict__" : Str)) = false := by decide)
    (hbase : attributeBase (.Name x p) "append" X.env (eval (.Name x p) X.env) = eval (.Name x p) X.env := by rfl)
    (hfew : ((backTo cpos (starEach [e] X.env)).all (fun x => !x.1) && (backToKw cpos (keywordEach [] X.env)).all (fun x => x.1.isSome) && decide (([e] : List Expr).length + ([] : List Keyword).length + (if ([] : List Keyword).isEmpty then 0 else 1) < 30)) = true := by rfl)
    (hline : (apos.endLine == cpos.line) = true := by rfl) (hs : starEach [e] X.env = (false, eval e X.env) :: starEach [] X.env := by rfl) (hplain : (backTo cpos (starEach [] X.env)).any (·.1) = false := by rfl)
    (hsw : swapsWith (.Call (.Attribute (.Name x p) "append" apos) [e] [] cpos) none pos.line X.env = pure false := by rfl) :
    SS X (.Expr (.Call (.Attribute (.Name x p) "append" apos) [e] [] cpos) pos) (sApp i m) :=
  ps_imp (ps_expr (pe_bm PySem.F.plainAttrs_list PySem.F.slot_list_append PySem.F.type_list_append mt_append (pe_var hN hv hd hcd) (pa_cons he pa_nil hs) hbase hfew hline hs hplain) hsw) fun _ _ _ => rd_app
/-- o[i] = e of a list of the plain heap -/
def sPut (mo mi m : ME) : MS := fun s h => (m s h).bind fun p => (mo s p.2).bind fun q => (mi s q.2).bind fun r => match p.1, q.1, r.1 with
  | .v y, .v (.ref l), .v (.int k) => match r.2[l]? with
    | some (.lst xs) => (ixN xs.length k).map fun j => (.nx, s, r.2.set l (.lst (xs.set j y)))
    | _ => none
  | _, _, _ => none
theorem ss_put (he : SE X e m) (ho : SE X o mo) (hi : SE X ix mi) (ha : ∀ v, assign (.Subscript o ix tpos) X.env v = (do
      let ov ← holding [v] (eval o X.env)
      let iv ← holding [v, ov] (eval ix X.env)
      standAt tpos
      holding [v, ov, iv] (setItem ov iv v)
      release [v, ov, iv] []) := by intro _; rfl) (hs : swapsWithSole [.Subscript o ix tpos] e pos.line X.env = pure false := by rfl) (hw : swappedStores [.Subscript o ix tpos] e X.env = pure none := by rfl)
    (h1 : (assignEach [.Subscript o ix tpos] X.env).map (·.2) = [assign (.Subscript o ix tpos) X.env] := by rfl) : SS X (.Assign [.Subscript o ix tpos] e pos) (sPut mo mi m) :=
  ps_imp (ps_asg he (pg_sub ho hi set_list ha) hs hw h1) fun D σ H q => by
    obtain ⟨c, ow, σa, h, fl, σa', h', k, e, f⟩ := q
    simp only [sPut, Option.bind_eq_some_iff] at e
    obtain ⟨⟨r1, h1⟩, e1, ⟨r2, h2⟩, e2, ⟨r3, h3⟩, e3, e4⟩ := e
    refine ⟨c, ow, σa, h, r1, h1, k, e1, fun c1 H1 x E1 K1 R1 => ?_⟩
    have k1 := k.ext E1 K1
    refine ⟨c1, ow, σa, h1, r2, h2, k1, e2, fun c2 H2 y E2 K2 R2 => ?_⟩
    have k2 := k1.ext E2 K2
    refine ⟨c2, ow, σa, h2, r3, h3, k2, e3, fun c3 H3 z E3 K3 R3 => ?_⟩
    have k3 := k2.ext E3 K3
    dsimp only at e4
    split at e4
    · rename_i y' l kk
      split at e4
      · rename_i xs ex
        simp only [Option.map_eq_some_iff, Prod.mk.injEq] at e4
        obtain ⟨j, ej, rfl, rfl, rfl⟩ := e4
        have R1' : VR c3 H3 _ x := RR.mono (E2.trans E3) K1 R1
        have R2' : VR c3 H3 (.ref l) y := RR.mono E3 K2 R2
        unfold VR at R2'
        obtain ⟨a, rfl, e5⟩ := R2'
        obtain ⟨ob, e6, e7⟩ := K3.cell l a e5
        rw [ex] at e6
        cases e6
        obtain ⟨ys, e8, e9⟩ := e7
        obtain ⟨K4, x4, _⟩ := K3.setCell e5 ex rfl (e9.set R1' j)
        exact ⟨a, ys, kk, j, rfl, int_rr R3, e8, by rw [← e9.length]; exact ej, f c3 ow σ _ (((E1.trans E2).trans E3).trans x4).s (k3.ext x4 K4)⟩
      · cases e4
    · cases e4
end
end NL
set_option Elab.async false
set_option linter.all false
set_option maxRecDepth 100000
set_option maxHeartbeats 4000000
set_option autoImplicit false
namespace NL
open PySem L2
open Classical
variable [HasK]

/-! ### a, b = e -/
def sUnp (T : Tg) (m : ME) : MS := fun s h => (m s h).bind fun p => match p.1 with
  | .v x => (asg T x s).map fun s' => (.nx, s', p.2)
  | _ => none
section
variable {X : Cx} {tg e : Expr} {T : Tg} {m : ME} {pos : Pos}
theorem ss_unp (he : SE X e m) (hg : PG X tg (gTg X.K T)) (hs : swapsWithSole [tg] e pos.line X.env = pure false := by rfl) (hw : swappedStores [tg] e X.env = pure none := by rfl)
    (h1 : (assignEach [tg] X.env).map (·.2) = [assign tg X.env] := by rfl) : SS X (.Assign [tg] e pos) (sUnp T m) := ps_imp (ps_asg he hg hs hw h1) fun D σ H q => by
  obtain ⟨c, ow, σa, h, fl, σa', h', k, e, f⟩ := q
  simp only [sUnp, Option.bind_eq_some_iff] at e
  obtain ⟨⟨r1, h1⟩, e1, e2⟩ := e
  refine ⟨c, ow, σa, h, r1, h1, k, e1, fun c1 H1 x E1 K1 R1 => ?_⟩
  dsimp only at e2
  cases r1 with
  | v y =>
    simp only [Option.map_eq_some_iff, Prod.mk.injEq] at e2
    obtain ⟨s', e3, rfl, rfl, rfl⟩ := e2
    exact tg_rd (W := T.slots) (k.ext E1 K1) R1 e3 (fun _ z => z) fun ow' σ' hs kk _ => f c1 ow' σ' H1 (E1.s.trans (exts_sub hs)) kk
  | l _ => simp at e2
  | z _ => simp at e2
  | o _ => simp at e2
end

/-! ### a, b, .. = x, y, .. : values -/
def sParV (is : List Nat) (t : MA) : MS := fun s h => (t s h).bind fun p => (vals p.1).bind fun vs => (setAll is vs s).map fun s' => (.nx, s', p.2)
def setSt : List Nat → List V → St → St
  | i :: is, x :: xs, σ => setSt is xs (σ.set i (some x))
  | _, _, σ => σ
theorem setAll_rel {c : List Addr} {h : Hh} {H : Hp} {ow0 : Ow} : ∀ {is : List Nat} {vs : List Val} {xs : List V} {ow : Ow} {σa σa' : Sl} {σ : St}, Rel c ow σa h σ H → VRs c H vs xs → setAll is vs σa = some σa' → (∀ i a, ow i = some a → ow0 i = some a) →
    ∃ ow', (∀ i a, ow' i = some a → ow0 i = some a) ∧ Rel c ow' σa' h (setSt is xs σ) H
  | [], [], xs, ow, σa, σa', σ, k, q, e, ho => by
    simp only [setAll, Option.some.injEq] at e
    subst e
    refine ⟨ow, ho, ?_⟩
    cases xs <;> exact k
  | i :: is, v :: vs, xs, ow, σa, σa', σ, k, q, e, ho => by
    simp only [setAll] at e
    unfold VRs at q
    obtain ⟨y, ys, rfl, q1, q2⟩ := q
    show ∃ ow', _ ∧ Rel c ow' σa' h (setSt is ys (σ.set i (some y))) H
    refine setAll_rel (k.setV q1) q2 e fun j a z => ?_
    by_cases hj : j = i
    · rw [hj, put_same] at z; cases z
    · rw [put_ne hj] at z; exact ho j a z
  | [], _ :: _, _, _, _, _, _, _, _, e, _ => by simp [setAll] at e
  | _ :: _, [], _, _, _, _, _, _, _, e, _ => by simp [setAll] at e
section
variable {X : Cx} {a b d : Expr} {t : MA} {pos px py pz pt : Pos} {kt k2 : Nat} {pt2 : Pos} {x y z : Str}
theorem rd_par {is : List Nat} {D : Ends} {σ : St} {H : Hp} (q : rdS (sParV is t) D σ H) : rdA t σ H fun xs H1 => xs.length = is.length ∧ D.nx (setSt is xs σ) H1 := by
  obtain ⟨c, ow, σa, h, fl, σa', h', k, e, f⟩ := q
  simp only [sParV, Option.bind_eq_some_iff, Option.map_eq_some_iff, Prod.mk.injEq] at e
  obtain ⟨⟨rs, h1⟩, e1, vs, e2, s', e3, rfl, rfl, rfl⟩ := e
  refine ⟨c, ow, σa, h, rs, h1, k, e1, fun c1 H1 xs E1 K1 R1 => ?_⟩
  have v := vals_rr e2 R1
  obtain ⟨ow', hs, kk⟩ := setAll_rel (k.ext E1 K1) v e3 (fun _ _ z => z)
  exact ⟨by rw [← v.length, setAll_len e3], f c1 ow' _ H1 (E1.s.trans (exts_sub hs)) kk⟩
theorem rdA_mono {σ : St} {H : Hp} {Q Q' : List V → Hp → Prop} (q : rdA t σ H Q) (f : ∀ xs H, Q xs H → Q' xs H) : rdA t σ H Q' := by
  obtain ⟨c, ow, σa, h, rs, h', k, e, g⟩ := q
  exact ⟨c, ow, σa, h, rs, h', k, e, fun c' H' xs E K R => f xs H' (g c' H' xs E K R)⟩
theorem ss_par2 (i j : Nat) (hc : X.calm = true) (hN : X.N.Nodup) (hx : X.env.scope.names.lookup x = some .local) (hy : X.env.scope.names.lookup y = some .local) (ha : SA X [a, b] t)
    (hw : swappedStores [.Tuple [.Name x px, .Name y py] kt pt] (.Tuple [a, b] k2 pt2) X.env = pure (some [x, y]))
    (hi : X.N[i]? = some x := by rfl) (hj : X.N[j]? = some y := by rfl) (hij : i ≠ j := by decide)
    (hs : swapsWithSole [.Tuple [.Name x px, .Name y py] kt pt] (.Tuple [a, b] k2 pt2) pos.line X.env = pure false := by rfl) :
    SS X (.Assign [.Tuple [.Name x px, .Name y py] kt pt] (.Tuple [a, b] k2 pt2) pos) (sParV [i, j] t) := ps_imp (ps_par hc hN hi hj hij hx hy ha hw hs) fun D σ H q => rdA_mono (rd_par q) fun xs H1 ⟨hl, hd⟩ => by
  match xs, hl with
  | [v, w], _ => exact ⟨v, w, rfl, hd⟩
theorem ss_par3 (i j l : Nat) (hc : X.calm = true) (hN : X.N.Nodup) (hx : X.env.scope.names.lookup x = some .local) (hy : X.env.scope.names.lookup y = some .local) (hz : X.env.scope.names.lookup z = some .local) (ha : SA X [a, b, d] t)
    (hw : swappedStores [.Tuple [.Name x px, .Name y py, .Name z pz] kt pt] (.Tuple [a, b, d] k2 pt2) X.env = pure (some [x, y, z]))
    (hi : X.N[i]? = some x := by rfl) (hj : X.N[j]? = some y := by rfl) (hl : X.N[l]? = some z := by rfl) (hij : i ≠ j := by decide) (hil : i ≠ l := by decide) (hjl : j ≠ l := by decide)
    (hs : swapsWithSole [.Tuple [.Name x px, .Name y py, .Name z pz] kt pt] (.Tuple [a, b, d] k2 pt2) pos.line X.env = pure false := by rfl) :
    SS X (.Assign [.Tuple [.Name x px, .Name y py, .Name z pz] kt pt] (.Tuple [a, b, d] k2 pt2) pos) (sParV [i, j, l] t) := ps_imp (ps_par3 hc hN hi hj hl hij hil hjl hx hy hz ha hw hs) fun D σ H q => rdA_mono (rd_par q) fun xs H1 ⟨hl, hd⟩ => by
  match xs, hl with
  | [v, w, u], _ => exact ⟨v, w, u, rfl, hd⟩
end

/-! ### defs -/
abbrev FM := List R → Hh → Option (R × Hh)
/-- an argument: read alone -/
def RA (c : List Addr) (H : Hp) : R → V → Prop
  | .v v, x => VR c H v x
  | .l xs, x => ∃ a ys, x = .ref a ∧ H a = some (.lst ys) ∧ VRs c H xs ys ∧ a ∉ c
  | .z xs, x => ∃ a ys, x = .ref a ∧ VRs c H xs ys ∧ ((Rd H a (.lst ys) ∧ a ∉ c) ∨ KL a ys)
  | .o _, _ => False
def RAs (c : List Addr) (H : Hp) : List R → List V → Prop
  | [], xs => xs = []
  | r :: rs, xs => ∃ y ys, xs = y :: ys ∧ RA c H r y ∧ RAs c H rs ys
theorem RA.of {c : List Addr} {H0 H : Hp} : ∀ {r : R} {x : V}, RR c H0 H r x → RA c H (bor r) x
  | .v _, _, q => q
  | .l _, _, q => q
  | .z _, _, q => q
  | .o _, _, ⟨a, ys, e1, _, e2, e3, e4⟩ => ⟨a, ys, e1, e2, e3, e4⟩
theorem RAs.of {c : List Addr} {H0 H : Hp} : ∀ {rs : List R} {xs : List V}, RRs c H0 H rs xs → RAs c H (rs.map bor) xs
  | [], _, q => q
  | r :: rs, xs, ⟨y, ys, e1, e2, e3⟩ => ⟨y, ys, e1, RA.of e2, RAs.of e3⟩
theorem RAs.length {c : List Addr} {H : Hp} : ∀ {rs : List R} {xs : List V}, RAs c H rs xs → rs.length = xs.length
  | [], _, q => by unfold RAs at q; subst q; rfl
  | r :: rs, xs, ⟨y, ys, e1, e2, e3⟩ => by subst e1; simp [RAs.length e3]
/-- what a def promises: its plain meaning -/
def spM (np : Nat) (f : FM) : Sp := fun vs H Q _ => ∃ c h rs r h', HR c h H ∧ RAs c H rs vs ∧ rs.length = np ∧ f rs h = some (r, h') ∧ ∀ c' H' x, Ext c c' H H' → HR c' h' H' → RT c' (fun _ => none) H H' r x → Q x H'
def mDef (n np : Nat) (b : MS) : FM := fun rs h => if rs.length = np then match b (rs.map some ++ List.replicate (n - np) none) h with
  | some (.rt r, _, h') => some (r, h')
  | some (.nx, _, h') => some (.v .non, h')
  | _ => none
  else none
def mCall (f : FM) (t : MA) : ME := fun s h => (t s h).bind fun p => f (p.1.map bor) p.2
theorem RAs.get {c : List Addr} {H : Hp} : ∀ {rs : List R} {xs : List V} {i : Nat} {r : R}, RAs c H rs xs → rs[i]? = some r → ∃ x, xs[i]? = some x ∧ RA c H r x
  | [], _, _, _, _, e => by simp at e
  | r :: rs, xs, 0, r', ⟨y, ys, e1, e2, e3⟩, e => by
    subst e1
    simp at e; subst e
    exact ⟨y, rfl, e2⟩
  | r :: rs, xs, i + 1, r', ⟨y, ys, e1, e2, e3⟩, e => by
    subst e1
    obtain ⟨x, h1, h2⟩ := RAs.get (i := i) e3 (by simpa using e)
    exact ⟨x, by simpa using h1, h2⟩
theorem rel_start {c : List Addr} {h : Hh} {H : Hp} {rs : List R} {vs : List V} {n np : Nat} {N : List Str} (hN : N.length = n) (k : HR c h H) (q : RAs c H rs vs) (hl : rs.length = np) : Rel c (fun _ => none) (rs.map some ++ List.replicate (n - np) none) h (L2.start N vs) H where
  hr := k
  inj := fun _ _ _ z => by cases z
  oc := fun _ _ z => by cases z
  sl := fun i r e => by
    have hi : i < rs.length := by
      by_cases hi : i < rs.length
      · exact hi
      · rw [List.getElem?_append_right (by simpa using Nat.le_of_not_lt hi)] at e
        obtain ⟨_, e2⟩ := List.getElem?_eq_some_iff.mp e
        simp at e2
    rw [List.getElem?_append_left (by simpa using hi), List.getElem?_map] at e
    simp only [Option.map_eq_some_iff] at e
    obtain ⟨r', e1, e2⟩ := e
    cases e2
    obtain ⟨x, e3, e4⟩ := q.get e1
    refine ⟨x, ?_, ?_⟩
    · unfold L2.start
      rw [List.getElem?_append_left (by rw [List.length_map]; exact (List.getElem?_eq_some_iff.mp e3).1), List.getElem?_map, e3]; rfl
    · cases r with
      | v _ => exact e4
      | l _ =>
        obtain ⟨a, ys, h1, h2, h3, h4⟩ := e4
        exact ⟨a, ys, h1, h2, h3, h4, fun _ z => by cases z⟩
      | z _ =>
        obtain ⟨a, ys, h1, h2, h3⟩ := e4
        exact ⟨a, ys, h1, h2, h3.imp (fun z => ⟨z.1, z.2, fun _ z => by cases z⟩) fun z => z⟩
      | o _ => exact e4.elim
  len := by
    unfold L2.start
    have := q.length
    simp only [List.length_append, List.length_map, List.length_replicate]
    omega
theorem ExtS.ext {c c' : List Addr} {ow' : Ow} {H H' : Hp} (e : ExtS c (fun _ => none) c' ow' H H') : Ext c c' H H' := ⟨e.pre, fun a o h n => e.keep a o h n (fun _ z => (by cases z)), e.new, e.dom, e.frz⟩
section
variable {P : Program} {w : World} {K : PySem.W.Frag} {mg : Str → Option Value} {base : Heap}
/-- a def keeps its plain meaning -/
theorem fn_ok {x qual : Str} {st : Stmt} {f : Addr} {fd : FuncData} {N ps : List Str} {k : Nat} {mb : MS} (F : Fun K x qual st f fd) (S : FnScope N ps (defScope st))
    (hb : ∀ (cdv : Value) (A : Around) (outer : List Env) (s : Shared) (H : Hp) (E : XK), Room k (A.deeper (PyProof.Rows.envOfC qual (defScope st) s.heap.objs.size f cdv)) → SSs (cxOf CX0 P w K mg base N qual (defScope st) f cdv A outer s H E).nox (defBody st) mb) :
    FnOk P w K mg base CX0 (k + 1) f fd ps (spM ps.length (mDef N.length ps.length mb)) := by
  refine F.ok S (fun vs H Q E h => ?_) (fun cdv A outer s H vs Q E hr h => ?_)
  · obtain ⟨c, h, rs, r, h', k, q, hl, _⟩ := h
    rw [← q.length, hl]
  · obtain ⟨c, h, rs, r, h', k, q, hl, e, g⟩ := h
    refine ⟨_, hb cdv A outer s H E hr, ?_⟩
    unfold mDef at e
    rw [if_pos hl] at e
    have k0 := rel_start (N := N) rfl k q hl
    split at e
    · rename_i r' s' h'' e1
      simp only [Option.some.injEq, Prod.mk.injEq] at e
      obtain ⟨rfl, rfl⟩ := e
      exact ⟨c, _, _, h, _, _, _, k0, e1, fun c1 ow1 σ1 H1 E1 K1 y hy => g c1 H1 y E1.ext K1.hr hy⟩
    · rename_i s' h'' e1
      simp only [Option.some.injEq, Prod.mk.injEq] at e
      obtain ⟨rfl, rfl⟩ := e
      exact ⟨c, _, _, h, _, _, _, k0, e1, fun c1 ow1 σ1 H1 E1 K1 => g c1 H1 _ E1.ext K1.hr (show VR c1 H1 .non .non by unfold VR; rfl)⟩
    · cases e
end
theorem RT.rr {c : List Addr} {H H' : Hp} : ∀ {r : R} {x : V}, RT c (fun _ => none) H H' r x → RR c H H' r x
  | .v _, _, q => q
  | .o _, _, ⟨a, ys, e1, e2, e3⟩ => ⟨a, ys, e1, (by
    rcases e2 with z | ⟨i, z⟩
    · exact z
    · cases z), e3⟩
  | .l _, _, q => q.elim
  | .z _, _, q => q.elim
section
variable {X : Cx} {k : Nat} {f : Addr} {fd : FuncData} {ps : List Str} {fm : FM} {x : Str} {p pos : Pos} {e : Expr} {es : List Expr} {t : MA} {np : Nat}
theorem rd_call {σ : St} {H : Hp} {Q : VK} {E : XK} (ha : ∀ s h rs h', t s h = some (rs, h') → rs.length = np) (q : rdE (mCall fm t) σ H Q) : tCall (spM np fm) [] E (rdA t) σ H Q := by
  obtain ⟨c, ow, σa, h, r, h', k, e, g⟩ := q
  simp only [mCall, Option.bind_eq_some_iff] at e
  obtain ⟨⟨rs, h1⟩, e1, e2⟩ := e
  refine ⟨c, ow, σa, h, rs, h1, k, e1, fun c1 H1 xs E1 K1 R1 => ?_⟩
  show spM np fm (xs ++ []) H1 Q E
  rw [List.append_nil]
  exact ⟨c1, h1, rs.map bor, r, h', K1, RAs.of R1, by rw [List.length_map]; exact ha _ _ _ _ e1, e2, fun c2 H2 y E2 K2 R2 => g c2 H2 y (E1.trans E2) K2 (RR.early E1 R2.rr)⟩
/-- f(e, ..) -/
theorem se_call (F : FnOk X.prog X.w X.K X.mg X.base CX0 k f fd ps (spM np fm)) (hr : Room k X.A) (hm : X.mg x = some (.ref f)) (hk : PySem.W.keepIn X.K (.ref f) = true) (hb : Binds X.K fd ps []) (ha : SA X (e :: es) t) (hl : ∀ s h rs h', t s h = some (rs, h') → rs.length = np)
    (hg : Gl X x := by rfl) (hdb : (x == ("__debug__" : Str)) = false := by decide) (he : starEach (e :: es) X.env = (false, eval e X.env) :: starEach es X.env := by rfl) (hpl : (backTo pos (starEach es X.env)).any (·.1) = false := by rfl) :
    SE X (.Call (.Name x p) (e :: es) [] pos) (mCall fm t) := pe_imp (pe_call F hr hg hm hk hb .nil pass0 ha hdb he hpl) fun _ _ _ => rd_call hl
end
theorem len_nil : ∀ s h rs h', aNil s h = some (rs, h') → rs.length = 0 := fun s h rs h' e => by
  simp only [aNil, Option.some.injEq, Prod.mk.injEq] at e
  obtain ⟨rfl, rfl⟩ := e; rfl
theorem len_cons {m : ME} {t : MA} {n : Nat} (ht : ∀ s h rs h', t s h = some (rs, h') → rs.length = n) : ∀ s h rs h', aCons m t s h = some (rs, h') → rs.length = n + 1 := fun s h rs h' e => by
  simp only [aCons, Option.bind_eq_some_iff, Option.some.injEq, Prod.mk.injEq] at e
  obtain ⟨⟨r1, h1⟩, e1, ⟨r2, h2⟩, e2, rfl, rfl⟩ := e
  simp [ht _ _ _ _ e2]
/-- the law itself -/
theorem law_sp {f : FM} {H : Hp} {a : Addr} {ns : List Int} (hS : SqL HasK.K H a (ns.map V.int)) {h' : Hh} (e : f [.z (ns.map .int)] [] = some (.v (.bl true), h')) : spM 1 f [.ref a] H (fun v _ => v = .bl true) fun _ _ _ => False :=
  ⟨[], [], [.z (ns.map .int)], .v (.bl true), h', ⟨List.nodup_nil, rfl, fun p b z => by simp at z⟩, ⟨.ref a, [], rfl, ⟨a, _, rfl, VRs.of_ints ns, hS.imp (fun z => ⟨z, by simp⟩) fun z => z⟩, rfl⟩, rfl, e, fun c' H' x E K' R => bl_rr (H0 := H) R⟩
end NL
set_option Elab.async false
set_option linter.all false
set_option maxRecDepth 100000
set_option maxHeartbeats 4000000
set_option autoImplicit false
namespace NL
open PySem PySem.Spec PyProof.Rows L2
/-! ### set(xs) of a list of whole numbers -/
section
variable {P : Program} {w : World} {A : Around} {E : Value → Shared → Prop} {s : Shared}
/-- a set that has just been made -/
def sNew (w : World) : Obj := { cls := .type "set", dict := none, data := .set #[] 0 (.fresh 0 0 (!w.params.followText "set-order")) }
theorem two_out {s : Shared} {o : Obj} {b : Addr} (h : b < s.heap.objs.size) : b ∉ [s.heap.objs.size, (s.heap.push o).objs.size] := by
  rw [Heap.size_push]
  simp only [List.mem_cons, List.not_mem_nil, or_false, not_or]
  exact ⟨Nat.ne_of_lt h, Nat.ne_of_lt (Nat.lt_succ_of_lt h)⟩
set_option maxRecDepth 100000 in
set_option maxHeartbeats 8000000 in
theorem set_of_list {l : Addr} {items : Array Value} (ns : List Int) {Q : Value → Shared → Prop} (hd : A.handled = none) (hl : s.heap.IsList l items) (hi : IntsAre items.toList ns) (hb : ns.length + 1 < scanBound)
    (hq : ∀ (h' : Heap) (tk c : Nat), SetR w h' s.heap.objs.size (fun j => decide (j ∈ ns)) c → c ≤ ns.length → (∀ b o, s.heap.get? b = some o → h'.get? b = some o) → Q (.ref s.heap.objs.size) { s with heap := h', toks := tk }) : wpAny (model P w) A (call (.type "set") [.ref l]) Q E s := by
  have sz : items.size = ns.length := by simpa using IntsAre.length hi
  obtain ⟨c, tl, hmro⟩ := F.called_set.mro
  have hmade := F.called_set.made; have hsub := F.called_set.sub
  refine wpAny_call (codeAny_of_tree (show wpAny _ _ (callAny (.type "set") _) _ _ _ from wpAny_pure ⟨Code.quiet_builtin _ (by decide +kernel), codeAny_builtin F.entry_type_call ?_⟩))
  rw [Around.under_plain (weight_type_call_type "set" [.ref l] []) rfl]
  have h1 := F.called_set.notType; have h2 := F.called_set.canCreate; have hct := F.typeCall_set_1 (.ref l)
  repeat (any_goals first | assumption | wp_step)
  refine codeAny_mono (code_set_led1 (.ref l) (E := E) (Q₁ := fun v t => v = .ref s.heap.objs.size ∧ t = { s with heap := s.heap.push (sNew w) }) ⟨rfl, rfl⟩) fun r s₁ hr => ?_
  cases r with
  | error e => exact hr
  | ok fl =>
    cases fl with
    | ret v =>
      obtain ⟨rfl, rfl⟩ := hr
      have gS : (s.heap.push (sNew w)).get? s.heap.objs.size = some (sNew w) := Heap.get?_push_size _ rfl
      have tS : Shared.TypeIs { s with heap := s.heap.push (sNew w) } (.ref s.heap.objs.size) "set" := ⟨_, gS, rfl⟩
      have hli := F.called_set.init.lookup; have hbi := F.called_set.init.bind (.ref s.heap.objs.size)
      repeat (any_goals first | assumption | wp_step)
      refine codeAny_mono (codeAny_call_builtin (R := wants (fun r t => r = .none ∧ ∃ h' tk c, t = { s with heap := h', toks := tk } ∧ SetR w h' s.heap.objs.size (fun j => decide (j ∈ ns)) c ∧ c ≤ ns.length ∧
        ∀ b o, s.heap.get? b = some o → h'.get? b = some o) E) F.called_set.init.plain F.entry_set_init (check_set_init_1 tS ?_)) fun r2 s2 hr2 => ?_
      · obtain ⟨⟨oc, od, dt, os⟩, ho, hcl, nl, hdl⟩ := hl
        simp only at hcl hdl; subst hcl; subst hdl
        have ho' : (s.heap.push (sNew w)).get? l = some { cls := .type "list", dict := od, data := .seq items nl, slots := os } := Heap.get?_push_of_some _ ho
        have hsls := F.sub_list_set; have hslf := F.sub_list_frozenset; have hne : (Value.type "list" == Value.type "dict") = false := by decide
        have hL : (s.heap.push (sNew w)).IsList l items := ⟨_, ho', rfl, nl, rfl⟩
        unfold Builtin.«set.__init__» noKeywords Builtin.Frozenset.updateFrom
        generalize hPI : pyIter = PI; wp_walk; subst hPI
        refine wpAny_pyIter_list hL (wpAny_bind (wpAny_runValue ?_))
        have lS : l < s.heap.objs.size := Heap.lt_size ho
        have hd3 : A.in1.in1.in1.handled = none := by simp [hd]
        have nI : l ≠ (s.heap.push (sNew w)).objs.size := by rw [Heap.size_push]; exact Nat.ne_of_lt (Nat.lt_succ_of_lt lS)
        have nS : s.heap.objs.size ∉ [(s.heap.push (sNew w)).objs.size, l] := by
          rw [Heap.size_push]
          simp only [List.mem_cons, List.not_mem_nil, or_false, not_or]
          exact ⟨Nat.ne_of_lt (Nat.lt_succ_self _), Nat.ne_of_gt lS⟩
        have val : ∀ (i : Nat) (v : Value), items[i]? = some v → ∃ k t, ns[i]? = some k ∧ v = .int k t := fun i v hv => by
          have lt : i < ns.length := by rw [← sz]; exact (Array.getElem?_eq_some_iff.mp hv).1
          obtain ⟨t, e⟩ := IntsAre.int_at hi i v (by rw [Array.getElem?_toList]; exact hv)
          exact ⟨ns[i], t, List.getElem?_eq_getElem lt, by rw [e, List.getD_eq_getElem?_getD, List.getElem?_eq_getElem lt] <;> rfl⟩
        refine set_update_ints (Walks.list hd3 _ l nI items).toS s.heap.objs.size nS ns sz hb val (items.size - 0) 0 _ (by omega) (Nat.zero_le _) ⟨⟨_, Heap.get?_push_size _ rfl, rfl, rfl⟩, hL.push _⟩ ⟨0, Nat.le_refl 0, setR_new_at (Heap.get?_push_of_some _ gS)⟩ fun s' c' hm hc hS => ?_
        obtain ⟨h', g2, d', tk', os'⟩ := s'
        obtain rfl : g2 = s.gens := hm.gens
        obtain rfl : d' = s.drawn := hm.drawn
        obtain rfl : os' = s.os := hm.os
        refine wpAny_pure (show wpAny _ _ (ret Value.none) _ _ _ from wpAny_pure ⟨rfl, h', tk', c', rfl, hS, by rw [sz] at hc; exact hc, fun b o e => ?_⟩)
        exact hm.heap b o (two_out (Heap.lt_size e)) (Heap.get?_push_of_some _ (Heap.get?_push_of_some _ e))
      · cases r2 with
        | error e => exact hr2
        | ok f2 =>
          cases f2 with
          | ret r =>
            obtain ⟨rfl, h', tk, c', rfl, hS, hc, hk⟩ := hr2
            repeat (any_goals first | assumption | wp_step)
            exact hq _ _ _ hS hc hk
          | _ => exact hr2.elim
    | _ => exact hr.elim
end
/-! ### sorted(set(xs)) -/
variable [HasK]
def dd : List Int → List Int
  | a :: b :: r => if a = b then dd (b :: r) else a :: dd (b :: r)
  | l => l
def sset (ns : List Int) : List Int := dd (isort ns)
omit [HasK] in
theorem dd_mem : ∀ {l : List Int} {x : Int}, x ∈ dd l ↔ x ∈ l
  | [], x => by simp [dd]
  | [a], x => by simp [dd]
  | a :: b :: r, x => by
    unfold dd
    split
    · rename_i e
      rw [dd_mem, e]
      simp
    · rw [List.mem_cons, dd_mem, List.mem_cons (a := x) (b := a)]
omit [HasK] in
theorem dd_pw : ∀ {l : List Int}, l.Pairwise (· ≤ ·) → (dd l).Pairwise (· < ·)
  | [], _ => by simp [dd]
  | [a], _ => by simp [dd]
  | a :: b :: r, h => by
    rw [List.pairwise_cons] at h
    unfold dd
    split
    · exact dd_pw h.2
    · rename_i e
      rw [List.pairwise_cons]
      refine ⟨fun x hx => ?_, dd_pw h.2⟩
      have hx' := dd_mem.mp hx
      have hab : a ≤ b := h.1 b (List.mem_cons_self ..)
      have hb : b ≤ x := by
        rcases List.mem_cons.mp hx' with z | z
        · omega
        · exact (List.pairwise_cons.mp h.2).1 x z
      omega
omit [HasK] in
theorem sset_pw (ns : List Int) : (sset ns).Pairwise (· < ·) := dd_pw (isort_pw ns)
omit [HasK] in
theorem sset_mem {ns : List Int} {x : Int} : x ∈ sset ns ↔ x ∈ ns := by
  unfold sset
  rw [dd_mem, (isort_perm ns).mem_iff]
omit [HasK] in
theorem lt_same : ∀ {a b : List Int}, a.Pairwise (· < ·) → b.Pairwise (· < ·) → (∀ x, x ∈ a ↔ x ∈ b) → a = b
  | [], [], _, _, _ => rfl
  | [], y :: _, _, _, h => by have := (h y).mpr (List.mem_cons_self ..); simp at this
  | x :: _, [], _, _, h => by have := (h x).mp (List.mem_cons_self ..); simp at this
  | x :: xs, y :: ys, ha, hb, h => by
    rw [List.pairwise_cons] at ha hb
    have e : x = y := by
      rcases List.mem_cons.mp ((h x).mp (List.mem_cons_self ..)) with z | z
      · exact z
      · rcases List.mem_cons.mp ((h y).mpr (List.mem_cons_self ..)) with w | w
        · exact w.symm
        · have h1 := hb.1 x z
          have h2 := ha.1 y w
          omega
    subst e
    congr 1
    refine lt_same ha.2 hb.2 fun z => ⟨fun hz => ?_, fun hz => ?_⟩
    · rcases List.mem_cons.mp ((h z).mp (List.mem_cons_of_mem _ hz)) with w | w
      · have := ha.1 z hz; omega
      · exact w
    · rcases List.mem_cons.mp ((h z).mpr (List.mem_cons_of_mem _ hz)) with w | w
      · have := hb.1 z hz; omega
      · exact w
omit [HasK] in
theorem pw_nodup {l : List Int} (h : l.Pairwise (· < ·)) : l.Nodup := h.imp fun z => by omega
omit [HasK] in
theorem setR_card {w : World} {h : Heap} {a : Addr} {ns : List Int} {c : Nat} (R : SetR w h a (fun j => decide (j ∈ ns)) c) : c = (sset ns).length := by
  obtain ⟨o, es, ep, t, _, _, _, _, nd, mem, _, _, hn, _⟩ := R
  have p : (es.toList.map keyOf).Perm (sset ns) := (List.perm_ext_iff_of_nodup nd (pw_nodup (sset_pw ns))).mpr fun k => by
    rw [← mem k, sset_mem]; simp
  have := p.length_eq
  rw [List.length_map, Array.length_toList] at this
  omega
def mSS (m : ME) : ME := fun s h => (m s h).bind fun p => (asQ p.2 p.1).bind fun xs => (mapO asInt xs).bind fun ns => if ns.length ≤ 4000 ∧ (sset ns).length < 64 then some (.o ((sset ns).map .int), p.2) else none
theorem se_sset {X : Cx} {a : Expr} {m : ME} {p p2 q pos : Pos} (hc : X.calm = true) (hm : X.mg "sorted" = none) (hm2 : X.mg "set" = none) (ha : SE X a m) (hg : Gl X "sorted" := by rfl) (hg2 : Gl X "set" := by rfl)
    (na : starEach [a] X.env = (false, eval a X.env) :: starEach [] X.env := by rfl) : SE X (.Call (.Name "sorted" p) [.Call (.Name "set" p2) [a] [] q] [] pos) (mSS m) := by
  refine ⟨fun pins s σ H Q I h => ?_⟩
  obtain ⟨c, ow, σa, hh, r, h', k, e, f⟩ := h
  simp only [mSS, Option.bind_eq_some_iff] at e
  obtain ⟨⟨r1, h1⟩, e1, xs, e2, ns, e3, e4⟩ := e
  split at e4
  · rename_i hz
    simp only [Option.some.injEq, Prod.mk.injEq] at e4
    obtain ⟨rfl, rfl⟩ := e4
    refine Call_ (ld_blt I hg hm (by decide +kernel : bootBuiltins "sorted" = some (.builtin "sorted")) ?_)
    refine callWith_builtin1 (args_cons ?_ rfl) rfl rfl
    refine Call_ (ld_blt I hg2 hm2 boot_set ?_)
    refine callWith_type1 (args_cons (thn (ha.run pins s σ H (fun x H1 => ∃ c1 a us, Ext c c1 H H1 ∧ HR c1 h1 H1 ∧ x = .ref a ∧ us = ns.map V.int ∧ (SqL X.K H1 a us ∨ SqT X.K H1 a us)) I ⟨c, ow, σa, hh, r1, h1, k, e1, fun c1 H1 x E1 K1 R1 => ?_⟩) fun v s1 ⟨x, H1, I1, r1, c1, a, us, E1, K1, ex, eu, hq⟩ => args_nil ?_) na) na rfl
    · obtain ⟨a, us, ex, t1, v1⟩ := asQ_rr (K := X.K) K1 e2 R1
      rw [mapO_int e3] at v1
      exact ⟨c1, a, us, E1, K1, ex, v1.ints, t1⟩
    · subst ex
      cases r1
      have hb : ns.length + 1 < scanBound := Nat.lt_of_le_of_lt (Nat.succ_le_succ hz.1) (by decide)
      have fin : ∀ (h2 : Heap) (tk cc : Nat), SetR X.w h2 s1.heap.objs.size (fun j => decide (j ∈ ns)) cc → cc ≤ ns.length → (∀ b o, s1.heap.get? b = some o → h2.get? b = some o) →
          wpAny (model X.prog X.w) X.A (call (.builtin "sorted") [.ref s1.heap.objs.size]) (EP X pins σ Q) X.xe { s1 with heap := h2, toks := tk } := fun h2 tk cc R hcc hk => by
        have ec := setR_card R
        have hn : H1 s1.heap.objs.size = none := I1.hok.fresh (Nat.le_refl _)
        have I2 : Inv X pins σ (upd H1 s1.heap.objs.size (SetO X.w s1.heap.objs.size (fun j => decide (j ∈ ns)) cc)) { s1 with heap := h2, toks := tk } := I1.laid hk (Nat.le_refl _) (setO_new R)
        refine cr_sortedSet hc pins _ σ _ [.ref s1.heap.objs.size] _ Q I2 (.cons rfl .nil) ⟨_, _, cc, rfl, upd_same, by rw [ec]; exact hz.2, fun ns' p hw hmm hl hp => ?_⟩
        have e5 : ns' = sset ns := lt_same hw (sset_pw ns) fun x => by rw [hmm, sset_mem]; simp
        subst e5
        refine f c1 _ _ (E1.trans ((Ext.alloc hn).trans (Ext.alloc hp))) ((K1.alloc hn).alloc hp) (RR.early (E1.trans (Ext.alloc hn)) (RR.newLst (K1.alloc hn) hp (VRs.of_ints _)))
      rcases hq with hq | hq
      · obtain ⟨its, rv, pl, hz2⟩ := I1.list hq
        refine set_of_list ns (I1.ok.hd hc) pl.isList (by subst eu; simpa using rv.ints) hb fun h2 tk cc R hcc hk => args_nil (fin h2 tk cc R hcc hk)
      · obtain ⟨its, rv, pt, hz2⟩ := I1.tuple hq
        refine call_set_tupI ns (I1.ok.hd hc) (show s1.heap.IsTuple a its.toArray from pt) (by subst eu; exact ints_of_vals rv) hb fun h2 tk cc R hcc hk => args_nil (fin h2 tk cc R hcc hk)
  · cases e4
/-! ### the script -/
def fIxZ : F2 := fun x y h => match x, y with
  | .z xs, .v (.int i) => (atI xs i).map fun v => (.v v, h)
  | _, _ => none
theorem v_ixZ : V2 (rIxL HasK.K) fIxZ := by
  intro c h H0 H x y rx ry r' h' Q k qx qy e f
  unfold fIxZ at e
  split at e
  · rename_i xs i
    simp only [Option.map_eq_some_iff, Prod.mk.injEq] at e
    obtain ⟨v, e1, rfl, rfl⟩ := e
    obtain ⟨a, us, rfl, v1, t1⟩ := qx
    obtain ⟨z, e2, e3⟩ := atI_rr v1 e1
    exact ⟨a, us, i, z, rfl, int_rr qy, t1.imp (fun z => z.1) fun z => z, e2, f c H _ (Ext.refl c H) k e3⟩
  · cases e
theorem se_itemZ {X : Cx} {a b : Expr} {pos : Pos} {ma mb : ME} (hK : X.K = HasK.K) (ha : SE X a ma) (hb : SE X b mb) (hs : PlainIx b := by exact fun _ _ => rfl) : SE X (.Subscript a b pos) (m2 fIxZ ma mb) := se_ix (by rw [← hK]; exact ix_list) v_ixZ ha hb hs
def fLenZ : FC := fun rs h => match rs with
  | [.z xs] => some (.v (.int xs.length), h)
  | _ => none
theorem v_lenZ : VC (fun xs H Q => ∃ p ys, xs = [V.ref p] ∧ (SqL HasK.K H p ys ∨ SqT HasK.K H p ys) ∧ Q (.int ys.length) H) fLenZ := by
  intro c h H0 H xs rs r' h' Q k q e f
  unfold fLenZ at e
  split at e
  · simp only [Option.some.injEq, Prod.mk.injEq] at e
    obtain ⟨rfl, rfl⟩ := e
    obtain ⟨x, rfl, q1⟩ := rrs1 q
    obtain ⟨a, us, rfl, v1, t1⟩ := q1
    exact ⟨a, us, rfl, .inl (t1.imp (fun z => z.1) fun z => z), f c H _ (Ext.refl c H) k (by rw [v1.length]; exact rr_int)⟩
  · cases e
theorem call_lenZ {X : Cx} (hK : X.K = HasK.K) : CallR X (.builtin "len") (fun xs H Q => ∃ p ys, xs = [V.ref p] ∧ (SqL HasK.K H p ys ∨ SqT HasK.K H p ys) ∧ Q (.int ys.length) H) := by
  rw [← hK]; exact call_len_seq
end NL
set_option Elab.async false
set_option linter.all false
set_option maxRecDepth 100000
set_option maxHeartbeats 4000000
set_option autoImplicit false
namespace NL
open PySem PySem.Spec PyProof.Rows L2
variable [HasK]
abbrev FnP (K : PySem.W.Frag) (x : Str) (st : Stmt) (f : Addr) (fd : FuncData) : Prop := FunD K x x (defArgs st) (defBody st) (defScope st) [] [] f fd
/-- a def that may be called by its name -/
structure Cal (P : Program) (w : World) (K : PySem.W.Frag) (mg : Str → Option Value) (base : Heap) (x : Str) (ps : List Str) (k : Nat) (m : FM) : Prop where
  ex : ∃ (f : Addr) (fd : FuncData), FnOk P w K mg base CX0 k f fd ps (spM ps.length m) ∧ mg x = some (.ref f) ∧ PySem.W.keepIn K (.ref f) = true ∧ Binds K fd ps []
section
variable {P : Program} {w : World} {K : PySem.W.Frag} {mg : Str → Option Value} {base : Heap}
theorem fnD_ok {x : Str} {st : Stmt} {f : Addr} {fd : FuncData} {N ps : List Str} {k : Nat} {mb : MS} (F : FnP K x st f fd) (S : FnScope N ps (defScope st))
    (hb : ∀ (cdv : Value) (A : Around) (outer : List Env) (s : Shared) (H : Hp) (E : XK), Room k (A.deeper (envOfC x (defScope st) s.heap.objs.size f cdv)) → SSs (cxOf CX0 P w K mg base N x (defScope st) f cdv A outer s H E).nox (defBody st) mb) :
    FnOk P w K mg base CX0 (k + 1) f fd ps (spM ps.length (mDef N.length ps.length mb)) := by
  refine F.ok S (fun vs H Q E h => ?_) (fun cdv A outer s H vs Q E hr h => ?_)
  · obtain ⟨c, h, rs, r, h', k, q, hl, _⟩ := h
    rw [← q.length, hl]
  · obtain ⟨c, h, rs, r, h', k, q, hl, e, g⟩ := h
    refine ⟨_, PSs.nox (hb cdv A outer s H E hr), ?_⟩
    unfold mDef at e
    rw [if_pos hl] at e
    have k0 := rel_start (N := N) rfl k q hl
    split at e
    · rename_i r' s' h'' e1
      simp only [Option.some.injEq, Prod.mk.injEq] at e
      obtain ⟨rfl, rfl⟩ := e
      exact ⟨c, _, _, h, _, _, _, k0, e1, fun c1 ow1 σ1 H1 E1 K1 y hy => g c1 H1 y E1.ext K1.hr hy⟩
    · rename_i s' h'' e1
      simp only [Option.some.injEq, Prod.mk.injEq] at e
      obtain ⟨rfl, rfl⟩ := e
      exact ⟨c, _, _, h, _, _, _, k0, e1, fun c1 ow1 σ1 H1 E1 K1 => g c1 H1 _ E1.ext K1.hr (show VR c1 H1 .non .non by unfold VR; rfl)⟩
    · cases e
theorem cal_mk {x : Str} {st : Stmt} {f : Addr} {fd : FuncData} {ps : List Str} {k : Nat} {m : FM} (F : FnP K x st f fd) (g : mg x = some (.ref f)) (b : Binds K fd ps []) (h : FnOk P w K mg base CX0 k f fd ps (spM ps.length m)) : Cal P w K mg base x ps k m := ⟨f, fd, h, g, F.kp, b⟩
end
section
variable {X : Cx} {k j : Nat} {ps : List Str} {fm : FM} {x : Str} {p pos : Pos} {e : Expr} {es : List Expr} {t : MA}
theorem se_callC (C : Cal X.prog X.w X.K X.mg X.base x ps k fm) (hr : Room j X.A) (ha : SA X (e :: es) t) (hl : ∀ s h rs h', t s h = some (rs, h') → rs.length = ps.length) (hk : k ≤ j := by decide)
    (hg : Gl X x := by rfl) (hdb : (x == ("__debug__" : Str)) = false := by decide) (he : starEach (e :: es) X.env = (false, eval e X.env) :: starEach es X.env := by rfl) (hpl : (backTo pos (starEach es X.env)).any (·.1) = false := by rfl) :
    SE X (.Call (.Name x p) (e :: es) [] pos) (mCall fm t) := by
  obtain ⟨f, fd, F, hm, hk2, hb⟩ := C.ex
  exact se_call F (hr.mono hk) hm hk2 hb ha hl hg hdb he hpl
end
theorem u64 {A : Around} {k : Nat} (h : Room k A) : A.units + 64 < cLine := h.units
theorem u65 {A : Around} {k : Nat} (h : Room k A) : A.units + 65 < cLine := by
  have := h.un
  omega
end NL
set_option Elab.async false
set_option linter.all false
set_option maxRecDepth 100000
set_option maxHeartbeats 4000000
set_option autoImplicit false
namespace NL
open PySem L2
open Classical

/-! ### what must hold so that a plain meaning gives what is wanted -/
abbrev QE := R → Hh → Prop
def wE (m : ME) (s : Sl) (h : Hh) (Q : QE) : Prop := ∃ r h', m s h = some (r, h') ∧ Q r h'
def wT (m : MT) (s : Sl) (h : Hh) (Q : Bool → Hh → Prop) : Prop := ∃ r h', m s h = some (r, h') ∧ Q r h'
def wA (m : MA) (s : Sl) (h : Hh) (Q : List R → Hh → Prop) : Prop := ∃ r h', m s h = some (r, h') ∧ Q r h'
def wO (m : MO) (s : Sl) (h : Hh) (Q : Option Int → Hh → Prop) : Prop := ∃ r h', m s h = some (r, h') ∧ Q r h'
def wS (m : MS) (s : Sl) (h : Hh) (Q : Fl → Sl → Hh → Prop) : Prop := ∃ f s' h', m s h = some (f, s', h') ∧ Q f s' h'
def wF (m : FM) (rs : List R) (h : Hh) (Q : QE) : Prop := ∃ r h', m rs h = some (r, h') ∧ Q r h'
/-- of a result that is there already -/
def wV (o : Option (R × Hh)) (Q : QE) : Prop := ∃ r h', o = some (r, h') ∧ Q r h'
def wL (o : Option (List Val)) (Q : List Val → Prop) : Prop := ∃ xs, o = some xs ∧ Q xs
def wX (o : Option Val) (Q : Val → Prop) : Prop := ∃ xs, o = some xs ∧ Q xs
theorem wV_some {r : R} {h : Hh} {Q : QE} : wV (some (r, h)) Q = Q r h := propext ⟨fun ⟨_, _, e, q⟩ => by cases e; exact q, fun q => ⟨_, _, rfl, q⟩⟩
theorem wL_some {xs : List Val} {Q : List Val → Prop} : wL (some xs) Q = Q xs := by simp [wL]
theorem wX_some {x : Val} {Q : Val → Prop} : wX (some x) Q = Q x := by simp [wX]
section
variable {s : Sl} {h : Hh} {Q : QE} {QT : Bool → Hh → Prop} {QA : List R → Hh → Prop} {QO : Option Int → Hh → Prop} {QS : Fl → Sl → Hh → Prop} {a b m m' : ME} {t t' : MT} {ta : MA} {f : F2} {g : FC} {lo hi : MO} {x y : MS} {fm : FM}
theorem w_var0 {r : R} : wE (mVar 0) (some r :: s) h Q = Q (bor r) h := propext ⟨fun ⟨_, _, e, q⟩ => by cases e; exact q, fun q => ⟨_, _, rfl, q⟩⟩
theorem w_varS {i : Nat} {r : Option R} : wE (mVar (i + 1)) (r :: s) h Q = wE (mVar i) s h Q := by simp [wE, mVar]
theorem w_c {v : Val} : wE (mC v) s h Q = Q (.v v) h := propext ⟨fun ⟨_, _, e, q⟩ => by cases e; exact q, fun q => ⟨_, _, rfl, q⟩⟩
theorem w_m2 : wE (m2 f a b) s h Q = wE a s h fun x h1 => wE b s h1 fun y h2 => wV (f x y h2) Q := by
  simp only [wE, wV, m2, Option.bind_eq_some_iff, eq_iff_iff]
  constructor
  · rintro ⟨r, h', ⟨⟨x, h1⟩, e1, ⟨y, h2⟩, e2, e3⟩, q⟩
    exact ⟨x, h1, e1, y, h2, e2, r, h', e3, q⟩
  · rintro ⟨x, h1, e1, y, h2, e2, r, h', e3, q⟩
    exact ⟨r, h', ⟨(x, h1), e1, (y, h2), e2, e3⟩, q⟩
theorem w_al : wE (mAl m) s h Q = wE m s h fun r h1 => ∃ xs, r = .o xs ∧ Q (.v (.ref h1.length)) (h1 ++ [.lst xs]) := by
  simp only [wE, mAl, Option.bind_eq_some_iff, eq_iff_iff]
  constructor
  · rintro ⟨r, h', ⟨⟨x, h1⟩, e1, e2⟩, q⟩
    cases x with
    | o xs =>
      simp only [Option.some.injEq, Prod.mk.injEq] at e2
      obtain ⟨rfl, rfl⟩ := e2
      exact ⟨_, _, e1, xs, rfl, q⟩
    | _ => simp at e2
  · rintro ⟨r, h1, e1, xs, rfl, q⟩
    exact ⟨_, _, ⟨_, e1, rfl⟩, q⟩
theorem w_anil : wA aNil s h QA = QA [] h := propext ⟨fun ⟨_, _, e, q⟩ => by cases e; exact q, fun q => ⟨_, _, rfl, q⟩⟩
theorem w_acons : wA (aCons a ta) s h QA = wE a s h fun x h1 => wA ta s h1 fun xs h2 => QA (x :: xs) h2 := by
  simp only [wE, wA, aCons, Option.bind_eq_some_iff, eq_iff_iff]
  constructor
  · rintro ⟨r, h', ⟨⟨x, h1⟩, e1, ⟨y, h2⟩, e2, e3⟩, q⟩
    simp only [Option.some.injEq, Prod.mk.injEq] at e3
    obtain ⟨rfl, rfl⟩ := e3
    exact ⟨x, h1, e1, y, h2, e2, q⟩
  · rintro ⟨x, h1, e1, y, h2, e2, q⟩
    exact ⟨_, _, ⟨_, e1, _, e2, rfl⟩, q⟩
theorem w_tup : wE (mTup ta) s h Q = wA ta s h fun rs h1 => wL (vals rs) fun vs => vs.length ≤ 1000000 ∧ Q (.v (.tup vs)) h1 := by
  simp only [wE, wA, wL, mTup, Option.bind_eq_some_iff, eq_iff_iff]
  constructor
  · rintro ⟨r, h', ⟨⟨x, h1⟩, e1, vs, e2, e3⟩, q⟩
    split at e3
    · simp only [Option.some.injEq, Prod.mk.injEq] at e3
      obtain ⟨rfl, rfl⟩ := e3
      exact ⟨x, h1, e1, vs, e2, by assumption, q⟩
    · cases e3
  · rintro ⟨x, h1, e1, vs, e2, e3, q⟩
    exact ⟨_, _, ⟨_, e1, vs, e2, by rw [if_pos e3]⟩, q⟩
theorem w_lst : wE (mLst ta) s h Q = wA ta s h fun rs h1 => wL (vals rs) fun vs => vs.length ≤ 1000000 ∧ Q (.o vs) h1 := by
  simp only [wE, wA, wL, mLst, Option.bind_eq_some_iff, eq_iff_iff]
  constructor
  · rintro ⟨r, h', ⟨⟨x, h1⟩, e1, vs, e2, e3⟩, q⟩
    split at e3
    · simp only [Option.some.injEq, Prod.mk.injEq] at e3
      obtain ⟨rfl, rfl⟩ := e3
      exact ⟨x, h1, e1, vs, e2, by assumption, q⟩
    · cases e3
  · rintro ⟨x, h1, e1, vs, e2, e3, q⟩
    exact ⟨_, _, ⟨_, e1, vs, e2, by rw [if_pos e3]⟩, q⟩
theorem vals_nil : vals [] = some [] := rfl
theorem vals_cons {v : Val} {rs : List R} : vals (.v v :: rs) = (vals rs).map (v :: ·) := rfl
theorem w_B : wE (mB g ta) s h Q = wA ta s h fun rs h1 => wV (g rs h1) Q := by
  simp only [wE, wA, wV, mB, Option.bind_eq_some_iff, eq_iff_iff]
  constructor
  · rintro ⟨r, h', ⟨⟨x, h1⟩, e1, e2⟩, q⟩
    exact ⟨x, h1, e1, r, h', e2, q⟩
  · rintro ⟨x, h1, e1, r, h', e2, q⟩
    exact ⟨r, h', ⟨(x, h1), e1, e2⟩, q⟩
theorem w_call : wE (mCall fm ta) s h Q = wA ta s h fun rs h1 => wF fm (rs.map bor) h1 Q := by
  simp only [wE, wA, wF, mCall, Option.bind_eq_some_iff, eq_iff_iff]
  constructor
  · rintro ⟨r, h', ⟨⟨x, h1⟩, e1, e2⟩, q⟩
    exact ⟨x, h1, e1, r, h', e2, q⟩
  · rintro ⟨x, h1, e1, r, h', e2, q⟩
    exact ⟨r, h', ⟨(x, h1), e1, e2⟩, q⟩
theorem w_neg : wE (mNeg m) s h Q = wE m s h fun r h1 => ∃ i, r = .v (.int i) ∧ Q (.v (.int (-i))) h1 := by
  simp only [wE, mNeg, Option.bind_eq_some_iff, eq_iff_iff]
  constructor
  · rintro ⟨r, h', ⟨⟨x, h1⟩, e1, e2⟩, q⟩
    dsimp only at e2
    split at e2
    · simp only [Option.some.injEq, Prod.mk.injEq] at e2
      obtain ⟨rfl, rfl⟩ := e2
      exact ⟨_, _, e1, _, rfl, q⟩
    · cases e2
  · rintro ⟨r, h1, e1, i, rfl, q⟩
    exact ⟨_, _, ⟨_, e1, rfl⟩, q⟩
theorem w_no : wE (mNo m) s h Q = wE m s h fun r h1 => ∃ b, r = .v (.bl b) ∧ Q (.v (.bl (!b))) h1 := by
  simp only [wE, mNo, Option.bind_eq_some_iff, eq_iff_iff]
  constructor
  · rintro ⟨r, h', ⟨⟨x, h1⟩, e1, e2⟩, q⟩
    dsimp only at e2
    split at e2
    · simp only [Option.some.injEq, Prod.mk.injEq] at e2
      obtain ⟨rfl, rfl⟩ := e2
      exact ⟨_, _, e1, _, rfl, q⟩
    · cases e2
  · rintro ⟨r, h1, e1, i, rfl, q⟩
    exact ⟨_, _, ⟨_, e1, rfl⟩, q⟩
theorem w_tst : wT (mTst m) s h QT = wE m s h fun r h1 => ∃ b, r = .v (.bl b) ∧ QT b h1 := by
  simp only [wE, wT, mTst, Option.bind_eq_some_iff, eq_iff_iff]
  constructor
  · rintro ⟨r, h', ⟨⟨x, h1⟩, e1, e2⟩, q⟩
    dsimp only at e2
    split at e2
    · simp only [Option.some.injEq, Prod.mk.injEq] at e2
      obtain ⟨rfl, rfl⟩ := e2
      exact ⟨_, _, e1, _, rfl, q⟩
    · cases e2
  · rintro ⟨r, h1, e1, i, rfl, q⟩
    exact ⟨_, _, ⟨_, e1, rfl⟩, q⟩
theorem w_tru : wT (mTru m) s h QT = wE m s h fun r h1 => ∃ b, tru h1 r = some b ∧ QT b h1 := by
  simp only [wE, wT, mTru, Option.bind_eq_some_iff, Option.map_eq_some_iff, eq_iff_iff]
  constructor
  · rintro ⟨r, h', ⟨⟨x, h1⟩, e1, b, e2, e3⟩, q⟩
    cases e3
    exact ⟨_, _, e1, _, e2, q⟩
  · rintro ⟨r, h1, e1, b, e2, q⟩
    exact ⟨_, _, ⟨_, e1, b, e2, rfl⟩, q⟩
theorem w_tno : wT (tNo t) s h QT = wT t s h fun b h1 => QT (!b) h1 := by
  simp only [wT, tNo, Option.map_eq_some_iff, eq_iff_iff]
  constructor
  · rintro ⟨r, h', ⟨⟨x, h1⟩, e1, e2⟩, q⟩
    cases e2
    exact ⟨_, _, e1, q⟩
  · rintro ⟨r, h1, e1, q⟩
    exact ⟨_, _, ⟨_, e1, rfl⟩, q⟩
theorem w_tan : wT (tAn t t') s h QT = wT t s h fun b h1 => if b = true then wT t' s h1 QT else QT false h1 := by
  simp only [wT, tAn, Option.bind_eq_some_iff, eq_iff_iff]
  constructor
  · rintro ⟨r, h', ⟨⟨x, h1⟩, e1, e2⟩, q⟩
    refine ⟨_, _, e1, ?_⟩
    cases x with
    | true => exact ⟨_, _, e2, q⟩
    | false => cases e2; exact q
  · rintro ⟨x, h1, e1, q⟩
    cases x with
    | true =>
      obtain ⟨r, h', e2, q⟩ := q
      exact ⟨_, _, ⟨_, e1, e2⟩, q⟩
    | false => exact ⟨_, _, ⟨_, e1, rfl⟩, q⟩
theorem w_too : wT (tOo t t') s h QT = wT t s h fun b h1 => if b = true then QT true h1 else wT t' s h1 QT := by
  simp only [wT, tOo, Option.bind_eq_some_iff, eq_iff_iff]
  constructor
  · rintro ⟨r, h', ⟨⟨x, h1⟩, e1, e2⟩, q⟩
    refine ⟨_, _, e1, ?_⟩
    cases x with
    | false => exact ⟨_, _, e2, q⟩
    | true => cases e2; exact q
  · rintro ⟨x, h1, e1, q⟩
    cases x with
    | false =>
      obtain ⟨r, h', e2, q⟩ := q
      exact ⟨_, _, ⟨_, e1, e2⟩, q⟩
    | true => exact ⟨_, _, ⟨_, e1, rfl⟩, q⟩
theorem w_an : wE (mAn a b) s h Q = wE a s h fun r h1 => ∃ c, r = .v (.bl c) ∧ if c = true then wE b s h1 Q else Q (.v (.bl false)) h1 := by
  simp only [wE, mAn, Option.bind_eq_some_iff, eq_iff_iff]
  constructor
  · rintro ⟨r, h', ⟨⟨x, h1⟩, e1, e2⟩, q⟩
    dsimp only at e2
    split at e2
    · exact ⟨_, _, e1, true, rfl, _, _, e2, q⟩
    · cases e2; exact ⟨_, _, e1, false, rfl, q⟩
    · cases e2
  · rintro ⟨x, h1, e1, c, rfl, q⟩
    cases c with
    | true =>
      obtain ⟨r, h', e2, q⟩ := q
      exact ⟨_, _, ⟨_, e1, e2⟩, q⟩
    | false => exact ⟨_, _, ⟨_, e1, rfl⟩, q⟩
theorem w_oo : wE (mOo a b) s h Q = wE a s h fun r h1 => ∃ c, r = .v (.bl c) ∧ if c = true then Q (.v (.bl true)) h1 else wE b s h1 Q := by
  simp only [wE, mOo, Option.bind_eq_some_iff, eq_iff_iff]
  constructor
  · rintro ⟨r, h', ⟨⟨x, h1⟩, e1, e2⟩, q⟩
    dsimp only at e2
    split at e2
    · exact ⟨_, _, e1, false, rfl, _, _, e2, q⟩
    · cases e2; exact ⟨_, _, e1, true, rfl, q⟩
    · cases e2
  · rintro ⟨x, h1, e1, c, rfl, q⟩
    cases c with
    | false =>
      obtain ⟨r, h', e2, q⟩ := q
      exact ⟨_, _, ⟨_, e1, e2⟩, q⟩
    | true => exact ⟨_, _, ⟨_, e1, rfl⟩, q⟩
theorem w_if : wE (mIf t a b) s h Q = wT t s h fun c h1 => if c = true then wE a s h1 Q else wE b s h1 Q := by
  simp only [wE, wT, mIf, Option.bind_eq_some_iff, eq_iff_iff]
  constructor
  · rintro ⟨r, h', ⟨⟨x, h1⟩, e1, e2⟩, q⟩
    refine ⟨_, _, e1, ?_⟩
    cases x with
    | true => exact ⟨_, _, e2, q⟩
    | false => exact ⟨_, _, e2, q⟩
  · rintro ⟨x, h1, e1, q⟩
    cases x with
    | true =>
      obtain ⟨r, h', e2, q⟩ := q
      exact ⟨_, _, ⟨_, e1, e2⟩, q⟩
    | false =>
      obtain ⟨r, h', e2, q⟩ := q
      exact ⟨_, _, ⟨_, e1, e2⟩, q⟩
theorem w_onone : wO oNone s h QO = QO none h := propext ⟨fun ⟨_, _, e, q⟩ => by cases e; exact q, fun q => ⟨_, _, rfl, q⟩⟩
theorem w_osome : wO (oSome m) s h QO = wE m s h fun r h1 => ∃ i, r = .v (.int i) ∧ QO (some i) h1 := by
  simp only [wE, wO, oSome, Option.bind_eq_some_iff, eq_iff_iff]
  constructor
  · rintro ⟨r, h', ⟨⟨x, h1⟩, e1, e2⟩, q⟩
    dsimp only at e2
    split at e2
    · simp only [Option.some.injEq, Prod.mk.injEq] at e2
      obtain ⟨rfl, rfl⟩ := e2
      exact ⟨_, _, e1, _, rfl, q⟩
    · cases e2
  · rintro ⟨r, h1, e1, i, rfl, q⟩
    exact ⟨_, _, ⟨_, e1, rfl⟩, q⟩
def slV (r : R) (lo hi : Option Int) (h : Hh) : Option (R × Hh) := match r with
  | .v (.tup xs) => some (.v (.tup (cut xs lo hi)), h)
  | x => (asL h x).map fun xs => (.o (cut xs lo hi), h)
theorem w_sl : wE (mSl m lo hi) s h Q = wE m s h fun r h1 => wO lo s h1 fun i h2 => wO hi s h2 fun j h3 => wV (slV r i j h3) Q := by
  simp only [wE, wO, wV, mSl, Option.bind_eq_some_iff, eq_iff_iff]
  constructor
  · rintro ⟨r, h', ⟨⟨x, h1⟩, e1, ⟨i, h2⟩, e2, ⟨j, h3⟩, e3, e4⟩, q⟩
    exact ⟨x, h1, e1, i, h2, e2, j, h3, e3, r, h', e4, q⟩
  · rintro ⟨x, h1, e1, i, h2, e2, j, h3, e3, r, h', e4, q⟩
    exact ⟨r, h', ⟨_, e1, _, e2, _, e3, e4⟩, q⟩
theorem w_chain {f g : Int → Int → Bool} : wE (mChain f g a b m) s h Q = wE a s h fun x h1 => wE b s h1 fun y h2 => ∃ i j, x = .v (.int i) ∧ y = .v (.int j) ∧ if f i j = true then wE m s h2 fun z h3 => ∃ l, z = .v (.int l) ∧ Q (.v (.bl (g j l))) h3 else Q (.v (.bl false)) h2 := by
  simp only [wE, mChain, Option.bind_eq_some_iff, eq_iff_iff]
  constructor
  · rintro ⟨r, h', ⟨⟨x, h1⟩, e1, ⟨y, h2⟩, e2, e3⟩, q⟩
    dsimp only at e3
    split at e3
    · rename_i i j
      refine ⟨_, _, e1, _, _, e2, i, j, rfl, rfl, ?_⟩
      split at e3
      · rename_i hf
        rw [if_pos hf]
        simp only [Option.bind_eq_some_iff] at e3
        obtain ⟨⟨z, h3⟩, e4, e5⟩ := e3
        dsimp only at e5
        split at e5
        · cases e5; exact ⟨_, _, e4, _, rfl, q⟩
        · cases e5
      · rename_i hf
        rw [if_neg hf]
        cases e3; exact q
    · cases e3
  · rintro ⟨x, h1, e1, y, h2, e2, i, j, rfl, rfl, q⟩
    split at q
    · rename_i hf
      obtain ⟨z, h3, e3, l, rfl, q⟩ := q
      exact ⟨_, _, ⟨_, e1, _, e2, by dsimp only; rw [if_pos hf, e3]; rfl⟩, q⟩
    · rename_i hf
      exact ⟨_, _, ⟨_, e1, _, e2, by dsimp only; rw [if_neg hf]⟩, q⟩
/-! statements -/
theorem w_snil : wS sNil s h QS = QS .nx s h := propext ⟨fun ⟨_, _, _, e, q⟩ => by cases e; exact q, fun q => ⟨_, _, _, rfl, q⟩⟩
def thenS (b : MS) (Q : Fl → Sl → Hh → Prop) : Fl → Sl → Hh → Prop
  | .nx, s, h => wS b s h Q
  | .bk, s, h => Q .bk s h
  | .ct, s, h => Q .ct s h
  | .rt r, s, h => Q (.rt r) s h
theorem w_seq : wS (sSeq x y) s h QS = wS x s h (thenS y QS) := by
  simp only [wS, sSeq, Option.bind_eq_some_iff, eq_iff_iff]
  constructor
  · rintro ⟨f, s', h', ⟨⟨f1, s1, h1⟩, e1, e2⟩, q⟩
    refine ⟨f1, s1, h1, e1, ?_⟩
    cases f1 with
    | nx => exact ⟨f, s', h', e2, q⟩
    | _ => cases e2; exact q
  · rintro ⟨f1, s1, h1, e1, q⟩
    cases f1 with
    | nx =>
      obtain ⟨f, s', h', e2, q⟩ := q
      exact ⟨f, s', h', ⟨_, e1, e2⟩, q⟩
    | _ => exact ⟨_, _, _, ⟨_, e1, rfl⟩, q⟩
theorem thenS_nx : thenS y QS .nx s h = wS y s h QS := rfl
theorem thenS_rt {r : R} : thenS y QS (.rt r) s h = QS (.rt r) s h := rfl
theorem thenS_bk : thenS y QS .bk s h = QS .bk s h := rfl
theorem w_sif : wS (sIf t x y) s h QS = wT t s h fun c h1 => if c = true then wS x s h1 QS else wS y s h1 QS := by
  simp only [wS, wT, sIf, Option.bind_eq_some_iff, eq_iff_iff]
  constructor
  · rintro ⟨f, s', h', ⟨⟨c, h1⟩, e1, e2⟩, q⟩
    refine ⟨_, _, e1, ?_⟩
    cases c with
    | true => exact ⟨_, _, _, e2, q⟩
    | false => exact ⟨_, _, _, e2, q⟩
  · rintro ⟨c, h1, e1, q⟩
    cases c with
    | true =>
      obtain ⟨f, s', h', e2, q⟩ := q
      exact ⟨f, s', h', ⟨_, e1, e2⟩, q⟩
    | false =>
      obtain ⟨f, s', h', e2, q⟩ := q
      exact ⟨f, s', h', ⟨_, e1, e2⟩, q⟩
/-- a result that may leave: a value, a new list -/
def lea (r : R) (Q : R → Prop) : Prop := match r with
  | .v x => Q (.v x)
  | .o x => Q (.o x)
  | _ => False
theorem lea_v {v : Val} {Q : R → Prop} : lea (.v v) Q = Q (.v v) := rfl
theorem lea_o {v : List Val} {Q : R → Prop} : lea (.o v) Q = Q (.o v) := rfl
theorem w_ret : wS (sRet m) s h QS = wE m s h fun r h1 => lea r fun r => QS (.rt r) s h1 := by
  simp only [wS, wE, sRet, Option.bind_eq_some_iff, eq_iff_iff]
  constructor
  · rintro ⟨f, s', h', ⟨⟨r, h1⟩, e1, e2⟩, q⟩
    refine ⟨r, h1, e1, ?_⟩
    cases r with
    | v _ => cases e2; exact q
    | o _ => cases e2; exact q
    | _ => simp at e2
  · rintro ⟨r, h1, e1, q⟩
    cases r with
    | v _ => exact ⟨_, _, _, ⟨_, e1, rfl⟩, q⟩
    | o _ => exact ⟨_, _, _, ⟨_, e1, rfl⟩, q⟩
    | _ => exact q.elim
theorem w_set {i : Nat} : wS (sSet i m) s h QS = wE m s h fun r h1 => lea r fun r => QS .nx (s.set i (some r)) h1 := by
  simp only [wS, wE, sSet, Option.bind_eq_some_iff, eq_iff_iff]
  constructor
  · rintro ⟨f, s', h', ⟨⟨r, h1⟩, e1, e2⟩, q⟩
    refine ⟨r, h1, e1, ?_⟩
    cases r with
    | v _ => cases e2; exact q
    | o _ => cases e2; exact q
    | _ => simp at e2
  · rintro ⟨r, h1, e1, q⟩
    cases r with
    | v _ => exact ⟨_, _, _, ⟨_, e1, rfl⟩, q⟩
    | o _ => exact ⟨_, _, _, ⟨_, e1, rfl⟩, q⟩
    | _ => exact q.elim
theorem w_retO {i : Nat} {xs : List Val} (e : s[i]? = some (some (.o xs))) (q : QS (.rt (.o xs)) s h) : wS (sRetO i) s h QS := ⟨_, _, _, by unfold sRetO; rw [e], q⟩
theorem w_drop : wS (sDrop m) s h QS = wE m s h fun _ h1 => QS .nx s h1 := by
  simp only [wS, wE, sDrop, Option.map_eq_some_iff, eq_iff_iff]
  constructor
  · rintro ⟨f, s', h', ⟨⟨r, h1⟩, e1, e2⟩, q⟩
    cases e2
    exact ⟨_, _, e1, q⟩
  · rintro ⟨r, h1, e1, q⟩
    exact ⟨_, _, _, ⟨_, e1, rfl⟩, q⟩
/-- the value that a result is -/
def isV (r : R) (Q : Val → Prop) : Prop := match r with
  | .v x => Q x
  | _ => False
theorem isV_v {v : Val} {Q : Val → Prop} : isV (.v v) Q = Q v := rfl
def wSl (o : Option Sl) (Q : Sl → Prop) : Prop := ∃ s, o = some s ∧ Q s
theorem wSl_some {x : Sl} {Q : Sl → Prop} : wSl (some x) Q = Q x := by simp [wSl]
theorem w_unp {T : Tg} : wS (sUnp T m) s h QS = wE m s h fun r h1 => isV r fun v => wSl (asg T v s) fun s' => QS .nx s' h1 := by
  simp only [wS, wE, wSl, sUnp, Option.bind_eq_some_iff, eq_iff_iff]
  constructor
  · rintro ⟨f, s', h', ⟨⟨r, h1⟩, e1, e2⟩, q⟩
    refine ⟨r, h1, e1, ?_⟩
    cases r with
    | v _ =>
      simp only [Option.map_eq_some_iff, Prod.mk.injEq] at e2
      obtain ⟨s2, e3, rfl, rfl, rfl⟩ := e2
      exact ⟨_, e3, q⟩
    | _ => simp at e2
  · rintro ⟨r, h1, e1, q⟩
    cases r with
    | v _ =>
      obtain ⟨s2, e3, q⟩ := q
      exact ⟨_, _, _, ⟨_, e1, by dsimp only; rw [e3]; rfl⟩, q⟩
    | _ => exact q.elim
theorem w_par {is : List Nat} : wS (sParV is ta) s h QS = wA ta s h fun rs h1 => wL (vals rs) fun vs => wSl (setAll is vs s) fun s' => QS .nx s' h1 := by
  simp only [wS, wA, wL, wSl, sParV, Option.bind_eq_some_iff, Option.map_eq_some_iff, eq_iff_iff]
  constructor
  · rintro ⟨f, s', h', ⟨⟨r, h1⟩, e1, vs, e2, s2, e3, e4⟩, q⟩
    cases e4
    exact ⟨r, _, e1, vs, e2, _, e3, q⟩
  · rintro ⟨r, h1, e1, vs, e2, s2, e3, q⟩
    exact ⟨_, _, _, ⟨_, e1, vs, e2, s2, e3, rfl⟩, q⟩
theorem w_put : wS (sPut a b m) s h QS = wE m s h fun y h1 => wE a s h1 fun o h2 => wE b s h2 fun k h3 => isV y fun y => ∃ l i xs j, o = .v (.ref l) ∧ k = .v (.int i) ∧ h3[l]? = some (.lst xs) ∧ ixN xs.length i = some j ∧ QS .nx s (h3.set l (.lst (xs.set j y))) := by
  simp only [wS, wE, sPut, Option.bind_eq_some_iff, eq_iff_iff]
  constructor
  · rintro ⟨f, s', h', ⟨⟨r, h1⟩, e1, ⟨o, h2⟩, e2, ⟨k, h3⟩, e3, e4⟩, q⟩
    refine ⟨r, h1, e1, o, h2, e2, k, h3, e3, ?_⟩
    dsimp only at e4
    split at e4
    · split at e4
      · rename_i xs ex
        simp only [Option.map_eq_some_iff, Prod.mk.injEq] at e4
        obtain ⟨j, ej, rfl, rfl, rfl⟩ := e4
        exact ⟨_, _, xs, j, rfl, rfl, ex, ej, q⟩
      · cases e4
    · cases e4
  · rintro ⟨r, h1, e1, o, h2, e2, k, h3, e3, q⟩
    cases r with
    | v y =>
      obtain ⟨l, i, xs, j, rfl, rfl, ex, ej, q⟩ := q
      exact ⟨_, _, _, ⟨_, e1, _, e2, _, e3, by dsimp only; rw [ex]; dsimp only; rw [ej]; rfl⟩, q⟩
    | _ => exact q.elim
theorem w_appO {i : Nat} {xs : List Val} (e : s[i]? = some (some (.o xs))) (q : wE m s h fun r h1 => isV r fun y => xs.length < 1000000 ∧ QS .nx (s.set i (some (.o (xs ++ [y])))) h1) : wS (sApp i m) s h QS := by
  obtain ⟨r, h1, e1, q⟩ := q
  cases r with
  | v y =>
    exact ⟨_, _, _, by unfold sApp; rw [e]; dsimp only; rw [e1]; dsimp only [Option.bind]; rw [if_pos q.1], q.2⟩
  | _ => exact q.elim
/-! defs -/
def endF (Q : QE) : Fl → Sl → Hh → Prop
  | .rt r, _, h => Q r h
  | .nx, _, h => Q (.v .non) h
  | _, _, _ => False
theorem endF_rt {r : R} : endF Q (.rt r) s h = Q r h := rfl
theorem endF_nx : endF Q .nx s h = Q (.v .non) h := rfl
theorem w_def {n np : Nat} {rs : List R} (hl : rs.length = np) : wF (mDef n np x) rs h Q = wS x (rs.map some ++ List.replicate (n - np) none) h (endF Q) := by
  simp only [wF, wS, mDef, if_pos hl, eq_iff_iff]
  constructor
  · rintro ⟨r, h', e, q⟩
    split at e
    · rename_i e1; cases e; exact ⟨_, _, _, e1, q⟩
    · rename_i e1; cases e; exact ⟨_, _, _, e1, q⟩
    · cases e
  · rintro ⟨f, s', h', e, q⟩
    cases f with
    | rt r => exact ⟨_, _, by rw [e], q⟩
    | nx => exact ⟨_, _, by rw [e], q⟩
    | bk => exact q.elim
    | ct => exact q.elim
/-! single steps -/
section
variable {s : Sl} {h : Hh} {Q : QE} {i j : Int} {p : Nat}
theorem i_varV {k : Nat} (q : ∃ x : Val, s[k]? = some (some (.v x)) ∧ Q (.v x) h) : wE (mVar k) s h Q := by
  obtain ⟨x, e, q⟩ := q
  exact ⟨_, _, by unfold mVar; rw [e]; rfl, q⟩
theorem i_varO {k : Nat} (q : ∃ x : List Val, s[k]? = some (some (.o x)) ∧ Q (.l x) h) : wE (mVar k) s h Q := by
  obtain ⟨x, e, q⟩ := q
  exact ⟨_, _, by unfold mVar; rw [e]; rfl, q⟩
theorem i_varL {k : Nat} (q : ∃ x : List Val, s[k]? = some (some (.l x)) ∧ Q (.l x) h) : wE (mVar k) s h Q := by
  obtain ⟨x, e, q⟩ := q
  exact ⟨_, _, by unfold mVar; rw [e]; rfl, q⟩
theorem i_varZ {k : Nat} (q : ∃ x : List Val, s[k]? = some (some (.z x)) ∧ Q (.z x) h) : wE (mVar k) s h Q := by
  obtain ⟨x, e, q⟩ := q
  exact ⟨_, _, by unfold mVar; rw [e]; rfl, q⟩
theorem i_c {v : Val} (q : Q (.v v) h) : wE (mC v) s h Q := ⟨_, _, rfl, q⟩
theorem i_plus (q : Q (.v (.int (i + j))) h) : wV (fPlus (.v (.int i)) (.v (.int j)) h) Q := ⟨_, _, rfl, q⟩
theorem i_plusT {xs ys : List Val} (hl : xs.length + ys.length ≤ 1000000) (q : Q (.v (.tup (xs ++ ys))) h) : wV (fPlus (.v (.tup xs)) (.v (.tup ys)) h) Q := ⟨_, _, by unfold fPlus; dsimp only; rw [if_pos hl], q⟩
theorem i_plusOO {xs ys : List Val} (hl : xs.length + ys.length ≤ 1000000) (q : Q (.o (xs ++ ys)) h) : wV (fPlus (.o xs) (.o ys) h) Q := ⟨_, _, by unfold fPlus; simp only [asW, asL, Option.bind_some]; rw [if_pos hl], q⟩
theorem i_plusLO {xs ys : List Val} (hl : xs.length + ys.length ≤ 1000000) (q : Q (.o (xs ++ ys)) h) : wV (fPlus (.l xs) (.o ys) h) Q := ⟨_, _, by unfold fPlus; simp only [asW, asL, Option.bind_some]; rw [if_pos hl], q⟩
theorem i_sub (q : Q (.v (.int (i - j))) h) : wV (fSub (.v (.int i)) (.v (.int j)) h) Q := ⟨_, _, rfl, q⟩
theorem i_lt (q : Q (.v (.bl (decide (i < j)))) h) : wV (fLt (.v (.int i)) (.v (.int j)) h) Q := ⟨_, _, rfl, q⟩
theorem i_le (q : Q (.v (.bl (decide (i ≤ j)))) h) : wV (fLe (.v (.int i)) (.v (.int j)) h) Q := ⟨_, _, rfl, q⟩
theorem i_gt (q : Q (.v (.bl (decide (j < i)))) h) : wV (fGt (.v (.int i)) (.v (.int j)) h) Q := ⟨_, _, rfl, q⟩
theorem i_ge (q : Q (.v (.bl (decide (j ≤ i)))) h) : wV (fGe (.v (.int i)) (.v (.int j)) h) Q := ⟨_, _, rfl, q⟩
theorem i_times (hc : (small64 i || small64 j) = true) (q : Q (.v (.int (i * j))) h) : wV (fTimes (.v (.int i)) (.v (.int j)) h) Q := ⟨_, _, by unfold fTimes; dsimp only; rw [if_pos hc], q⟩
theorem i_mod (hc : 0 < j) (q : Q (.v (.int (i % j))) h) : wV (fMod (.v (.int i)) (.v (.int j)) h) Q := ⟨_, _, by
  unfold fMod fI; dsimp only; rw [if_pos (decide_eq_true (show j ≠ 0 by omega)), Int.fmod_eq_emod_of_nonneg _ (by omega)], q⟩
theorem i_div (hc : 0 < j) (hj : j < 1073741824) (q : Q (.v (.int (i / j))) h) : wV (fDiv (.v (.int i)) (.v (.int j)) h) Q := ⟨_, _, by
  unfold fDiv fI; dsimp only
  rw [if_pos (show (decide (j ≠ 0) && decide (j.natAbs < 1073741824)) = true by
    simp only [Bool.and_eq_true, decide_eq_true_eq]; omega), Int.fdiv_eq_ediv_of_nonneg _ (by omega)], q⟩
theorem i_pow (h0 : 0 ≤ j) (h1 : j ≤ 1000000) (h2 : i.natAbs < 2 ^ 64) (q : Q (.v (.int (i ^ j.toNat))) h) : wV (fPow (.v (.int i)) (.v (.int j)) h) Q := ⟨_, _, by
  unfold fPow fI; dsimp only
  rw [if_pos (show (decide (0 ≤ j) && decide (j ≤ 1000000) && decide (i.natAbs < 2 ^ 64)) = true by
    simp only [Bool.and_eq_true, decide_eq_true_eq]; exact ⟨⟨h0, h1⟩, h2⟩)], q⟩
theorem i_ixT {xs : List Val} (q : ∃ v, atI xs i = some v ∧ Q (.v v) h) : wV (fIx (.v (.tup xs)) (.v (.int i)) h) Q := by
  obtain ⟨v, e, q⟩ := q
  exact ⟨_, _, by unfold fIx; dsimp only; rw [e]; rfl, q⟩
theorem i_ixO {xs : List Val} (q : ∃ v, atI xs i = some v ∧ Q (.v v) h) : wV (fIx (.o xs) (.v (.int i)) h) Q := by
  obtain ⟨v, e, q⟩ := q
  exact ⟨_, _, by unfold fIx; simp only [asL, Option.bind_some]; rw [e]; rfl, q⟩
theorem i_ixL {xs : List Val} (q : ∃ v, atI xs i = some v ∧ Q (.v v) h) : wV (fIx (.l xs) (.v (.int i)) h) Q := by
  obtain ⟨v, e, q⟩ := q
  exact ⟨_, _, by unfold fIx; simp only [asL, Option.bind_some]; rw [e]; rfl, q⟩
theorem i_ixR (q : ∃ xs v, h[p]? = some (.lst xs) ∧ atI xs i = some v ∧ Q (.v v) h) : wV (fIx (.v (.ref p)) (.v (.int i)) h) Q := by
  obtain ⟨xs, v, e0, e, q⟩ := q
  exact ⟨_, _, by unfold fIx; simp only [asL, e0, Option.bind_some]; rw [e]; rfl, q⟩
theorem i_ixZ {xs : List Val} {v : Val} (e : atI xs i = some v) (q : Q (.v v) h) : wV (fIxZ (.z xs) (.v (.int i)) h) Q := ⟨_, _, by unfold fIxZ; dsimp only; rw [e]; rfl, q⟩
theorem i_lenT {xs : List Val} (q : Q (.v (.int xs.length)) h) : wV (fLen [.v (.tup xs)] h) Q := ⟨_, _, rfl, q⟩
theorem i_lenL {xs : List Val} (q : Q (.v (.int xs.length)) h) : wV (fLen [.l xs] h) Q := ⟨_, _, rfl, q⟩
theorem i_lenO {xs : List Val} (q : Q (.v (.int xs.length)) h) : wV (fLen [.o xs] h) Q := ⟨_, _, rfl, q⟩
theorem i_lenZ {xs : List Val} (q : Q (.v (.int xs.length)) h) : wV (fLenZ [.z xs] h) Q := ⟨_, _, rfl, q⟩
theorem i_abs (q : Q (.v (.int (if i < 0 then -i else i))) h) : wV (fAbs [.v (.int i)] h) Q := ⟨_, _, rfl, q⟩
theorem i_min2 (q : Q (.v (.int (if j < i then j else i))) h) : wV (fMin2 [.v (.int i), .v (.int j)] h) Q := ⟨_, _, rfl, q⟩
theorem i_max2 (q : Q (.v (.int (if j > i then j else i))) h) : wV (fMax2 [.v (.int i), .v (.int j)] h) Q := ⟨_, _, rfl, q⟩
theorem i_intB {b : Bool} (q : Q (.v (.int (if b then 1 else 0))) h) : wV (fInt [.v (.bl b)] h) Q := ⟨_, _, rfl, q⟩
theorem i_tupO {xs : List Val} (q : Q (.v (.tup xs)) h) : wV (fTuple [.o xs] h) Q := ⟨_, _, rfl, q⟩
theorem i_tupL {xs : List Val} (q : Q (.v (.tup xs)) h) : wV (fTuple [.l xs] h) Q := ⟨_, _, rfl, q⟩
theorem i_listT {xs : List Val} (q : Q (.o xs) h) : wV (fList [.v (.tup xs)] h) Q := ⟨_, _, rfl, q⟩
theorem i_allO {bs : List Bool} (q : Q (.v (.bl (bs.all id))) h) : wV (fAll [.o (bs.map .bl)] h) Q := ⟨_, _, by unfold fAll; simp only [asL, Option.bind_some, mapO_bl_map, Option.map_some], q⟩
theorem i_isi {r : R} {t : Ty} (q : ∃ u, tyR h r = some u ∧ Q (.v (.bl (isi u t))) h) : wV (fIsi [r, .v (.ty t)] h) Q := by
  obtain ⟨u, e, q⟩ := q
  exact ⟨_, _, by unfold fIsi; dsimp only; rw [e]; rfl, q⟩
theorem i_slT {xs : List Val} {lo hi : Option Int} (q : Q (.v (.tup (cut xs lo hi))) h) : wV (slV (.v (.tup xs)) lo hi h) Q := ⟨_, _, rfl, q⟩
theorem i_sset {m : ME} {s : Sl} (q : wE m s h fun r h1 => ∃ xs ns, asQ h1 r = some xs ∧ mapO asInt xs = some ns ∧ ns.length ≤ 4000 ∧ (sset ns).length < 64 ∧ Q (.o ((sset ns).map .int)) h1) : wE (mSS m) s h Q := by
  obtain ⟨r, h1, e1, xs, ns, e2, e3, e4, e5, q⟩ := q
  exact ⟨_, _, by unfold mSS; rw [e1]; simp only [Option.bind_some]; rw [e2]; simp only [Option.bind_some]; rw [e3]; simp only [Option.bind_some]; rw [if_pos ⟨e4, e5⟩], q⟩
end
theorem w_vnil {Q : List Val → Prop} : wL (vals []) Q = Q [] := propext ⟨fun ⟨_, e, q⟩ => by cases e; exact q, fun q => ⟨_, rfl, q⟩⟩
theorem w_vcons {v : Val} {rs : List R} {Q : List Val → Prop} : wL (vals (.v v :: rs)) Q = wL (vals rs) fun vs => Q (v :: vs) := propext ⟨fun ⟨xs, e, q⟩ => by
    simp only [vals, Option.map_eq_some_iff] at e
    obtain ⟨ws, e1, rfl⟩ := e
    exact ⟨ws, e1, q⟩, fun ⟨ws, e, q⟩ => ⟨_, by unfold vals; rw [e]; rfl, q⟩⟩
theorem w_sanil {s : Sl} {Q : Sl → Prop} : wSl (setAll [] [] s) Q = Q s := propext ⟨fun ⟨_, e, q⟩ => by cases e; exact q, fun q => ⟨_, rfl, q⟩⟩
theorem w_sacons {i : Nat} {is : List Nat} {v : Val} {vs : List Val} {s : Sl} {Q : Sl → Prop} : wSl (setAll (i :: is) (v :: vs) s) Q = wSl (setAll is vs (s.set i (some (.v v)))) Q := rfl
theorem w_asgT {is : List Nat} {vs : List Val} {s : Sl} {Q : Sl → Prop} : wSl (asg (.tp is) (.tup vs) s) Q = wSl (setAll is vs s) Q := rfl
theorem w_asgN {i : Nat} {v : Val} {s : Sl} {Q : Sl → Prop} : wSl (asg (.nm i) v s) Q = Q (s.set i (some (.v v))) := propext ⟨fun ⟨_, e, q⟩ => by cases e; exact q, fun q => ⟨_, rfl, q⟩⟩
theorem ite_t {A B : Prop} (h : A) : (if true = true then A else B) := by simpa using h
theorem ite_f {A B : Prop} (h : B) : (if false = true then A else B) := by simpa using h
theorem ite_c {c : Bool} {A B : Prop} (h1 : c = true → A) (h2 : c = false → B) : (if c = true then A else B) := by
  cases c
  · exact ite_f (h2 rfl)
  · exact ite_t (h1 rfl)
/-! loops -/
section
variable {s : Sl} {h : Hh} {QS : Fl → Sl → Hh → Prop} {T : Tg} {b : MS}
theorem for_inv {items : List Val} (I : Nat → Sl → Hh → Prop) (h0 : I 0 s h) (hs : ∀ i v s h, items[i]? = some v → I i s h → ∃ s1, asg T v s = some s1 ∧ wS b s1 h fun f s2 h2 => match f with
      | .nx => I (i + 1) s2 h2
      | .ct => I (i + 1) s2 h2
      | .bk => QS .nx s2 h2
      | .rt r => QS (.rt r) s2 h2) (hd : ∀ s h, I items.length s h → QS .nx s h) : wS (forL (fun _ => True) T b items) s h QS := by
  have key : ∀ (k i : Nat) (s : Sl) (h : Hh), i + k = items.length → I i s h → wS (forL (fun _ => True) T b (items.drop i)) s h QS := by
    intro k
    induction k with
    | zero =>
      intro i s h hk q
      rw [List.drop_of_length_le (by omega)]
      have : i = items.length := by omega
      subst this
      exact ⟨_, _, _, by unfold forL; rw [if_pos trivial], hd s h q⟩
    | succ k ih =>
      intro i s h hk q
      have hi : i < items.length := by omega
      rw [List.drop_eq_getElem_cons hi]
      obtain ⟨s1, e1, f, s2, h2, e2, q2⟩ := hs i items[i] s h (List.getElem?_eq_getElem hi) q
      cases f with
      | nx =>
        obtain ⟨f', s', h', e3, q3⟩ := ih (i + 1) s2 h2 (by omega) q2
        exact ⟨f', s', h', by unfold forL; rw [if_pos trivial, e1]; simp only [Option.bind_some, e2]; exact e3, q3⟩
      | ct =>
        obtain ⟨f', s', h', e3, q3⟩ := ih (i + 1) s2 h2 (by omega) q2
        exact ⟨f', s', h', by unfold forL; rw [if_pos trivial, e1]; simp only [Option.bind_some, e2]; exact e3, q3⟩
      | bk => exact ⟨_, _, _, by unfold forL; rw [if_pos trivial, e1]; simp only [Option.bind_some, e2], q2⟩
      | rt r => exact ⟨_, _, _, by unfold forL; rw [if_pos trivial, e1]; simp only [Option.bind_some, e2], q2⟩
  exact key items.length 0 s h (by omega) h0
/-- for k in range(n) -/
theorem for_range {m : ME} {q : Nat} (hm : wE m s h fun r h1 => ∃ n : Int, r = .v (.int n) ∧ -(2 ^ 62) ≤ n ∧ n < 2 ^ 62 ∧ ∃ I : Nat → Sl → Hh → Prop, I 0 s h1 ∧ (∀ (i : Nat) s h, i < n.toNat → I i s h → wS b (s.set q (some (.v (.int i)))) h fun f s2 h2 => match f with
      | .nx => I (i + 1) s2 h2
      | .ct => I (i + 1) s2 h2
      | .bk => QS .nx s2 h2
      | .rt r => QS (.rt r) s2 h2) ∧ ∀ s h, I n.toNat s h → QS .nx s h) : wS (sFor (jI (iR1 m)) (.nm q) b) s h QS := by
  obtain ⟨r, h1, e1, n, rfl, l1, l2, I, i0, is, id⟩ := hm
  have z : wS (forL (fun _ => True) (.nm q) b ((List.range n.toNat).map fun (i : Nat) => Val.int (0 + (i : Int)))) s h1 QS := by
    refine for_inv I i0 (fun i v s h e q => ?_) (by simpa using id)
    simp only [List.getElem?_map, Option.map_eq_some_iff] at e
    obtain ⟨k, e2, rfl⟩ := e
    have hlt : i < n.toNat := by
      have := (List.getElem?_eq_some_iff.mp e2).1
      simpa using this
    rw [List.getElem?_range hlt] at e2
    cases e2
    refine ⟨_, rfl, ?_⟩
    rw [Int.zero_add]
    exact is i s h hlt q
  obtain ⟨f, s', h', e2, q2⟩ := z
  exact ⟨f, s', h', by unfold sFor jI iR1; simp only [e1, Option.bind_some]; rw [if_pos ⟨l1, l2⟩]; exact e2, q2⟩
/-! comprehensions -/
theorem lc_inv {t : MT} {e : ME} {s0 : Sl} {Q : List Val → Hh → Prop} {items : List Val} (hl : items.length ≤ 100000) (I : Nat → List Val → Hh → Prop) (h0 : I 0 [] h) (hs : ∀ i v acc h, items[i]? = some v → acc.length ≤ i → I i acc h → ∃ s1, asg T v s0 = some s1 ∧ wT t s1 h fun c h1 => if c = true then wE e s1 h1 fun r h2 => isV r fun y => I (i + 1) (acc ++ [y]) h2 else I (i + 1) acc h1)
    (hd : ∀ acc h, acc.length ≤ items.length → I items.length acc h → Q acc h) : ∃ acc h', lcL (fun _ => True) T t e s0 items [] h = some (acc, h') ∧ Q acc h' := by
  have key : ∀ (k i : Nat) (acc : List Val) (h : Hh), i + k = items.length → acc.length ≤ i → I i acc h → ∃ acc' h', lcL (fun _ => True) T t e s0 (items.drop i) acc h = some (acc', h') ∧ Q acc' h' := by
    intro k
    induction k with
    | zero =>
      intro i acc h hk ha q
      rw [List.drop_of_length_le (by omega)]
      have : i = items.length := by omega
      subst this
      exact ⟨acc, h, by unfold lcL; rw [if_pos trivial], hd acc h ha q⟩
    | succ k ih =>
      intro i acc h hk ha q
      have hi : i < items.length := by omega
      rw [List.drop_eq_getElem_cons hi]
      obtain ⟨s1, e1, c, h1, e2, q2⟩ := hs i items[i] acc h (List.getElem?_eq_getElem hi) ha q
      cases c with
      | false =>
        obtain ⟨acc', h', e3, q3⟩ := ih (i + 1) acc h1 (by omega) (by omega) (by simpa using q2)
        exact ⟨acc', h', by unfold lcL; rw [if_pos ⟨trivial, by omega⟩, e1]; simp only [Option.bind_some, e2]; exact e3, q3⟩
      | true =>
        simp only [if_true] at q2
        obtain ⟨r, h2, e3, q3⟩ := q2
        cases r with
        | v y =>
          obtain ⟨acc', h', e4, q4⟩ := ih (i + 1) (acc ++ [y]) h2 (by omega) (by simp; omega) q3
          exact ⟨acc', h', by unfold lcL; rw [if_pos ⟨trivial, by omega⟩, e1]; simp only [Option.bind_some, e2, if_true, e3]; exact e4, q4⟩
        | _ => exact q3.elim
  exact key items.length 0 [] h (by omega) (by simp) h0
/-- one that leaves the heap, of each item a value -/
theorem lc_map {e : ME} {s0 : Sl} {items : List Val} {f : Val → Val} (hl : items.length ≤ 100000) (hs : ∀ v ∈ items, ∃ s1, asg T v s0 = some s1 ∧ e s1 h = some (.v (f v), h)) : lcL (fun _ => True) T tYe e s0 items [] h = some (items.map f, h) := by
  obtain ⟨acc, h', e1, e2, e3⟩ := lc_inv (T := T) (t := tYe) (e := e) (s0 := s0) (h := h) (Q := fun acc h' => acc = items.map f ∧ h' = h) hl (fun i acc h' => acc = (items.take i).map f ∧ h' = h) ⟨by simp, rfl⟩ (fun i v acc h1 ev _ q => by
    obtain ⟨rfl, rfl⟩ := q
    obtain ⟨s1, e1, e2⟩ := hs v (List.mem_of_getElem? ev)
    refine ⟨s1, e1, true, h1, rfl, ?_⟩
    simp only [if_true]
    refine ⟨_, _, e2, ?_⟩
    show _ = _ ∧ _
    refine ⟨?_, rfl⟩
    rw [List.take_add_one, ev]; simp) (fun acc h' _ q => by
    rw [List.take_length] at q; exact q)
  subst e2 e3
  exact e1
end
end
theorem i_def {n np : Nat} {rs : List R} {h : Hh} {Q : QE} {x : MS} (s0 : Sl) (hl : rs.length = np) (e : rs.map some ++ List.replicate (n - np) none = s0) (q : wS x s0 h (endF Q)) : wF (mDef n np x) rs h Q := by
  rw [w_def hl, e]; exact q
theorem wE_mono {m : ME} {s : Sl} {h : Hh} {Q Q' : QE} (e : wE m s h Q) (f : ∀ r h', Q r h' → Q' r h') : wE m s h Q' := by
  obtain ⟨r, h', e1, q⟩ := e; exact ⟨r, h', e1, f _ _ q⟩
theorem wF_mono {m : FM} {s : List R} {h : Hh} {Q Q' : QE} (e : wF m s h Q) (f : ∀ r h', Q r h' → Q' r h') : wF m s h Q' := by
  obtain ⟨r, h', e1, q⟩ := e; exact ⟨r, h', e1, f _ _ q⟩
theorem wS_mono {m : MS} {s : Sl} {h : Hh} {Q Q' : Fl → Sl → Hh → Prop} (e : wS m s h Q) (f : ∀ r s' h', Q r s' h' → Q' r s' h') : wS m s h Q' := by
  obtain ⟨r, s', h', e1, q⟩ := e; exact ⟨r, s', h', e1, f _ _ _ q⟩
end NL
set_option Elab.async false
set_option linter.all false
set_option maxRecDepth 100000
set_option maxHeartbeats 4000000
set_option autoImplicit false
namespace NL
open PySem L2
open Classical
section
variable {s : Sl} {h : Hh} {Q : QE} {i j : Int}
theorem i_eqI (q : Q (.v (.bl (i == j))) h) : wV (fEq false (.v (.int i)) (.v (.int j)) h) Q := ⟨_, _, rfl, by
  have : (PyData.eqv (.int i) (.int j) != false) = (i == j) := by simp [PyData.eqv]
  rw [this]; exact q⟩
theorem i_neI (q : Q (.v (.bl (!(i == j)))) h) : wV (fEq true (.v (.int i)) (.v (.int j)) h) Q := ⟨_, _, rfl, by
  have : (PyData.eqv (.int i) (.int j) != true) = (!(i == j)) := by simp [PyData.eqv]
  rw [this]; exact q⟩
theorem mapO_datI {n : Nat} : ∀ (ns : List Int), mapO (datV h n) (ns.map .int) = some (ns.map .int)
  | [] => rfl
  | a :: as => by
    have e : datV h n (.int a) = some (.int a) := by cases n <;> rfl
    simp [mapO, e, mapO_datI as]
theorem eqvAll_ints : ∀ (a b : List Int), PyData.eqvAll (a.map .int) (b.map .int) = (a == b)
  | [], [] => by simp [PyData.eqvAll]
  | [], b :: bs => by simp [PyData.eqvAll]
  | a :: as, [] => by simp [PyData.eqvAll]
  | a :: as, b :: bs => by
    simp only [List.map_cons, PyData.eqvAll, PyData.eqv, eqvAll_ints as bs]
    rfl
/-- two lists of whole numbers -/
theorem i_neOO {a b : List Int} (q : Q (.v (.bl (!(a == b)))) h) : wV (fEq true (.o (a.map .int)) (.o (b.map .int)) h) Q := by
  have e : (PyData.eqv (.list (a.map .int)) (.list (b.map .int)) != true) = (!(a == b)) := by
    rw [show PyData.eqv (.list (a.map .int)) (.list (b.map .int)) = PyData.eqvAll (a.map .int) (b.map .int) by simp [PyData.eqv], eqvAll_ints]; simp
  refine ⟨.v (.bl (!(a == b))), h, ?_, q⟩
  unfold fEq
  simp only [dat, mapO_datI, Option.map_some, Option.bind_some]
  rw [e]
theorem mapO_length {α β : Type} {f : α → Option β} : ∀ {xs : List α} {ys : List β}, mapO f xs = some ys → ys.length = xs.length
  | [], ys, e => by simp only [mapO, Option.some.injEq] at e; subst e; rfl
  | a :: as, ys, e => by
    simp only [mapO, Option.bind_eq_some_iff, Option.some.injEq] at e
    obtain ⟨b, _, bs, e2, rfl⟩ := e
    simp [mapO_length e2]
theorem empty_len {α β : Type} {xs : List α} {ys : List β} (e : ys.length = xs.length) : ys.isEmpty = xs.isEmpty := by
  cases xs <;> cases ys <;> simp_all
/-- a tuple and the empty one -/
theorem i_eqT0 {xs : List Val} {ds : List PyData} (e : mapO (datV h 19) xs = some ds) (q : Q (.v (.bl xs.isEmpty)) h) : wV (fEq false (.v (.tup xs)) (.v (.tup [])) h) Q := by
  have e2 : (PyData.eqv (.tuple ds) (.tuple []) != false) = xs.isEmpty := by
    rw [← empty_len (mapO_length e)]
    cases ds <;> simp [PyData.eqv, PyData.eqvAll]
  refine ⟨.v (.bl xs.isEmpty), h, ?_, q⟩
  unfold fEq
  simp only [dat, datV, e, mapO, Option.map_some, Option.bind_some]
  rw [e2]
/-- a list and the empty one -/
theorem i_eqO0 {xs : List Val} {ds : List PyData} (e : mapO (datV h 20) xs = some ds) (q : Q (.v (.bl xs.isEmpty)) h) : wV (fEq false (.o xs) (.o []) h) Q := by
  have e2 : (PyData.eqv (.list ds) (.list []) != false) = xs.isEmpty := by
    rw [← empty_len (mapO_length e)]
    cases ds <;> simp [PyData.eqv, PyData.eqvAll]
  refine ⟨.v (.bl xs.isEmpty), h, ?_, q⟩
  unfold fEq
  simp only [dat, e, mapO, Option.map_some, Option.bind_some]
  rw [e2]
theorem i_lenle {xs : List Val} {A : Prop} (e : xs.length ≤ 1000000) (q : A) : xs.length ≤ 1000000 ∧ A := ⟨e, q⟩
theorem i_truB {b : Bool} {K : Bool → Prop} (q : K b) : ∃ c, tru h (.v (.bl b)) = some c ∧ K c := ⟨b, rfl, q⟩
theorem i_isB {a b : Bool} (q : Q (.v (.bl (a == b))) h) : wV (fIs false (.v (.bl a)) (.v (.bl b)) h) Q := ⟨_, _, rfl, by simpa using q⟩
theorem i_isntB {a b : Bool} (q : Q (.v (.bl (!(a == b)))) h) : wV (fIs true (.v (.bl a)) (.v (.bl b)) h) Q := ⟨_, _, rfl, by simpa using q⟩
/-! comprehensions by what they walk -/
variable {W : List Nat} {T : Tg} {t : MT} {e m m' : ME}
theorem i_lcR (q : wE m s h fun r h1 => ∃ n : Int, r = .v (.int n) ∧ -(2 ^ 62) ≤ n ∧ n < 2 ^ 62 ∧ ∃ acc h', lcL (fun _ => True) T t e (wipeA s W) ((List.range n.toNat).map fun (i : Nat) => Val.int (0 + (i : Int))) [] h1 = some (acc, h') ∧ Q (.o acc) h') : wE (mLc W (iR1 m) T t e) s h Q := by
  obtain ⟨r, h1, e1, n, rfl, l1, l2, acc, h', e2, q⟩ := q
  refine ⟨_, _, ?_, q⟩
  unfold mLc iR1
  simp only [e1, Option.bind_some]
  rw [if_pos ⟨l1, l2⟩]
  simp only [Option.bind_some, e2, Option.map_some]
theorem i_lcT (q : wE m s h fun r h1 => ∃ items, (r = .v (.tup items) ∨ r = .l items ∨ r = .o items) ∧ ∃ acc h', lcL (fun _ => True) T t e (wipeA s W) items [] h1 = some (acc, h') ∧ Q (.o acc) h') : wE (mLc W (iE m) T t e) s h Q := by
  obtain ⟨r, h1, e1, items, hr, acc, h', e2, q⟩ := q
  refine ⟨_, _, ?_, q⟩
  unfold mLc iE
  simp only [e1, Option.bind_some]
  rcases hr with rfl | rfl | rfl <;> simp only [Option.bind_some, e2, Option.map_some]
theorem i_lcZ (q : wE m s h fun r h1 => wE m' s h1 fun r' h2 => ∃ xs ys, r = .v (.tup xs) ∧ r' = .v (.tup ys) ∧ ∃ acc h', lcL (fun _ => True) T t e (wipeA s W) ((xs.zip ys).map fun p => Val.tup [p.1, p.2]) [] h2 = some (acc, h') ∧ Q (.o acc) h') : wE (mLc W (iZ m m') T t e) s h Q := by
  obtain ⟨r, h1, e1, r', h2, e3, xs, ys, rfl, rfl, acc, h', e2, q⟩ := q
  refine ⟨_, _, ?_, q⟩
  unfold mLc iZ
  simp only [e1, e3, Option.bind_some, e2, Option.map_some]
/-- items that are tested and told, the heap kept -/
theorem lc_pure {items : List Val} {f : Val → Val} {p : Val → Bool} {s0 : Sl} (hl : items.length ≤ 100000) (hs : ∀ v ∈ items, ∃ s1, asg T v s0 = some s1 ∧ t s1 h = some (p v, h) ∧ (p v = true → e s1 h = some (.v (f v), h))) : lcL (fun _ => True) T t e s0 items [] h = some ((items.filter p).map f, h) := by
  obtain ⟨acc, h', e1, e2, e3⟩ := lc_inv (T := T) (t := t) (e := e) (s0 := s0) (h := h) (Q := fun acc h' => acc = (items.filter p).map f ∧ h' = h) hl (fun i acc h' => acc = ((items.take i).filter p).map f ∧ h' = h) ⟨by simp, rfl⟩ (fun i v acc h1 ev _ q => by
    obtain ⟨rfl, rfl⟩ := q
    obtain ⟨s1, e1, e2, e3⟩ := hs v (List.mem_of_getElem? ev)
    refine ⟨s1, e1, p v, h1, e2, ?_⟩
    cases hp : p v with
    | true =>
      simp only [if_true]
      refine ⟨_, _, e3 hp, ?_⟩
      show _ = _ ∧ _
      refine ⟨?_, rfl⟩
      rw [List.take_add_one, ev]; simp [hp]
    | false =>
      simp only [Bool.false_eq_true, if_false]
      refine ⟨?_, trivial⟩
      rw [List.take_add_one, ev]; simp [hp]) (fun acc h' _ q => by
    rw [List.take_length] at q; exact q)
  subst e2 e3
  exact e1
end
end NL
set_option Elab.async false
set_option linter.all false
set_option maxRecDepth 100000
set_option maxHeartbeats 4000000
set_option autoImplicit false
namespace NL
open PySem L2
open Classical
variable [HasK]

/-! ### x.extend(list), x an own list's name -/
def sExt (i : Nat) (m : ME) : MS := fun s h => match s[i]? with
  | some (some (.o xs)) => (m s h).bind fun p => (asW p.2 p.1).bind fun ys => if xs.length + ys.length ≤ 1000000 then some (.nx, s.set i (some (.o (xs ++ ys))), p.2) else none
  | some (some (.v (.ref q))) => if isLs h q then (m s h).bind fun p => (asW p.2 p.1).bind fun ys => match p.2[q]? with
      | some (.lst xs) => if xs.length + ys.length ≤ 1000000 then some (.nx, s, p.2.set q (.lst (xs ++ ys))) else none
      | _ => none
    else none
  | _ => none
theorem rd_ext {K : PySem.W.Frag} {i : Nat} {m : ME} {D : Ends} {σ : St} {H : Hp} (q : rdS (sExt i m) D σ H) : tDrop (tBM K "list" rExtend (tVar i) (tCons (rdE m) tNil)) D σ H := by
  obtain ⟨c, ow, σa, h, fl, σa', h', k, e, f⟩ := q
  unfold sExt at e
  split at e
  · rename_i xs e0
    simp only [Option.bind_eq_some_iff] at e
    obtain ⟨⟨r1, h1⟩, e1, zs, e2, e3⟩ := e
    obtain ⟨y, es, a, ys, rfl, e4, e5, e6⟩ := k.sl i _ e0
    refine ⟨_, es, .inl ⟨rfl, ys, .inl (.inl e4)⟩, c, ow, σa, h, r1, h1, k, e1, fun c1 H1 x E1 K1 R1 => ?_⟩
    have k1 := k.ext E1 K1
    have na := (k.oc i a e6).1
    dsimp only at e2 e3
    split at e3
    · rename_i hl
      simp only [Option.some.injEq, Prod.mk.injEq] at e3
      obtain ⟨rfl, rfl, rfl⟩ := e3
      obtain ⟨b, us, rfl, t1, v1⟩ := asW_rr K1 e2 R1
      have e5' := VRs.mono (E1.tk k.hr) _ _ e5
      obtain ⟨k2, x2⟩ := k1.setOwn e0 e6 es (e5'.append v1)
      exact ⟨a, b, ys, us, rfl, rfl, E1.keep _ _ e4 na, t1, szl (by rw [← e5.length, ← v1.length]; exact hl), f c1 ow σ _ (E1.s.trans x2) k2⟩
    · cases e3
  · rename_i q e0
    split at e
    case isFalse => cases e
    rename_i hls
    simp only [Option.bind_eq_some_iff] at e
    obtain ⟨⟨r1, h1⟩, e1, zs, e2, e3⟩ := e
    obtain ⟨y, es, e4⟩ := k.sl i _ e0
    have e4 : VR c H (.ref q) y := e4
    unfold VR at e4
    obtain ⟨a, rfl, e5⟩ := e4
    obtain ⟨us, ea⟩ := isLs_rr k.hr e5 hls
    refine ⟨_, es, .inl ⟨rfl, us, .inl (.inl ea)⟩, c, ow, σa, h, r1, h1, k, e1, fun c1 H1 x E1 K1 R1 => ?_⟩
    have k1 := k.ext E1 K1
    dsimp only at e2 e3
    split at e3
    · rename_i xs ex
      split at e3
      · rename_i hl
        simp only [Option.some.injEq, Prod.mk.injEq] at e3
        obtain ⟨rfl, rfl, rfl⟩ := e3
        obtain ⟨b, vs, rfl, t1, v1⟩ := asW_rr K1 e2 R1
        have e6 := E1.get e5
        obtain ⟨o, e7, e8⟩ := K1.cell q a e6
        rw [ex] at e7
        cases e7
        obtain ⟨ys, e9, e10⟩ := e8
        obtain ⟨k2, x2, tk2⟩ := K1.setCell e6 ex rfl (e10.append v1)
        exact ⟨a, b, ys, vs, rfl, rfl, e9, t1, szl (by rw [← e10.length, ← v1.length]; exact hl), f c1 ow σ _ (E1.trans x2).s (k1.ext x2 k2)⟩
      · cases e3
    · cases e3
  · cases e
section
variable {X : Cx} {e o : Expr} {m mo : ME} {pos apos cpos : Pos}
theorem ss_extend (i : Nat) {x : Str} {p : Pos} (he : SE X e m) (hN : X.N[i]? = some x := by rfl) (hv : Vis X.env.scope x := by first | exact Or.inl rfl | exact Or.inr (Or.inl rfl) | exact Or.inr (Or.inr rfl)) (hd : (x == ("__debug__" : Str)) = false := by decide)
    (hcd : (x == ("__classdict__" : Str)) = false := by decide)
    (hbase : attributeBase (.Name x p) "extend" X.env (eval (.Name x p) X.env) = eval (.Name x p) X.env := by rfl)
    (hfew : ((backTo cpos (starEach [e] X.env)).all (fun x => !x.1) && (backToKw cpos (keywordEach [] X.env)).all (fun x => x.1.isSome) && decide (([e] : List Expr).length + ([] : List Keyword).length + (if ([] : List Keyword).isEmpty then 0 else 1) < 30)) = true := by rfl)
    (hline : (apos.endLine == cpos.line) = true := by rfl) (hs : starEach [e] X.env = (false, eval e X.env) :: starEach [] X.env := by rfl) (hplain : (backTo cpos (starEach [] X.env)).any (·.1) = false := by rfl)
    (hsw : swapsWith (.Call (.Attribute (.Name x p) "extend" apos) [e] [] cpos) none pos.line X.env = pure false := by rfl) :
    SS X (.Expr (.Call (.Attribute (.Name x p) "extend" apos) [e] [] cpos) pos) (sExt i m) :=
  ps_imp (ps_expr (pe_bm PySem.F.plainAttrs_list PySem.F.slot_list_extend PySem.F.type_list_extend mt_extend (pe_var hN hv hd hcd) (pa_cons he pa_nil hs) hbase hfew hline hs hplain) hsw) fun _ _ _ => rd_ext

/-! ### o.append(e), o a list of the plain heap by an expression -/
def sAppE (mo m : ME) : MS := fun s h => (mo s h).bind fun p => match p.1 with
  | .v (.ref q) => if isLs p.2 q then (m s p.2).bind fun r => match r.1 with
    | .v y => match r.2[q]? with
      | some (.lst xs) => if xs.length < 1000000 then some (.nx, s, r.2.set q (.lst (xs ++ [y]))) else none
      | _ => none
    | _ => none else none
  | _ => none
theorem rd_appE {K : PySem.W.Frag} {D : Ends} {σ : St} {H : Hp} (q : rdS (sAppE mo m) D σ H) : tDrop (tBM K "list" rAppend (rdE mo) (tCons (rdE m) tNil)) D σ H := by
  obtain ⟨c, ow, σa, h, fl, σa', h', k, e, f⟩ := q
  simp only [sAppE, Option.bind_eq_some_iff] at e
  obtain ⟨⟨r1, h1⟩, e1, e2⟩ := e
  refine ⟨c, ow, σa, h, r1, h1, k, e1, fun c1 H1 x E1 K1 R1 => ?_⟩
  have k1 := k.ext E1 K1
  dsimp only at e2
  split at e2
  · rename_i q
    split at e2
    case isFalse => cases e2
    rename_i hls
    simp only [Option.bind_eq_some_iff] at e2
    obtain ⟨⟨r2, h2⟩, e3, e4⟩ := e2
    have R1' : VR c1 H1 (.ref q) x := R1
    unfold VR at R1'
    obtain ⟨a, rfl, e5⟩ := R1'
    obtain ⟨us, ea⟩ := isLs_rr K1 e5 hls
    refine ⟨.inl ⟨rfl, us, .inl (.inl ea)⟩, c1, ow, σa, h1, r2, h2, k1, e3, fun c2 H2 y E2 K2 R2 => ?_⟩
    have k2 := k1.ext E2 K2
    dsimp only at e4
    split at e4
    · split at e4
      · rename_i xs ex
        split at e4
        · rename_i hl
          simp only [Option.some.injEq, Prod.mk.injEq] at e4
          obtain ⟨rfl, rfl, rfl⟩ := e4
          have e6 := E2.get e5
          obtain ⟨ob, e7, e8⟩ := K2.cell q a e6
          rw [ex] at e7
          cases e7
          obtain ⟨ys, e9, e10⟩ := e8
          obtain ⟨k3, x3, _⟩ := K2.setCell e6 ex rfl (e10.append (VRs.cons R2 VRs.nil))
          exact ⟨a, ys, y, rfl, rfl, e9, szlt (by rw [← e10.length]; exact hl), f c2 ow σ _ ((E1.trans E2).trans x3).s (k2.ext x3 k3)⟩
        · cases e4
      · cases e4
    · cases e4
  · cases e2
theorem ss_appendE (ho : SE X o mo) (he : SE X e m)
    (hbase : attributeBase o "append" X.env (eval o X.env) = eval o X.env := by rfl)
    (hfew : ((backTo cpos (starEach [e] X.env)).all (fun x => !x.1) && (backToKw cpos (keywordEach [] X.env)).all (fun x => x.1.isSome) && decide (([e] : List Expr).length + ([] : List Keyword).length + (if ([] : List Keyword).isEmpty then 0 else 1) < 30)) = true := by rfl)
    (hline : (apos.endLine == cpos.line) = true := by rfl) (hs : starEach [e] X.env = (false, eval e X.env) :: starEach [] X.env := by rfl) (hplain : (backTo cpos (starEach [] X.env)).any (·.1) = false := by rfl)
    (hsw : swapsWith (.Call (.Attribute o "append" apos) [e] [] cpos) none pos.line X.env = pure false := by rfl) :
    SS X (.Expr (.Call (.Attribute o "append" apos) [e] [] cpos) pos) (sAppE mo m) :=
  ps_imp (ps_expr (pe_bm PySem.F.plainAttrs_list PySem.F.slot_list_append PySem.F.type_list_append mt_append ho (pa_cons he pa_nil hs) hbase hfew hline hs hplain) hsw) fun _ _ _ => rd_appE

/-! ### x = y.pop(), y.pop(), y an own list -/
def sPop (i : Nat) : MS := fun s h => match s[i]? with
  | some (some (.o xs)) => if xs = [] then none else some (.nx, s.set i (some (.o xs.dropLast)), h)
  | _ => none
def sPopTo (j i : Nat) : MS := fun s h => match s[i]? with
  | some (some (.o xs)) => match xs.getLast? with
    | some y => some (.nx, (s.set i (some (.o xs.dropLast))).set j (some (.v y)), h)
    | none => none
  | _ => none
theorem VRs.dropLast {c : List Addr} {H : Hp} : ∀ {vs : List Val} {xs : List V}, VRs c H vs xs → VRs c H vs.dropLast xs.dropLast := fun {vs xs} q => by
  rw [List.dropLast_eq_take, List.dropLast_eq_take, q.length]
  exact q.take _
theorem VRs.last {c : List Addr} {H : Hp} {vs : List Val} {xs : List V} {y : Val} (q : VRs c H vs xs) (e : vs.getLast? = some y) : ∃ x, xs[xs.length - 1]? = some x ∧ VR c H y x := by
  rw [List.getLast?_eq_getElem?, q.length] at e
  exact q.get e
theorem ss_pop (i : Nat) {x : Str} {p : Pos} (hN : X.N[i]? = some x := by rfl) (hv : Vis X.env.scope x := by first | exact Or.inl rfl | exact Or.inr (Or.inl rfl) | exact Or.inr (Or.inr rfl)) (hd : (x == ("__debug__" : Str)) = false := by decide)
    (hcd : (x == ("__classdict__" : Str)) = false := by decide)
    (hbase : attributeBase (.Name x p) "pop" X.env (eval (.Name x p) X.env) = eval (.Name x p) X.env := by rfl) (hline : (apos.endLine == cpos.line) = true := by rfl)
    (hsw : swapsWith (.Call (.Attribute (.Name x p) "pop" apos) [] [] cpos) none pos.line X.env = pure false := by rfl) :
    SS X (.Expr (.Call (.Attribute (.Name x p) "pop" apos) [] [] cpos) pos) (sPop i) :=
  ps_imp (ps_expr (pe_bm0 PySem.F.plainAttrs_list PySem.F.slot_list_pop PySem.F.type_list_pop mt_pop (pe_var hN hv hd hcd) hbase hline) hsw) fun D σ H q => by
    obtain ⟨c, ow, σa, h, fl, σa', h', k, e, f⟩ := q
    unfold sPop at e
    split at e
    · rename_i xs e0
      split at e
      · cases e
      · rename_i hne
        simp only [Option.some.injEq, Prod.mk.injEq] at e
        obtain ⟨rfl, rfl, rfl⟩ := e
        obtain ⟨y, es, a, ys, rfl, e4, e5, e6⟩ := k.sl i _ e0
        obtain ⟨z, ez, _⟩ := e5.last (List.getLast?_eq_getLast hne)
        obtain ⟨k2, x2⟩ := k.setOwn e0 e6 es e5.dropLast
        exact ⟨_, es, .inl ⟨rfl, ys, .inl (.inl e4)⟩, a, ys, z, rfl, rfl, e4, ez, f c ow σ _ x2 k2⟩
    · cases e
theorem ss_popTo (j i : Nat) {x w : Str} {p pw : Pos} (hnd : X.N.Nodup) (hN : X.N[i]? = some x := by rfl) (hv : Vis X.env.scope x := by first | exact Or.inl rfl | exact Or.inr (Or.inl rfl) | exact Or.inr (Or.inr rfl)) (hd : (x == ("__debug__" : Str)) = false := by decide)
    (hcd : (x == ("__classdict__" : Str)) = false := by decide)
    (hbase : attributeBase (.Name x p) "pop" X.env (eval (.Name x p) X.env) = eval (.Name x p) X.env := by rfl) (hline : (apos.endLine == cpos.line) = true := by rfl)
    (hj : X.N[j]? = some w := by rfl) (hx : Loc X.env.scope w := by first | exact Or.inl rfl | exact Or.inr rfl) (hs : swapsWith (.Call (.Attribute (.Name x p) "pop" apos) [] [] cpos) (some (.Name w pw)) pos.line X.env = pure false := by rfl)
    (hf : X.fn w = true ∨ X.env.scope.names.lookup w = some .local := by first | exact .inl rfl | exact .inr rfl) :
    SS X (.Assign [.Name w pw] (.Call (.Attribute (.Name x p) "pop" apos) [] [] cpos) pos) (sPopTo j i) :=
  ps_imp (ps_set hnd hj hx (pe_bm0 PySem.F.plainAttrs_list PySem.F.slot_list_pop PySem.F.type_list_pop mt_pop (pe_var hN hv hd hcd) hbase hline) hs hf) fun D σ H q => by
    obtain ⟨c, ow, σa, h, fl, σa', h', k, e, f⟩ := q
    unfold sPopTo at e
    split at e
    · rename_i xs e0
      split at e
      · rename_i yv ey
        simp only [Option.some.injEq, Prod.mk.injEq] at e
        obtain ⟨rfl, rfl, rfl⟩ := e
        obtain ⟨y, es, a, ys, rfl, e4, e5, e6⟩ := k.sl i _ e0
        obtain ⟨z, ez, vz⟩ := e5.last ey
        obtain ⟨k2, x2⟩ := k.setOwn e0 e6 es e5.dropLast
        have tk : TK c c H (upd H a (.lst ys.dropLast)) := ⟨fun b zs t => by rw [upd_ne (fun z => by rw [z, e4] at t; cases t)]; exact t, fun _ _ q => q⟩
        have k3 := k2.setV (i := j) (VR.mono tk _ _ vz)
        exact ⟨_, es, .inl ⟨rfl, ys, .inl (.inl e4)⟩, a, ys, z, rfl, rfl, e4, ez, f c _ _ _ (x2.trans exts_drop) k3⟩
      · cases e
    · cases e
end
end NL
set_option Elab.async false
set_option linter.all false
set_option maxRecDepth 100000
set_option maxHeartbeats 4000000
set_option autoImplicit false
namespace NL
open PySem L2

/-! ### str(x), x plain data: its text -/
mutual
inductive VD (H : Hp) : V → PyData → Prop
  | non : VD H .non .none
  | bl (b : Bool) : VD H (.bl b) (.bool b)
  | int (i : Int) : VD H (.int i) (.int i)
  | str (x : Str) : VD H (.str x) (.str x)
  | lst {a : Addr} {xs : List V} {ds : List PyData} (e : H a = some (.lst xs)) (q : VDs H xs ds) : VD H (.ref a) (.list ds)
  | tup {a : Addr} {xs : List V} {ds : List PyData} (e : H a = some (.tup xs)) (q : VDs H xs ds) : VD H (.ref a) (.tuple ds)
inductive VDs (H : Hp) : List V → List PyData → Prop
  | nil : VDs H [] []
  | cons {x : V} {d : PyData} {xs : List V} {ds : List PyData} (e : VD H x d) (q : VDs H xs ds) : VDs H (x :: xs) (d :: ds)
end
section
variable {P : Program} {w : World} {H : Hp} {hp : Heap}
mutual
theorem reads_vd (ok : HOk P w H hp) {x : V} {d : PyData} (q : VD H x d) : ∀ {u : Value}, RelV x u → ∃ as, Reads hp u d as := by
  cases q with
  | non =>
    intro u r
    cases r
    exact ⟨_, .none⟩
  | bl b =>
    intro u r
    cases r
    exact ⟨_, .bool b⟩
  | int i =>
    intro u r
    obtain ⟨t, rfl⟩ := r
    exact ⟨_, .int i t⟩
  | str z =>
    intro u r
    obtain ⟨t, rfl⟩ := r
    exact ⟨_, .str z t⟩
  | lst e q =>
    intro u r
    cases r
    obtain ⟨_, its, n, vs, g⟩ := ok _ _ e
    obtain ⟨as, h⟩ := reads_vds ok q vs
    exact ⟨_, .list g rfl rfl (by simpa using h)⟩
  | tup e q =>
    intro u r
    cases r
    obtain ⟨_, its, vs, o, g1, g2, n, g3⟩ := ok _ _ e
    obtain ⟨as, h⟩ := reads_vds ok q vs
    exact ⟨_, .tuple g1 g2 g3 (by simpa using h)⟩
theorem reads_vds (ok : HOk P w H hp) {xs : List V} {ds : List PyData} (q : VDs H xs ds) : ∀ {us : List Value}, Vals xs us → ∃ as, ReadsAll hp us ds as := by
  cases q with
  | nil =>
    intro us r
    cases r
    exact ⟨_, .nil⟩
  | cons e q =>
    intro us r
    cases r with
    | cons r1 r2 =>
      obtain ⟨as, h1⟩ := reads_vd ok e r1
      obtain ⟨bs, h2⟩ := reads_vds ok q r2
      exact ⟨_, .cons h1 h2⟩
end
end
/-- what str gives -/
def strOf : PyData → Str
  | .str x => x
  | d => d.shown
mutual
theorem nodict {H : Hp} {x : V} {d : PyData} (q : VD H x d) : d.hasDict = false := by
  cases q with
  | non => rfl
  | bl b => rfl
  | int i => rfl
  | str z => rfl
  | lst e q => exact nodicts q
  | tup e q => exact nodicts q
theorem nodicts {H : Hp} {xs : List V} {ds : List PyData} (q : VDs H xs ds) : PyData.hasDictAll ds = false := by
  cases q with
  | nil => rfl
  | cons e q =>
    show (PyData.hasDict _ || PyData.hasDictAll _) = false
    rw [nodict e, nodicts q]
    rfl
end
def rStr (xs : List V) (H : Hp) (Q : VK) : Prop := ∃ x d, xs = [x] ∧ VD H x d ∧ d.showable = true ∧ d.depth ≤ 100 ∧ d.shown.length ≤ sizeLine ∧ Q (.str (strOf d)) H
theorem call_strD {X : Cx} (hg : X.A.guards = some []) (hu : X.A.units + 200 < cLine) : CallR X (.type "str") rStr := by
  intro pins s σ H xs us Q I r h
  obtain ⟨x, d, rfl, v, sh, dp, sz, q⟩ := h
  obtain ⟨u, rfl, rv⟩ := vals1 r
  obtain ⟨as, rd⟩ := reads_vd I.hok v rv
  have nd := nodict v
  cases v with
  | non =>
    cases rv
    exact P.str_of_none ⟨.str _, H, I.tok _, ⟨_, rfl⟩, q⟩
  | bl b =>
    cases rv
    exact P.str_of_bool ⟨.str _, H, I.tok _, ⟨_, rfl⟩, q⟩
  | int i =>
    obtain ⟨t, rfl⟩ := rv
    exact P.str_of_int (by simpa [PyData.showable] using sh) ⟨.str _, H, I.tok _, ⟨_, rfl⟩, q⟩
  | str z =>
    obtain ⟨t, rfl⟩ := rv
    exact P.str_of_str ⟨.str _, H, I, ⟨_, rfl⟩, q⟩
  | lst e v =>
    cases rv
    exact str_of_reads rd sh (fun z => by rw [nd] at z; cases z) hg (by omega) (fun _ _ z => z) (fun h' u tk k => ⟨.str _, H, I.kept k, ⟨_, rfl⟩, q⟩) sz
  | tup e v =>
    cases rv
    exact str_of_reads rd sh (fun z => by rw [nd] at z; cases z) hg (by omega) (fun _ _ z => z) (fun h' u tk k => ⟨.str _, H, I.kept k, ⟨_, rfl⟩, q⟩) sz
variable [HasK]
/-! the same of the plain meaning -/
def pdat (h : Hh) : Nat → Val → Option PyData
  | 0, _ => none
  | _ + 1, .non => some .none
  | _ + 1, .bl b => some (.bool b)
  | _ + 1, .int i => some (.int i)
  | _ + 1, .str x => some (.str x)
  | n + 1, .tup vs => (vs.mapM (pdat h n)).map .tuple
  | n + 1, .ref p => match h[p]? with
    | some (.lst xs) => (xs.mapM (pdat h n)).map .list
    | _ => none
  | _ + 1, .ty _ => none
def datR (h : Hh) : R → Option PyData
  | .v v => pdat h 40 v
  | r => (asW h r).bind fun xs => (xs.mapM (pdat h 39)).map .list
theorem mapM_cons' {α β : Type} {f : α → Option β} {x : α} {xs : List α} {ds : List β} (e : (x :: xs).mapM f = some ds) : ∃ d es, f x = some d ∧ xs.mapM f = some es ∧ ds = d :: es := by
  rw [List.mapM_cons] at e
  cases h1 : f x with
  | none =>
    rw [h1] at e
    cases e
  | some d =>
    cases h2 : xs.mapM f with
    | none =>
      rw [h1, h2] at e
      cases e
    | some es =>
      rw [h1, h2] at e
      cases e
      exact ⟨d, es, rfl, rfl, rfl⟩
theorem vds_of {c : List Addr} {H : Hp} {f : Val → Option PyData} {k : Nat} (g : ∀ v x d, f v = some d → VR c H v x → VD H x d ∧ d.depth ≤ k) : ∀ {vs : List Val} {xs : List V} {ds : List PyData}, vs.mapM f = some ds → VRs c H vs xs → VDs H xs ds ∧ PyData.depthAll ds ≤ k
  | [], xs, ds, e, q => by
    have q' : xs = [] := q
    subst q'
    have e' : ds = [] := by
      rw [List.mapM_nil] at e
      cases e
      rfl
    subst e'
    exact ⟨.nil, Nat.zero_le _⟩
  | v :: vs, xs, ds, e, q => by
    obtain ⟨y, ys, rfl, q1, q2⟩ := q
    obtain ⟨d, es, e1, e2, rfl⟩ := mapM_cons' e
    obtain ⟨g1, g2⟩ := g v y d e1 q1
    obtain ⟨g3, g4⟩ := vds_of g e2 q2
    refine ⟨.cons g1 g3, ?_⟩
    simp only [PyData.depthAll]
    omega
theorem vd_of {c : List Addr} {h : Hh} {H : Hp} (k : HR c h H) : ∀ (n : Nat) (v : Val) (x : V) (d : PyData), pdat h n v = some d → VR c H v x → VD H x d ∧ d.depth ≤ n
  | 0, v, x, d, e, q => by simp [pdat] at e
  | n + 1, v, x, d, e, q => by
    cases v with
    | non =>
      simp only [pdat, Option.some.injEq] at e
      subst e
      unfold VR at q
      subst q
      exact ⟨.non, by simp [PyData.depth]⟩
    | bl b =>
      simp only [pdat, Option.some.injEq] at e
      subst e
      unfold VR at q
      subst q
      exact ⟨.bl b, by simp [PyData.depth]⟩
    | int b =>
      simp only [pdat, Option.some.injEq] at e
      subst e
      unfold VR at q
      subst q
      exact ⟨.int b, by simp [PyData.depth]⟩
    | str b =>
      simp only [pdat, Option.some.injEq] at e
      subst e
      unfold VR at q
      subst q
      exact ⟨.str b, by simp [PyData.depth]⟩
    | ty t => simp [pdat] at e
    | tup vs =>
      simp only [pdat, Option.map_eq_some_iff] at e
      obtain ⟨ds, e1, rfl⟩ := e
      unfold VR at q
      obtain ⟨a, xs, rfl, e2, e3⟩ := q
      obtain ⟨g1, g2⟩ := vds_of (vd_of k n) e1 e3
      exact ⟨.tup e2 g1, by simp only [PyData.depth]; omega⟩
    | ref p =>
      unfold VR at q
      obtain ⟨a, rfl, e2⟩ := q
      obtain ⟨o, e3, e4⟩ := k.cell p a e2
      cases o with
      | lst zs =>
        simp only [pdat, e3, Option.map_eq_some_iff] at e
        obtain ⟨ds, e1, rfl⟩ := e
        obtain ⟨ys, e5, e6⟩ := e4
        obtain ⟨g1, g2⟩ := vds_of (vd_of k n) e1 e6
        exact ⟨.lst e5 g1, by simp only [PyData.depth]; omega⟩
      | _ => simp only [pdat, e3, reduceCtorEq] at e
theorem vdR_of {c : List Addr} {h : Hh} {H0 H : Hp} (k : HR c h H) {r : R} {x : V} {d : PyData} (e : datR h r = some d) (q : RR c H0 H r x) : VD H x d ∧ d.depth ≤ 40 := by
  have go : ∀ r : R, ((asW h r).bind fun xs => (xs.mapM (pdat h 39)).map PyData.list) = some d → RR c H0 H r x → VD H x d ∧ d.depth ≤ 40 := by
    intro r e q
    simp only [Option.bind_eq_some_iff, Option.map_eq_some_iff] at e
    obtain ⟨zs, e1, ds, e2, rfl⟩ := e
    obtain ⟨a, ys, rfl, t1, v1⟩ := asW_rr k e1 q
    obtain ⟨g1, g2⟩ := vds_of (vd_of k 39) e2 v1
    exact ⟨.lst t1 g1, by simp only [PyData.depth]; omega⟩
  cases r with
  | v v => exact vd_of k 40 v x d e q
  | l xs => exact go (.l xs) e q
  | o xs => exact go (.o xs) e q
  | z xs => exact go (.z xs) e q
/-- the text's room -/
def fits (d : PyData) : Prop := d.showable = true ∧ d.shown.length ≤ sizeLine
open Classical in
noncomputable def fStr : FC := fun rs h => match rs with
  | [r] => (datR h r).bind fun d => if fits d then some (.v (.str (strOf d)), h) else none
  | _ => none
theorem v_str : VC rStr fStr := by
  intro c h H0 H xs rs r' h' Q k q e f
  unfold fStr at e
  split at e
  · simp only [Option.bind_eq_some_iff] at e
    obtain ⟨d, e1, e2⟩ := e
    split at e2
    · rename_i ft
      simp only [Option.some.injEq, Prod.mk.injEq] at e2
      obtain ⟨rfl, rfl⟩ := e2
      obtain ⟨x, rfl, q1⟩ := rrs1 q
      obtain ⟨g1, g2⟩ := vdR_of k e1 q1
      exact ⟨x, d, rfl, g1, ft.1, by omega, ft.2, f c H _ (Ext.refl c H) k (show VR c H (.str (strOf d)) (.str (strOf d)) by unfold VR; rfl)⟩
    · cases e2
  · cases e
/-- str of a whole number alone -/
def fStrI : FC := fun rs h => match rs with
  | [.v (.int i)] => if i.natAbs.log2 < 1920 then some (.v (.str (toString i)), h) else none
  | _ => none
theorem v_strI : VC (fun xs H Q => ∃ i, xs = [V.int i] ∧ i.natAbs.log2 < 1920 ∧ Q (.str (toString i)) H) fStrI := by
  intro c h H0 H xs rs r' h' Q k q e f
  unfold fStrI at e
  split at e
  · rename_i i
    split at e
    · rename_i hz
      simp only [Option.some.injEq, Prod.mk.injEq] at e
      obtain ⟨rfl, rfl⟩ := e
      obtain ⟨x, rfl, q1⟩ := rrs1 q
      exact ⟨i, by rw [int_rr q1], hz, f c H _ (Ext.refl c H) k (show VR c H (.str (toString i)) (.str (toString i)) by unfold VR; rfl)⟩
    · cases e
  · cases e
theorem u200 {A : Around} {k : Nat} (h : Room k A) : A.units + 200 < cLine := by
  have := h.un
  omega
/-- a def's promise where nothing is promised -/
theorem fn_none {P : Program} {w : World} {K : PySem.W.Frag} {mg : Str → Option Value} {base : Heap} {k : Nat} {f : Addr} {fd : FuncData} {ps : List Str} {np : Nat} : FnOk P w K mg base CX0 k f fd ps (spM np fun _ _ => none) :=
  { len := fun vs H Q E z => by
      obtain ⟨c, h, rs, r, h', k, q, hl, e, g⟩ := z
      cases e
    run := fun A outer s H args us vs Q E _ _ _ _ z => by
      obtain ⟨c, h, rs, r, h', k, q, hl, e, g⟩ := z
      cases e }
end NL
set_option Elab.async false
set_option linter.all false
set_option maxRecDepth 100000
set_option maxHeartbeats 4000000
set_option autoImplicit false
namespace NL
open PySem PySem.Spec PyProof.Rows L2

/-! ### the law's own def where nothing is being shown (str of lists wants that) -/
/-- a def's promise, called from where no guard stands -/
def RunG (P : Program) (w : World) (K : PySem.W.Frag) (mg : Str → Option Value) (base : Heap) (A : Around) (f : Addr) (fd : FuncData) (ps : List Str) (sp : Sp) : Prop :=
  ∀ (env : List Env) (t : Shared) (H : Hp) (args : Args) (us : List Value) (xs : List V) (Q : VK) (E : XK), Env0 P w K mg base A env t H → BindsTo t fd args (ps.zip us) → Vals xs us → sp xs H Q E → codeAny (model P w) A (.call (.ref f) args) (CR CX0 env P w H t Q E) t
section
variable {P : Program} {w : World} {K : PySem.W.Frag} {mg : Str → Option Value} {base : Heap}
theorem runG_of {x : Str} {st : Stmt} {f : Addr} {fd : FuncData} {N ps : List Str} {k : Nat} {sp : Sp} {A : Around} (F : FnP K x st f fd) (S : FnScope N ps (defScope st)) (hr : Room (k + 1) A)
    (hlen : ∀ xs H Q E, sp xs H Q E → xs.length = ps.length)
    (hbd : ∀ (cdv : Value) (env : List Env) (t : Shared) (H : Hp) (xs : List V) (Q : VK) (E : XK), sp xs H Q E →
      ∃ m, PSs (cxOf CX0 P w K mg base N x (defScope st) f cdv A env t H E) (defBody st) m ∧ m { nx := fun _ H' => Q .non H', rt := Q } (start N xs) H) :
    RunG P w K mg base A f fd ps sp := by
  intro env t H args us xs Q E e0 bd vs hs
  obtain ⟨oc, od, dV, kV, doc, pm, an, cdv, ct, osl, rfl, lk, cd, -, -⟩ := F.ex
  have inh : K.In t.heap := e0.mod.kin.keeps fun b o z => (e0.bs b o z).1
  have free : t.heap.NoLimit := e0.mod.nolimit.keeps fun b o z => (e0.bs b o z).1
  have slot : ∀ y ∈ ps.zip us, (defScope st).names.lookup y.1 = some .local ∨ ((defScope st).names.lookup y.1 = some .cell ∧ ((cellsFrom (t.heap.objs.size + 1) (defScope st).names []).lookup y.1).isSome = true) := by
    rintro ⟨n, v⟩ hy
    exact (S.par n (List.of_mem_zip hy).1).imp id fun z => ⟨z, PySem.W.cellsFrom_some _ _ _ (.inl z)⟩
  apply codeAny_call_function hr.depth (inh _ _ lk) rfl S.co S.gen rfl (PySem.W.codeRec_of inh cd)
  apply bd
  apply wpAny_newFunctionEnv_cells S.kind slot
  rintro _ rfl t1 st1
  refine ⟨free.keeps st1.toInCall.keep, codeAny_func ?_⟩
  obtain ⟨m, hm, hq⟩ := hbd cdv env t H xs Q E hs
  refine wpAny_mono (hm.run [] t1 (start N xs) H _ (inv_start S hr.hd e0 (hlen _ _ _ _ hs) vs st1) hq) (fun fl t2 hz => ?_) fun e t2 hz => hz
  cases fl with
  | next =>
    obtain ⟨_, H2, J, q⟩ := hz
    exact ⟨.non, H2, J.os, J.bare, J.base, J.hok, rfl, q⟩
  | ret u =>
    obtain ⟨y, _, H2, J, rv, q⟩ := hz
    exact ⟨y, H2, J.os, J.bare, J.base, J.hok, rv, q⟩
  | brk => exact False.elim hz.choose_spec.choose_spec.2
  | cont => exact False.elim hz.choose_spec.choose_spec.2
variable [HasK]
/-- the body's meaning, at the caller's place -/
theorem runG_m {x : Str} {st : Stmt} {f : Addr} {fd : FuncData} {N ps : List Str} {k : Nat} {mb : MS} {A : Around} (F : FnP K x st f fd) (S : FnScope N ps (defScope st)) (hr : Room (k + 1) A)
    (hb : ∀ (cdv : Value) (env : List Env) (t : Shared) (H : Hp) (E : XK), Room k (A.deeper (envOfC x (defScope st) t.heap.objs.size f cdv)) → SSs (cxOf CX0 P w K mg base N x (defScope st) f cdv A env t H E).nox (defBody st) mb) :
    RunG P w K mg base A f fd ps (spM ps.length (mDef N.length ps.length mb)) := by
  refine runG_of F S hr (fun xs H Q E z => ?_) fun cdv env t H xs Q E z => ?_
  · obtain ⟨c, h, rs, r, h', k, q, hl, _⟩ := z
    rw [← q.length, hl]
  · obtain ⟨c, h, rs, r, h', k, q, hl, e, g⟩ := z
    refine ⟨_, PSs.nox (hb cdv env t H E (hr.deeper _)), ?_⟩
    unfold mDef at e
    rw [if_pos hl] at e
    have k0 := rel_start (N := N) rfl k q hl
    split at e
    · rename_i r' s' h'' e1
      simp only [Option.some.injEq, Prod.mk.injEq] at e
      obtain ⟨rfl, rfl⟩ := e
      exact ⟨c, _, _, h, _, _, _, k0, e1, fun c1 ow1 σ1 H1 E1 K1 y hy => g c1 H1 y E1.ext K1.hr hy⟩
    · rename_i s' h'' e1
      simp only [Option.some.injEq, Prod.mk.injEq] at e
      obtain ⟨rfl, rfl⟩ := e
      exact ⟨c, _, _, h, _, _, _, k0, e1, fun c1 ow1 σ1 H1 E1 K1 => g c1 H1 _ E1.ext K1.hr (show VR c1 H1 .non .non by unfold VR; rfl)⟩
    · cases e
end
/-- what is tracked ahead of the law: the script, if it is no object of the written part -/
def onlyS (K : PySem.W.Frag) (a : Addr) (o : Obj) (xs : List V) : Hp := fun b => if b = a ∧ K.lookup a = none then some (.frz o (.lst xs)) else none
section
variable {P : Program} {w : World} {K : PySem.W.Frag} {mg mb : Str → Option Value} {fa a : Addr} {fd : FuncData} {x : Str} {sp : Sp} {t : Shared} {vs : List Value} {ns : List Int}
theorem lawG (inh : K.In t.heap) (hm : t.heap.Ns mainGlobals mg) (hb : t.heap.Ns builtinsNs mb) (hbb : ∀ y : Str, y ≠ "__name__" → mb y = bootBuiltins y) (hf : t.heap.NoLimit) (hg : t.gens = #[])
    (ha : t.heap.get? a = some { cls := .type "list", data := .seq vs.toArray }) (hi : IntsAre vs ns) (hl : ns.length ≤ sizeLine)
    (F : ∀ base : Heap, K.In base → base.Ns mainGlobals mg → RunG P w K mg base callerA fa fd [x] sp) (bd : ∀ (s : Shared) (u : Value), BindsTo s fd ⟨[u], []⟩ [(x, u)])
    (law : ∀ H : Hp, SqL K H a (ns.map V.int) → sp [.ref a] H (fun v _ => v = .bl true) fun _ _ _ => False) :
    codeAny (model P w) callerA (.call (.ref fa) ⟨[.ref a], []⟩) (fun r s' => r = .ok (.ret (.bool true)) ∧ OldK t.heap s'.heap ∧ s'.os = t.os ∧ AllBare s'.gens) t := by
  have vi := vals_ints hi
  generalize hH : onlyS K a { cls := .type "list", data := .seq vs.toArray } (ns.map V.int) = H
  have hn : ∀ b, b ≠ a → H b = none := fun b z => by rw [← hH]; exact if_neg fun q => z q.1
  have hk : ∀ o, K.lookup a = some o → H a = none := fun o z => by rw [← hH]; exact if_neg fun q => by rw [z] at q; cases q.2
  have hs : K.lookup a = none → H a = some (.frz { cls := .type "list", data := .seq vs.toArray } (.lst (ns.map V.int))) := fun z => by rw [← hH]; exact if_pos ⟨rfl, z⟩
  have nl : ∀ {b : Addr} {o : Obj}, t.heap.get? b = some o → (∀ us n, o.data ≠ .seq us n) → H b = none := fun {b o} e d => hn b fun z => by
    rw [z, ha] at e
    cases e
    exact d _ _ rfl
  have sq : SqL K H a (ns.map V.int) := by
    cases z : K.lookup a with
    | none => exact .inl (.inr ⟨_, hs z⟩)
    | some o =>
      have e := inh a o z
      rw [ha] at e
      cases e
      exact .inr ⟨_, vs.toArray, _, z, rfl, rfl, rfl, by rw [List.size_toArray, hi.length]; exact hl, by simpa using vi⟩
  have ok : HOk P w H t.heap := fun b o e => by
    by_cases hb : b = a
    · cases z : K.lookup a with
      | none =>
        rw [hb, hs z] at e
        cases e
        rw [hb]
        exact ⟨ha, by rw [List.length_map]; exact hl, vs, _, vi, ha⟩
      | some o' =>
        rw [hb, hk _ z] at e
        cases e
    · rw [hn b hb] at e
      cases e
  have ns1 : ∀ {b : Addr} {m : Str → Option Value}, t.heap.Ns b m → (hidT t.heap H).Ns b m := fun {b m} ⟨o, es, ep, e, d, r⟩ => ⟨o, es, ep, hidT_get e (nl e fun us n z => by rw [d] at z; cases z), d, r⟩
  have inb : K.In (hidT t.heap H) := fun b o e => hidT_get (inh b o e) (by
    by_cases hb : b = a
    · rw [hb] at e ⊢
      exact hk _ e
    · exact hn b hb)
  have e0 : Env0 P w K mg (hidT t.heap H) callerA [] t H :=
    { frames := rfl
      mod := ⟨inb, ns1 hm, ⟨mb, ns1 hb, hbb⟩, let ⟨mc, h1, h2⟩ := hf; ⟨mc, ns1 h1, h2⟩⟩
      bs := fun b o e => of_hidT e
      bsz := Nat.le_of_eq (hidT_size _ _)
      funs := trivial
      frf := fun b z => by cases z
      hok := ok
      bare := .of_eq hg }
  refine codeAny_mono (F _ inb (ns1 hm) [] t H ⟨[.ref a], []⟩ [.ref a] [.ref a] _ _ e0 (bd t (.ref a)) (.cons rfl .nil) (law H sq)) ?_
  rintro (e | (_ | _ | _ | u)) t' z
  · exact False.elim z
  · exact False.elim z
  · exact False.elim z
  · exact False.elim z
  · obtain ⟨v, H', os, bare, un, ok', r', q⟩ := z
    have q' : v = .bl true := q
    subst q'
    obtain rfl : u = Value.bool true := r'
    refine ⟨rfl, OldK.of_keep fun b o e => ?_, os, bare⟩
    by_cases hb : b = a
    · cases z : K.lookup a with
      | some o' => exact un.keep b o e (by rw [hb]; exact hk _ z) (fun z => by cases z) (fun z => by cases z)
      | none =>
        have z1 := hs z
        have z2 := un.frzs a _ _ z1
        rw [hb, ha] at e
        cases e
        rw [hb]
        exact (ok' a _ z2).1
    · exact un.keep b o e (hn b hb) (fun z => by cases z) (fun z => by cases z)
end
/-- the end over a head by facts, the law's def from the caller's place alone -/
theorem walk_G {l : PySem.W.OpenLaw} {n : Nat} {q : Program} {loose : List Str} {XP : (Str → Option Value) → Heap → Prop} {YP : World → Heap → Prop} {d : DefRec} {x : Str} (hn : l.most = some n) (hn2 : n ≤ sizeLine) (hdf : d.params.defaults = [])
    (F : ∀ (w : World) (mg : Str → Option Value) (fa : Addr) (h : Heap), YP w h → h.Ns mainGlobals mg → mg d.name = some (.ref fa) →
      ∃ (K : PySem.W.Frag) (fd : FuncData) (sp : Sp), K.In h ∧ (∀ (s : Shared) (u : Value), BindsTo s fd ⟨[u], []⟩ [(x, u)]) ∧
        (∀ (H : Hp) (a : Addr) (ns : List Int), ns.length ≤ n → SqL K H a (ns.map V.int) → sp [.ref a] H (fun v _ => v = .bl true) fun _ _ _ => False) ∧
        ∀ base : Heap, K.In base → base.Ns mainGlobals mg → RunG l.prog w K mg base callerA fa fd [x] sp) :
    PySem.W.WalkO q loose XP YP l.row.toRowW d [] (fun f vs => PySem.call f vs) := by
  apply Att.attach_call hn hdf
  intro w s₀ t mg mb fa o pm cd doc a vs ns G Y _ _ _ hmg ha hi hle hg
  obtain ⟨K, fd, sp, inh, bd, hsp, R⟩ := F w mg fa _ Y G.T.g hmg
  exact lawG inh G.T.g G.T.b G.T.builtins G.T.nolimit hg ha hi (Nat.le_trans hle hn2) R bd fun H z => hsp H a ns hle z
end NL
set_option Elab.async false
set_option linter.all false
set_option maxRecDepth 100000
set_option maxHeartbeats 4000000
set_option autoImplicit false
namespace NL
open PySem L2
variable [HasK]
/-! ### a thing that may be a new list, as a part -/
def mAlM (m : ME) : ME := fun s h => (m s h).bind fun p => match p.1 with
  | .o xs => some (.v (.ref p.2.length), p.2 ++ [.lst xs])
  | .v x => some (.v x, p.2)
  | _ => none
section
variable {X : Cx} {e a c' : Expr} {m ma : ME} {t : MT} {pos : Pos}
theorem se_alM (h : SE X e m) : SE X e (mAlM m) := pe_imp h fun σ H Q q => by
  obtain ⟨c, ow, σa, h, r, h', k, e, f⟩ := q
  have e' := e
  simp only [mAlM, Option.bind_eq_some_iff] at e
  obtain ⟨⟨r1, h1⟩, e1, e2⟩ := e
  cases r1 with
  | v y =>
    simp only [Option.some.injEq, Prod.mk.injEq] at e2
    obtain ⟨rfl, rfl⟩ := e2
    exact ⟨c, ow, σa, h, _, _, k, e1, f⟩
  | o y => exact rd_al ⟨c, ow, σa, h, r, h', k, by simp only [mAl, e1, Option.bind_some]; exact e2, f⟩
  | l y => cases e2
  | z y => cases e2
/-! ### return a if t else x, x an own list -/
def sRetIf (t : MT) (ma : ME) (i : Nat) : MS := fun s h => (t s h).bind fun p => if p.1 then sRet ma s p.2 else sRetO i s p.2
theorem ss_retIf (i : Nat) {x : Str} {p pi : Pos} (hc : ST X c' t) (ha : SE X a ma) (hN : X.N[i]? = some x := by rfl) (hv : Vis X.env.scope x := by first | exact Or.inl rfl | exact Or.inr (Or.inl rfl) | exact Or.inr (Or.inr rfl)) (hd : (x == ("__debug__" : Str)) = false := by decide)
    (hcd : (x == ("__classdict__" : Str)) = false := by decide) : SS X (.Return (some (.IfExp c' a (.Name x p) pi)) pos) (sRetIf t ma i) := ps_imp (ps_ret (pe_ifExp hc ha (pe_var hN hv hd hcd))) fun D σ H q => by
  obtain ⟨c, ow, σa, h, fl, σa', h', k, e, f⟩ := q
  simp only [sRetIf, Option.bind_eq_some_iff] at e
  obtain ⟨⟨r1, h1⟩, e1, e2⟩ := e
  refine ⟨c, ow, σa, h, r1, h1, k, e1, fun c1 H1 E1 K1 => ?_⟩
  have k1 := k.ext E1 K1
  cases r1 with
  | true =>
    simp only [if_true, sRet, Option.bind_eq_some_iff] at e2 ⊢
    obtain ⟨⟨r2, h2⟩, e3, e4⟩ := e2
    refine ⟨c1, ow, σa, h1, r2, h2, k1, e3, fun c2 H2 y E2 K2 R2 => ?_⟩
    cases r2 with
    | v z =>
      simp only [Option.some.injEq, Prod.mk.injEq] at e4
      obtain ⟨rfl, rfl, rfl⟩ := e4
      exact f c2 ow σ H2 (E1.trans E2).s (k1.ext E2 K2) y R2
    | o z =>
      simp only [Option.some.injEq, Prod.mk.injEq] at e4
      obtain ⟨rfl, rfl, rfl⟩ := e4
      obtain ⟨b, ys, g3, g4, g5, g6, g7⟩ := RR.early E1 R2
      exact f c2 ow σ H2 (E1.trans E2).s (k1.ext E2 K2) y ⟨b, ys, g3, .inl g4, g5, g6, g7⟩
    | l z => cases e4
    | z z => cases e4
  | false =>
    simp only [Bool.false_eq_true, if_false, sRetO] at e2 ⊢
    split at e2
    · rename_i xs e0
      simp only [Option.some.injEq, Prod.mk.injEq] at e2
      obtain ⟨rfl, rfl, rfl⟩ := e2
      obtain ⟨y, g1, g2⟩ := k1.sl i _ e0
      obtain ⟨b, ys, g3, g4, g5, g6⟩ := g2
      exact ⟨y, g1, f c1 ow σ H1 E1.s k1 y ⟨b, ys, g3, .inr ⟨i, g6⟩, g4, g5, (k1.oc i b g6).1⟩⟩
    · cases e2
end
end NL
set_option Elab.async false
set_option linter.all false
set_option maxRecDepth 100000
set_option maxHeartbeats 4000000
set_option autoImplicit false
namespace NL
open PySem L2

/-! ### things whose text is short: n deep, at most k signs; no list of it lies at p (the box) -/
def Th (h : Hh) (p : Nat) : Nat → Nat → Val → Prop
  | _, k, .int i => i.natAbs < 10 ^ 40 ∧ 41 ≤ k
  | _, k, .bl _ => 5 ≤ k
  | _, k, .non => 4 ≤ k
  | _, k, .str x => PyData.strOk x = true ∧ (reprText x).length ≤ k ∧ PyData.strOk (reprText x) = true
  | n + 1, k, .tup vs => ∃ j, (∀ v ∈ vs, Th h p n j v) ∧ vs.length * (j + 2) + 3 ≤ k ∧ vs.length ≤ 1000
  | n + 1, k, .ref q => q ≠ p ∧ ∃ xs j, h[q]? = some (.lst xs) ∧ (∀ v ∈ xs, Th h p n j v) ∧ xs.length * (j + 2) + 3 ≤ k ∧ xs.length ≤ 1000
  | _, _, _ => False
variable {h h' : Hh} {p : Nat}
theorem Th.grow (g : ∀ q o, q ≠ p → h[q]? = some o → h'[q]? = some o) : ∀ (n k : Nat) (v : Val), Th h p n k v → Th h' p n k v
  | n, k, .int i, t => by cases n <;> exact t
  | n, k, .bl i, t => by cases n <;> exact t
  | n, k, .non, t => by cases n <;> exact t
  | n, k, .str x, t => by cases n <;> exact t
  | n + 1, k, .tup vs, ⟨j, a, b, c⟩ => ⟨j, fun v hv => Th.grow g n j v (a v hv), b, c⟩
  | n + 1, k, .ref q, ⟨e, xs, j, a, b, c, d⟩ => ⟨e, xs, j, g q _ e a, fun v hv => Th.grow g n j v (b v hv), c, d⟩
  | 0, k, .tup vs, t => by simp [Th] at t
  | 0, k, .ref q, t => by simp [Th] at t
  | n, k, .ty _, t => by cases n <;> simp [Th] at t
theorem Th.up : ∀ (n k : Nat) (v : Val), Th h p n k v → Th h p (n + 1) k v
  | n, k, .int i, t => by cases n <;> exact t
  | n, k, .bl i, t => by cases n <;> exact t
  | n, k, .non, t => by cases n <;> exact t
  | n, k, .str x, t => by cases n <;> exact t
  | n + 1, k, .tup vs, ⟨j, a, b, c⟩ => ⟨j, fun v hv => Th.up n j v (a v hv), b, c⟩
  | n + 1, k, .ref q, ⟨e, xs, j, a, b, c, d⟩ => ⟨e, xs, j, a, fun v hv => Th.up n j v (b v hv), c, d⟩
  | 0, k, .tup vs, t => by simp [Th] at t
  | 0, k, .ref q, t => by simp [Th] at t
  | n, k, .ty _, t => by cases n <;> simp [Th] at t
theorem Th.ups {n m k : Nat} {v : Val} (t : Th h p n k v) (l : n ≤ m) : Th h p m k v := by
  induction l with
  | refl => exact t
  | step _ ih => exact Th.up _ _ _ ih
theorem Th.wide : ∀ {n k j : Nat} {v : Val}, Th h p n k v → k ≤ j → Th h p n j v
  | n, k, j, .int i, t, l => by cases n <;> exact ⟨t.1, Nat.le_trans t.2 l⟩
  | n, k, j, .bl i, t, l => by cases n <;> exact Nat.le_trans t l
  | n, k, j, .non, t, l => by cases n <;> exact Nat.le_trans t l
  | n, k, j, .str x, t, l => by cases n <;> exact ⟨t.1, Nat.le_trans t.2.1 l, t.2.2⟩
  | n + 1, k, j, .tup vs, ⟨i, a, b, c⟩, l => ⟨i, a, Nat.le_trans b l, c⟩
  | n + 1, k, j, .ref q, ⟨e, xs, i, a, b, c, d⟩, l => ⟨e, xs, i, a, b, Nat.le_trans c l, d⟩
  | 0, k, j, .tup vs, t, l => by simp [Th] at t
  | 0, k, j, .ref q, t, l => by simp [Th] at t
  | n, k, j, .ty _, t, l => by cases n <;> simp [Th] at t
theorem Th.to {n m k j : Nat} {v : Val} (t : Th h p n k v) (l : n ≤ m) (l' : k ≤ j) : Th h p m j v := (t.ups l).wide l'
theorem ok_app {a b : Str} (x : PyData.strOk a = true) (y : PyData.strOk b = true) : PyData.strOk (a ++ b) = true := by
  unfold PyData.strOk at *
  show (a.cps ++ b.cps).all _ = true
  rw [Array.all_append, x, y]
  rfl
theorem ok_lit (s : String) : PyData.strOk (Str.ofString s) = true := by
  rw [Str.ofString_eq_toList]
  unfold PyData.strOk
  rw [List.all_toArray, List.all_eq_true]
  intro n hn
  obtain ⟨c, _, rfl⟩ := List.mem_map.mp hn
  rw [decide_eq_true_eq]
  have z := c.valid
  have z2 : c.toNat = c.val.toNat := rfl
  rcases z with z | z
  · have z3 : c.val.toNat < 0xd800 := z
    omega
  · exact z.2
theorem ok_join {p : Str} (x : PyData.strOk p = true) : ∀ {ts : List Str}, (∀ t ∈ ts, PyData.strOk t = true) → PyData.strOk (Str.join p ts) = true
  | [], _ => show PyData.strOk Str.empty = true by decide +kernel
  | [t], h => h t (by simp)
  | t :: u :: r, h => ok_app (ok_app (h t (by simp)) x) (ok_join x fun v hv => h v (List.mem_cons_of_mem _ hv))
theorem ok_list {ts : List Str} (h : ∀ t ∈ ts, PyData.strOk t = true) : PyData.strOk (listText ts) = true := by
  rw [listText_eq_join]
  exact ok_app (ok_app (ok_lit _) (ok_join (ok_lit _) h)) (ok_lit _)
theorem ok_tuple {ts : List Str} (h : ∀ t ∈ ts, PyData.strOk t = true) : PyData.strOk (tupleText ts) = true := by
  unfold tupleText
  exact ok_app (ok_app (ok_lit _) (ok_join (ok_lit _) h)) (by split <;> exact ok_lit _)
/-- all parts' texts -/
theorem texts_of {f : Val → Option PyData} {k : Nat} : ∀ (vs : List Val), (∀ v ∈ vs, ∃ d, f v = some d ∧ d.showable = true ∧ d.shown.length ≤ k ∧ PyData.strOk d.shown = true) →
    ∃ ds, vs.mapM f = some ds ∧ PyData.showableAll ds = true ∧ ((PyData.shownAll ds).map (·.length)).sum ≤ vs.length * k ∧ (PyData.shownAll ds).length = vs.length ∧ ∀ t ∈ PyData.shownAll ds, PyData.strOk t = true
  | [], _ => ⟨[], rfl, rfl, by simp [PyData.shownAll], rfl, fun t ht => by simp [PyData.shownAll] at ht⟩
  | v :: vs, hv => by
    obtain ⟨d, a1, a2, a3, a4⟩ := hv v (List.mem_cons_self ..)
    obtain ⟨ds, b1, b2, b3, b4, b5⟩ := texts_of vs fun u hu => hv u (List.mem_cons_of_mem _ hu)
    refine ⟨d :: ds, ?_, ?_, ?_, ?_, fun t ht => ?_⟩
    · rw [List.mapM_cons, a1, b1]
      rfl
    · simp [PyData.showableAll, a2, b2]
    · simp only [PyData.shownAll, List.map_cons, List.sum_cons, List.length_cons, Nat.add_mul, Nat.one_mul]
      omega
    · simp only [PyData.shownAll, List.length_cons, b4]
    · rcases List.mem_cons.mp ht with ht | ht
      · rw [ht]
        exact a4
      · exact b5 t ht
theorem log_small {i : Int} (e : i.natAbs < 10 ^ 40) : i.natAbs.log2 < 1920 := by
  by_cases z : i.natAbs = 0
  · rw [z]
    decide
  · rw [Nat.log2_lt z]
    exact Nat.lt_trans e (by decide +kernel)
theorem Th.text : ∀ (n k : Nat) (v : Val), Th h p n k v → ∃ d, pdat h (n + 1) v = some d ∧ d.showable = true ∧ d.shown.length ≤ k ∧ PyData.strOk d.shown = true
  | n, k, .int i, t => by
    have t' : i.natAbs < 10 ^ 40 ∧ 41 ≤ k := by cases n <;> exact t
    refine ⟨.int i, rfl, by simp only [PyData.showable, decide_eq_true_eq]; exact log_small t'.1, ?_, ok_lit _⟩
    have e := int_text_length_le10 (a := i) (k := 40) (by decide) t'.1
    have e2 : (PyData.shown (.int i)).length = (toString i).length := ofString_length _
    omega
  | n, k, .bl b, t => by
    have t' : 5 ≤ k := by cases n <;> exact t
    refine ⟨.bool b, rfl, rfl, ?_, by cases b <;> exact ok_lit _⟩
    have e : (PyData.shown (.bool b)).length ≤ 5 := by cases b <;> decide
    omega
  | n, k, .non, t => by
    have t' : 4 ≤ k := by cases n <;> exact t
    refine ⟨.none, rfl, rfl, ?_, ok_lit _⟩
    have e : (PyData.shown .none).length = 4 := rfl
    omega
  | n, k, .str x, t => by
    have t' : PyData.strOk x = true ∧ (reprText x).length ≤ k ∧ PyData.strOk (reprText x) = true := by cases n <;> exact t
    exact ⟨.str x, rfl, rfl, t'.2.1, t'.2.2⟩
  | n + 1, k, .tup vs, ⟨j, a, b, c⟩ => by
    obtain ⟨ds, e1, e2, e3, e4, e8⟩ := texts_of (f := pdat h (n + 1)) vs fun v hv => Th.text n j v (a v hv)
    refine ⟨.tuple ds, by simp only [pdat, e1, Option.map_some], e2, ?_, ok_tuple e8⟩
    have e5 := tupleText_len_le (PyData.shownAll ds)
    have e6 : vs.length * (j + 2) = vs.length * j + vs.length * 2 := Nat.mul_add ..
    simp only [PyData.shown]
    omega
  | n + 1, k, .ref q, ⟨e, xs, j, a0, a, b, c⟩ => by
    obtain ⟨ds, e1, e2, e3, e4, e8⟩ := texts_of (f := pdat h (n + 1)) xs fun v hv => Th.text n j v (a v hv)
    refine ⟨.list ds, by simp only [pdat, a0, e1, Option.map_some], e2, ?_, ok_list e8⟩
    have e5 := listText_len_le (PyData.shownAll ds)
    have e6 : xs.length * (j + 2) = xs.length * j + xs.length * 2 := Nat.mul_add ..
    simp only [PyData.shown]
    omega
  | 0, k, .tup vs, t => by simp [Th] at t
  | 0, k, .ref q, t => by simp [Th] at t
  | n, k, .ty _, t => by cases n <;> simp [Th] at t
theorem mapM_c {f : Val → Option PyData} {x : Val} {xs : List Val} {ds : List PyData} (e : (x :: xs).mapM f = some ds) : ∃ d es, f x = some d ∧ xs.mapM f = some es ∧ ds = d :: es := by
  rw [List.mapM_cons] at e
  cases h1 : f x with
  | none => rw [h1] at e; cases e
  | some d => cases h2 : xs.mapM f with
    | none => rw [h1, h2] at e; cases e
    | some es => rw [h1, h2] at e; cases e; exact ⟨d, es, rfl, rfl, rfl⟩
theorem pdat_up {h : Hh} : ∀ (n : Nat) (v : Val) (d : PyData), pdat h n v = some d → pdat h (n + 1) v = some d
  | 0, v, d, e => by simp [pdat] at e
  | n + 1, v, d, e => by
    have key : ∀ (vs : List Val) (ds : List PyData), vs.mapM (pdat h n) = some ds → vs.mapM (pdat h (n + 1)) = some ds := by
      intro vs
      induction vs with
      | nil => intro ds e; exact e
      | cons a r ih =>
        intro ds e
        obtain ⟨x, es, e1, e2, rfl⟩ := mapM_c e
        rw [List.mapM_cons, pdat_up n a x e1, ih es e2]
        rfl
    cases v with
    | tup vs =>
      simp only [pdat, Option.map_eq_some_iff] at e ⊢
      obtain ⟨ds, e1, e2⟩ := e
      exact ⟨ds, key vs ds e1, e2⟩
    | ref q =>
      simp only [pdat] at e ⊢
      split at e
      · rename_i xs ex
        simp only [Option.map_eq_some_iff] at e ⊢
        obtain ⟨ds, e1, e2⟩ := e
        exact ⟨ds, key xs ds e1, e2⟩
      · cases e
    | _ => exact e
theorem pdat_ups {h : Hh} {n m : Nat} {v : Val} {d : PyData} (e : pdat h n v = some d) (l : n ≤ m) : pdat h m v = some d := by
  induction l with
  | refl => exact e
  | step _ ih => exact pdat_up _ _ _ ih
theorem Th.okS {n k : Nat} {v : Val} {x : Str} (t : Th h p n k v) (e : v = .str x) : PyData.strOk x = true := by
  subst e
  cases n <;> exact t.1
/-- str of such a thing -/
theorem Th.str {n k : Nat} {v : Val} (t : Th h p n k v) (hn : n < 40) (hk : k ≤ 16000000) : ∃ x, fStr [.v v] h = some (.v (.str x), h) ∧ PyData.strOk x = true := by
  obtain ⟨d, e1, e2, e3, e6⟩ := Th.text n k v t
  refine ⟨strOf d, ?_, ?_⟩
  · have e4 : datR h (.v v) = some d := pdat_ups e1 hn
    have e5 : fits d := ⟨e2, Nat.le_trans e3 (Nat.le_trans hk (by decide))⟩
    simp only [fStr, e4, Option.bind_some, if_pos e5]
  · cases v with
    | str x =>
      have e7 : d = .str x := (Option.some.inj e1).symm
      subst e7
      exact t.okS rfl
    | non => cases e1; exact e6
    | bl b => cases e1; exact e6
    | int b => cases e1; exact e6
    | ty b => cases e1
    | tup vs =>
      simp only [pdat, Option.map_eq_some_iff] at e1
      obtain ⟨ds, _, rfl⟩ := e1
      exact e6
    | ref q =>
      simp only [pdat] at e1
      split at e1
      · simp only [Option.map_eq_some_iff] at e1
        obtain ⟨ds, _, rfl⟩ := e1
        exact e6
      · cases e1
end NL
set_option Elab.async false
set_option linter.all false
set_option maxRecDepth 100000
set_option maxHeartbeats 4000000
set_option autoImplicit false
namespace NL
open PySem L2
variable {m ma : ME} {t : MT} {s : Sl} {h : Hh} {Q : QE} {QS : Fl → Sl → Hh → Prop} {i : Nat}
/-- the part that a thing becomes -/
def alQ (Q : QE) : R → Hh → Prop
  | .v x, h => Q (.v x) h
  | .o xs, h => Q (.v (.ref h.length)) (h ++ [.lst xs])
  | _, _ => False
theorem i_alM (q : wE m s h (alQ Q)) : wE (mAlM m) s h Q := by
  obtain ⟨r, h1, e, q⟩ := q
  cases r with
  | v x => exact ⟨_, _, by simp only [mAlM, e, Option.bind_some], q⟩
  | o xs => exact ⟨_, _, by simp only [mAlM, e, Option.bind_some], q⟩
  | l xs => exact q.elim
  | z xs => exact q.elim
theorem i_retIf (q : wT t s h fun c h1 => if c = true then wS (sRet ma) s h1 QS else ∃ xs, s[i]? = some (some (.o xs)) ∧ QS (.rt (.o xs)) s h1) : wS (sRetIf t ma i) s h QS := by
  obtain ⟨c, h1, e, q⟩ := q
  cases c with
  | true =>
    rw [if_pos rfl] at q
    obtain ⟨f, s2, h2, e2, q⟩ := q
    exact ⟨f, s2, h2, by simp only [sRetIf, e, Option.bind_some, if_true]; exact e2, q⟩
  | false =>
    rw [if_neg (by decide)] at q
    obtain ⟨xs, e2, q⟩ := q
    exact ⟨_, _, _, by simp only [sRetIf, e, Option.bind_some, Bool.false_eq_true, if_false, sRetO, e2], q⟩
theorem i_str {v : Val} {p n k : Nat} (t : Th h p n k v) (hn : n < 40) (hk : k ≤ 16000000) (q : ∀ x, fStr [.v v] h = some (.v (.str x), h) → PyData.strOk x = true → Q (.v (.str x)) h) : wV (fStr [.v v] h) Q := by
  obtain ⟨x, e, o⟩ := t.str hn hk
  exact ⟨_, _, e, q x e o⟩
theorem i_neS {x : Str} (o : PyData.strOk x = true) (q : Q (.v (.bl false)) h) : wV (fEq true (.v (.str x)) (.v (.str x)) h) Q := by
  refine ⟨_, _, ?_, q⟩
  have e : dat h (.v (.str x)) = some (.str x) := by simp [dat, datV, o]
  simp only [fEq, e, Option.bind_some]
  have z : PyData.eqv (.str x) (.str x) = true := by simp [PyData.eqv]
  rw [z]
  rfl
theorem i_neB {a b : Bool} (q : Q (.v (.bl (!(a == b)))) h) : wV (fEq true (.v (.bl a)) (.v (.bl b)) h) Q := by
  refine ⟨_, _, rfl, ?_⟩
  cases a <;> cases b <;> exact q
/-- for over an own list's name: the list is lent to the loop -/
theorem i_forO {T : Tg} {b : MS} {xs : List Val} (e : s[i]? = some (some (.o xs))) (q : wS (forL (fun _ => True) T b xs) (s.set i (some (.l xs))) h QS) : wS (sFor (jV i) T b) s h QS := by
  obtain ⟨f, s2, h2, e2, q⟩ := q
  exact ⟨f, s2, h2, by simp only [sFor, jV, e, Option.bind_some]; exact e2, q⟩
end NL
set_option Elab.async false
set_option linter.all false
set_option maxRecDepth 100000
set_option maxHeartbeats 4000000
set_option autoImplicit false
namespace NL
open PySem PySem.Spec PyProof.Rows L2

/-! ### enumerate of a tuple -/
abbrev enOb (n : Nat) : Obj := { cls := .type "enumerate", data := .fields #[.none, .bool false, .ref n, rawInt 0, .none, .none] }
theorem meets_en {v : Value} {ob : Obj} {G : Heap → Prop} (B : Begins v ob G) : Meets (Builtin.«enumerate.__new__» ⟨[.type "enumerate", v], []⟩)
    (fun _ R s => G s.heap ∧ R (.ok (.ret (.ref (s.heap.push ob).objs.size))) { s with heap := (s.heap.push ob).push (enOb s.heap.objs.size) }) := .of_wp fun prog w A R s hyp => by
  obtain ⟨hp, gl, ds, tk, os⟩ := s
  obtain ⟨g1, g2⟩ := hyp
  have hsub := sub_enumerate
  have beg : ∀ {A1 : Around} {E1 Q1 : Value → Shared → Prop}, Q1 (.ref hp.objs.size) ⟨hp.push ob, gl, ds, tk, os⟩ → wpAny (model prog w) A1 (pyIter v) Q1 E1 ⟨hp, gl, ds, tk, os⟩ := fun q => B.iter prog w _ _ ⟨hp, gl, ds, tk, os⟩ _ g1 q
  wp_walk using beg
  refine wpAny_stack_any fun st => wpAny_pure ?_
  split
  · rename_i cc _ _ _ _ _
    cases (cc == Value.type "enumerate") <;> (wp_walk using beg; exact ⟨_, rfl, g2⟩)
  · wp_walk using beg
    exact ⟨_, rfl, g2⟩
theorem call_en {prog : Program} {w : World} {A : Around} {E : Value → Shared → Prop} {s : Shared} {v : Value} {ob : Obj} {G : Heap → Prop} {Q : Value → Shared → Prop} (B : Begins v ob G) (g1 : G s.heap)
    (k : ∀ h', IsEnum h' (s.heap.objs.size + 1) s.heap.objs.size 0 .none → h'.get? s.heap.objs.size = some ob → (∀ b o, s.heap.get? b = some o → h'.get? b = some o) → Q (.ref (s.heap.objs.size + 1)) { s with heap := h' }) :
    wpAny (model prog w) A (call (.type "enumerate") [v]) Q E s := by
  refine callType_new F.called_enumerate (by decide) (F.typeCall_enumerate_1 _) (F.newCall_enumerate_1 _) (fun obj => F.args_object_init_2 obj _) F.entry_enumerate_new (meets_en B) ⟨g1, ?_⟩
  have sz : (s.heap.push ob).objs.size = s.heap.objs.size + 1 := Heap.size_push ..
  show _ ∧ _
  rw [sz]
  have en : IsEnum ((s.heap.push ob).push (enOb s.heap.objs.size)) (s.heap.objs.size + 1) s.heap.objs.size 0 .none := by
    have q := Heap.get?_push_size (s.heap.push ob) (o := enOb s.heap.objs.size) rfl
    rw [sz] at q
    exact q
  exact ⟨⟨_, en, rfl⟩, k _ en (Heap.get?_push_of_some _ (Heap.get?_push_size _ B.free)) fun b o x => Heap.get?_push_of_some _ (Heap.get?_push_of_some _ x)⟩

/-- the tuple at a, each item in a new pair with its number -/
def IteT (K : PySem.W.Frag) (a : Addr) : It :=
  ⟨fun i H => ∃ (xs : List V) (x : V), SqT K H a xs ∧ xs[i]? = some x, fun i H v H' => ∃ T x, v = .ref T ∧ H T = none ∧ H' = upd H T (.tup [.int (i : Nat), x]) ∧ ∀ xs, SqT K H a xs → xs[i]? = some x, fun i H => ∃ xs : List V, SqT K H a xs ∧ xs.length = i⟩
theorem turn_enT {P : Program} {w : World} {K : PySem.W.Frag} {elts : List Expr} {kk : Nat} {tpos : Pos} (a e it : Addr) (hai : a ≠ it) (hea : e ≠ a) :
    Turn P w K (.Tuple elts kk tpos) (IteT K a) [e, it] e (fun i h => (∃ old, IsEnum h e it ((i : Nat) : Int) old) ∧ h.IsTupleIter it a i ∧ e ≠ it) where
  mem := by simp
  obj := fun i h st b hb => by
    obtain ⟨⟨old, he⟩, ⟨o, ho, hc, hd⟩, _⟩ := st
    have e' : b = e ∨ b = it := by simpa using hb
    rcases e' with z | z
    · subst z; exact ⟨_, he, fun v q => nomatch q⟩
    · subst z; exact ⟨o, ho, fun v q => by rw [hd] at q; cases q⟩
  keep := fun i h h' st k => ⟨⟨st.1.choose, k e (by simp) _ st.1.choose_spec⟩, st.2.1.at fun o q => k it (by simp) o q, st.2.2⟩
  item := by
    intro X hP hw hK hc i pins s σ H E I hf st hg
    subst hP hw hK
    obtain ⟨⟨old, he⟩, hit, hne⟩ := st
    obtain ⟨xs, x, hq, hx⟩ := hg
    obtain ⟨its, rv, p, hz⟩ := I.tuple hq
    obtain ⟨u, hu, ru⟩ := rv.get hx
    have lt1 : e < s.heap.objs.size := Heap.lt_size he
    have lt2 : it < s.heap.objs.size := by obtain ⟨_, q, _⟩ := hit; exact Heap.lt_size q
    have hil : i < its.toArray.size := by
      have q := (List.getElem?_eq_some_iff.mp hu).1
      simpa using q
    refine wpAny_pyNext_enum_itemD (Draws.tuple (A := X.A.in1) (show X.A.in1.handled = none from I.ok.hd hc) it a hai its.toArray) he ⟨hit, p⟩ hil hne (by simp [hne, hea]) fun y h' tk hy ho hst hT hsz hk => ?_
    have ey : y = u := by
      have hu' : its.toArray[i]? = some u := by simpa using hu
      rw [hu'] at hy
      exact (Option.some.inj hy).symm
    subst ey
    refine ⟨_, rfl, wpAny_letOwnedTupleGo_enum (s := { s with heap := h', toks := tk + 1 }) ho fun h'' he' sb => ?_⟩
    have hT2 : h''.get? s.heap.objs.size = some { cls := .type "tuple", data := .seq #[.int i tk, y] } := (sb.2 _ (Nat.ne_of_gt lt1)).trans hT
    have new : ObjOk X.prog X.w (upd H s.heap.objs.size (.tup [.int (i : Nat), x])) h'' s.heap.objs.size (.tup [.int (i : Nat), x]) := ⟨by show 2 ≤ sizeLine; decide, [.int i tk, y], .cons ⟨_, rfl⟩ (.cons ru .nil), ⟨_, hT2, rfl, _, rfl⟩⟩
    have I1 : Inv X pins σ (upd H s.heap.objs.size (.tup [.int (i : Nat), x])) { s with heap := h'', toks := tk + 1 } :=
      I.turnedNew (ch := [e, it]) (fun b ob hb q => (sb.2 b (fun z => hb (by simp [z]))).trans (hk b ob (fun z => hb (by simp [z])) (fun z => hb (by simp [z])) q)) hf (Nat.le_refl _) new
    refine ⟨.ref s.heap.objs.size, _, I1, rfl, ⟨_, x, rfl, I.hok.fresh (Nat.le_refl _), rfl, fun ys hy => by rw [I.tuple_inj hy hq]; exact hx⟩, ⟨⟨y, ?_⟩, hst.1.at fun o q => (sb.2 it (Ne.symm hne)).trans q, hne⟩, fun b hb => ?_⟩
    · rw [show ((i + 1 : Nat) : Int) = (i : Int) + 1 from by omega]
      exact he'
    · have lt : b < s.heap.objs.size := by
        have e' : b = e ∨ b = it := by simpa using hb
        rcases e' with z | z
        · subst z; exact lt1
        · subst z; exact lt2
      rw [upd_ne (Nat.ne_of_lt lt)]
      exact (hf b hb).1
  done := by
    intro X hP hw hK hc i pins s σ H E I hf st hg
    subst hP hw hK
    obtain ⟨⟨old, he⟩, hit, hne⟩ := st
    obtain ⟨xs, hq, hx⟩ := hg
    obtain ⟨its, rv, p, hz⟩ := I.tuple hq
    have hl := rv.length
    subst hx
    have es : its.toArray.size = xs.length := by simp [hl]
    obtain ⟨f0, f1, f2, f3, f4, f5⟩ := hf it (by simp)
    refine wpAny_pyNext_enum_endD (Draws.tuple (A := X.A.in1) (show X.A.in1.handled = none from I.ok.hd hc) it a hai its.toArray) he ?_ fun h' eb => ⟨rfl, I.turned (t' := s.toks) (fun b o hb q => eb b o hb q) f0 f1 f3 f4 f5⟩
    rw [es]
    exact ⟨hit, p⟩
  self := fun A i s Q E st h => wpAny_pyIter_enum st.1.choose_spec h

def iEnT (K : PySem.W.Frag) (ta : TA) : TI := fun σ H R => ta σ H fun vs H1 => ∃ a xs, vs = [.ref a] ∧ SqT K H1 a xs ∧ R (IteT K a) H1
theorem pi_enT {X : Cx} {e : Expr} {ta : TA} {p pos tpos : Pos} {elts : List Expr} {kk : Nat} (hg : Gl X "enumerate") (hm : X.mg "enumerate" = none) (ha : PA X [e] ta) (hs : starEach [e] X.env = [(false, eval e X.env)] := by rfl) :
    PI X (.Tuple elts kk tpos) (.Call (.Name "enumerate" p) [e] [] pos) (iEnT X.K ta) := by
  refine ⟨fun pins s σ H R I h => ?_⟩
  refine Call_ (ld_blt I hg hm boot_enumerate (PyProof.Rows.callWith_type1 (thn (ha.run pos pins s σ H _ I h) fun us s1 ⟨vs, H1, I1, r1, q1⟩ => ?_) hs rfl))
  obtain ⟨a, xs, ex, hq, q⟩ := q1
  subst ex
  cases r1 with
  | cons r rr =>
    cases rr
    cases r
    obtain ⟨its, rv, pp, hz⟩ := I1.tuple hq
    have hlt : a < s1.heap.objs.size := by obtain ⟨o, ho, _⟩ := id pp; exact Heap.lt_size ho
    refine call_en (begins_tuple a its.toArray) pp fun h' he hit hk => wpAny_pyIter_enum he ?_
    have I2 : Inv X pins σ H1 { s1 with heap := h' } := I1.kept (t' := s1.toks) hk
    refine ⟨s1.heap.objs.size + 1, [s1.heap.objs.size + 1, s1.heap.objs.size], _, _, H1, rfl, I2, turn_enT a (s1.heap.objs.size + 1) s1.heap.objs.size (Nat.ne_of_lt hlt) (Nat.ne_of_gt (Nat.lt_succ_of_lt hlt)), ⟨⟨.none, he⟩, ⟨_, hit, rfl, rfl⟩, Nat.succ_ne_self _⟩, fun b hb => ?_, q⟩
    have hle : s1.heap.objs.size ≤ b := by
      have e' : b = s1.heap.objs.size + 1 ∨ b = s1.heap.objs.size := by simpa using hb
      rcases e' with z | z
      · rw [z]; exact Nat.le_succ _
      · rw [z]; exact Nat.le_refl _
    exact I1.fpOk hle (I1.hok.fresh hle)
/-- the items with their numbers -/
def numd (xs : List Val) : List Val := xs.zipIdx.map fun p => .tup [.int (p.2 : Nat), p.1]
theorem numd_len {xs : List Val} : (numd xs).length = xs.length := by simp [numd]
theorem numd_get {xs : List Val} {i : Nat} {v : Val} (e : xs[i]? = some v) : (numd xs)[i]? = some (.tup [.int (i : Nat), v]) := by simp [numd, e]
variable [HasK]
theorem walk_enT {K : PySem.W.Frag} {a : Addr} {xs : List V} : Walk (IteT K a) xs.length (fun H => SqT K H a xs) (fun i H v H' => ∃ T x, v = .ref T ∧ H T = none ∧ H' = upd H T (.tup [.int (i : Nat), x]) ∧ xs[i]? = some x) := by
  refine ⟨fun i _ hi q => ⟨xs, xs[i], q, by simp [hi]⟩, fun _ q => ⟨xs, q, rfl⟩, fun i H v H' _ q y => ?_⟩
  obtain ⟨T, x, h1, h2, h3, h4⟩ := y
  exact ⟨T, x, h1, h2, h3, h4 xs q⟩
theorem ws_enT {K : PySem.W.Frag} {c : List Addr} {P : Addr → Prop} {h : Hh} {H : Hp} {a : Addr} {vs : List Val} {xs : List V} (k : HR c h H) (hT : ∀ b ys, H b = some (.tup ys) → P b) (ha : H a = some (.tup xs)) (q : VRs c H vs xs) : WS c P H (fun _ => True) (IteT K a) (numd vs) := by
  refine ⟨_, _, by rw [numd_len, q.length]; exact walk_enT (K := K) (a := a) (xs := xs), fun c' h' H' pre kp k' _ _ => ?_⟩
  have tk := tk_kp k hT pre kp
  refine ⟨.inl (.inl (tk.1 _ _ ha)), fun i x H'' hi y => ?_⟩
  obtain ⟨T, u, rfl, nT, rfl, e1⟩ := y
  rw [numd_len] at hi
  obtain ⟨z, e2, e3⟩ := (VRs.mono tk _ _ q).get (List.getElem?_eq_getElem hi)
  rw [e1] at e2
  cases e2
  refine ⟨_, numd_get (List.getElem?_eq_getElem hi), .inr ⟨T, _, nT, rfl⟩, ?_⟩
  exact RR.newTup (H0 := H') k' nT (VRs.cons (by unfold VR; rfl) (VRs.cons e3 VRs.nil))
noncomputable def iEn (m : ME) : MI := fun s h => (m s h).bind fun p => match p.1 with
  | .v (.tup xs) => some (numd xs, (fun _ => True), p.2)
  | _ => none
section
variable {X : Cx} {tg a : Expr} {ma : ME} {p pos : Pos}
theorem rd_en {K : PySem.W.Frag} {σ : L2.St} {H : Hp} {Q : It → Hp → Prop} {c : List Addr} {ow : Ow} {σa : Sl} {h h' : Hh} {items : List Val} {chk : Hh → Prop} (k : Rel c ow σa h σ H) (e : iEn ma σa h = some (items, chk, h'))
    (f : ∀ c' H' J, Ext c c' H H' → HR c' h' H' → (∀ P : Addr → Prop, (∀ b ys, H' b = some (.tup ys) → P b) → WS c' P H' chk J items) → Q J H') : iEnT K (rdA (aCons ma aNil)) σ H Q := by
  simp only [iEn, Option.bind_eq_some_iff] at e
  obtain ⟨⟨r1, h1⟩, e1, e2⟩ := e
  refine ⟨c, ow, σa, h, [r1], h1, k, by simp [aCons, aNil, e1], fun c1 H1 xs E1 K1 R1 => ?_⟩
  obtain ⟨x, rfl, q1⟩ := rrs1 R1
  dsimp only at e2
  split at e2
  · rename_i zs
    simp only [Option.some.injEq, Prod.mk.injEq] at e2
    obtain ⟨rfl, rfl, rfl⟩ := e2
    obtain ⟨a1, ys, rfl, t1, v1⟩ := asT_rr (xs := zs) rfl q1
    exact ⟨a1, ys, rfl, .inl (.inl t1), f c1 H1 _ E1 K1 fun P hP => ws_enT K1 hP t1 v1⟩
  · cases e2
theorem si_en {elts : List Expr} {kk : Nat} {tpos : Pos} (hm : X.mg "enumerate" = none) (ha : SE X a ma) (hg : Gl X "enumerate" := by rfl) (hs : starEach [a] X.env = [(false, eval a X.env)] := by rfl) : SI X (.Tuple elts kk tpos) (.Call (.Name "enumerate" p) [a] [] pos) (iEn ma) :=
  pi_imp (pi_enT hg hm (sa_cons ha sa_nil hs) hs) fun σ H Q q => by
    obtain ⟨c, ow, σa, h, items, chk, h', k, e, f⟩ := q
    exact rd_en k e fun c' H' J E K w => f c' H' J E K (w _ fun _ _ _ => trivial)
theorem sj_en {elts : List Expr} {kk : Nat} {tpos : Pos} (hm : X.mg "enumerate" = none) (ha : SE X a ma) (hg : Gl X "enumerate" := by rfl) (hs : starEach [a] X.env = [(false, eval a X.env)] := by rfl) : SJ X (.Tuple elts kk tpos) (.Call (.Name "enumerate" p) [a] [] pos) (jI (iEn ma)) :=
  pi_imp (pi_enT hg hm (sa_cons ha sa_nil hs) hs) fun σ H Q q => by
    obtain ⟨c, ow, σa, h, items, chk, σa', h', k, e, f⟩ := q
    simp only [jI, Option.map_eq_some_iff, Prod.mk.injEq] at e
    obtain ⟨⟨it, ck, h1⟩, e1, rfl, rfl, rfl, rfl⟩ := e
    exact rd_en k e1 fun c' H' J E K w => f c' ow H' J E.s (k.ext E K) (w _ (k.ext E K).tupP)
end
end NL
set_option Elab.async false
set_option linter.all false
set_option maxRecDepth 100000
set_option maxHeartbeats 4000000
set_option autoImplicit false
namespace NL
open PySem PySem.Spec PyProof.Rows L2 RZ
variable [HasK]

/-! ### a, b = x, y with new lists -/
def okR : R → Bool
  | .v _ => true
  | .o _ => true
  | _ => false
theorem Rel.setR {c c1 : List Addr} {ow : Ow} {σa : Sl} {h h1 : Hh} {σ : L2.St} {H H1 : Hp} {i : Nat} {r : R} {x : V} (k : Rel c ow σa h σ H) (E1 : Ext c c1 H H1) (K1 : HR c1 h1 H1) (R1 : RR c1 H H1 r x) (ok : okR r = true) :
    ∃ ow1, ExtS c ow c1 ow1 H H1 ∧ Rel c1 ow1 (σa.set i (some r)) h1 (σ.set i (some x)) H1 := by
  cases r with
  | v y =>
    refine ⟨put ow i none, E1.s.trans exts_drop, (k.ext E1 K1).setV R1⟩
  | o y =>
    obtain ⟨a, ys, rfl, e4, e5, e6, e7⟩ := R1
    refine ⟨put ow i (some a), ⟨E1.pre, fun b o h n _ => E1.keep b o h n, E1.new, E1.dom, fun j b z => ?_, E1.frz⟩, k.setO E1 K1 e4 e7 e5 e6⟩
    by_cases hj : j = i
    · rw [hj, put_same] at z; cases z; exact .inr e4
    · rw [put_ne hj] at z; exact .inl ⟨j, z⟩
  | l y => cases ok
  | z y => cases ok
def sPar2 (i j : Nat) (m1 m2 : ME) : MS := fun s h => (m1 s h).bind fun p => (m2 s p.2).bind fun q => if (okR p.1 && okR q.1) = true then some (.nx, (s.set i (some p.1)).set j (some q.1), q.2) else none
def sPar3 (i j l : Nat) (m1 m2 m3 : ME) : MS := fun s h => (m1 s h).bind fun p => (m2 s p.2).bind fun q => (m3 s q.2).bind fun r => if (okR p.1 && okR q.1 && okR r.1) = true then some (.nx, ((s.set i (some p.1)).set j (some q.1)).set l (some r.1), r.2) else none
section
variable {X : Cx} {a b d : Expr} {x y z : Str} {px py pz pt pt2 pos : Pos} {kt k2 : Nat} {m1 m2 m3 : ME}
theorem ss_parR2 (i j : Nat) (hc : X.calm = true) (hN : X.N.Nodup) (hx : X.env.scope.names.lookup x = some .local) (hy : X.env.scope.names.lookup y = some .local) (h1 : SE X a m1) (h2 : SE X b m2)
    (hw : swappedStores [.Tuple [.Name x px, .Name y py] kt pt] (.Tuple [a, b] k2 pt2) X.env = pure (some [x, y])) (hs1 : starEach [a, b] X.env = (false, eval a X.env) :: starEach [b] X.env := by rfl) (hs2 : starEach [b] X.env = (false, eval b X.env) :: starEach [] X.env := by rfl)
    (hi : X.N[i]? = some x := by rfl) (hj : X.N[j]? = some y := by rfl) (hij : i ≠ j := by decide)
    (hs : swapsWithSole [.Tuple [.Name x px, .Name y py] kt pt] (.Tuple [a, b] k2 pt2) pos.line X.env = pure false := by rfl) :
    SS X (.Assign [.Tuple [.Name x px, .Name y py] kt pt] (.Tuple [a, b] k2 pt2) pos) (sPar2 i j m1 m2) := ps_imp (ps_par hc hN hi hj hij hx hy (pa_cons h1 (pa_cons h2 pa_nil hs2) hs1) hw hs) fun D σ H q => by
  obtain ⟨c, ow, σa, h, fl, σa', h', k, e, f⟩ := q
  simp only [sPar2, Option.bind_eq_some_iff] at e
  obtain ⟨⟨r1, g1⟩, e1, ⟨r2, g2⟩, e2, e3⟩ := e
  dsimp only at e2 e3
  split at e3
  · rename_i ok
    simp only [Bool.and_eq_true] at ok
    simp only [Option.some.injEq, Prod.mk.injEq] at e3
    obtain ⟨rfl, rfl, rfl⟩ := e3
    refine ⟨c, ow, σa, h, r1, g1, k, e1, fun c1 H1 x1 E1 K1 R1 => ?_⟩
    refine ⟨c1, ow, σa, g1, r2, g2, k.ext E1 K1, e2, fun c2 H2 x2 E2 K2 R2 => ?_⟩
    obtain ⟨ow1, S1, L1⟩ := k.setR (i := i) E1 K1 R1 ok.1
    obtain ⟨ow2, S2, L2⟩ := L1.setR (i := j) E2 K2 R2 ok.2
    exact ⟨x1, x2, rfl, f c2 ow2 _ H2 (S1.trans S2) L2⟩
  · cases e3
theorem ss_parR3 (i j l : Nat) (hc : X.calm = true) (hN : X.N.Nodup) (hx : X.env.scope.names.lookup x = some .local) (hy : X.env.scope.names.lookup y = some .local) (hz : X.env.scope.names.lookup z = some .local) (h1 : SE X a m1) (h2 : SE X b m2) (h3 : SE X d m3)
    (hw : swappedStores [.Tuple [.Name x px, .Name y py, .Name z pz] kt pt] (.Tuple [a, b, d] k2 pt2) X.env = pure (some [x, y, z])) (hs1 : starEach [a, b, d] X.env = (false, eval a X.env) :: starEach [b, d] X.env := by rfl) (hs2 : starEach [b, d] X.env = (false, eval b X.env) :: starEach [d] X.env := by rfl) (hs3 : starEach [d] X.env = (false, eval d X.env) :: starEach [] X.env := by rfl)
    (hi : X.N[i]? = some x := by rfl) (hj : X.N[j]? = some y := by rfl) (hl : X.N[l]? = some z := by rfl) (hij : i ≠ j := by decide) (hil : i ≠ l := by decide) (hjl : j ≠ l := by decide)
    (hs : swapsWithSole [.Tuple [.Name x px, .Name y py, .Name z pz] kt pt] (.Tuple [a, b, d] k2 pt2) pos.line X.env = pure false := by rfl) :
    SS X (.Assign [.Tuple [.Name x px, .Name y py, .Name z pz] kt pt] (.Tuple [a, b, d] k2 pt2) pos) (sPar3 i j l m1 m2 m3) := ps_imp (ps_par3 hc hN hi hj hl hij hil hjl hx hy hz (pa_cons h1 (pa_cons h2 (pa_cons h3 pa_nil hs3) hs2) hs1) hw hs) fun D σ H q => by
  obtain ⟨c, ow, σa, h, fl, σa', h', k, e, f⟩ := q
  simp only [sPar3, Option.bind_eq_some_iff] at e
  obtain ⟨⟨r1, g1⟩, e1, ⟨r2, g2⟩, e2, ⟨r3, g3⟩, e3, e4⟩ := e
  dsimp only at e2 e3 e4
  split at e4
  · rename_i ok
    simp only [Bool.and_eq_true] at ok
    simp only [Option.some.injEq, Prod.mk.injEq] at e4
    obtain ⟨rfl, rfl, rfl⟩ := e4
    refine ⟨c, ow, σa, h, r1, g1, k, e1, fun c1 H1 x1 E1 K1 R1 => ?_⟩
    refine ⟨c1, ow, σa, g1, r2, g2, k.ext E1 K1, e2, fun c2 H2 x2 E2 K2 R2 => ?_⟩
    refine ⟨c2, ow, σa, g2, r3, g3, (k.ext E1 K1).ext E2 K2, e3, fun c3 H3 x3 E3 K3 R3 => ?_⟩
    obtain ⟨ow1, S1, L1⟩ := k.setR (i := i) E1 K1 R1 ok.1.1
    obtain ⟨ow2, S2, L2⟩ := L1.setR (i := j) E2 K2 R2 ok.1.2
    obtain ⟨ow3, S3, L3⟩ := L2.setR (i := l) E3 K3 R3 ok.2
    exact ⟨x1, x2, x3, rfl, f c3 ow3 _ H3 ((S1.trans S2).trans S3) L3⟩
  · cases e4
end

/-! ### zip of any two lists, or two tuples -/
def LR (K : PySem.W.Frag) (c : List Addr) (P : Addr → Prop) (H : Hp) (chk : Hh → Prop) (a : Addr) (vs : List Val) : Prop := ∀ (c' : List Addr) (h' : Hh) (H' : Hp), (∃ d, c' = c ++ d) → (∀ b o, H b = some o → b ∉ c → P b → H' b = some o) → HR c' h' H' → chk h' → ∃ xs, SqL K H' a xs ∧ VRs c' H' vs xs
theorem lr_lst {K : PySem.W.Frag} {c : List Addr} {P : Addr → Prop} {h : Hh} {H : Hp} {a : Addr} {vs : List Val} {xs : List V} (k : HR c h H) (hT : ∀ b ys, H b = some (.tup ys) → P b) (ha : H a = some (.lst xs)) (hn : a ∉ c) (hP : P a) (q : VRs c H vs xs) : LR K c P H (fun _ => True) a vs := fun c' h' H' pre kp k' _ =>
  ⟨xs, .inl (.inl (kp a _ ha hn hP)), VRs.mono (tk_kp k hT pre kp) _ _ q⟩
theorem lr_cell {K : PySem.W.Frag} {c : List Addr} {P : Addr → Prop} {H : Hp} {a : Addr} {vs : List Val} {p : Nat} (hp : c[p]? = some a) : LR K c P H (fun h' => h'[p]? = some (.lst vs)) a vs := fun c' h' H' pre kp k' ck => by
  obtain ⟨d, rfl⟩ := pre
  have hp' : (c ++ d)[p]? = some a := by rw [List.getElem?_append_left (List.getElem?_eq_some_iff.mp hp).1]; exact hp
  obtain ⟨o, e5, e6⟩ := k'.cell p a hp'
  rw [ck] at e5
  cases e5
  obtain ⟨ys, e7, e8⟩ := e6
  exact ⟨ys, .inl (.inl e7), e8⟩
theorem sql_len {K : PySem.W.Frag} {c' : List Addr} {H' : Hp} {vs : List Val} {xs : List V} (q : VRs c' H' vs xs) : xs.length = vs.length := q.length.symm
theorem ws_zipG {K : PySem.W.Frag} {c : List Addr} {P : Addr → Prop} {H : Hp} {ca cb : Hh → Prop} {a b : Addr} {vs ws : List Val} (la : LR K c P H ca a vs) (lb : LR K c P H cb b ws) : WS c P H (fun h => ca h ∧ cb h) (Itz K a b) ((vs.zip ws).map fun p => .tup [p.1, p.2]) := by
  refine ⟨fun H => ∃ xs ys, SqL K H a xs ∧ SqL K H b ys ∧ xs.length = vs.length ∧ ys.length = ws.length, (Itz K a b).yld, ⟨fun i H' hi q => ?_, fun H' q => ?_, fun i H' x H'' hi _ y => y⟩, fun c' h' H' pre kp k' ck _ => ?_⟩
  · obtain ⟨xs, ys, q1, q2, l1, l2⟩ := q
    rw [List.length_map, List.length_zip] at hi
    exact ⟨xs, ys, xs[i]'(by omega), ys[i]'(by omega), q1, q2, by simp, by simp⟩
  · obtain ⟨xs, ys, q1, q2, l1, l2⟩ := q
    exact ⟨xs, ys, q1, q2, by rw [List.length_map, List.length_zip]; omega⟩
  · obtain ⟨xs, s1, v1⟩ := la c' h' H' pre kp k' ck.1
    obtain ⟨ys, s2, v2⟩ := lb c' h' H' pre kp k' ck.2
    refine ⟨⟨xs, ys, s1, s2, v1.length.symm, v2.length.symm⟩, fun i x H'' hi y => ?_⟩
    obtain ⟨T, u, w, rfl, hT, rfl, e1, e2⟩ := y
    have e1 := e1 xs s1
    have e2 := e2 ys s2
    rw [List.length_map, List.length_zip] at hi
    have h1 : i < vs.length := by omega
    have h2 : i < ws.length := by omega
    obtain ⟨z1, e3, e4⟩ := v1.get (List.getElem?_eq_getElem h1)
    obtain ⟨z2, e5, e6⟩ := v2.get (List.getElem?_eq_getElem h2)
    rw [e1] at e3
    rw [e2] at e5
    cases e3
    cases e5
    refine ⟨.tup [vs[i], ws[i]], by simp [List.getElem?_zip_eq_some, h1, h2], .inr ⟨T, _, hT, rfl⟩, ?_⟩
    exact RR.newTup (H0 := H') k' hT (VRs.cons e4 (VRs.cons e6 VRs.nil))
def zL (h : Hh) : R → Option (List Val × (Hh → Prop))
  | .l xs => some (xs, fun _ => True)
  | .o xs => some (xs, fun _ => True)
  | .v (.ref q) => match h[q]? with
    | some (.lst xs) => some (xs, fun h' => h'[q]? = some (.lst xs))
    | _ => none
  | _ => none
theorem zL_rr {K : PySem.W.Frag} {c : List Addr} {h : Hh} {H0 H : Hp} {r : R} {x : V} {xs : List Val} {chk : Hh → Prop} (k : HR c h H) (e : zL h r = some (xs, chk)) (q : RR c H0 H r x) : ∃ a ys, x = .ref a ∧ SqL K H a ys ∧ LR K c (fun _ => True) H chk a xs := by
  cases r with
  | l zs =>
    simp only [zL, Option.some.injEq, Prod.mk.injEq] at e
    obtain ⟨rfl, rfl⟩ := e
    obtain ⟨a, ys, rfl, t1, v1, n1⟩ := q
    exact ⟨a, ys, rfl, .inl (.inl t1), lr_lst k (fun _ _ _ => trivial) t1 n1 trivial v1⟩
  | o zs =>
    simp only [zL, Option.some.injEq, Prod.mk.injEq] at e
    obtain ⟨rfl, rfl⟩ := e
    obtain ⟨a, ys, rfl, _, t1, v1, n1⟩ := q
    exact ⟨a, ys, rfl, .inl (.inl t1), lr_lst k (fun _ _ _ => trivial) t1 n1 trivial v1⟩
  | z zs => simp [zL] at e
  | v w =>
    cases w with
    | ref p =>
      simp only [zL] at e
      split at e
      · rename_i zs hz
        simp only [Option.some.injEq, Prod.mk.injEq] at e
        obtain ⟨rfl, rfl⟩ := e
        have q' : VR c H (.ref p) x := q
        unfold VR at q'
        obtain ⟨a, rfl, e5⟩ := q'
        obtain ⟨o, e6, e7⟩ := k.cell p a e5
        rw [hz] at e6
        cases e6
        obtain ⟨ys, e8, e9⟩ := e7
        exact ⟨a, ys, rfl, .inl (.inl e8), lr_cell e5⟩
      · cases e
    | _ => simp [zL] at e
noncomputable def iZq (m m' : ME) : MI := fun s h => (m s h).bind fun p => (m' s p.2).bind fun q => match p.1, q.1 with
  | .v (.tup xs), .v (.tup ys) => some ((xs.zip ys).map (fun p => .tup [p.1, p.2]), (fun _ => True), q.2)
  | r1, r2 => (zL q.2 r1).bind fun a => (zL q.2 r2).bind fun b => some ((a.1.zip b.1).map (fun p => .tup [p.1, p.2]), (fun h => a.2 h ∧ b.2 h), q.2)
theorem si_zipQ {X : Cx} {a b : Expr} {ma mb : ME} {p pos : Pos} {elts : List Expr} {kk : Nat} {tpos : Pos} (hm : X.mg "zip" = none) (ha : SE X a ma) (hb : SE X b mb) (hg : Gl X "zip" := by rfl) (hs : starEach [a, b] X.env = (false, eval a X.env) :: starEach [b] X.env := by rfl) (hs2 : starEach [b] X.env = [(false, eval b X.env)] := by rfl) (hpl : (backTo pos (starEach [b] X.env)).any (·.1) = false := by rfl) :
    SI X (.Tuple elts kk tpos) (.Call (.Name "zip" p) [a, b] [] pos) (iZq ma mb) :=
  pi_imp (pi_zipA hg hm (sa_cons ha (sa_cons hb sa_nil hs2) hs) hs hpl) fun σ H Q q => by
    obtain ⟨c, ow, σa, h, items, chk, h', k, e, f⟩ := q
    simp only [iZq, Option.bind_eq_some_iff] at e
    obtain ⟨⟨r1, h1⟩, e1, ⟨r2, h2⟩, e2, e3⟩ := e
    refine ⟨c, ow, σa, h, [r1, r2], h2, k, by simp [aCons, aNil, e1, e2], fun c1 H1 xs E1 K1 R1 => ?_⟩
    obtain ⟨x, y, rfl, q1, q2⟩ := rrs2 R1
    dsimp only at e3
    split at e3
    · rename_i us ws
      simp only [Option.some.injEq, Prod.mk.injEq] at e3
      obtain ⟨rfl, rfl, rfl⟩ := e3
      obtain ⟨a1, ys, rfl, t1, v1⟩ := asT_rr (xs := us) rfl q1
      obtain ⟨a2, zs, rfl, t2, v2⟩ := asT_rr (xs := ws) rfl q2
      exact ⟨a1, a2, ys, zs, rfl, .inr ⟨.inl (.inl t1), .inl (.inl t2), f c1 H1 _ E1 K1 (ws_zipT K1 (fun _ _ _ => trivial) t1 t2 v1 v2)⟩⟩
    · simp only [Option.bind_eq_some_iff, Option.some.injEq, Prod.mk.injEq] at e3
      obtain ⟨⟨us, ca⟩, z1, ⟨ws, cb⟩, z2, rfl, rfl, rfl⟩ := e3
      obtain ⟨a1, ys, rfl, s1, l1⟩ := zL_rr (K := X.K) K1 z1 q1
      obtain ⟨a2, zs, rfl, s2, l2⟩ := zL_rr (K := X.K) K1 z2 q2
      exact ⟨a1, a2, ys, zs, rfl, .inl ⟨s1, s2, f c1 H1 _ E1 K1 (ws_zipG l1 l2)⟩⟩

/-! ### x.reverse(), x an own list -/
def sRevL (i : Nat) : MS := fun s h => match s[i]? with
  | some (some (.o xs)) => some (.nx, s.set i (some (.o xs.reverse)), h)
  | _ => none
section
variable {X : Cx} {e o : Expr} {m mo : ME} {pos apos cpos : Pos}
theorem ss_reverse (i : Nat) {x : Str} {p : Pos} (hN : X.N[i]? = some x := by rfl) (hv : Vis X.env.scope x := by first | exact Or.inl rfl | exact Or.inr (Or.inl rfl) | exact Or.inr (Or.inr rfl)) (hd : (x == ("__debug__" : Str)) = false := by decide)
    (hcd : (x == ("__classdict__" : Str)) = false := by decide)
    (hbase : attributeBase (.Name x p) "reverse" X.env (eval (.Name x p) X.env) = eval (.Name x p) X.env := by rfl) (hline : (apos.endLine == cpos.line) = true := by rfl)
    (hsw : swapsWith (.Call (.Attribute (.Name x p) "reverse" apos) [] [] cpos) none pos.line X.env = pure false := by rfl) :
    SS X (.Expr (.Call (.Attribute (.Name x p) "reverse" apos) [] [] cpos) pos) (sRevL i) :=
  ps_imp (ps_expr (pe_bm0 PySem.F.plainAttrs_list PySem.F.slot_list_reverse PySem.F.type_list_reverse mt_reverse (pe_var hN hv hd hcd) hbase hline) hsw) fun D σ H q => by
    obtain ⟨c, ow, σa, h, fl, σa', h', k, e, f⟩ := q
    unfold sRevL at e
    split at e
    · rename_i xs e0
      simp only [Option.some.injEq, Prod.mk.injEq] at e
      obtain ⟨rfl, rfl, rfl⟩ := e
      obtain ⟨y, es, a, ys, rfl, e4, e5, e6⟩ := k.sl i _ e0
      obtain ⟨k2, x2⟩ := k.setOwn e0 e6 es e5.reverse
      exact ⟨_, es, .inl ⟨rfl, ys, .inl (.inl e4)⟩, a, ys, rfl, rfl, e4, f c ow σ _ x2 k2⟩
    · cases e
end
end NL
set_option Elab.async false
set_option linter.all false
set_option maxRecDepth 100000
set_option maxHeartbeats 4000000
set_option autoImplicit false
namespace NL
open PySem L2
/-! ### steps over the newer meanings -/
section
variable {m m' m1 m2 m3 ma : ME} {t : MT} {e : ME} {s : Sl} {h : Hh} {Q : QE} {QS : Fl → Sl → Hh → Prop} {i j l : Nat} {T : Tg} {b : MS} {W : List Nat}
theorem i_par3 (q : wE m1 s h fun r1 h1 => wE m2 s h1 fun r2 h2 => wE m3 s h2 fun r3 h3 => (okR r1 && okR r2 && okR r3) = true ∧ QS .nx (((s.set i (some r1)).set j (some r2)).set l (some r3)) h3) : wS (sPar3 i j l m1 m2 m3) s h QS := by
  obtain ⟨r1, h1, e1, r2, h2, e2, r3, h3, e3, ok, q⟩ := q
  exact ⟨_, _, _, by simp only [sPar3, e1, e2, e3, Option.bind_some]; rw [if_pos ok], q⟩
theorem i_par2 (q : wE m1 s h fun r1 h1 => wE m2 s h1 fun r2 h2 => (okR r1 && okR r2) = true ∧ QS .nx ((s.set i (some r1)).set j (some r2)) h2) : wS (sPar2 i j m1 m2) s h QS := by
  obtain ⟨r1, h1, e1, r2, h2, e2, ok, q⟩ := q
  exact ⟨_, _, _, by simp only [sPar2, e1, e2, Option.bind_some]; rw [if_pos ok], q⟩
theorem i_revL (q : ∃ xs, s[i]? = some (some (.o xs)) ∧ QS .nx (s.set i (some (.o xs.reverse))) h) : wS (sRevL i) s h QS := by
  obtain ⟨xs, e, q⟩ := q
  exact ⟨_, _, _, by simp only [sRevL, e], q⟩
theorem i_ext (q : ∃ xs, s[i]? = some (some (.o xs)) ∧ wE m s h fun r h1 => ∃ ys, asW h1 r = some ys ∧ xs.length + ys.length ≤ 1000000 ∧ QS .nx (s.set i (some (.o (xs ++ ys)))) h1) : wS (sExt i m) s h QS := by
  obtain ⟨xs, e, r, h1, e1, ys, e2, hl, q⟩ := q
  exact ⟨_, _, _, by simp only [sExt, e, e1, e2, Option.bind_some]; rw [if_pos hl], q⟩
theorem i_appO (q : ∃ xs, s[i]? = some (some (.o xs)) ∧ wE m s h fun r h1 => ∃ y, r = .v y ∧ xs.length < 1000000 ∧ QS .nx (s.set i (some (.o (xs ++ [y])))) h1) : wS (sApp i m) s h QS := by
  obtain ⟨xs, e, r, h1, e1, y, rfl, hl, q⟩ := q
  exact ⟨_, _, _, by simp only [sApp, e, e1, Option.bind_some]; rw [if_pos hl], q⟩
theorem i_retO (q : ∃ xs, s[i]? = some (some (.o xs)) ∧ QS (.rt (.o xs)) s h) : wS (sRetO i) s h QS := by
  obtain ⟨xs, e, q⟩ := q
  exact ⟨_, _, _, by simp only [sRetO, e], q⟩
theorem for_en (q : wE m s h fun r h1 => ∃ items, r = .v (.tup items) ∧ wS (forL (fun _ => True) T b (numd items)) s h1 QS) : wS (sFor (jI (iEn m)) T b) s h QS := by
  obtain ⟨r, h1, e1, items, rfl, f, s2, h2, e2, q⟩ := q
  exact ⟨f, s2, h2, by simp only [sFor, jI, iEn, e1, Option.bind_some, Option.map_some]; exact e2, q⟩
theorem for_tup (q : wE m s h fun r h1 => ∃ items, (r = .v (.tup items) ∨ r = .o items) ∧ wS (forL (fun _ => True) T b items) s h1 QS) : wS (sFor (jE m) T b) s h QS := by
  obtain ⟨r, h1, e1, items, hr, f, s2, h2, e2, q⟩ := q
  refine ⟨f, s2, h2, ?_, q⟩
  rcases hr with rfl | rfl
  · simp only [sFor, jE, e1, Option.bind_some]; exact e2
  · simp only [sFor, jE, e1, Option.bind_some]; exact e2
theorem numd_some {xs : List Val} {k : Nat} {v : Val} (e : (numd xs)[k]? = some v) : ∃ x, xs[k]? = some x ∧ v = .tup [.int (k : Nat), x] := by
  have hk : k < xs.length := by
    have := (List.getElem?_eq_some_iff.mp e).1
    rwa [numd_len] at this
  rw [numd_get (List.getElem?_eq_getElem hk)] at e
  exact ⟨_, List.getElem?_eq_getElem hk, (Option.some.inj e).symm⟩
/-- [elt for a, b in zip(x, y)] of two lists that stand still -/
theorem i_lcZq (q : wE m s h fun r h1 => wE m' s h1 fun r' h2 => ∃ xs ys, ((r = .v (.tup xs) ∧ r' = .v (.tup ys)) ∨ (r = .l xs ∧ r' = .l ys)) ∧ ∃ acc h', lcL (fun _ => True) T t e (wipeA s W) ((xs.zip ys).map fun p => Val.tup [p.1, p.2]) [] h2 = some (acc, h') ∧ Q (.o acc) h') : wE (mLc W (iZq m m') T t e) s h Q := by
  obtain ⟨r, h1, e1, r', h2, e3, xs, ys, hr, acc, h', e2, q⟩ := q
  refine ⟨_, _, ?_, q⟩
  unfold mLc iZq
  rcases hr with ⟨rfl, rfl⟩ | ⟨rfl, rfl⟩
  · simp only [e1, e3, Option.bind_some, e2, Option.map_some]
  · simp only [e1, e3, Option.bind_some, zL, and_self, e2, Option.map_some]
end
/-! ### in -/
def pr (p : Int × Int) : Val := .tup [.int p.1, .int p.2]
section
variable {h : Hh} {neg : Bool} {i a b : Int} {ns : List Int} {ps : List (Int × Int)} {Q : QE}
theorem any_ints : ∀ (ns : List Int), (ns.map PyData.int).any (fun z => PyData.eqv z (.int i)) = ns.contains i
  | [] => rfl
  | n :: ns => by
    rw [List.map_cons, List.any_cons, any_ints ns, List.contains_cons]
    have : PyData.eqv (.int n) (.int i) = (i == n) := by
      simp only [PyData.eqv]
      exact Bool.eq_iff_iff.mpr ⟨fun z => by simp at z ⊢; exact z.symm, fun z => by simp at z ⊢; exact z.symm⟩
    rw [this]
theorem inI_eq : fIn neg (.v (.int i)) (.v (.tup (ns.map .int))) h = some (.v (.bl (ns.contains i != neg)), h) := by
  have e1 : dat h (.v (.int i)) = some (.int i) := rfl
  have e2 : dat h (.v (.tup (ns.map .int))) = some (.tuple (ns.map .int)) := by show (mapO (datV h 19) _).map _ = _; rw [mapO_datI]; rfl
  simp only [fIn, e1, e2, Option.bind_some, any_ints]
theorem inIL_eq : fIn neg (.v (.int i)) (.l (ns.map .int)) h = some (.v (.bl (ns.contains i != neg)), h) := by
  have e1 : dat h (.v (.int i)) = some (.int i) := rfl
  have e2 : dat h (.l (ns.map .int)) = some (.list (ns.map .int)) := by show (mapO (datV h 20) _).map _ = _; rw [mapO_datI]; rfl
  simp only [fIn, e1, e2, Option.bind_some, any_ints]
theorem mapO_prs {n : Nat} : ∀ (ps : List (Int × Int)), mapO (datV h (n + 1)) (ps.map pr) = some (ps.map fun p => PyData.tuple [.int p.1, .int p.2])
  | [] => rfl
  | p :: ps => by
    rw [List.map_cons]
    unfold mapO
    rw [mapO_prs ps]
    cases n <;> rfl
theorem any_prs : ∀ (ps : List (Int × Int)), (ps.map fun p => PyData.tuple [.int p.1, .int p.2]).any (fun z => PyData.eqv z (.tuple [.int a, .int b])) = ps.contains (a, b)
  | [] => rfl
  | p :: ps => by
    rw [List.map_cons, List.any_cons, any_prs ps, List.contains_cons]
    have : PyData.eqv (.tuple [.int p.1, .int p.2]) (.tuple [.int a, .int b]) = ((a, b) == p) := by
      obtain ⟨x, y⟩ := p
      simp only [PyData.eqv, PyData.eqvAll]
      rw [Bool.eq_iff_iff]
      simp only [Bool.and_eq_true, decide_eq_true_eq, beq_iff_eq, Prod.mk.injEq, and_true]
      omega
    rw [this]
theorem inP_eq : fIn neg (.v (.tup [.int a, .int b])) (.v (.tup (ps.map pr))) h = some (.v (.bl (ps.contains (a, b) != neg)), h) := by
  have e1 : dat h (.v (.tup [.int a, .int b])) = some (.tuple [.int a, .int b]) := rfl
  have e2 : dat h (.v (.tup (ps.map pr))) = some (.tuple (ps.map fun p => PyData.tuple [.int p.1, .int p.2])) := by show (mapO (datV h 19) _).map _ = _; rw [mapO_prs]; rfl
  simp only [fIn, e1, e2, Option.bind_some, any_prs]
theorem i_inI (q : Q (.v (.bl (ns.contains i))) h) : wV (fIn false (.v (.int i)) (.v (.tup (ns.map .int))) h) Q := ⟨_, _, inI_eq, by simpa using q⟩
theorem i_ninI (q : Q (.v (.bl (!ns.contains i))) h) : wV (fIn true (.v (.int i)) (.v (.tup (ns.map .int))) h) Q := ⟨_, _, inI_eq, by simpa using q⟩
theorem i_inIL (q : Q (.v (.bl (ns.contains i))) h) : wV (fIn false (.v (.int i)) (.l (ns.map .int)) h) Q := ⟨_, _, inIL_eq, by simpa using q⟩
theorem i_ninIL (q : Q (.v (.bl (!ns.contains i))) h) : wV (fIn true (.v (.int i)) (.l (ns.map .int)) h) Q := ⟨_, _, inIL_eq, by simpa using q⟩
theorem i_inP (q : Q (.v (.bl (ps.contains (a, b)))) h) : wV (fIn false (.v (.tup [.int a, .int b])) (.v (.tup (ps.map pr))) h) Q := ⟨_, _, inP_eq, by simpa using q⟩
theorem i_ninP (q : Q (.v (.bl (!ps.contains (a, b)))) h) : wV (fIn true (.v (.tup [.int a, .int b])) (.v (.tup (ps.map pr))) h) Q := ⟨_, _, inP_eq, by simpa using q⟩
end
/-! ### a list of values as a text -/
theorem th_strO {h : Hh} {p n k : Nat} {vs : List Val} (x : ∀ v ∈ vs, Th h p n k v) (hn : n < 38) (hk : vs.length * (k + 2) + 3 ≤ 16000000) : ∃ z, fStr [.o vs] h = some (.v (.str z), h) ∧ PyData.strOk z = true := by
  obtain ⟨ds, e1, e2, e3, e4, e8⟩ := texts_of (f := pdat h 39) (k := k) vs fun v hv => by
    obtain ⟨d, q1, q2, q3, q4⟩ := Th.text n k v (x v hv)
    exact ⟨d, pdat_ups q1 (by omega), q2, q3, q4⟩
  refine ⟨strOf (.list ds), ?_, ?_⟩
  · have e4' : datR h (.o vs) = some (.list ds) := by simp only [datR, asW, asL, Option.bind_some, e1, Option.map_some]
    have e5 := listText_len_le (PyData.shownAll ds)
    have e6 : vs.length * (k + 2) = vs.length * k + vs.length * 2 := Nat.mul_add ..
    have e7 : fits (.list ds) := ⟨e2, by
      have : sizeLine ≥ 16000000 := by decide
      simp only [PyData.shown]
      omega⟩
    simp only [fStr, e4', Option.bind_some, if_pos e7]
  · show PyData.strOk (PyData.shown (.list ds)) = true
    simp only [PyData.shown]
    exact ok_list e8
theorem i_strO {h : Hh} {p n k : Nat} {vs : List Val} {Q : QE} (x : ∀ v ∈ vs, Th h p n k v) (hn : n < 38) (hk : vs.length * (k + 2) + 3 ≤ 16000000) (q : ∀ z, fStr [.o vs] h = some (.v (.str z), h) → PyData.strOk z = true → Q (.v (.str z)) h) : wV (fStr [.o vs] h) Q := by
  obtain ⟨z, e, o⟩ := th_strO x hn hk
  exact ⟨_, _, e, q z e o⟩
/-! ### more steps -/
theorem eqT {m : MT} {s : Sl} {h : Hh} {b : Bool} (w : wT m s h fun r h' => r = b ∧ h' = h) : m s h = some (b, h) := by
  obtain ⟨r, h', e, rfl, rfl⟩ := w; exact e
def rangeI (n : Int) : List Int := (List.range n.toNat).map fun (k : Nat) => (k : Int)
theorem mem_rangeI {n k : Int} : k ∈ rangeI n ↔ 0 ≤ k ∧ k < n := by
  simp only [rangeI, List.mem_map, List.mem_range]
  constructor
  · rintro ⟨j, h1, rfl⟩; omega
  · rintro ⟨h1, h2⟩; exact ⟨k.toNat, by omega, by omega⟩
theorem rangeI_len {n : Int} : (rangeI n).length = n.toNat := by simp [rangeI]
theorem rangeI_succ {i : Nat} : rangeI ((i + 1 : Nat) : Int) = rangeI (i : Int) ++ [(i : Int)] := by
  simp only [rangeI, Int.toNat_natCast, List.range_succ, List.map_append, List.map_cons, List.map_nil]
theorem lc_rangeF {t : MT} {e : ME} {s0 : Sl} {h : Hh} {q : Nat} {n : Int} {p : Int → Bool} {f : Int → Val} (hn : n ≤ 100000) (hs : ∀ k : Nat, k < n.toNat → t (s0.set q (some (.v (.int k)))) h = some (p k, h) ∧ (p k = true → e (s0.set q (some (.v (.int k)))) h = some (.v (f k), h))) :
    lcL (fun _ => True) (.nm q) t e s0 ((List.range n.toNat).map fun (i : Nat) => Val.int (0 + (i : Int))) [] h = some (((rangeI n).filter p).map f, h) := by
  have key := lc_pure (T := .nm q) (t := t) (e := e) (s0 := s0) (h := h) (items := (List.range n.toNat).map fun (i : Nat) => Val.int (0 + (i : Int))) (f := fun v => match v with | .int k => f k | _ => .non) (p := fun v => match v with | .int k => p k | _ => false) (by simp; omega) (fun v hv => by
    simp only [List.mem_map, List.mem_range] at hv
    obtain ⟨k, hk, rfl⟩ := hv
    rw [Int.zero_add]
    exact ⟨_, rfl, hs k hk⟩)
  rw [key]
  congr 2
  simp only [rangeI, List.filter_map, List.map_map, Function.comp_def, Int.zero_add]
theorem i_neO0 {h : Hh} {ns : List Int} {Q : QE} (q : Q (.v (.bl (!ns.isEmpty))) h) : wV (fEq true (.o (ns.map .int)) (.o []) h) Q := by
  have z : wV (fEq true (.o (ns.map .int)) (.o (([] : List Int).map .int)) h) Q := by
    refine i_neOO ?_
    cases ns <;> exact q
  exact z
theorem i_rep1 {h : Hh} {v : Val} {b : Bool} {Q : QE} (q : Q (.o (if b = true then [v] else [])) h) : wV (fTimes (.o [v]) (.v (.int (if b = true then 1 else 0))) h) Q := by
  cases b with
  | true => exact ⟨_, _, rfl, q⟩
  | false => exact ⟨_, _, rfl, q⟩
/-! ### the same data -/
def Sm (h : Hh) : Nat → Val → Val → Prop
  | _, .int i, .int j => i = j
  | _, .non, .non => True
  | _, .bl a, .bl b => a = b
  | n + 1, .tup vs, .tup ws => vs.length = ws.length ∧ vs.length ≤ 1000 ∧ ∀ p ∈ vs.zip ws, Sm h n p.1 p.2
  | n + 1, .ref p, .ref q => ∃ vs ws, h[p]? = some (.lst vs) ∧ h[q]? = some (.lst ws) ∧ vs.length = ws.length ∧ vs.length ≤ 1000 ∧ ∀ p ∈ vs.zip ws, Sm h n p.1 p.2
  | _, _, _ => False
/-! lines of a weaving -/
structure Ln where
  one : Int
  other : Int
  cost : Int
  gs : List Int
  st : Int
def Ln.v (x : Ln) : Val := .tup [.int x.one, .int x.other, .int x.cost, .tup (x.gs.map .int), .int x.st]
theorem at_map {α : Type} {f : α → Val} {L : List α} {l : Nat} {x : α} (e : L[l]? = some x) : atI (L.map f) (l : Nat) = some (f x) := atI_nat (by rw [List.getElem?_map, e]; rfl)
abbrev wv (hs : List Val) (L : List Ln) : Val := .tup [.tup hs, .tup (L.map Ln.v)]
abbrev fv (fh : List Int) (fs : List (Int × Int)) : Val := .tup [.tup (fh.map .int), .tup (fs.map pr)]
def wholeF (fs : List (Int × Int)) (l n : Int) : List Int := (rangeI n).filter fun k => !fs.contains (l, k)
def stdB (fh : List Int) (fs : List (Int × Int)) (l : Int) (x : Ln) : Bool := !(fh.contains x.one || fh.contains x.other) && !(wholeF fs l x.st).isEmpty
def stP (L : List Ln) (fh : List Int) (fs : List (Int × Int)) (g : Int) (l : Int) : Bool := match L[l.toNat]? with
  | some x => x.gs.contains g && stdB fh fs l x
  | none => false
def standL (L : List Ln) (fh : List Int) (fs : List (Int × Int)) (g : Int) : List Int := (rangeI L.length).filter (stP L fh fs g)

theorem i_bl {o : Option (R × Hh)} {h : Hh} {b : Bool} {Q : QE} (e : o = some (.v (.bl b), h)) (q : Q (.v (.bl b)) h) : wV o Q := ⟨_, _, e, q⟩
theorem lc_mapC {chk : Hh → Prop} {T : Tg} {e : ME} {s0 : Sl} {h : Hh} {f : Val → Val} (hc : chk h) : ∀ (items acc : List Val), acc.length + items.length ≤ 100000 → (∀ v ∈ items, ∃ s1, asg T v s0 = some s1 ∧ e s1 h = some (.v (f v), h)) → lcL chk T tYe e s0 items acc h = some (acc ++ items.map f, h)
  | [], acc, _, _ => by unfold lcL; rw [if_pos hc]; simp
  | v :: items, acc, hl, hs => by
    obtain ⟨s1, e1, e2⟩ := hs v (List.mem_cons_self ..)
    have ih := lc_mapC (T := T) (e := e) (s0 := s0) (f := f) hc items (acc ++ [f v]) (by simp at hl ⊢; omega) fun w hw => hs w (List.mem_cons_of_mem _ hw)
    unfold lcL
    rw [if_pos ⟨hc, by simp at hl; omega⟩, e1]
    simp only [Option.bind_some, tYe, if_true, e2]
    rw [ih]
    simp
/-- all([f(a, b) for a, b in zip(x, y)]), each of them true -/
theorem all_zip {m m' : ME} {s : Sl} {h : Hh} {T : Tg} {e : ME} {W : List Nat} {r r' : R} {xs ys : List Val} {ca cb : Hh → Prop} (e1 : m s h = some (r, h)) (e2 : m' s h = some (r', h)) (hr : (r = .v (.tup xs) ∧ r' = .v (.tup ys)) ∨ (zL h r = some (xs, ca) ∧ zL h r' = some (ys, cb) ∧ ca h ∧ cb h)) (hl : xs.length ≤ 1000)
    (hs : ∀ p ∈ xs.zip ys, ∃ s1, asg T (.tup [p.1, p.2]) (wipeA s W) = some s1 ∧ e s1 h = some (.v (.bl true), h)) : mB fAll (aCons (mLc W (iZq m m') T tYe e) aNil) s h = some (.v (.bl true), h) := by
  have key : ∃ n, mLc W (iZq m m') T tYe e s h = some (.o ((List.replicate n true).map .bl), h) := by
    have items : ∀ v ∈ (xs.zip ys).map (fun p => Val.tup [p.1, p.2]), ∃ s1, asg T v (wipeA s W) = some s1 ∧ e s1 h = some (.v ((fun _ => Val.bl true) v), h) := fun v hv => by
      obtain ⟨p, hp, rfl⟩ := List.mem_map.mp hv
      exact hs p hp
    have hlen : ([] : List Val).length + ((xs.zip ys).map (fun p => Val.tup [p.1, p.2])).length ≤ 100000 := by simp [List.length_zip]; omega
    refine ⟨(xs.zip ys).length, ?_⟩
    have eq : ((xs.zip ys).map (fun p => Val.tup [p.1, p.2])).map (fun _ => Val.bl true) = (List.replicate (xs.zip ys).length true).map .bl := by
      rw [List.map_map, List.map_replicate]
      exact List.map_const' ..
    unfold mLc iZq
    rcases hr with ⟨rfl, rfl⟩ | ⟨z1, z2, c1, c2⟩
    · simp only [e1, e2, Option.bind_some]
      rw [lc_mapC (chk := fun _ => True) trivial _ [] hlen items]
      simp only [List.nil_append, Option.map_some, eq]
    · simp only [e1, e2, Option.bind_some]
      split
      · simp [zL] at z1
      · simp only [z1, z2, Option.bind_some]
        rw [lc_mapC (chk := fun h => ca h ∧ cb h) ⟨c1, c2⟩ _ [] hlen items]
        simp only [List.nil_append, Option.map_some, eq]
  obtain ⟨n, key⟩ := key
  have ea : aCons (mLc W (iZq m m') T tYe e) aNil s h = some ([.o ((List.replicate n true).map .bl)], h) := by simp only [aCons, aNil, key, Option.bind_some]
  simp only [mB, ea, Option.bind_some, fAll, asL, mapO_bl_map, Option.map_some]
  simp
end NL
set_option Elab.async false
set_option linter.all false
set_option maxRecDepth 100000
set_option maxHeartbeats 4000000
set_option autoImplicit false
namespace NL
open PySem PySem.Spec PyProof.Rows L2 RZ
open Classical

/-! ### x.extend(tuple) -/
theorem ext_tup {l b : Addr} {its its2 : Array Value} {n n2 : Nat} {dct : Option Addr} {sl : Array (Option Value)} (h0 : ¬(!its.isEmpty && Builtin.List.listTooLong (its.size + its2.size)) = true) (h1 : its.size ≤ sizeLine) (h2 : its.size + its2.size ≤ sizeLine + 1) :
    Meets (Builtin.«list.extend» ⟨[.ref l, .ref b], []⟩) (fun _ R s => s.heap.get? l = some { cls := .type "list", data := .seq its n } ∧ s.heap.get? b = some { cls := .type "tuple", dict := dct, data := .seq its2 n2, slots := sl } ∧ R (.ok (.ret Value.none)) { s with heap := s.heap.update l (Obj.mapSeq fun x => x ++ its2), toks := s.toks }) := .of_wp fun prog w A R s hyp => by
  obtain ⟨hp, gl, ds, tk, os⟩ := s
  obtain ⟨hl, hb, g⟩ := hyp
  have q1 := AutoSeq1.idx_int
  have q2 := AutoSeq1.sub_tuple_tuple
  have q3 := AutoSeq1.sub_list_list
  have q4 := AutoSeq1.sub_tuple_list
  have q5 := AutoSeq1.sub_list_tuple
  have z : (its ++ its2).size ≤ sizeLine + 1 := by rw [Array.size_append]; exact h2
  wp_walk using (wpAny_updateSeq hl rfl (hz := h1) (_hz' := z)), AutoSeq1.wpAny_loadPart' hl, AutoSeq1.wpAny_loadPart' hb
  exact ⟨_, rfl, g⟩
def rExtT (K : PySem.W.Frag) : V → List V → Hp → VK → Prop := fun x vs H Q => ∃ l b xs zs, x = .ref l ∧ vs = [.ref b] ∧ H l = some (.lst xs) ∧ SqT K H b zs ∧ xs.length + zs.length ≤ sizeLine ∧ Q .non (upd H l (.lst (xs ++ zs)))
theorem mt_extT {X : Cx} : MtM X "list.extend" (rExtT X.K) := by
  intro pins s σ H x vs v us Q I rx rv h
  obtain ⟨l, b, xs, zs, rfl, rfl, hH, hB, hz, q⟩ := h
  cases rx
  obtain ⟨u, rfl, ru⟩ := rv.one
  cases ru
  obtain ⟨z, its, n, r, hl, e⟩ := I.lstM hH
  obtain ⟨its2, r2, p2, z2⟩ := I.tuple hB
  obtain ⟨⟨cl, dct, dt, sl⟩, e2, ec, n2, ed⟩ := p2
  replace ec : cl = .type "tuple" := ec
  replace ed : dt = .seq its2.toArray n2 := ed
  subst ec ed
  have l2 := r2.length
  have hsz : its.toArray.size + its2.toArray.size ≤ sizeLine := by simp only [List.size_toArray]; omega
  have hlong : ¬ (!its.toArray.isEmpty && Builtin.List.listTooLong (its.toArray.size + its2.toArray.size)) = true := by rw [notLongL hsz, Bool.and_false]; decide
  refine call_meets F.slot_list_extend ⟨_, e, rfl⟩ F.entry_list_extend (F.args_list_extend_2 _ _) (ext_tup (n := n) (n2 := n2) (dct := dct) (sl := sl) hlong (by simp only [List.size_toArray]; omega) (by omega)) ⟨e, e2, ?_⟩
  exact ⟨.non, _, I.lset (its' := its ++ its2) hH e (by simp) (r.append r2) (by rw [List.length_append]; omega), rfl, q⟩
def sExtT (i : Nat) (m : ME) : MS := fun s h => match s[i]? with
  | some (some (.o xs)) => (m s h).bind fun p => match p.1 with
    | .v (.tup ys) => if xs.length + ys.length ≤ 1000000 then some (.nx, s.set i (some (.o (xs ++ ys))), p.2) else none
    | _ => none
  | _ => none
theorem i_extT {m : ME} {s : Sl} {h : Hh} {QS : Fl → Sl → Hh → Prop} {i : Nat} (q : ∃ xs, s[i]? = some (some (.o xs)) ∧ wE m s h fun r h1 => ∃ ys, r = .v (.tup ys) ∧ xs.length + ys.length ≤ 1000000 ∧ QS .nx (s.set i (some (.o (xs ++ ys)))) h1) : wS (sExtT i m) s h QS := by
  obtain ⟨xs, e, r, h1, e1, ys, rfl, hl, q⟩ := q
  exact ⟨_, _, _, by simp only [sExtT, e, e1, Option.bind_some]; rw [if_pos hl], q⟩
variable [HasK]
theorem rd_extT {K : PySem.W.Frag} {i : Nat} {m : ME} {D : Ends} {σ : L2.St} {H : Hp} (q : rdS (sExtT i m) D σ H) : tDrop (tBM K "list" (rExtT K) (tVar i) (tCons (rdE m) tNil)) D σ H := by
  obtain ⟨c, ow, σa, h, fl, σa', h', k, e, f⟩ := q
  unfold sExtT at e
  split at e
  · rename_i xs e0
    simp only [Option.bind_eq_some_iff] at e
    obtain ⟨⟨r1, h1⟩, e1, e3⟩ := e
    obtain ⟨y, es, a, ys, rfl, e4, e5, e6⟩ := k.sl i _ e0
    refine ⟨_, es, .inl ⟨rfl, ys, .inl (.inl e4)⟩, c, ow, σa, h, r1, h1, k, e1, fun c1 H1 x E1 K1 R1 => ?_⟩
    have k1 := k.ext E1 K1
    have na := (k.oc i a e6).1
    dsimp only at e3
    split at e3
    · rename_i zs
      split at e3
      · rename_i hl
        simp only [Option.some.injEq, Prod.mk.injEq] at e3
        obtain ⟨rfl, rfl, rfl⟩ := e3
        obtain ⟨b, us, rfl, t1, v1⟩ := asT_rr (xs := zs) rfl R1
        have e5' := VRs.mono (E1.tk k.hr) _ _ e5
        obtain ⟨k2, x2⟩ := k1.setOwn e0 e6 es (e5'.append v1)
        exact ⟨a, b, ys, us, rfl, rfl, E1.keep _ _ e4 na, .inl (.inl t1), szl (by rw [← e5.length, ← v1.length]; exact hl), f c1 ow σ _ (E1.s.trans x2) k2⟩
      · cases e3
    · cases e3
  · cases e
section
variable {X : Cx} {e o : Expr} {m mo : ME} {pos apos cpos : Pos}
theorem ss_extT (i : Nat) {x : Str} {p : Pos} (he : SE X e m) (hN : X.N[i]? = some x := by rfl) (hv : Vis X.env.scope x := by first | exact Or.inl rfl | exact Or.inr (Or.inl rfl) | exact Or.inr (Or.inr rfl)) (hd : (x == ("__debug__" : Str)) = false := by decide)
    (hcd : (x == ("__classdict__" : Str)) = false := by decide)
    (hbase : attributeBase (.Name x p) "extend" X.env (eval (.Name x p) X.env) = eval (.Name x p) X.env := by rfl)
    (hfew : ((backTo cpos (starEach [e] X.env)).all (fun x => !x.1) && (backToKw cpos (keywordEach [] X.env)).all (fun x => x.1.isSome) && decide (([e] : List Expr).length + ([] : List Keyword).length + (if ([] : List Keyword).isEmpty then 0 else 1) < 30)) = true := by rfl)
    (hline : (apos.endLine == cpos.line) = true := by rfl) (hs : starEach [e] X.env = (false, eval e X.env) :: starEach [] X.env := by rfl) (hplain : (backTo cpos (starEach [] X.env)).any (·.1) = false := by rfl)
    (hsw : swapsWith (.Call (.Attribute (.Name x p) "extend" apos) [e] [] cpos) none pos.line X.env = pure false := by rfl) :
    SS X (.Expr (.Call (.Attribute (.Name x p) "extend" apos) [e] [] cpos) pos) (sExtT i m) :=
  ps_imp (ps_expr (pe_bm PySem.F.plainAttrs_list PySem.F.slot_list_extend PySem.F.type_list_extend mt_extT (pe_var hN hv hd hcd) (pa_cons he pa_nil hs) hbase hfew hline hs hplain) hsw) fun _ _ _ => rd_extT
end

/-! ### comprehensions of two fors -/
abbrev MI2 := Sl → Hh → Option (List Val × Hh)
/-- what the second for walks: a tuple, a new list -/
def iE2 (m : ME) : MI2 := fun s h => (m s h).bind fun p => match p.1 with
  | .v (.tup xs) => some (xs, p.2)
  | .o xs => some (xs, p.2)
  | _ => none
def rdI2 (m : MI2) : TI := fun σ H R => ∃ c ow σa h items h', Rel c ow σa h σ H ∧ m σa h = some (items, h') ∧ ∀ c' H' J, Ext c c' H H' → HR c' h' H' → (∀ P : Addr → Prop, (∀ b ys, H' b = some (.tup ys) → P b) → (∀ b, H b = none → P b) → WS c' P H' (fun _ => True) J items) → R J H'
theorem si_e2 {X : Cx} {tg e : Expr} {m : ME} (he : SE X e m) : PI X tg e (rdI2 (iE2 m)) := pi_imp (pi_or (pi_tup he) (pi_list he)) fun σ H Q q => by
  obtain ⟨c, ow, σa, h, items, h', k, e, f⟩ := q
  simp only [iE2, Option.bind_eq_some_iff] at e
  obtain ⟨⟨r1, h1⟩, e1, e2⟩ := e
  cases r1 with
  | v w =>
    cases w with
    | tup zs =>
      simp only [Option.some.injEq, Prod.mk.injEq] at e2
      obtain ⟨rfl, rfl⟩ := e2
      refine .inl ⟨c, ow, σa, h, _, h1, k, e1, fun c1 H1 x E1 K1 R1 => ?_⟩
      obtain ⟨a, us, rfl, t1, v1⟩ := asT_rr (xs := zs) rfl R1
      exact ⟨a, rfl, ⟨us, .inl (.inl t1)⟩, f c1 H1 _ E1 K1 fun P hT _ => ws_tup K1 hT t1 v1⟩
    | _ => simp at e2
  | l zs => simp at e2
  | z zs => simp at e2
  | o zs =>
    simp only [Option.some.injEq, Prod.mk.injEq] at e2
    obtain ⟨rfl, rfl⟩ := e2
    refine .inr ⟨c, ow, σa, h, _, h1, k, e1, fun c1 H1 x E1 K1 R1 => ?_⟩
    obtain ⟨a, ys, rfl, e4, e5, e6, e7⟩ := R1
    exact ⟨a, rfl, ⟨ys, .inl (.inl e5)⟩, f c1 H1 _ E1 K1 fun P hT hN => ws_lst K1 hT (.inl e5) e7 (hN a e4) e6⟩
/-- a target's names, wherever the slots stand -/
theorem names_all {Q : L2.St → Hp → Prop} {H : Hp} {W : List Nat} {σ0 : L2.St} : ∀ {is : List Nat} {vs : List Val} {xs : List V} {σa σa' : Sl} {σ : L2.St}, setAll is vs σa = some σa' → xs.length = vs.length → (∀ i ∈ is, i ∈ W) → wipe σ W = wipe σ0 W →
    (∀ σ', (∀ c2 ow2 h2 H2, Rel c2 ow2 σa h2 σ H2 → VRs c2 H2 vs xs → ∃ ow3, Rel c2 ow3 σa' h2 σ' H2) → wipe σ' W = wipe σ0 W → Q σ' H) → gNames is xs σ H Q
  | [], [], xs, σa, σa', σ, e, hl, hW, hw, f => by
    simp only [setAll, Option.some.injEq] at e
    subst e
    have : xs = [] := List.eq_nil_of_length_eq_zero hl
    subst this
    exact ⟨rfl, f σ (fun c2 ow2 h2 H2 k _ => ⟨ow2, k⟩) hw⟩
  | i :: is, v :: vs, xs, σa, σa', σ, e, hl, hW, hw, f => by
    simp only [setAll] at e
    match xs, hl with
    | x :: xs, hl =>
      refine ⟨x, xs, rfl, ?_⟩
      refine names_all e (by simpa using hl) (fun j hj => hW j (List.mem_cons_of_mem _ hj)) (by rw [wipe_set (hW i (List.mem_cons_self ..))]; exact hw) fun σ' g hw' => f σ' (fun c2 ow2 h2 H2 k q => ?_) hw'
      unfold VRs at q
      obtain ⟨y, ys, e1, q1, q2⟩ := q
      cases e1
      exact g c2 _ h2 H2 (k.setV q1) q2
  | [], _ :: _, xs, σa, σa', σ, e, _, _, _, _ => by simp [setAll] at e
  | _ :: _, [], xs, σa, σa', σ, e, _, _, _, _ => by simp [setAll] at e
theorem tg_all {K : PySem.W.Frag} {T : Tg} {c : List Addr} {σa σa' : Sl} {σ : L2.St} {H : Hp} {W : List Nat} {v : Val} {x : V} {Q : L2.St → Hp → Prop} (q : VR c H v x) (e : asg T v σa = some σa') (hW : ∀ i ∈ T.slots, i ∈ W)
    (f : ∀ σ', (∀ c2 ow2 h2 H2, Rel c2 ow2 σa h2 σ H2 → VR c2 H2 v x → (∀ a xs, H a = some (.tup xs) → H2 a = some (.tup xs)) → ∃ ow3, Rel c2 ow3 σa' h2 σ' H2) → wipe σ' W = wipe σ W → Q σ' H) : gTg K T x σ H Q := by
  cases T with
  | nm i =>
    simp only [asg, Option.some.injEq] at e
    subst e
    exact f _ (fun c2 ow2 h2 H2 k q2 _ => ⟨_, k.setV q2⟩) (wipe_set (hW i (by simp [Tg.slots])))
  | tp is =>
    cases v with
    | tup vs =>
      simp only [asg] at e
      unfold VR at q
      obtain ⟨a, xs, rfl, q1, q2⟩ := q
      refine ⟨a, xs, rfl, .inl (.inl q1), by rw [← q2.length, setAll_len e], names_all e q2.length.symm hW rfl fun σ' g hw => f σ' (fun c2 ow2 h2 H2 k r t => ?_) hw⟩
      unfold VR at r
      obtain ⟨a2, xs2, e1, r1, r2⟩ := r
      cases e1
      have := t a xs q1
      rw [r1] at this
      cases this
      exact g c2 ow2 h2 H2 k r2
    | _ => simp [asg] at e
noncomputable def lc2L (chk : Hh → Prop) (T : Tg) (m1 : MI2) (T1 : Tg) (e : ME) (W1 : List Nat) (s0 : Sl) : List Val → List Val → Hh → Option (List Val × Hh)
  | [], acc, h => if chk h then some (acc, h) else none
  | x :: xs, acc, h => if chk h then (asg T x s0).bind fun s1 => (m1 s1 h).bind fun q => (lcL (fun _ => True) T1 tYe e (wipeA s1 W1) q.1 acc q.2).bind fun r => lc2L chk T m1 T1 e W1 s0 xs r.1 r.2 else none
noncomputable def mLc2 (W : List Nat) (m : MI) (T : Tg) (m1 : MI2) (T1 : Tg) (W1 : List Nat) (e : ME) : ME := fun s h => (m s h).bind fun p => (lc2L p.2.1 T m1 T1 e W1 (wipeA s W) p.1 [] p.2.2).map fun q => (.o q.1, q.2)
theorem lc2L_chk {chk : Hh → Prop} {T : Tg} {m1 : MI2} {T1 : Tg} {e : ME} {W1 : List Nat} {s0 : Sl} : ∀ {xs acc : List Val} {h : Hh} {r : List Val × Hh}, lc2L chk T m1 T1 e W1 s0 xs acc h = some r → chk h
  | [], acc, h, r, q => by
    unfold lc2L at q
    split at q
    · assumption
    · cases q
  | x :: xs, acc, h, r, q => by
    unfold lc2L at q
    split at q
    · assumption
    · cases q
theorem rd_lc2 {K : PySem.W.Frag} {W W1 : List Nat} {m : MI} {T T1 : Tg} {m1 : MI2} {e : ME} {σ : L2.St} {H : Hp} {Q : VK} (hW : ∀ i ∈ T.slots, i ∈ W) (hW1 : ∀ i ∈ T1.slots, i ∈ W1) (q : rdE (mLc2 W m T m1 T1 W1 e) σ H Q) :
    tLc2 (rdI m) (gTg K T) (rdT tYe) (rdI2 m1) (gTg K T1) (rdT tYe) (rdE e) W W1 σ H Q := by
  obtain ⟨c, ow, σa, h, r, h', k, ee, f⟩ := q
  simp only [mLc2, Option.bind_eq_some_iff, Option.map_eq_some_iff, Prod.mk.injEq] at ee
  obtain ⟨⟨items, chk, h1⟩, e1, ⟨res, h2⟩, e2, rfl, rfl⟩ := ee
  dsimp only at e2
  refine ⟨c, ow, σa, h, items, chk, h1, k, e1, fun c1 H1 J E1 K1 ws D hD => ?_⟩
  obtain ⟨G, Y, w, st⟩ := ws
  have HD : H D = none := E1.back hD
  refine ⟨fun i n H' => n = items.length - i ∧ i ≤ items.length ∧ ∃ c' hh' acc ys, Ext c1 c' H1 H' ∧ HR c' hh' H' ∧ H' D = some (.lst ys) ∧ D ∉ c' ∧ VRs c' H' acc ys ∧ lc2L chk T m1 T1 e W1 (wipeA σa W) (items.drop i) acc hh' = some (res, h2),
    ⟨items.length, rfl, Nat.zero_le _, c1, h1, [], [], Ext.alloc hD, K1.alloc hD, upd_same, K1.nin hD, VRs.nil, by simpa using e2⟩, ?_⟩
  rintro i n H' ⟨rfl, hi, c', hh', acc, ys, E, K', eD, nD, vD, ef⟩
  obtain ⟨g0, g1⟩ := st c' hh' H' E.pre (fun a o z n _ => E.keep a o z n) K' (lc2L_chk ef) E.frz
  by_cases hlt : i < items.length
  · refine .inr ⟨w.goes i H' hlt g0, _, fun H'' p' => ⟨_, by omega, rfl, hlt, p'⟩, fun x H'' y => ?_⟩
    obtain ⟨v, ev, eh, vr⟩ := g1 i x H'' hlt (w.yields i H' x H'' hlt g0 y)
    obtain ⟨K2, E2⟩ := K'.step eh
    have ed : items.drop i = v :: items.drop (i + 1) := by
      rw [List.getElem?_eq_getElem hlt] at ev
      cases ev
      exact List.drop_eq_getElem_cons hlt
    rw [ed] at ef
    unfold lc2L at ef
    split at ef
    · simp only [Option.bind_eq_some_iff] at ef
      obtain ⟨s1, ea, ⟨items1, h3⟩, em, ⟨acc2, h4⟩, el, er⟩ := ef
      dsimp only at el er
      have kw := (k.ext ((E1.trans E).trans E2) K2).wipe W
      refine tg_all (c := c') vr ea hW fun σ'' rel hw => ⟨by rw [hw, wipe_wipe], ?_⟩
      obtain ⟨ow'', kk⟩ := rel c' _ hh' H'' kw vr fun _ _ t => t
      refine ⟨c', ow'', s1, hh', true, hh', kk, rfl, fun c4 H4 E4 K4 => ?_⟩
      simp only [if_true]
      refine ⟨c4, ow'', s1, hh', items1, h3, kk.ext E4 K4, em, fun c5 H5 J1 E5 K5 ws1 => ?_⟩
      have eD2 : H'' D = some (.lst ys) := E2.keep _ _ eD nD
      have eD4 := E4.keep _ _ eD2 nD
      have nD4 := E4.notin eD2 nD
      have eD5 := E5.keep _ _ eD4 nD4
      have nD5 := E5.notin eD4 nD4
      have vD5 := VRs.mono (E5.tk K4) _ _ (VRs.mono (E4.tk K2) _ _ (VRs.mono (E2.tk K') _ _ vD))
      obtain ⟨G1, Y1, w1, st1⟩ := ws1 (fun a => a ≠ D) (fun b zs t z => by rw [z, eD5] at t; cases t) (fun b t z => by rw [z, eD4] at t; cases t)
      have EE := ((E.trans E2).trans E4).trans E5
      have TT : TK c' c5 H'' H5 := (E4.trans E5).tk K2
      refine ⟨fun j n H6 => n = items1.length - j ∧ j ≤ items1.length ∧ ∃ c6 hh6 acc6 ys6, Ext c1 c6 H1 H6 ∧ (∃ d, c6 = c5 ++ d) ∧ (∀ a, a ∈ c6 → a ∉ c5 → H5 a = none) ∧ (∀ a o, H5 a = some o → a ∉ c5 → a ≠ D → H6 a = some o) ∧ (∀ a o u, H5 a = some (.frz o u) → H6 a = some (.frz o u)) ∧ HR c6 hh6 H6 ∧ H6 D = some (.lst ys6) ∧ D ∉ c6 ∧ VRs c6 H6 acc6 ys6 ∧ lcL (fun _ => True) T1 tYe e (wipeA s1 W1) (items1.drop j) acc6 hh6 = some (acc2, h4),
        ⟨items1.length, rfl, Nat.zero_le _, c5, h3, acc, ys, EE, ⟨[], by simp⟩, fun a z n => absurd z n, fun a o z _ _ => z, fun _ _ _ z => z, K5, eD5, nD5, vD5, by simpa using el⟩, ?_⟩
      rintro j n H6 ⟨rfl, hj, c6, hh6, acc6, ys6, X6, pre6, new6, kp6, fz6, K6, eD6, nD6, vD6, ef6⟩
      obtain ⟨g0', g1'⟩ := st1 c6 hh6 H6 pre6 kp6 K6 trivial fz6
      have T6 : TK c' c6 H'' H6 := ⟨fun a xs t => by
          have t5 := TT.1 a xs t
          exact kp6 a _ t5 (K5.tup t5) (fun z => by rw [z, eD5] at t5; cases t5), fun p a t => by
          obtain ⟨d, rfl⟩ := pre6
          have t5 := TT.2 p a t
          rw [List.getElem?_append_left (List.getElem?_eq_some_iff.mp t5).1]; exact t5⟩
      by_cases hjl : j < items1.length
      · refine .inr ⟨w1.goes j H6 hjl g0', _, fun H7 p' => ⟨_, by omega, rfl, hjl, p'⟩, fun x1 H7 y1 => ?_⟩
        obtain ⟨v1, ev1, eh1, vr1⟩ := g1' j x1 H7 hjl (w1.yields j H6 x1 H7 hjl g0' y1)
        obtain ⟨K7, E7⟩ := K6.step eh1
        have ed1 : items1.drop j = v1 :: items1.drop (j + 1) := by
          rw [List.getElem?_eq_getElem hjl] at ev1
          cases ev1
          exact List.drop_eq_getElem_cons hjl
        rw [ed1] at ef6
        unfold lcL at ef6
        split at ef6
        · rename_i hck
          simp only [Option.bind_eq_some_iff] at ef6
          obtain ⟨s2, ea2, ⟨bb, h7⟩, et, er2⟩ := ef6
          simp only [tYe, Option.some.injEq, Prod.mk.injEq] at et
          obtain ⟨rfl, rfl⟩ := et
          simp only [if_true, Option.bind_eq_some_iff] at er2
          obtain ⟨⟨ry, h8⟩, ey, er2⟩ := er2
          have T7 : TK c' c6 H'' H7 := ⟨fun a xs t => E7.keep _ _ (T6.1 a xs t) (K6.tup (T6.1 a xs t)), T6.2⟩
          obtain ⟨ow7, k7⟩ := rel c6 _ hh6 H7 ((k.ext ((E1.trans X6).trans E7) K7).wipe W) (VR.mono T7 _ _ vr) T7.1
          have kw7 := k7.wipe W1
          refine tg_rd (W := W1) kw7 vr1 ea2 hW1 fun ow8 σ8 hs8 kk8 hw8 => ⟨by rw [hw8, wipe_wipe], ?_⟩
          refine ⟨c6, ow8, s2, hh6, true, hh6, kk8, rfl, fun c9 H9 E9 K9 => ?_⟩
          simp only [if_true]
          refine ⟨c9, ow8, s2, hh6, ry, h8, kk8.ext E9 K9, ey, fun c10 H10 y10 E10 K10 R10 => ?_⟩
          dsimp only at er2
          cases ry with
          | v yy =>
            have eD7 := E7.keep _ _ eD6 nD6
            have eD9 := E9.keep _ _ eD7 nD6
            have nD9 := E9.notin eD7 nD6
            have eD10 := E10.keep _ _ eD9 nD9
            have nD10 := E10.notin eD9 nD9
            have vD10 := VRs.mono (E10.tk K9) _ _ (VRs.mono (E9.tk K7) _ _ (VRs.mono (E7.tk K6) _ _ vD6))
            obtain ⟨K11, tk11⟩ := K10.other (ys := ys6 ++ [y10]) eD10 nD10
            have E11 := (E7.trans E9).trans E10
            refine ⟨ys6, eD10, Nat.lt_of_lt_of_le (by rw [← vD6.length]; exact hck.2) (by decide), c10, h8, acc6 ++ [yy], ys6 ++ [y10], ?_, ?_, ?_, ?_, ?_, K11, upd_same, nD10, VRs.mono tk11 _ _ (vD10.append (VRs.cons R10 VRs.nil)), er2⟩
            · have EE := X6.trans E11
              refine ⟨EE.pre, fun a o z n => ?_, EE.new, fun a o z => ?_, fun a o u z => by rw [upd_ne (fun q => by rw [q, hD] at z; cases z)]; exact EE.frz a o u z⟩
              · rw [upd_ne (fun q => by rw [q, hD] at z; cases z)]; exact EE.keep a o z n
              · by_cases q : a = D
                · exact ⟨_, by rw [q]; exact upd_same⟩
                · rw [upd_ne q]; exact EE.dom a o z
            · obtain ⟨d, rfl⟩ := pre6
              obtain ⟨d', rfl⟩ := E11.pre
              exact ⟨d ++ d', by simp⟩
            · intro a m10 n5
              by_cases m6 : a ∈ c6
              · exact new6 a m6 n5
              · have z6 := E11.new a m10 m6
                cases z5 : H5 a with
                | none => rfl
                | some o =>
                  have nd : a ≠ D := fun q => by rw [q, eD6] at z6; cases z6
                  rw [kp6 a o z5 n5 nd] at z6
                  cases z6
            · intro a o z n1 n2
              rw [upd_ne n2]
              refine E11.keep a o (kp6 a o z n1 n2) fun m6 => ?_
              rw [new6 a m6 n1] at z
              cases z
            · intro a o u z
              rw [upd_ne (fun q => by rw [q, eD5] at z; cases z)]
              exact E11.frz a o u (fz6 a o u z)
          | l _ => simp at er2
          | z _ => simp at er2
          | o _ => simp at er2
        · cases ef6
      · have ejl : j = items1.length := by omega
        subst ejl
        rw [List.drop_length] at ef6
        unfold lcL at ef6
        rw [if_pos trivial] at ef6
        simp only [Option.some.injEq, Prod.mk.injEq] at ef6
        obtain ⟨rfl, rfl⟩ := ef6
        exact .inl ⟨w1.stops H6 g0', c6, hh6, acc6, ys6, X6, K6, eD6, nD6, vD6, er⟩
    · cases ef
  · have ei : i = items.length := by omega
    subst ei
    rw [List.drop_length] at ef
    unfold lc2L at ef
    split at ef
    · simp only [Option.some.injEq, Prod.mk.injEq] at ef
      obtain ⟨rfl, rfl⟩ := ef
      exact .inl ⟨w.stops H' g0, f c' H' _ (E1.trans E) K' ⟨D, ys, rfl, HD, eD, vD, nD⟩⟩
    · cases ef
section
variable {X : Cx} {elt tg iter tg1 iter1 : Expr} {scope : Scope} {own : List (Str × Nat)} {pos : Pos} {m : MI} {T T1 : Tg} {m1 : MI2} {e : ME} {W1 : List Nat}
theorem se_lc2 (own : List (Str × Nat)) (W1 : List Nat) (hc : X.calm = true) (hN : X.N.Nodup) (hi : SI X tg iter m) (ok : BlkOk X.N X.env.scope scope own)
    (hg : ∀ (s : Shared) (H : Hp) (C : Addr) (cl : List (Str × Addr)) (fp : List Addr), PG (X.blk s H scope (compEnvC scope cl C X.env) fp) tg (gTg X.K T))
    (hi1 : ∀ (s : Shared) (H : Hp) (C : Addr) (cl : List (Str × Addr)) (fp : List Addr), PI (X.blk s H scope (compEnvC scope cl C X.env) fp) tg1 iter1 (rdI2 m1))
    (hg1 : ∀ (s : Shared) (H : Hp) (C : Addr) (cl : List (Str × Addr)) (fp : List Addr), PG (X.blk s H scope (compEnvC scope cl C X.env) fp) tg1 (gTg X.K T1))
    (he : ∀ (s : Shared) (H : Hp) (C : Addr) (cl : List (Str × Addr)) (fp : List Addr), SE (X.blk s H scope (compEnvC scope cl C X.env) fp) elt e) (hW : ∀ i ∈ T.slots, i ∈ own.map (·.2) := by decide) (hW1 : ∀ i ∈ T1.slots, i ∈ W1 := by decide) (hv : ∀ i ∈ W1, i ∈ own.map (·.2) := by decide) (hs : ∀ x, foldedSetIterable iter X.env x = pure x := by intro _; rfl) (hs1 : ∀ env x, foldedSetIterable iter1 env x = pure x := by intro _ _; rfl) :
    SE X (.ListComp elt [⟨tg, iter, [], 0⟩, ⟨tg1, iter1, [], 0⟩] scope pos) (mLc2 (own.map (·.2)) m T m1 T1 W1 e) :=
  pe_imp (pe_lc2 hc hN hi ok hv hg (fun _ _ _ _ _ => pts_ye) hi1 hg1 (fun _ _ _ _ _ => pts_ye) he hs hs1) fun _ _ _ => rd_lc2 hW hW1
theorem ss_lc2 (i : Nat) {y : Str} {py spos : Pos} (own : List (Str × Nat)) (W1 : List Nat) (hc : X.calm = true) (hN : X.N.Nodup) (hyl : X.env.scope.names.lookup y = some .local) (hsw : swapsWith (.ListComp elt [⟨tg, iter, [], 0⟩, ⟨tg1, iter1, [], 0⟩] scope pos) (some (.Name y py)) spos.line X.env = pure true) (hi : SI X tg iter m) (ok : BlkOk X.N X.env.scope scope own)
    (hg : ∀ (s : Shared) (H : Hp) (C : Addr) (cl : List (Str × Addr)) (fp : List Addr), PG (X.blk s H scope (compEnvC scope cl C X.env) fp) tg (gTg X.K T))
    (hi1 : ∀ (s : Shared) (H : Hp) (C : Addr) (cl : List (Str × Addr)) (fp : List Addr), PI (X.blk s H scope (compEnvC scope cl C X.env) fp) tg1 iter1 (rdI2 m1))
    (hg1 : ∀ (s : Shared) (H : Hp) (C : Addr) (cl : List (Str × Addr)) (fp : List Addr), PG (X.blk s H scope (compEnvC scope cl C X.env) fp) tg1 (gTg X.K T1))
    (he : ∀ (s : Shared) (H : Hp) (C : Addr) (cl : List (Str × Addr)) (fp : List Addr), SE (X.blk s H scope (compEnvC scope cl C X.env) fp) elt e) (hy : X.N[i]? = some y := by rfl) (hW : ∀ i ∈ T.slots, i ∈ own.map (·.2) := by decide) (hW1 : ∀ i ∈ T1.slots, i ∈ W1 := by decide) (hv : ∀ i ∈ W1, i ∈ own.map (·.2) := by decide) (hs : ∀ x, foldedSetIterable iter X.env x = pure x := by intro _; rfl) (hs1 : ∀ env x, foldedSetIterable iter1 env x = pure x := by intro _ _; rfl) :
    SS X (.Assign [.Name y py] (.ListComp elt [⟨tg, iter, [], 0⟩, ⟨tg1, iter1, [], 0⟩] scope pos) spos) (sSet i (mLc2 (own.map (·.2)) m T m1 T1 W1 e)) :=
  ps_imp (ps_setLc2 hc hN hy hyl hsw hi ok hv hg (fun _ _ _ _ _ => pts_ye) hi1 hg1 (fun _ _ _ _ _ => pts_ye) he hs hs1) fun D σ H q => by
    have z := rd_set q
    exact rd_lc2 hW hW1 z
end
end NL
set_option Elab.async false
set_option linter.all false
set_option maxRecDepth 100000
set_option maxHeartbeats 4000000
set_option autoImplicit false
namespace NL
open PySem L2
section
variable {m : ME} {m1 : MI2} {t : MT} {e : ME} {s : Sl} {h : Hh} {Q : QE} {QS : Fl → Sl → Hh → Prop} {i : Nat} {T T1 : Tg} {b : MS} {W W1 : List Nat}
theorem for_vt {xs : List Val} (e : s[i]? = some (some (.v (.tup xs)))) (q : wS (forL (fun _ => True) T b xs) s h QS) : wS (sFor (jV i) T b) s h QS := by
  obtain ⟨f, s2, h2, e2, q⟩ := q
  exact ⟨f, s2, h2, by simp only [sFor, jV, e, Option.bind_some]; exact e2, q⟩
theorem for_vl {xs : List Val} (e : s[i]? = some (some (.l xs))) (q : wS (forL (fun _ => True) T b xs) s h QS) : wS (sFor (jV i) T b) s h QS := by
  obtain ⟨f, s2, h2, e2, q⟩ := q
  exact ⟨f, s2, h2, by simp only [sFor, jV, e, Option.bind_some]; exact e2, q⟩
theorem i_lc2 (q : wE m s h fun r h1 => ∃ items, (r = .v (.tup items) ∨ r = .l items ∨ r = .o items) ∧ ∃ acc h', lc2L (fun _ => True) T m1 T1 e W1 (wipeA s W) items [] h1 = some (acc, h') ∧ Q (.o acc) h') : wE (mLc2 W (iE m) T m1 T1 W1 e) s h Q := by
  obtain ⟨r, h1, e1, items, hr, acc, h', e2, q⟩ := q
  refine ⟨_, _, ?_, q⟩
  unfold mLc2 iE
  simp only [e1, Option.bind_some]
  rcases hr with rfl | rfl | rfl <;> simp only [Option.bind_some, e2, Option.map_some]
theorem lc2_cat {s0 : Sl} (f : Val → List Val) : ∀ (items acc : List Val), (∀ v ∈ items, (f v).length ≤ 100 ∧ ∃ s1 ys h1, asg T v s0 = some s1 ∧ m1 s1 h = some (ys, h1) ∧ ∀ acc : List Val, acc.length ≤ 10000 → lcL (fun _ => True) T1 tYe e (wipeA s1 W1) ys acc h1 = some (acc ++ f v, h)) → acc.length + 100 * items.length ≤ 10000 →
    lc2L (fun _ => True) T m1 T1 e W1 s0 items acc h = some (acc ++ items.flatMap f, h)
  | [], acc, _, _ => by unfold lc2L; rw [if_pos trivial]; simp
  | v :: items, acc, hv, hl => by
    obtain ⟨fl, s1, ys, h1, e1, e2, e3⟩ := hv v (List.mem_cons_self ..)
    have hl' : acc.length + 100 * (items.length + 1) ≤ 10000 := by simpa using hl
    have ih := lc2_cat (s0 := s0) f items (acc ++ f v) (fun w hw => hv w (List.mem_cons_of_mem _ hw)) (by rw [List.length_append]; omega)
    unfold lc2L
    rw [if_pos trivial, e1]
    simp only [Option.bind_some, e2, e3 acc (by omega)]
    rw [ih]
    simp
theorem i_ssetL {ns : List Int} (e : m s h = some (.l (ns.map .int), h)) (h1 : ns.length ≤ 4000) (h2 : (sset ns).length < 64) (q : Q (.o ((sset ns).map .int)) h) : wE (mSS m) s h Q :=
  i_sset ⟨_, _, e, _, ns, rfl, mapO_int_map ns, h1, h2, q⟩
end
end NL
set_option Elab.async false
set_option linter.all false
set_option maxRecDepth 100000
set_option maxHeartbeats 4000000
set_option autoImplicit false
namespace NL
open PySem L2
/-! ### while, pop, truth, sorted -/
section
variable {m mo : ME} {t : MT} {e : ME} {s : Sl} {h : Hh} {Q : QE} {QS : Fl → Sl → Hh → Prop} {i j : Nat} {T : Tg} {b : MS}
theorem while_m (I : Nat → Sl → Hh → Prop) (hs : ∀ k s h, I k s h → wT t s h fun c h1 => if c = true then wS b s h1 (fun f s2 h2 => match f with
      | .nx => ∃ k', k' < k ∧ I k' s2 h2
      | .ct => ∃ k', k' < k ∧ I k' s2 h2
      | .bk => QS .nx s2 h2
      | .rt r => QS (.rt r) s2 h2) else QS .nx s h1) {k : Nat} (h0 : I k s h) : wS (sWhile t b) s h QS := by
  have key : ∀ (n k : Nat) (s : Sl) (h : Hh), k < n → I k s h → ∃ f s' h', whF t b n s h = some (f, s', h') ∧ QS f s' h' := by
    intro n
    induction n with
    | zero => intro k s h hk; omega
    | succ n ih =>
      intro k s h hk q
      obtain ⟨c, h1, e1, q1⟩ := hs k s h q
      cases c with
      | false =>
        rw [if_neg (by decide)] at q1
        exact ⟨_, _, _, by simp only [whF, e1, Option.bind_some, Bool.false_eq_true, if_false], q1⟩
      | true =>
        rw [if_pos rfl] at q1
        obtain ⟨f, s2, h2, e2, q2⟩ := q1
        cases f with
        | nx =>
          obtain ⟨k', hk', q2⟩ := q2
          obtain ⟨f', s', h', e3, q3⟩ := ih k' s2 h2 (by omega) q2
          exact ⟨f', s', h', by simp only [whF, e1, Option.bind_some, if_true, e2]; exact e3, q3⟩
        | ct =>
          obtain ⟨k', hk', q2⟩ := q2
          obtain ⟨f', s', h', e3, q3⟩ := ih k' s2 h2 (by omega) q2
          exact ⟨f', s', h', by simp only [whF, e1, Option.bind_some, if_true, e2]; exact e3, q3⟩
        | bk => exact ⟨_, _, _, by simp only [whF, e1, Option.bind_some, if_true, e2], q2⟩
        | rt r => exact ⟨_, _, _, by simp only [whF, e1, Option.bind_some, if_true, e2], q2⟩
  obtain ⟨f, s', h', e1, q⟩ := key (k + 1) k s h (Nat.lt_succ_self k) h0
  haveI : HasK := ⟨[]⟩
  exact ⟨f, s', h', sWhile_of e1, q⟩
theorem for_invC {chk : Hh → Prop} {items : List Val} (I : Nat → Sl → Hh → Prop) (hc : ∀ i s h, I i s h → chk h) (h0 : I 0 s h) (hs : ∀ i v s h, items[i]? = some v → I i s h → ∃ s1, asg T v s = some s1 ∧ wS b s1 h fun f s2 h2 => match f with
      | .nx => I (i + 1) s2 h2
      | .ct => I (i + 1) s2 h2
      | .bk => QS .nx s2 h2
      | .rt r => QS (.rt r) s2 h2) (hd : ∀ s h, I items.length s h → QS .nx s h) : wS (forL chk T b items) s h QS := by
  have key : ∀ (k i : Nat) (s : Sl) (h : Hh), i + k = items.length → I i s h → wS (forL chk T b (items.drop i)) s h QS := by
    intro k
    induction k with
    | zero =>
      intro i s h hk q
      rw [List.drop_of_length_le (by omega)]
      have : i = items.length := by omega
      subst this
      exact ⟨_, _, _, by unfold forL; rw [if_pos (hc _ _ _ q)], hd s h q⟩
    | succ k ih =>
      intro i s h hk q
      have hi : i < items.length := by omega
      rw [List.drop_eq_getElem_cons hi]
      obtain ⟨s1, e1, f, s2, h2, e2, q2⟩ := hs i items[i] s h (List.getElem?_eq_getElem hi) q
      cases f with
      | nx =>
        obtain ⟨f', s', h', e3, q3⟩ := ih (i + 1) s2 h2 (by omega) q2
        exact ⟨f', s', h', by unfold forL; rw [if_pos (hc _ _ _ q), e1]; simp only [Option.bind_some, e2]; exact e3, q3⟩
      | ct =>
        obtain ⟨f', s', h', e3, q3⟩ := ih (i + 1) s2 h2 (by omega) q2
        exact ⟨f', s', h', by unfold forL; rw [if_pos (hc _ _ _ q), e1]; simp only [Option.bind_some, e2]; exact e3, q3⟩
      | bk => exact ⟨_, _, _, by unfold forL; rw [if_pos (hc _ _ _ q), e1]; simp only [Option.bind_some, e2], q2⟩
      | rt r => exact ⟨_, _, _, by unfold forL; rw [if_pos (hc _ _ _ q), e1]; simp only [Option.bind_some, e2], q2⟩
  exact key items.length 0 s h (by omega) h0
/-- for over a list of the heap, by an expression -/
theorem for_ref (q : wE m s h fun r h1 => ∃ p xs, r = .v (.ref p) ∧ h1[p]? = some (.lst xs) ∧ wS (forL (fun h => h[p]? = some (.lst xs)) T b xs) s h1 QS) : wS (sFor (jE m) T b) s h QS := by
  obtain ⟨r, h1, e1, p, xs, rfl, e2, f, s2, h2, e3, q⟩ := q
  exact ⟨f, s2, h2, by simp only [sFor, jE, e1, Option.bind_some, e2]; exact e3, q⟩
theorem for_vref {p : Nat} {xs : List Val} (e : s[i]? = some (some (.v (.ref p)))) (e2 : h[p]? = some (.lst xs)) (q : wS (forL (fun h => h[p]? = some (.lst xs)) T b xs) s h QS) : wS (sFor (jV i) T b) s h QS := by
  obtain ⟨f, s2, h2, e3, q⟩ := q
  exact ⟨f, s2, h2, by simp only [sFor, jV, e, e2, Option.bind_some]; exact e3, q⟩
theorem i_popTo {ws : List Int} {y : Int} (e : s[i]? = some (some (.o ((ws ++ [y]).map .int)))) (q : QS .nx ((s.set i (some (.o (ws.map .int)))).set j (some (.v (.int y)))) h) : wS (sPopTo j i) s h QS := by
  refine ⟨_, _, _, ?_, q⟩
  simp only [sPopTo, e, List.map_append, List.map_cons, List.map_nil, List.getLast?_append, List.getLast?_singleton, Option.some_or, List.dropLast_concat]
theorem i_truL {xs : List Val} {K : Bool → Prop} (q : K (!xs.isEmpty)) : ∃ c, tru h (.l xs) = some c ∧ K c := ⟨_, rfl, q⟩
theorem i_sortedL {ns : List Int} (q : Q (.o ((isort ns).map .int)) h) : wV (fSorted [.l (ns.map .int)] h) Q := ⟨_, _, by simp only [fSorted, asL, Option.bind_some, mapO_int_map, Option.map_some], q⟩
theorem i_appE (hm : wE mo s h fun r h1 => ∃ q, r = .v (.ref q) ∧ isLs h1 q = true ∧ wE m s h1 fun r2 h2 => ∃ y xs, r2 = .v y ∧ h2[q]? = some (.lst xs) ∧ xs.length < 1000000 ∧ QS .nx s (h2.set q (.lst (xs ++ [y])))) : wS (sAppE mo m) s h QS := by
  obtain ⟨r, h1, e1, q, rfl, hq, r2, h2, e2, y, xs, rfl, e3, hl, k⟩ := hm
  exact ⟨_, _, _, by simp only [sAppE, e1, hq, if_true, e2, e3, Option.bind_some]; rw [if_pos hl], k⟩
end
/-! ### ranges rise -/
theorem rangeI_pw {n : Int} : (rangeI n).Pairwise (· < ·) := by
  unfold rangeI
  rw [List.pairwise_map]
  exact List.pairwise_lt_range.imp fun {a b} z => by omega
theorem isort_eq {P C : List Int} (nd : P.Nodup) (hm : ∀ x, x ∈ P ↔ x ∈ C) (hC : C.Pairwise (· < ·)) : isort P = C := by
  have h1 : (isort P).Nodup := (isort_perm P).nodup_iff.mpr nd
  have h2 : (isort P).Pairwise (· < ·) := by
    have z := (isort_pw P).and h1
    exact z.imp fun {a b} q => by have := q.1; have := q.2; omega
  exact lt_same h2 hC fun x => by rw [(isort_perm P).mem_iff, hm x]
theorem rise_len {n : Int} : ∀ (l : List Int) (a : Int), l.Pairwise (· < ·) → (∀ x ∈ l, a ≤ x ∧ x < n) → (l.length : Int) ≤ max 0 (n - a)
  | [], a, _, _ => by simp; omega
  | x :: l, a, hp, hb => by
    obtain ⟨h1, h2⟩ := List.pairwise_cons.mp hp
    have hx := hb x (List.mem_cons_self ..)
    have ih := rise_len (n := n) l (x + 1) h2 fun y hy => ⟨by have := h1 y hy; omega, (hb y (List.mem_cons_of_mem _ hy)).2⟩
    rw [List.length_cons]
    omega
theorem nodup_le {P : List Int} {n : Nat} (nd : P.Nodup) (hb : ∀ x ∈ P, 0 ≤ x ∧ x < (n : Int)) : P.length ≤ n := by
  have h1 : (isort P).Nodup := (isort_perm P).nodup_iff.mpr nd
  have h2 : (isort P).Pairwise (· < ·) := ((isort_pw P).and h1).imp fun {a b} q => by have := q.1; have := q.2; omega
  have h3 := rise_len (n := n) (isort P) 0 h2 fun x hx => hb x ((isort_perm P).mem_iff.mp hx)
  rw [(isort_perm P).length_eq] at h3
  omega
/-! ### what hangs together -/
section
variable (L : List Ln) (SL : List Int)
def Edge (a b : Int) : Prop := ∃ l ∈ SL, ∃ x, L[l.toNat]? = some x ∧ ((x.one = a ∧ x.other = b) ∨ (x.other = a ∧ x.one = b))
inductive Reach (s : Int) : Int → Prop
  | refl : Reach s s
  | step {a b : Int} : Reach s a → Edge L SL a b → Reach s b
open Classical in
noncomputable def comp (n : Nat) (s : Int) : List Int := (rangeI n).filter fun x => decide (Reach L SL s x)
end
section
variable {L : List Ln} {SL : List Int} {n : Nat} {s a b c : Int}
theorem Edge.symm (e : Edge L SL a b) : Edge L SL b a := by
  obtain ⟨l, hl, x, hx, e⟩ := e
  exact ⟨l, hl, x, hx, e.elim (fun z => .inr ⟨z.2, z.1⟩) fun z => .inl ⟨z.2, z.1⟩⟩
theorem Reach.trans (r : Reach L SL a b) (q : Reach L SL b c) : Reach L SL a c := by
  induction q with
  | refl => exact r
  | step _ e ih => exact ih.step e
theorem Reach.symm (r : Reach L SL a b) : Reach L SL b a := by
  induction r with
  | refl => exact .refl
  | step _ e ih => exact (Reach.refl.step e.symm).trans ih
theorem Reach.keep {P : Int → Prop} (h0 : P s) (hs : ∀ a b, P a → Edge L SL a b → P b) (r : Reach L SL s a) : P a := by
  induction r with
  | refl => exact h0
  | step _ e ih => exact hs _ _ ih e
open Classical in
theorem comp_pw : (comp L SL n s).Pairwise (· < ·) := rangeI_pw.filter _
open Classical in
theorem mem_comp (hE : ∀ a b, Edge L SL a b → 0 ≤ b ∧ b < (n : Int)) (hs : 0 ≤ s ∧ s < (n : Int)) {x : Int} : x ∈ comp L SL n s ↔ Reach L SL s x := by
  unfold comp
  rw [List.mem_filter, mem_rangeI, decide_eq_true_eq]
  exact ⟨fun z => z.2, fun z => ⟨z.keep hs fun a b _ e => hE a b e, z⟩⟩
/-- a list of what is reached, closed -/
theorem comp_of {P : List Int} (hE : ∀ a b, Edge L SL a b → 0 ≤ b ∧ b < (n : Int)) (hs : 0 ≤ s ∧ s < (n : Int)) (nd : P.Nodup) (h0 : s ∈ P) (hr : ∀ x ∈ P, Reach L SL s x) (hc : ∀ x ∈ P, ∀ y, Edge L SL x y → y ∈ P) : isort P = comp L SL n s :=
  isort_eq nd (fun x => by
    rw [mem_comp hE hs]
    exact ⟨hr x, fun z => z.keep (P := fun y => y ∈ P) h0 fun a b ha e => hc a ha b e⟩) comp_pw
theorem comp_same (hE : ∀ a b, Edge L SL a b → 0 ≤ b ∧ b < (n : Int)) (ha : 0 ≤ a ∧ a < (n : Int)) (hb : 0 ≤ b ∧ b < (n : Int)) (r : Reach L SL a b) : comp L SL n a = comp L SL n b :=
  lt_same comp_pw comp_pw fun x => by rw [mem_comp hE ha, mem_comp hE hb]; exact ⟨fun z => r.symm.trans z, fun z => r.trans z⟩
/-- the lines at a house -/
def adjL (L : List Ln) (SL : List Int) (i : Int) : List (Int × Int × Int) := SL.flatMap fun l => match L[l.toNat]? with
  | some x => if x.one = i then [(x.other, l, x.cost)] else if x.other = i then [(x.one, l, x.cost)] else []
  | none => []
theorem adjL_edge {b l c : Int} (h : (b, l, c) ∈ adjL L SL a) : Edge L SL a b := by
  obtain ⟨l', hl, h⟩ := List.mem_flatMap.mp h
  split at h
  · rename_i x ex
    split at h
    · simp only [List.mem_singleton, Prod.mk.injEq] at h
      exact ⟨l', hl, x, ex, .inl ⟨by assumption, h.1.symm⟩⟩
    · split at h
      · simp only [List.mem_singleton, Prod.mk.injEq] at h
        exact ⟨l', hl, x, ex, .inr ⟨by assumption, h.1.symm⟩⟩
      · simp at h
  · simp at h
theorem edge_adjL (h : Edge L SL a b) : ∃ l c, (b, l, c) ∈ adjL L SL a := by
  obtain ⟨l, hl, x, ex, e⟩ := h
  by_cases h1 : x.one = a
  · rcases e with ⟨_, e⟩ | ⟨e1, e2⟩
    · exact ⟨l, x.cost, List.mem_flatMap.mpr ⟨l, hl, by simp only [ex, if_pos h1, e]; simp⟩⟩
    · refine ⟨l, x.cost, List.mem_flatMap.mpr ⟨l, hl, ?_⟩⟩
      simp only [ex, if_pos h1]
      have : x.other = b := by rw [e1, ← e2, h1]
      rw [this]; simp
  · rcases e with ⟨e, _⟩ | ⟨e1, e2⟩
    · exact absurd e h1
    · refine ⟨l, x.cost, List.mem_flatMap.mpr ⟨l, hl, ?_⟩⟩
      rw [ex]
      dsimp only
      rw [if_neg h1, if_pos e1, e2]
      simp
def t3 (p : Int × Int × Int) : Val := .tup [.int p.1, .int p.2.1, .int p.2.2]
theorem adjL_snoc {l : Int} : adjL L (SL ++ [l]) a = adjL L SL a ++ (match L[l.toNat]? with
  | some x => if x.one = a then [(x.other, l, x.cost)] else if x.other = a then [(x.one, l, x.cost)] else []
  | none => []) := by simp [adjL]
/-- the lists of steps stand in the heap from q on -/
def Adj (L : List Ln) (SL : List Int) (n : Nat) (q : Nat) (h : Hh) : Prop := ∀ i : Nat, i < n → h[q + i]? = some (.lst ((adjL L SL i).map t3))
def refs (q n : Nat) : List Val := (List.range n).map fun i => .ref (q + i)
theorem at_refs {q n i : Nat} (hi : i < n) : atI (refs q n) (i : Int) = some (.ref (q + i)) := atI_nat (by simp [refs, hi])
theorem at_refsI {q n : Nat} {i : Int} (h0 : 0 ≤ i) (h1 : i < (n : Int)) : atI (refs q n) i = some (.ref (q + i.toNat)) := by
  obtain ⟨k, rfl⟩ := Int.eq_ofNat_of_zero_le h0
  exact at_refs (by omega)
theorem refs_succ {q n : Nat} : refs q (n + 1) = refs q n ++ [.ref (q + n)] := by simp [refs, List.range_succ]
theorem cells_set {h : Hh} {q n k : Nat} {F : Nat → List Val} {X : List Val} (hA : ∀ i, i < n → h[q + i]? = some (.lst (F i))) (hk : k < n) : ∀ i, i < n → (h.set (q + k) (.lst X))[q + i]? = some (.lst (if i = k then X else F i)) := fun i hi => by
  by_cases e : i = k
  · subst e
    rw [if_pos rfl, List.getElem?_set_self (List.getElem?_eq_some_iff.mp (hA i hi)).1]
  · rw [if_neg e, List.getElem?_set_ne (by omega)]
    exact hA i hi
theorem refs_len {q n : Nat} : (refs q n).length = n := by simp [refs]
end
/-! ### going over all lines again and again -/
def stepF (F : List Int) (x : Ln) : List Int := F ++ [x.one, x.other].filter fun k => !F.contains k && (F.contains x.one || F.contains x.other)
def stepAt (L : List Ln) (F : List Int) (l : Int) : List Int := match L[l.toNat]? with
  | some x => stepF F x
  | none => F
def passF (L : List Ln) (SL : List Int) (F : List Int) : List Int := SL.foldl (stepAt L) F
section
variable {L : List Ln} {SL : List Int} {n : Nat} {s : Int}
structure Good (L : List Ln) (SL : List Int) (s : Int) (F : List Int) : Prop where
  nd : F.Nodup
  h0 : s ∈ F
  hr : ∀ x ∈ F, Reach L SL s x
theorem stepF_mem {F : List Int} {x : Ln} {k : Int} (h : k ∈ stepF F x) : k ∈ F ∨ ((k = x.one ∨ k = x.other) ∧ k ∉ F ∧ (x.one ∈ F ∨ x.other ∈ F)) := by
  rcases List.mem_append.mp h with h | h
  · exact .inl h
  · obtain ⟨h1, h2⟩ := List.mem_filter.mp h
    simp only [List.mem_cons, List.not_mem_nil, or_false] at h1
    simp only [Bool.and_eq_true, Bool.not_eq_true', Bool.or_eq_true, List.contains_iff_mem] at h2
    refine .inr ⟨h1, fun z => ?_, h2.2⟩
    rw [List.contains_iff_mem.mpr z] at h2
    exact absurd h2.1 (by decide)
theorem Good.step {F : List Int} (g : Good L SL s F) {l : Int} (hl : l ∈ SL) (ok : ∀ x ∈ L, x.one < x.other) : Good L SL s (stepAt L F l) := by
  unfold stepAt
  split
  · rename_i x ex
    refine ⟨?_, List.mem_append_left _ g.h0, fun k hk => ?_⟩
    · have lt := ok x (List.mem_of_getElem? ex)
      refine List.nodup_append.mpr ⟨g.nd, List.Pairwise.filter _ (show [x.one, x.other].Nodup by simp; omega), fun a ha b hb e => ?_⟩
      · subst e
        have := (List.mem_filter.mp hb).2
        rw [List.contains_iff_mem.mpr ha] at this
        simp at this
    · rcases stepF_mem hk with hk | ⟨h1, h2, h3⟩
      · exact g.hr k hk
      · rcases h1 with rfl | rfl
        · rcases h3 with h3 | h3
          · exact absurd h3 h2
          · exact (g.hr _ h3).step ⟨l, hl, x, ex, .inr ⟨rfl, rfl⟩⟩
        · rcases h3 with h3 | h3
          · exact (g.hr _ h3).step ⟨l, hl, x, ex, .inl ⟨rfl, rfl⟩⟩
          · exact absurd h3 h2
  · exact g
theorem stepAt_or {F : List Int} {l : Int} : F.length < (stepAt L F l).length ∨ (stepAt L F l = F ∧ ∀ x, L[l.toNat]? = some x → (x.one ∈ F ↔ x.other ∈ F)) := by
  unfold stepAt
  split
  · rename_i x ex
    cases hf : ([x.one, x.other].filter fun k => !F.contains k && (F.contains x.one || F.contains x.other)) with
    | cons a r =>
      refine .inl ?_
      rw [stepF, hf, List.length_append, List.length_cons]
      omega
    | nil =>
      refine .inr ⟨by rw [stepF, hf, List.append_nil], fun y ey => ?_⟩
      rw [ex] at ey
      cases ey
      rw [List.filter_eq_nil_iff] at hf
      have h1 := hf x.one (by simp)
      have h2 := hf x.other (by simp)
      simp only [Bool.and_eq_true, Bool.not_eq_true', Bool.or_eq_true, List.contains_iff_mem] at h1 h2
      constructor
      · intro a
        apply Classical.byContradiction
        intro b
        exact h2 ⟨by simpa using b, .inl a⟩
      · intro a
        apply Classical.byContradiction
        intro b
        exact h1 ⟨by simpa using b, .inr a⟩
  · rename_i ex
    exact .inr ⟨rfl, fun x e => by rw [ex] at e; cases e⟩
theorem pass_or : ∀ {SL : List Int} {F : List Int}, F.length < (passF L SL F).length ∨ (passF L SL F = F ∧ ∀ l ∈ SL, ∀ x, L[l.toNat]? = some x → (x.one ∈ F ↔ x.other ∈ F))
  | [], F => .inr ⟨rfl, fun l hl => by simp at hl⟩
  | l :: SL, F => by
    have e : passF L (l :: SL) F = passF L SL (stepAt L F l) := rfl
    rw [e]
    rcases stepAt_or (L := L) (F := F) (l := l) with h | ⟨h1, h2⟩
    · rcases pass_or (SL := SL) (F := stepAt L F l) with h' | ⟨h', _⟩
      · exact .inl (by omega)
      · exact .inl (by rw [h']; exact h)
    · rw [h1]
      rcases pass_or (SL := SL) (F := F) with h' | ⟨h', h''⟩
      · exact .inl h'
      · refine .inr ⟨h', fun k hk x ex => ?_⟩
        rcases List.mem_cons.mp hk with rfl | hk
        · exact h2 x ex
        · exact h'' k hk x ex
def Closed (L : List Ln) (SL F : List Int) : Prop := ∀ l ∈ SL, ∀ x, L[l.toNat]? = some x → (x.one ∈ F ↔ x.other ∈ F)
theorem stepAt_closed {F : List Int} {l : Int} (h : ∀ x, L[l.toNat]? = some x → (x.one ∈ F ↔ x.other ∈ F)) : stepAt L F l = F := by
  unfold stepAt
  split
  · rename_i x ex
    have q := h x ex
    have hf : ([x.one, x.other].filter fun k => !F.contains k && (F.contains x.one || F.contains x.other)) = [] := by
      rw [List.filter_eq_nil_iff]
      intro k hk
      simp only [List.mem_cons, List.not_mem_nil, or_false] at hk
      simp only [Bool.and_eq_true, Bool.not_eq_true', Bool.or_eq_true, List.contains_iff_mem]
      rintro ⟨h1, h2⟩
      have nk : k ∉ F := fun z => by rw [List.contains_iff_mem.mpr z] at h1; cases h1
      rcases hk with rfl | rfl
      · exact nk (h2.elim id q.mpr)
      · exact nk (h2.elim q.mp id)
    rw [stepF, hf, List.append_nil]
  · rfl
theorem pass_closed : ∀ {SL F : List Int}, Closed L SL F → passF L SL F = F
  | [], F, _ => rfl
  | l :: SL, F, h => by
    have e : passF L (l :: SL) F = passF L SL (stepAt L F l) := rfl
    rw [e, stepAt_closed (h l (List.mem_cons_self ..))]
    exact pass_closed fun k hk => h k (List.mem_cons_of_mem _ hk)
theorem Good.pass (ok : ∀ x ∈ L, x.one < x.other) {SL0 : List Int} : ∀ {SL F : List Int}, (∀ l ∈ SL, l ∈ SL0) → Good L SL0 s F → Good L SL0 s (passF L SL F)
  | [], F, _, g => g
  | l :: SL, F, h, g => Good.pass ok (SL := SL) (fun k hk => h k (List.mem_cons_of_mem _ hk)) (g.step (h l (List.mem_cons_self ..)) ok)
/-- one turn more -/
theorem turn_more {F : List Int} {t : Nat} (h : Closed L SL F ∨ t + 1 ≤ F.length) : Closed L SL (passF L SL F) ∨ t + 1 + 1 ≤ (passF L SL F).length := by
  rcases h with h | h
  · rw [pass_closed h]; exact .inl h
  · rcases pass_or (L := L) (SL := SL) (F := F) with h' | ⟨h', h''⟩
    · exact .inr (by omega)
    · rw [h']; exact .inl h''
theorem passes_end {F : List Int} (hE : ∀ a b, Edge L SL a b → 0 ≤ b ∧ b < (n : Int)) (hs : 0 ≤ s ∧ s < (n : Int)) (g : Good L SL s F) (h : Closed L SL F ∨ n + 1 ≤ F.length) : isort F = comp L SL n s := by
  have hl := nodup_le (n := n) g.nd fun x hx => (g.hr x hx).keep (P := fun y => 0 ≤ y ∧ y < (n : Int)) hs fun a b _ e => hE a b e
  have hc : Closed L SL F := h.elim id fun z => by omega
  refine comp_of hE hs g.nd g.h0 g.hr fun x hx y e => ?_
  obtain ⟨l, hl, z, ez, e⟩ := e
  have q := hc l hl z ez
  rcases e with ⟨rfl, rfl⟩ | ⟨rfl, rfl⟩
  · exact q.mp hx
  · exact q.mpr hx
theorem comp_head (hE : ∀ a b, Edge L SL a b → 0 ≤ b ∧ b < (n : Int)) (hs : 0 ≤ s ∧ s < (n : Int)) : ∃ r C, comp L SL n s = r :: C ∧ r ≤ s ∧ Reach L SL s r := by
  have m : s ∈ comp L SL n s := (mem_comp hE hs).mpr .refl
  cases e : comp L SL n s with
  | nil => rw [e] at m; simp at m
  | cons r C =>
    have pw := comp_pw (L := L) (SL := SL) (n := n) (s := s)
    rw [e] at pw m
    refine ⟨r, C, rfl, ?_, (mem_comp hE hs).mp (by rw [e]; exact List.mem_cons_self ..)⟩
    rcases List.mem_cons.mp m with rfl | m
    · exact Int.le_refl _
    · have := (List.pairwise_cons.mp pw).1 s m
      omega
end
end NL
set_option Elab.async false
set_option linter.all false
set_option maxRecDepth 100000
set_option maxHeartbeats 4000000
set_option autoImplicit false
namespace NL
open PySem PySem.Spec PyProof.Rows L2 RZ PySem.W
open Classical

/-! ### plain data without lists -/
def pd : Nat → Val → Option PyData
  | 0, _ => none
  | _ + 1, .non => some .none
  | _ + 1, .bl b => some (.bool b)
  | _ + 1, .int i => some (.int i)
  | _ + 1, .str x => some (.str x)
  | n + 1, .tup vs => (mapO (pd n) vs).map .tuple
  | _ + 1, .ref _ => none
  | _ + 1, .ty _ => none
theorem mapO_inj {f g : Val → Option PyData} (h : ∀ v w d, f v = some d → g w = some d → v = w) : ∀ {vs ws : List Val} {ds : List PyData}, mapO f vs = some ds → mapO g ws = some ds → vs = ws
  | [], [], _, _, _ => rfl
  | [], w :: ws, ds, e1, e2 => by
    simp only [mapO, Option.some.injEq] at e1
    subst e1
    simp only [mapO, Option.bind_eq_some_iff, Option.some.injEq, reduceCtorEq, and_false, exists_false, exists_const] at e2
  | v :: vs, [], ds, e1, e2 => by
    simp only [mapO, Option.some.injEq] at e2
    subst e2
    simp only [mapO, Option.bind_eq_some_iff, Option.some.injEq, reduceCtorEq, and_false, exists_false, exists_const] at e1
  | v :: vs, w :: ws, ds, e1, e2 => by
    simp only [mapO, Option.bind_eq_some_iff, Option.some.injEq] at e1 e2
    obtain ⟨a, h1, as, h2, rfl⟩ := e1
    obtain ⟨b, h3, bs, h4, e⟩ := e2
    simp only [List.cons.injEq] at e
    obtain ⟨rfl, rfl⟩ := e
    rw [h v w _ h1 h3, mapO_inj h h2 h4]
theorem pd_inj : ∀ (n m : Nat) (v w : Val) (d : PyData), pd n v = some d → pd m w = some d → v = w
  | 0, _, v, w, d, e, _ => by simp [pd] at e
  | _ + 1, 0, v, w, d, _, e => by simp [pd] at e
  | n + 1, m + 1, v, w, d, e1, e2 => by
    cases v <;> cases w <;> simp only [pd, Option.some.injEq, Option.map_eq_some_iff, reduceCtorEq] at e1 e2 <;> try subst e1
    all_goals first
      | rfl
      | (cases e2; rfl)
      | (cases e2; done)
      | (obtain ⟨_, _, z⟩ := e2; cases z; done)
      | (obtain ⟨_, _, z⟩ := e1; rw [← z] at e2; cases e2; done)
      | (obtain ⟨ds, h1, rfl⟩ := e1
         obtain ⟨es, h2, z⟩ := e2
         cases z
         exact congrArg _ (mapO_inj (fun a b c x y => pd_inj n m a b c x y) h1 h2))
noncomputable def enc (v : Val) : PyData := (pd 12 v).getD .none
def Plain (v : Val) : Prop := ∃ d, pd 12 v = some d
theorem enc_some {v : Val} (p : Plain v) : pd 12 v = some (enc v) := by
  obtain ⟨d, e⟩ := p
  rw [enc, e]; rfl
theorem enc_inj {v w : Val} (p : Plain v) (q : Plain w) (e : enc v = enc w) : v = w := pd_inj 12 12 v w _ (enc_some p) (by rw [e]; exact enc_some q)
theorem pd_pdat {h : Hh} : ∀ (n : Nat) (v : Val) (d : PyData), pd n v = some d → pdat h n v = some d
  | 0, v, d, e => by simp [pd] at e
  | n + 1, v, d, e => by
    cases v with
    | tup vs =>
      simp only [pd, Option.map_eq_some_iff] at e
      obtain ⟨ds, e1, rfl⟩ := e
      have key : ∀ (vs : List Val) (ds : List PyData), mapO (pd n) vs = some ds → vs.mapM (pdat h n) = some ds := by
        intro vs
        induction vs with
        | nil => intro ds e; simp only [mapO, Option.some.injEq] at e; subst e; rfl
        | cons a as ih =>
          intro ds e
          simp only [mapO, Option.bind_eq_some_iff, Option.some.injEq] at e
          obtain ⟨b, h1, bs, h2, rfl⟩ := e
          rw [List.mapM_cons, pd_pdat n a b h1]
          show (List.mapM (pdat h n) as >>= fun bs => pure (b :: bs)) = _
          rw [ih bs h2]
          rfl
      simp only [pdat, key vs ds e1, Option.map_some]
    | ref p => simp [pd] at e
    | ty t => simp [pd] at e
    | _ => exact e

/-! ### sorted(xs), min(xs) over data -/
abbrev VP := V × PyData
def rSortD (K : PySem.W.Frag) : List V → Hp → VK → Prop := fun vs H Q => ∃ (a : Addr) (bs : List VP), vs = [.ref a] ∧ SqL K H a (bs.map (·.1)) ∧ (∀ b ∈ bs, VD H b.1 b.2 ∧ b.2.depth ≤ 40) ∧ AllAlike (bs.map (·.2)) ∧ Sortable (bs.map (·.2)) ∧ ∀ p, H p = none → Q (.ref p) (upd H p (.lst ((bs.mergeSort (dataLe false (·.2))).map (·.1))))
theorem each_of {R : Value → VP → Prop} : ∀ {bs : List VP} {us : List Value}, Vals (bs.map (·.1)) us → (∀ b ∈ bs, ∀ u, RelV b.1 u → R u b) → EachIs R us bs
  | [], us, r, _ => by
    have : us = [] := by cases r; rfl
    subst this
    exact .nil
  | b :: bs, us, r, h => by
    cases r with
    | cons r1 r2 => exact .cons (h b (List.mem_cons_self ..) _ r1) (each_of r2 fun c hc => h c (List.mem_cons_of_mem _ hc))
theorem vals_each : ∀ {bs : List VP} {us : List Value}, EachIs (fun u b => RelV b.1 u) us bs → Vals (bs.map (·.1)) us
  | [], _, .nil => .nil
  | b :: bs, _, .cons r e => .cons r (vals_each e)
theorem cr_sortD {X : Cx} (hu : X.A.units + 64 < cLine) : CallR X (.builtin "sorted") (rSortD X.K) := by
  intro pins s σ H vs us Q I r h
  obtain ⟨a, bs, rfl, hs, hd, hal, hk, q⟩ := h
  obtain ⟨its, rv, hl, hz⟩ := I.list hs
  rw [Vals.ref1 r]
  rw [List.length_map] at hz
  refine sorted_data (bs := bs) (enc := fun b : VP => b.2) (vs := its) hl.isList (R := fun u b => RelV b.1 u) (each_of rv fun b _ u z => z) (each_of rv fun b hb u z => reads_vd I.hok (hd b hb).1 z) hal hk hz (fun b hb => by have := (hd b hb).2; omega) fun out ho er => ?_
  obtain ⟨ep, he'⟩ := PyProof.Rows.sortedAll_at s.heap its out.toArray
  have hlen : ((bs.mergeSort (dataLe false (·.2))).map (·.1) : List V).length ≤ sizeLine := by rw [List.length_map, List.length_mergeSort]; exact hz
  exact ⟨.ref _, upd H (s.heap.objs.size + 1) (.lst ((bs.mergeSort (dataLe false (·.2))).map (·.1))), I.laid (t' := s.toks) (fun _ _ => PyProof.Rows.sortedAll_old) (Nat.le_succ _) ⟨hlen, out, ep, vals_each er, by simpa using he'⟩, rfl, q _ (I.hok.fresh (Nat.le_succ _))⟩
def rMinD (K : PySem.W.Frag) : List V → Hp → VK → Prop := fun vs H Q => ∃ (a : Addr) (b : VP) (bs : List VP), vs = [.ref a] ∧ SqL K H a ((b :: bs).map (·.1)) ∧ (∀ c ∈ b :: bs, VD H c.1 c.2 ∧ c.2.depth ≤ 40) ∧ AlikeAll ((b :: bs).map (·.2)) ∧ ∀ c ∈ b :: bs, c.2 = minD b.2 (bs.map (·.2)) → Q c.1 H
theorem depth_all {k : Nat} : ∀ {ds : List PyData}, (∀ d ∈ ds, d.depth ≤ k) → PyData.depthAll ds ≤ k
  | [], _ => Nat.zero_le _
  | d :: ds, h => by
    have h1 := h d (List.mem_cons_self ..)
    have h2 := depth_all fun e he => h e (List.mem_cons_of_mem _ he)
    simp only [PyData.depthAll]
    omega
theorem reads_all {P : Program} {w : World} {H : Hp} {hp : Heap} (ok : HOk P w H hp) : ∀ {bs : List VP} {us : List Value}, Vals (bs.map (·.1)) us → (∀ b ∈ bs, VD H b.1 b.2) → ∃ as, ReadsAll hp us (bs.map (·.2)) as := fun {bs us} r h => by
  refine reads_vds ok (xs := bs.map (·.1)) ?_ r
  clear r
  induction bs with
  | nil => exact .nil
  | cons b bs ih => exact .cons (h b (List.mem_cons_self ..)) (ih fun c hc => h c (List.mem_cons_of_mem _ hc))
theorem cr_minD {X : Cx} (hc : X.calm = true) (hu : X.A.units + 64 < cLine) : CallR X (.builtin "min") (rMinD X.K) := by
  intro pins s σ H vs us Q I r h
  obtain ⟨a, b, bs, rfl, hs, hd, hal, q⟩ := h
  obtain ⟨its, rv, hl, hz⟩ := I.list hs
  rw [Vals.ref1 r]
  obtain ⟨as, ra⟩ := reads_all I.hok (bs := b :: bs) rv fun c hc => (hd c hc).1
  have dp : PyData.depthAll ((b :: bs).map (·.2)) ≤ 40 := depth_all fun d hd' => by
    obtain ⟨c, hc, rfl⟩ := List.mem_map.mp hd'
    exact (hd c hc).2
  refine min_list_data (x := b.2) (xs := bs.map fun c : VP => c.2) (I.ok.hd hc) hl.isList (by simpa using ra) (by simpa using hal) (by have := dp; simp only [List.map_cons] at this; omega) fun i v h' tk es hi rd hk => ?_
  have hi' : its[i]? = some v := by simpa using hi
  have lr := rv.length
  have hib : i < (b :: bs).length := by
    have := (List.getElem?_eq_some_iff.mp hi').1
    rw [← lr, List.length_map] at this
    exact this
  obtain ⟨u, hu', ru⟩ := rv.get (show ((b :: bs).map (·.1))[i]? = some (b :: bs)[i].1 by rw [List.getElem?_map, List.getElem?_eq_getElem hib]; rfl)
  rw [hi'] at hu'
  have euv : v = u := Option.some.inj hu'
  subst euv
  have mc := List.getElem_mem hib
  obtain ⟨es2, rd2⟩ := reads_vd I.hok (hd _ mc).1 ru
  have e := (PySem.Reads.unique (PyProof.Rows.Reads.keeps hk rd2) _ _ rd).1
  exact ⟨(b :: bs)[i].1, H, I.kept (t' := tk) hk, ru, q _ mc e⟩

noncomputable def sortVs (xs : List Val) : List Val := xs.mergeSort (dataLe false enc)
noncomputable def minV (x : Val) (xs : List Val) : Val := xs.foldl (fun a y => if dataLt (enc y) (enc a) then y else a) x
noncomputable def fSortD : FC := fun rs h => match rs with
  | [r] => (asL h r).bind fun xs => if (∀ v ∈ xs, Plain v) ∧ AllAlike (xs.map enc) ∧ Sortable (xs.map enc) then some (.o (sortVs xs), h) else none
  | _ => none
noncomputable def fMinD : FC := fun rs h => match rs with
  | [r] => (asL h r).bind fun xs => match xs with
    | x :: xs => if (∀ v ∈ x :: xs, Plain v) ∧ AlikeAll ((x :: xs).map enc) then some (.v (minV x xs), h) else none
    | [] => none
  | _ => none
theorem minV_mem (x : Val) : ∀ (xs : List Val), minV x xs ∈ x :: xs := by
  have key : ∀ (xs : List Val) (a : Val) (S : List Val), a ∈ S → (∀ y ∈ xs, y ∈ S) → xs.foldl (fun a y => if dataLt (enc y) (enc a) then y else a) a ∈ S := by
    intro xs
    induction xs with
    | nil => intro a S h _; exact h
    | cons y ys ih =>
      intro a S h1 h2
      rw [List.foldl_cons]
      refine ih _ S ?_ fun z hz => h2 z (List.mem_cons_of_mem _ hz)
      split
      · exact h2 y (List.mem_cons_self ..)
      · exact h1
  exact fun xs => key xs x (x :: xs) (List.mem_cons_self ..) fun y hy => List.mem_cons_of_mem _ hy
theorem minV_enc (x : Val) (xs : List Val) : minD (enc x) (xs.map enc) = enc (minV x xs) := by
  unfold minD minV
  induction xs generalizing x with
  | nil => rfl
  | cons y ys ih =>
    rw [List.map_cons, List.foldl_cons, List.foldl_cons, ← ih]
    congr 1
    split <;> rfl
variable [HasK]
theorem zip_vr {c : List Addr} {H : Hp} : ∀ {zs : List Val} {ys : List V}, VRs c H zs ys → (zs.zip ys).map (·.1) = zs ∧ (zs.zip ys).map (·.2) = ys ∧ ∀ t ∈ zs.zip ys, VR c H t.1 t.2
  | [], ys, q => by
    unfold VRs at q; subst q
    exact ⟨rfl, rfl, fun t ht => by simp at ht⟩
  | z :: zs, ys, q => by
    unfold VRs at q
    obtain ⟨y, ys', rfl, q1, q2⟩ := q
    obtain ⟨h1, h2, h3⟩ := zip_vr q2
    refine ⟨by rw [List.zip_cons_cons, List.map_cons, h1], by rw [List.zip_cons_cons, List.map_cons, h2], fun t ht => ?_⟩
    rw [List.zip_cons_cons] at ht
    rcases List.mem_cons.mp ht with rfl | ht
    · exact q1
    · exact h3 t ht
theorem vrs_zip {c : List Addr} {H : Hp} : ∀ {ts : List (Val × V)}, (∀ t ∈ ts, VR c H t.1 t.2) → VRs c H (ts.map (·.1)) (ts.map (·.2))
  | [], _ => VRs.nil
  | t :: ts, h => VRs.cons (h t (List.mem_cons_self ..)) (vrs_zip fun u hu => h u (List.mem_cons_of_mem _ hu))
theorem v_sortD {K : PySem.W.Frag} : VC (rSortD K) fSortD := by
  intro c h H0 H xs rs r' h' Q k q e f
  unfold fSortD at e
  split at e
  · simp only [Option.bind_eq_some_iff] at e
    obtain ⟨zs, e1, e2⟩ := e
    split at e2
    · rename_i cond
      obtain ⟨pl, al, so⟩ := cond
      simp only [Option.some.injEq, Prod.mk.injEq] at e2
      obtain ⟨rfl, rfl⟩ := e2
      obtain ⟨x, rfl, q1⟩ := rrs1 q
      obtain ⟨a, ys, rfl, rd, vr⟩ := asL_rr k e1 q1
      obtain ⟨z1, z2, z3⟩ := zip_vr vr
      generalize ets : zs.zip ys = ts at z1 z2 z3
      have em : (ts.map fun t => ((t.2, enc t.1) : VP)).map (·.1) = ys := by rw [List.map_map]; exact z2
      have ed : (ts.map fun t => ((t.2, enc t.1) : VP)).map (·.2) = zs.map enc := by rw [List.map_map, ← z1, List.map_map]; rfl
      refine ⟨a, ts.map fun t => (t.2, enc t.1), rfl, by rw [em]; exact .inl rd, fun b hb => ?_, by rw [ed]; exact al, by rw [ed]; exact so, fun p np => ?_⟩
      · obtain ⟨t, ht, rfl⟩ := List.mem_map.mp hb
        have mz : t.1 ∈ zs := by rw [← z1]; exact List.mem_map_of_mem ht
        obtain ⟨g1, g2⟩ := vd_of k 12 t.1 t.2 (enc t.1) (pd_pdat 12 _ _ (enc_some (pl _ mz))) (z3 t ht)
        exact ⟨g1, Nat.le_trans g2 (by decide)⟩
      · have s1 : sortVs zs = (ts.mergeSort (fun a b => dataLe false enc a.1 b.1)).map (·.1) := by
          unfold sortVs
          rw [List.map_mergeSort (s := dataLe false enc) (fun a _ b _ => rfl), z1]
        have s2 : ((ts.map fun t => ((t.2, enc t.1) : VP)).mergeSort (dataLe false (·.2))).map (·.1) = (ts.mergeSort (fun a b => dataLe false enc a.1 b.1)).map (·.2) := by
          rw [← List.map_mergeSort (r := fun a b => dataLe false enc a.1 b.1) (fun a _ b _ => rfl), List.map_map]
          rfl
        rw [s2]
        refine f c _ _ (Ext.alloc np) (k.alloc np) ?_
        rw [s1]
        exact RR.newLst k np (vrs_zip fun t ht => z3 t ((List.mergeSort_perm _ _).mem_iff.mp ht))
    · cases e2
  · cases e
theorem v_minD {K : PySem.W.Frag} : VC (rMinD K) fMinD := by
  intro c h H0 H xs rs r' h' Q k q e f
  unfold fMinD at e
  split at e
  · simp only [Option.bind_eq_some_iff] at e
    obtain ⟨zs, e1, e2⟩ := e
    split at e2
    · rename_i z0 zs
      split at e2
      · rename_i cond
        obtain ⟨pl, al⟩ := cond
        simp only [Option.some.injEq, Prod.mk.injEq] at e2
        obtain ⟨rfl, rfl⟩ := e2
        obtain ⟨x, rfl, q1⟩ := rrs1 q
        obtain ⟨a, ys, rfl, rd, vr⟩ := asL_rr k e1 q1
        unfold VRs at vr
        obtain ⟨y0, ys, rfl, vr0, vr⟩ := vr
        obtain ⟨z1, z2, z3⟩ := zip_vr vr
        generalize zs.zip ys = ts at z1 z2 z3
        have em : (ts.map fun t => ((t.2, enc t.1) : VP)).map (·.1) = ys := by rw [List.map_map]; exact z2
        have ed : (ts.map fun t => ((t.2, enc t.1) : VP)).map (·.2) = zs.map enc := by rw [List.map_map, ← z1, List.map_map]; rfl
        have rel : ∀ b ∈ ((y0, enc z0) : VP) :: ts.map (fun t => (t.2, enc t.1)), ∃ z ∈ z0 :: zs, b.2 = enc z ∧ VR c H z b.1 := fun b hb => by
          rcases List.mem_cons.mp hb with rfl | hb
          · exact ⟨z0, List.mem_cons_self .., rfl, vr0⟩
          · obtain ⟨t, ht, rfl⟩ := List.mem_map.mp hb
            exact ⟨t.1, List.mem_cons_of_mem _ (by rw [← z1]; exact List.mem_map_of_mem ht), rfl, z3 t ht⟩
        refine ⟨a, (y0, enc z0), ts.map fun t => (t.2, enc t.1), rfl, by rw [List.map_cons, em]; exact .inl rd, fun b hb => ?_, by rw [List.map_cons, ed]; exact al, fun b hb eb => ?_⟩
        · obtain ⟨z, hz, e3, v3⟩ := rel b hb
          obtain ⟨g1, g2⟩ := vd_of k 12 z b.1 (enc z) (pd_pdat 12 _ _ (enc_some (pl _ hz))) v3
          rw [e3]
          exact ⟨g1, Nat.le_trans g2 (by decide)⟩
        · obtain ⟨z, hz, e3, v3⟩ := rel b hb
          rw [ed, minV_enc, e3] at eb
          have : z = minV z0 zs := enc_inj (pl z hz) (pl _ (minV_mem z0 zs)) eb
          subst this
          exact f c H _ (Ext.refl c H) k v3
      · cases e2
    · cases e2
  · cases e

/-! ### x[i] = v, x an own list's name -/
def sPutO (i : Nat) (mi m : ME) : MS := fun s h => (m s h).bind fun p => match s[i]? with
  | some (some (.o xs)) => (mi s p.2).bind fun r => match p.1, r.1 with
    | .v y, .v (.int k) => (ixN xs.length k).map fun j => (.nx, s.set i (some (.o (xs.set j y))), r.2)
    | _, _ => none
  | _ => none
section
variable {X : Cx} {e ix : Expr} {m mi : ME} {pos tpos : Pos}
theorem ss_putO (i : Nat) {x : Str} {p : Pos} (he : SE X e m) (hi : SE X ix mi) (hN : X.N[i]? = some x := by rfl) (hv : Vis X.env.scope x := by first | exact Or.inl rfl | exact Or.inr (Or.inl rfl) | exact Or.inr (Or.inr rfl)) (hd : (x == ("__debug__" : Str)) = false := by decide)
    (hcd : (x == ("__classdict__" : Str)) = false := by decide) (ha : ∀ v, assign (.Subscript (.Name x p) ix tpos) X.env v = (do
      let ov ← holding [v] (eval (.Name x p) X.env)
      let iv ← holding [v, ov] (eval ix X.env)
      standAt tpos
      holding [v, ov, iv] (setItem ov iv v)
      release [v, ov, iv] []) := by intro _; rfl) (hs : swapsWithSole [.Subscript (.Name x p) ix tpos] e pos.line X.env = pure false := by rfl) (hw : swappedStores [.Subscript (.Name x p) ix tpos] e X.env = pure none := by rfl)
    (h1 : (assignEach [.Subscript (.Name x p) ix tpos] X.env).map (·.2) = [assign (.Subscript (.Name x p) ix tpos) X.env] := by rfl) : SS X (.Assign [.Subscript (.Name x p) ix tpos] e pos) (sPutO i mi m) :=
  ps_imp (ps_asg he (pg_sub (pe_var hN hv hd hcd) hi set_list ha) hs hw h1) fun D σ H q => by
    obtain ⟨c, ow, σa, h, fl, σa', h', k, e, f⟩ := q
    simp only [sPutO, Option.bind_eq_some_iff] at e
    obtain ⟨⟨r1, g1⟩, e1, e2⟩ := e
    split at e2
    · rename_i xs e0
      simp only [Option.bind_eq_some_iff] at e2
      obtain ⟨⟨r3, g3⟩, e3, e4⟩ := e2
      refine ⟨c, ow, σa, h, r1, g1, k, e1, fun c1 H1 x1 E1 K1 R1 => ?_⟩
      have k1 := k.ext E1 K1
      obtain ⟨y, es, a, ys, rfl, e5, e6, e7⟩ := k1.sl i _ e0
      refine ⟨_, es, c1, ow, σa, g1, r3, g3, k1, e3, fun c3 H3 z E3 K3 R3 => ?_⟩
      have k3 := k1.ext E3 K3
      dsimp only at e4
      split at e4
      · rename_i y' kk
        simp only [Option.map_eq_some_iff, Prod.mk.injEq] at e4
        obtain ⟨j, ej, rfl, rfl, rfl⟩ := e4
        have R1' : VR c3 H3 _ x1 := RR.mono E3 K1 R1
        have na := (k1.oc i a e7).1
        have e5' := E3.keep _ _ e5 na
        have e6' := VRs.mono (E3.tk K1) _ _ e6
        obtain ⟨k4, x4⟩ := k3.setOwn e0 e7 es (e6'.set R1' j)
        exact ⟨a, ys, kk, j, rfl, int_rr R3, e5', by rw [← e6.length]; exact ej, f c3 ow σ _ ((E1.trans E3).s.trans x4) k4⟩
      · cases e4
    · cases e2
end
end NL
set_option Elab.async false
set_option linter.all false
set_option maxRecDepth 100000
set_option maxHeartbeats 4000000
set_option autoImplicit false
namespace NL
open PySem PySem.Spec PyProof.Rows L2 RZ
open Classical
/-! ### tuple(range(n)) -/
def mTupR (m : ME) : ME := fun s h => (m s h).bind fun p => match p.1 with
  | .v (.int n) => if 0 ≤ n ∧ n ≤ 100000 then some (.v (.tup ((rangeI n).map .int)), p.2) else none
  | _ => none
theorem i_tupR {m : ME} {s : Sl} {h : Hh} {Q : QE} (q : wE m s h fun r h1 => ∃ n : Int, r = .v (.int n) ∧ 0 ≤ n ∧ n ≤ 100000 ∧ Q (.v (.tup ((rangeI n).map .int))) h1) : wE (mTupR m) s h Q := by
  obtain ⟨r, h1, e, n, rfl, h2, h3, q⟩ := q
  exact ⟨_, _, by simp only [mTupR, e, Option.bind_some]; rw [if_pos ⟨h2, h3⟩], q⟩
theorem i_putO {i : Nat} {mi m : ME} {s : Sl} {h : Hh} {QS : Fl → Sl → Hh → Prop} (q : wE m s h fun r h1 => ∃ y xs, r = .v y ∧ s[i]? = some (some (.o xs)) ∧ wE mi s h1 fun r2 h2 => ∃ k j, r2 = .v (.int k) ∧ ixN xs.length k = some j ∧ QS .nx (s.set i (some (.o (xs.set j y)))) h2) : wS (sPutO i mi m) s h QS := by
  obtain ⟨r, h1, e1, y, xs, rfl, e2, r2, h2, e3, k, j, rfl, ej, q⟩ := q
  exact ⟨_, _, _, by simp only [sPutO, e1, e2, e3, Option.bind_some, ej, Option.map_some], q⟩
variable [HasK]
theorem vrs_ints {c : List Addr} {H : Hp} : ∀ (ns : List Int), VRs c H (ns.map .int) (ns.map .int)
  | [] => VRs.nil
  | n :: ns => VRs.cons (by unfold VR; rfl) (vrs_ints ns)
theorem se_tupR {X : Cx} {a : Expr} {m : ME} {p p2 pos pos2 : Pos} (hm : X.mg "tuple" = none) (hm2 : X.mg "range" = none) (ha : SE X a m) (hc : X.calm = true := by rfl) (hg : Gl X "tuple" := by rfl) (hg2 : Gl X "range" := by rfl)
    (n1 : starEach [a] X.env = (false, eval a X.env) :: starEach [] X.env := by rfl) (n2 : starEach [Expr.Call (.Name "range" p2) [a] [] pos2] X.env = (false, eval (Expr.Call (.Name "range" p2) [a] [] pos2) X.env) :: starEach [] X.env := by rfl) :
    SE X (.Call (.Name "tuple" p) [.Call (.Name "range" p2) [a] [] pos2] [] pos) (mTupR m) := pe_imp (pe_tupRg hc hg hm (prg_1 hg2 hm2 ha n1) n2) fun σ H Q q => by
  obtain ⟨c, ow, σa, h, r, h', k, e, f⟩ := q
  simp only [mTupR, Option.bind_eq_some_iff] at e
  obtain ⟨⟨r1, h1⟩, e1, e2⟩ := e
  refine ⟨c, ow, σa, h, r1, h1, k, e1, fun c1 H1 x E1 K1 R1 => ?_⟩
  dsimp only at e2
  split at e2
  · rename_i n
    split at e2
    · rename_i hn
      simp only [Option.some.injEq, Prod.mk.injEq] at e2
      obtain ⟨rfl, rfl⟩ := e2
      refine ⟨n, int_rr R1, RgOk.of_le (by decide) (by omega) (by decide) hn.1, fun q nq => ?_⟩
      have e : rgV 0 n = (rangeI n).map V.int := by
        unfold rgV rangeI
        rw [List.map_map, Int.sub_zero]
        refine List.map_congr_left fun i _ => ?_
        show V.int (0 + (i : Int)) = V.int (i : Int)
        rw [Int.zero_add]
      rw [e]
      exact f c1 _ _ (E1.trans (Ext.alloc nq)) (K1.alloc nq) (RR.newTup K1 nq (vrs_ints _))
    · cases e2
  · cases e2
/-! ### enumerate of a list's name -/
theorem ws_enG {K : PySem.W.Frag} {c : List Addr} {P : Addr → Prop} {H : Hp} {ca : Hh → Prop} {a : Addr} {vs : List Val} (la : LR K c P H ca a vs) : WS c P H ca (Ite K a) (numd vs) := by
  refine ⟨fun H => ∃ xs, SqL K H a xs ∧ xs.length = vs.length, (Ite K a).yld, ⟨fun i H' hi q => ?_, fun H' q => ?_, fun i H' x H'' hi _ y => y⟩, fun c' h' H' pre kp k' ck _ => ?_⟩
  · obtain ⟨xs, q1, l1⟩ := q
    rw [numd_len] at hi
    exact ⟨xs, xs[i]'(by omega), q1, by simp⟩
  · obtain ⟨xs, q1, l1⟩ := q
    exact ⟨xs, q1, by rw [numd_len]; omega⟩
  · obtain ⟨xs, s1, v1⟩ := la c' h' H' pre kp k' ck
    refine ⟨⟨xs, s1, v1.length.symm⟩, fun i x H'' hi y => ?_⟩
    obtain ⟨T, u, rfl, hT, rfl, e1⟩ := y
    have e1 := e1 xs s1
    rw [numd_len] at hi
    obtain ⟨z1, e3, e4⟩ := v1.get (List.getElem?_eq_getElem hi)
    rw [e1] at e3
    cases e3
    refine ⟨_, numd_get (List.getElem?_eq_getElem hi), .inr ⟨T, _, hT, rfl⟩, ?_⟩
    exact RR.newTup (H0 := H') k' hT (VRs.cons (by unfold VR; rfl) (VRs.cons e4 VRs.nil))
noncomputable def jEnV (i : Nat) : MJ := fun s h => match s[i]? with
  | some (some (.v (.ref q))) => match h[q]? with
    | some (.lst xs) => some (numd xs, (fun h => h[q]? = some (.lst xs)), s, h)
    | _ => none
  | some (some (.l xs)) => some (numd xs, (fun _ => True), s, h)
  | _ => none
theorem for_enR {T : Tg} {b : MS} {s : Sl} {h : Hh} {QS : Fl → Sl → Hh → Prop} {i p : Nat} {xs : List Val} (e : s[i]? = some (some (.v (.ref p)))) (e2 : h[p]? = some (.lst xs)) (q : wS (forL (fun h => h[p]? = some (.lst xs)) T b (numd xs)) s h QS) : wS (sFor (jEnV i) T b) s h QS := by
  obtain ⟨f, s2, h2, e3, q⟩ := q
  exact ⟨f, s2, h2, by simp only [sFor, jEnV, e, e2, Option.bind_some]; exact e3, q⟩
theorem sj_enV (i : Nat) {X : Cx} {x : Str} {elts : List Expr} {kk : Nat} {tpos p pos px : Pos} (hm : X.mg "enumerate" = none) (hN : X.N[i]? = some x := by rfl) (hv : Vis X.env.scope x := by first | exact Or.inl rfl | exact Or.inr (Or.inl rfl) | exact Or.inr (Or.inr rfl)) (hd : (x == ("__debug__" : Str)) = false := by decide)
    (hcd : (x == ("__classdict__" : Str)) = false := by decide) (hg : Gl X "enumerate" := by rfl) (hs : starEach [Expr.Name x px] X.env = [(false, eval (Expr.Name x px) X.env)] := by rfl) : SJ X (.Tuple elts kk tpos) (.Call (.Name "enumerate" p) [.Name x px] [] pos) (jEnV i) :=
  pi_imp (pi_enum hg hm (pa_cons (pe_var hN hv hd hcd) pa_nil hs) hs) fun σ H Q q => by
    obtain ⟨c, ow, σa, h, items, chk, σa', h', k, e, f⟩ := q
    unfold jEnV at e
    split at e
    · rename_i q e0
      split at e
      · rename_i zs hz
        simp only [Option.some.injEq, Prod.mk.injEq] at e
        obtain ⟨rfl, rfl, rfl, rfl⟩ := e
        obtain ⟨y, e1, e2⟩ := k.sl i _ e0
        have e2 : VR c H (.ref q) y := e2
        unfold VR at e2
        obtain ⟨a, rfl, e5⟩ := e2
        obtain ⟨o, e6, e7⟩ := k.hr.cell q a e5
        rw [hz] at e6
        cases e6
        obtain ⟨ys, e8, e9⟩ := e7
        exact ⟨_, e1, a, ys, rfl, .inl (.inl e8), f c ow H _ (ExtS.refl c ow H) k (ws_enG (lr_cell e5))⟩
      · cases e
    · rename_i zs e0
      simp only [Option.some.injEq, Prod.mk.injEq] at e
      obtain ⟨rfl, rfl, rfl, rfl⟩ := e
      obtain ⟨y, e1, e2⟩ := k.sl i _ e0
      obtain ⟨a, ys, rfl, e5, e6, e7, e8⟩ := e2
      exact ⟨_, e1, a, ys, rfl, .inl (.inl e5), f c ow H _ (ExtS.refl c ow H) k (ws_enG (lr_lst k.hr k.tupP e5 e7 e8 e6))⟩
    · cases e
end NL
set_option Elab.async false
set_option linter.all false
set_option maxRecDepth 100000
set_option maxHeartbeats 4000000
set_option autoImplicit false
namespace NL
open PySem PySem.Spec PyProof.Rows L2 RZ
open Classical
/-! ### texts: t[i], t + u, t * n, t[a:b], len, ord, count, join -/
def asStr : Val → Option Str
  | .str x => some x
  | _ => none
def fIxS : F2 := fun x y h => match x, y with
  | .v (.str z), .v (.int i) => if z.length ≤ 1000000 then (atI z.cps.toList i).map fun c => (.v (.str ⟨#[c]⟩), h) else none
  | _, _ => none
def fAddS : F2 := fun x y h => match x, y with
  | .v (.str a), .v (.str b) => if a.length + b.length ≤ 1000000 then some (.v (.str (a ++ b)), h) else none
  | _, _ => none
def fMulS : F2 := fun x y h => match x, y with
  | .v (.str a), .v (.int n) => if 1 ≤ n ∧ n ≤ 1000 ∧ a.length = 1 then some (.v (.str ⟨(List.replicate n.toNat (a.cps.getD 0 0)).toArray⟩), h) else none
  | _, _ => none
def fOrd : FC := fun rs h => match rs with
  | [.v (.str x)] => if x.length = 1 then some (.v (.int (x.cps.getD 0 0 : Nat)), h) else none
  | _ => none
def fLenS : FC := fun rs h => match rs with
  | [.v (.str x)] => if x.length ≤ 1000000 then some (.v (.int x.length), h) else none
  | _ => none
def mSlS (m : ME) (lo hi : MO) : ME := fun s h => (m s h).bind fun p => (lo s p.2).bind fun q => (hi s q.2).bind fun r => match p.1 with
  | .v (.str x) => if x.length ≤ 1000000 then some (.v (.str (cutS x q.1 r.1)), r.2) else none
  | _ => none
def mJoin (mo me : ME) : ME := fun s h => (mo s h).bind fun p => match p.1 with
  | .v (.str a) => (me s p.2).bind fun q => (asL q.2 q.1).bind fun xs => (mapO asStr xs).bind fun ys => if (ys.map (·.length)).sum + ys.length * a.length ≤ 1000000 then some (.v (.str (Txt.join a ys)), q.2) else none
  | _ => none
def mCnt (mo me : ME) : ME := fun s h => (mo s h).bind fun p => match p.1 with
  | .v (.str a) => (me s p.2).bind fun q => match q.1 with
    | .v (.str b) => some (.v (.int (Txt.count a b)), q.2)
    | _ => none
  | _ => none
noncomputable def iS (m : ME) : MI := fun s h => (m s h).bind fun p => match p.1 with
  | .v (.str x) => some ((signs x).map .str, (fun _ => True), p.2)
  | _ => none
noncomputable def iEnS (m : ME) : MI := fun s h => (m s h).bind fun p => match p.1 with
  | .v (.str x) => some (numd ((signs x).map .str), (fun _ => True), p.2)
  | _ => none
/-- return x if t else e, x an own list -/
def sRetIfB (t : MT) (i : Nat) (mb : ME) : MS := fun s h => (t s h).bind fun p => if p.1 then sRetO i s p.2 else sRet mb s p.2
section
variable {m mo me ma mb : ME} {t : MT} {s : Sl} {h : Hh} {Q : QE} {QS : Fl → Sl → Hh → Prop} {i : Nat} {T : Tg} {W : List Nat} {e : ME} {b : MS}
theorem i_ixS {z : Str} {i : Int} {c : Nat} (hz : z.length ≤ 1000000) (e : atI z.cps.toList i = some c) (q : Q (.v (.str ⟨#[c]⟩)) h) : wV (fIxS (.v (.str z)) (.v (.int i)) h) Q := ⟨_, _, by simp only [fIxS]; rw [if_pos hz, e]; rfl, q⟩
theorem i_addS {a b : Str} (hz : a.length + b.length ≤ 1000000) (q : Q (.v (.str (a ++ b))) h) : wV (fAddS (.v (.str a)) (.v (.str b)) h) Q := ⟨_, _, by simp only [fAddS]; rw [if_pos hz], q⟩
theorem i_mulS {a : Str} {n : Int} (h1 : 1 ≤ n) (h2 : n ≤ 1000) (h3 : a.length = 1) (q : Q (.v (.str ⟨(List.replicate n.toNat (a.cps.getD 0 0)).toArray⟩)) h) : wV (fMulS (.v (.str a)) (.v (.int n)) h) Q := ⟨_, _, by simp only [fMulS]; rw [if_pos ⟨h1, h2, h3⟩], q⟩
theorem i_ord {x : Str} (h1 : x.length = 1) (q : Q (.v (.int (x.cps.getD 0 0 : Nat))) h) : wV (fOrd [.v (.str x)] h) Q := ⟨_, _, by simp only [fOrd]; rw [if_pos h1], q⟩
theorem i_lenS {x : Str} (h1 : x.length ≤ 1000000) (q : Q (.v (.int x.length)) h) : wV (fLenS [.v (.str x)] h) Q := ⟨_, _, by simp only [fLenS]; rw [if_pos h1], q⟩
theorem w_slS {lo hi : MO} (q : wE m s h fun r h1 => wO lo s h1 fun i h2 => wO hi s h2 fun j h3 => ∃ x, r = .v (.str x) ∧ x.length ≤ 1000000 ∧ Q (.v (.str (cutS x i j))) h3) : wE (mSlS m lo hi) s h Q := by
  obtain ⟨r, h1, e1, i, h2, e2, j, h3, e3, x, rfl, hx, q⟩ := q
  exact ⟨_, _, by simp only [mSlS, e1, e2, e3, Option.bind_some]; rw [if_pos hx], q⟩
theorem w_join (q : wE mo s h fun r h1 => ∃ a, r = .v (.str a) ∧ wE me s h1 fun r2 h2 => ∃ ys : List Str, asL h2 r2 = some (ys.map .str) ∧ (ys.map (·.length)).sum + ys.length * a.length ≤ 1000000 ∧ Q (.v (.str (Txt.join a ys))) h2) : wE (mJoin mo me) s h Q := by
  obtain ⟨r, h1, e1, a, rfl, r2, h2, e2, ys, e3, hl, q⟩ := q
  have em : ∀ ys : List Str, mapO asStr (ys.map .str) = some ys := by
    intro ys
    induction ys with
    | nil => rfl
    | cons y ys ih => simp only [List.map_cons, mapO, asStr, ih, Option.bind_some]
  exact ⟨_, _, by simp only [mJoin, e1, e2, e3, em, Option.bind_some]; rw [if_pos hl], q⟩
theorem w_cnt (q : wE mo s h fun r h1 => ∃ a, r = .v (.str a) ∧ wE me s h1 fun r2 h2 => ∃ b, r2 = .v (.str b) ∧ Q (.v (.int (Txt.count a b))) h2) : wE (mCnt mo me) s h Q := by
  obtain ⟨r, h1, e1, a, rfl, r2, h2, e2, b, rfl, q⟩ := q
  exact ⟨_, _, by simp only [mCnt, e1, e2, Option.bind_some], q⟩
theorem i_lcS (q : wE m s h fun r h1 => ∃ x : Str, r = .v (.str x) ∧ ∃ acc h', lcL (fun _ => True) T t e (wipeA s W) ((signs x).map .str) [] h1 = some (acc, h') ∧ Q (.o acc) h') : wE (mLc W (iS m) T t e) s h Q := by
  obtain ⟨r, h1, e1, x, rfl, acc, h', e2, q⟩ := q
  refine ⟨_, _, ?_, q⟩
  unfold mLc iS
  simp only [e1, Option.bind_some, e2, Option.map_some]
theorem for_enS (q : wE m s h fun r h1 => ∃ x : Str, r = .v (.str x) ∧ wS (forL (fun _ => True) T b (numd ((signs x).map .str))) s h1 QS) : wS (sFor (jI (iEnS m)) T b) s h QS := by
  obtain ⟨r, h1, e1, x, rfl, f, s2, h2, e3, q⟩ := q
  exact ⟨f, s2, h2, by simp only [sFor, jI, iEnS, e1, Option.bind_some, Option.map_some]; exact e3, q⟩
theorem i_retIfB (q : wT t s h fun c h1 => if c = true then ∃ xs, s[i]? = some (some (.o xs)) ∧ QS (.rt (.o xs)) s h1 else wS (sRet mb) s h1 QS) : wS (sRetIfB t i mb) s h QS := by
  obtain ⟨c, h1, e, q⟩ := q
  cases c with
  | false =>
    rw [if_neg (by decide)] at q
    obtain ⟨f, s2, h2, e2, q⟩ := q
    exact ⟨f, s2, h2, by simp only [sRetIfB, e, Option.bind_some, Bool.false_eq_true, if_false]; exact e2, q⟩
  | true =>
    rw [if_pos rfl] at q
    obtain ⟨xs, e2, q⟩ := q
    exact ⟨_, _, _, by simp only [sRetIfB, e, Option.bind_some, if_true, sRetO, e2], q⟩
end
/-! ### the rules -/
def rMulS : R2 := fun x y H Q => ∃ (a : Str) (n : Int), x = .str a ∧ y = .int n ∧ 1 ≤ n ∧ n ≤ 1000 ∧ a.length = 1 ∧ Q (.str ⟨(List.replicate n.toNat (a.cps.getD 0 0)).toArray⟩) H
theorem fold_rep (c : Nat) : ∀ (k : Nat) (acc : Array Nat), (List.replicate k #[c]).foldl (· ++ ·) acc = acc ++ (List.replicate k c).toArray
  | 0, acc => by simp
  | k + 1, acc => by
    rw [List.replicate_succ, List.foldl_cons, fold_rep c k]
    apply Array.ext'
    simp [List.replicate_succ]
theorem tooLong_few {k : Nat} (h : k ≤ 1000) : Builtin.Str.tooLong k = false := by
  unfold Builtin.Str.tooLong
  have z : 1000 ≤ sizeLine := by decide
  simp only [decide_eq_false_iff_not]
  omega
theorem op_mulS {X : Cx} : OpR X (binaryOp .Mult) rMulS := by
  intro pins s σ H x y v u Q I rx ry h
  obtain ⟨a, n, rfl, rfl, h1, h2, h3, q⟩ := h
  obtain ⟨t, rfl⟩ := rx
  obtain ⟨t', rfl⟩ := ry
  obtain ⟨cs⟩ := a
  have h3' : cs.size = 1 := h3
  obtain ⟨c, rfl⟩ : ∃ c, cs = #[c] := by
    refine ⟨cs[0], ?_⟩
    apply Array.ext
    · simp [h3']
    · intro i hi1 hi2
      simp at hi2
      subst hi2
      simp
  have hl : (⟨#[c]⟩ : Str).length = 1 := rfl
  refine P.mul_str (by rw [decide_eq_false (by omega), decide_eq_false (by omega)]; rfl) (fun _ _ => ?_) (fun _ _ => ?_) ?_
  · rw [hl]
    have : (2 ^ 63 - 1) / n ≥ 1 := by
      rw [ge_iff_le, Int.le_ediv_iff_mul_le (by omega)]
      omega
    omega
  · rw [hl, Nat.one_mul]
    have : n.toNat ≤ 1000 := by omega
    exact tooLong_few this
  · rw [if_neg (by omega)]
    by_cases c1 : n = 1
    · subst c1
      rw [if_pos (by rfl)]
      exact ⟨.str _, H, I, ⟨t, rfl⟩, q⟩
    · rw [if_neg (by rw [hl]; simp [c1])]
      refine ⟨?_, .str _, H, I.tok _, ⟨_, rfl⟩, ?_⟩
      · rw [fold_rep]
        show (#[] ++ (List.replicate n.toNat c).toArray).size ≤ sizeLine
        simp
        have z : 1000 ≤ sizeLine := by decide
        omega
      · rw [fold_rep]
        have e : (#[] ++ (List.replicate n.toNat c).toArray : Array Nat) = (List.replicate n.toNat c).toArray := by simp
        rw [e]
        exact q
variable [HasK]
section
variable {c : List Addr} {H0 H : Hp}
theorem str_rr {x : Str} {v : V} (q : RR c H0 H (.v (.str x)) v) : v = .str x := by
  have q : VR c H (.str x) v := q
  unfold VR at q
  exact q
theorem rr_str {x : Str} : RR c H0 H (.v (.str x)) (.str x) := by
  show VR c H (.str x) (.str x)
  unfold VR
  rfl
theorem strs_vrs : ∀ {vs : List Val} {xs : List V} {ys : List Str}, mapO asStr vs = some ys → VRs c H vs xs → xs = ys.map V.str
  | [], xs, ys, e, q => by
    simp only [mapO, Option.some.injEq] at e
    unfold VRs at q
    subst e q; rfl
  | v :: vs, xs, ys, e, q => by
    simp only [mapO, Option.bind_eq_some_iff, Option.some.injEq] at e
    obtain ⟨k, e1, ks', e2, rfl⟩ := e
    unfold VRs at q
    obtain ⟨y, zs, rfl, q1, q2⟩ := q
    cases v <;> simp only [asStr, Option.some.injEq, reduceCtorEq] at e1
    subst e1
    unfold VR at q1
    rw [q1, strs_vrs e2 q2]; rfl
end
theorem v_ixS : V2 rIxS fIxS := by
  intro c h H0 H x y rx ry r' h' Q k qx qy e f
  unfold fIxS at e
  split at e
  · rename_i z i
    split at e
    · rename_i hz
      simp only [Option.map_eq_some_iff, Prod.mk.injEq] at e
      obtain ⟨cc, e1, rfl, rfl⟩ := e
      exact ⟨z, i, cc, str_rr qx, int_rr qy, szl hz, e1, f c H _ (Ext.refl c H) k rr_str⟩
    · cases e
  · cases e
theorem v_addS : V2 (fun x y H Q => ∃ i j, x = .str i ∧ y = .str j ∧ i.length + j.length ≤ sizeLine ∧ Q (.str (i ++ j)) H) fAddS := by
  intro c h H0 H x y rx ry r' h' Q k qx qy e f
  unfold fAddS at e
  split at e
  · rename_i a b
    split at e
    · rename_i hz
      simp only [Option.some.injEq, Prod.mk.injEq] at e
      obtain ⟨rfl, rfl⟩ := e
      exact ⟨a, b, str_rr qx, str_rr qy, szl hz, f c H _ (Ext.refl c H) k rr_str⟩
    · cases e
  · cases e
theorem v_mulS : V2 rMulS fMulS := by
  intro c h H0 H x y rx ry r' h' Q k qx qy e f
  unfold fMulS at e
  split at e
  · rename_i a n
    split at e
    · rename_i hz
      simp only [Option.some.injEq, Prod.mk.injEq] at e
      obtain ⟨rfl, rfl⟩ := e
      exact ⟨a, n, str_rr qx, int_rr qy, hz.1, hz.2.1, hz.2.2, f c H _ (Ext.refl c H) k rr_str⟩
    · cases e
  · cases e
theorem v_ord : VC (fun xs H Q => ∃ x : Str, xs = [.str x] ∧ x.length = 1 ∧ Q (.int (x.cps.getD 0 0 : Nat)) H) fOrd := by
  intro c h H0 H xs rs r' h' Q k q e f
  unfold fOrd at e
  split at e
  · rename_i x
    split at e
    · rename_i hz
      simp only [Option.some.injEq, Prod.mk.injEq] at e
      obtain ⟨rfl, rfl⟩ := e
      obtain ⟨y, rfl, q1⟩ := rrs1 q
      exact ⟨x, by rw [str_rr (x := x) q1], hz, f c H _ (Ext.refl c H) k rr_int⟩
    · cases e
  · cases e
theorem v_lenS : VC (fun xs H Q => ∃ z : Str, xs = [.str z] ∧ z.length ≤ sizeLine ∧ Q (.int z.length) H) fLenS := by
  intro c h H0 H xs rs r' h' Q k q e f
  unfold fLenS at e
  split at e
  · rename_i x
    split at e
    · rename_i hz
      simp only [Option.some.injEq, Prod.mk.injEq] at e
      obtain ⟨rfl, rfl⟩ := e
      obtain ⟨y, rfl, q1⟩ := rrs1 q
      exact ⟨x, by rw [str_rr (x := x) q1], szl hz, f c H _ (Ext.refl c H) k rr_int⟩
    · cases e
  · cases e
section
variable {X : Cx} {o e a b : Expr} {mo m ma mb : ME} {pos apos p : Pos}
theorem se_ixS (ha : SE X a ma) (hb : SE X b mb) (hs : PlainIx b := by exact fun _ _ => rfl) : SE X (.Subscript a b pos) (m2 fIxS ma mb) := se_ix ix_str v_ixS ha hb hs
theorem se_addS (ha : SE X a ma) (hb : SE X b mb) : SE X (.BinOp a .Add b pos) (m2 fAddS ma mb) := se_op op_add_str v_addS ha hb
theorem se_mulS (ha : SE X a ma) (hb : SE X b mb) : SE X (.BinOp a .Mult b pos) (m2 fMulS ma mb) := se_op op_mulS v_mulS ha hb
theorem se_sliceS {lo hi : Option Expr} {p2 : Pos} {ml mh : MO} (he : SE X e m) (hl : SO X lo ml) (hh : SO X hi mh) : SE X (.Subscript e (.Slice lo hi none p2) pos) (mSlS m ml mh) :=
  pe_imp (pe_slice sl_str he hl hh) fun σ H Q q => by
    obtain ⟨c, ow, σa, h, r, h', k, e, f⟩ := q
    simp only [mSlS, Option.bind_eq_some_iff] at e
    obtain ⟨⟨r1, h1⟩, e1, ⟨i, h2⟩, e2, ⟨j, h3⟩, e3, e4⟩ := e
    refine ⟨c, ow, σa, h, r1, h1, k, e1, fun c1 H1 x E1 K1 R1 => ?_⟩
    refine ⟨c1, ow, σa, h1, i, h2, k.ext E1 K1, e2, fun c2 H2 E2 K2 => ?_⟩
    refine ⟨c2, ow, σa, h2, j, h3, (k.ext E1 K1).ext E2 K2, e3, fun c3 H3 E3 K3 => ?_⟩
    have E := (E1.trans E2).trans E3
    dsimp only at e4
    split at e4
    · rename_i z
      split at e4
      · rename_i hz
        simp only [Option.some.injEq, Prod.mk.injEq] at e4
        obtain ⟨rfl, rfl⟩ := e4
        exact ⟨z, str_rr R1, szl hz, f c3 H3 _ E K3 rr_str⟩
      · cases e4
    · cases e4
theorem se_join (ho : SE X o mo) (he : SE X e m) (hs : starEach [e] X.env = [(false, eval e X.env)] := by rfl) (hbase : attributeBase o "join" X.env (eval o X.env) = eval o X.env := by rfl) (hline : (apos.endLine == pos.line) = true := by rfl) :
    SE X (.Call (.Attribute o "join" apos) [e] [] pos) (mJoin mo m) := pe_imp (pe_join ho he hs hbase hline) fun σ H Q q => by
  obtain ⟨c, ow, σa, h, r, h', k, e, f⟩ := q
  simp only [mJoin, Option.bind_eq_some_iff] at e
  obtain ⟨⟨r1, h1⟩, e1, e2⟩ := e
  refine ⟨c, ow, σa, h, r1, h1, k, e1, fun c1 H1 x E1 K1 R1 => ?_⟩
  dsimp only at e2
  split at e2
  · rename_i a
    simp only [Option.bind_eq_some_iff] at e2
    obtain ⟨⟨r2, h2⟩, e3, xs, e4, ys, e5, e6⟩ := e2
    split at e6
    · rename_i hz
      simp only [Option.some.injEq, Prod.mk.injEq] at e6
      obtain ⟨rfl, rfl⟩ := e6
      refine ⟨⟨a, str_rr R1⟩, c1, ow, σa, h1, r2, h2, k.ext E1 K1, e3, fun c2 H2 y E2 K2 R2 => ?_⟩
      obtain ⟨p, us, rfl, t1, v1⟩ := asL_rr K2 e4 R2
      have eu := strs_vrs e5 v1
      subst eu
      exact ⟨a, p, ys, str_rr R1, rfl, .inl (.inl t1), by have := hz; omega, f c2 H2 _ (E1.trans E2) K2 rr_str⟩
    · cases e6
  · cases e2
theorem se_cnt (ho : SE X o mo) (he : SE X e m) (hs : starEach [e] X.env = [(false, eval e X.env)] := by rfl) (hbase : attributeBase o "count" X.env (eval o X.env) = eval o X.env := by rfl) (hline : (apos.endLine == pos.line) = true := by rfl) :
    SE X (.Call (.Attribute o "count" apos) [e] [] pos) (mCnt mo m) := pe_imp (pe_m1 F.slot_str_count F.type_str_count mt_count ho he hs hbase hline) fun σ H Q q => by
  obtain ⟨c, ow, σa, h, r, h', k, e, f⟩ := q
  simp only [mCnt, Option.bind_eq_some_iff] at e
  obtain ⟨⟨r1, h1⟩, e1, e2⟩ := e
  refine ⟨c, ow, σa, h, r1, h1, k, e1, fun c1 H1 x E1 K1 R1 => ?_⟩
  dsimp only at e2
  split at e2
  · rename_i a
    simp only [Option.bind_eq_some_iff] at e2
    obtain ⟨⟨r2, h2⟩, e3, e4⟩ := e2
    refine ⟨⟨a, str_rr R1⟩, c1, ow, σa, h1, r2, h2, k.ext E1 K1, e3, fun c2 H2 y E2 K2 R2 => ?_⟩
    dsimp only at e4
    split at e4
    · rename_i b
      simp only [Option.some.injEq, Prod.mk.injEq] at e4
      obtain ⟨rfl, rfl⟩ := e4
      exact ⟨a, b, str_rr R1, by rw [str_rr (x := b) R2], f c2 H2 _ (E1.trans E2) K2 rr_int⟩
    · cases e4
  · cases e2
theorem ss_retIfB (i : Nat) {c' a : Expr} {t : MT} {x : Str} {p pi : Pos} (hc : ST X c' t) (ha : SE X a ma) (hN : X.N[i]? = some x := by rfl) (hv : Vis X.env.scope x := by first | exact Or.inl rfl | exact Or.inr (Or.inl rfl) | exact Or.inr (Or.inr rfl)) (hd : (x == ("__debug__" : Str)) = false := by decide)
    (hcd : (x == ("__classdict__" : Str)) = false := by decide) : SS X (.Return (some (.IfExp c' (.Name x p) a pi)) pos) (sRetIfB t i ma) := ps_imp (ps_ret (pe_ifExp hc (pe_var hN hv hd hcd) ha)) fun D σ H q => by
  obtain ⟨c, ow, σa, h, fl, σa', h', k, e, f⟩ := q
  simp only [sRetIfB, Option.bind_eq_some_iff] at e
  obtain ⟨⟨r1, h1⟩, e1, e2⟩ := e
  refine ⟨c, ow, σa, h, r1, h1, k, e1, fun c1 H1 E1 K1 => ?_⟩
  have k1 := k.ext E1 K1
  cases r1 with
  | false =>
    simp only [Bool.false_eq_true, if_false, sRet, Option.bind_eq_some_iff] at e2 ⊢
    obtain ⟨⟨r2, h2⟩, e3, e4⟩ := e2
    refine ⟨c1, ow, σa, h1, r2, h2, k1, e3, fun c2 H2 y E2 K2 R2 => ?_⟩
    cases r2 with
    | v z =>
      simp only [Option.some.injEq, Prod.mk.injEq] at e4
      obtain ⟨rfl, rfl, rfl⟩ := e4
      exact f c2 ow σ H2 (E1.trans E2).s (k1.ext E2 K2) y R2
    | o z =>
      simp only [Option.some.injEq, Prod.mk.injEq] at e4
      obtain ⟨rfl, rfl, rfl⟩ := e4
      obtain ⟨b, ys, g3, g4, g5, g6, g7⟩ := RR.early E1 R2
      exact f c2 ow σ H2 (E1.trans E2).s (k1.ext E2 K2) y ⟨b, ys, g3, .inl g4, g5, g6, g7⟩
    | l z => cases e4
    | z z => cases e4
  | true =>
    simp only [if_true, sRetO] at e2 ⊢
    split at e2
    · rename_i xs e0
      simp only [Option.some.injEq, Prod.mk.injEq] at e2
      obtain ⟨rfl, rfl, rfl⟩ := e2
      obtain ⟨y, g1, g2⟩ := k1.sl i _ e0
      obtain ⟨b, ys, g3, g4, g5, g6⟩ := g2
      exact ⟨y, g1, f c1 ow σ H1 E1.s k1 y ⟨b, ys, g3, .inr ⟨i, g6⟩, g4, g5, (k1.oc i b g6).1⟩⟩
    · cases e2
end
end NL
set_option Elab.async false
set_option linter.all false
set_option maxRecDepth 100000
set_option maxHeartbeats 4000000
set_option autoImplicit false
namespace NL
open PySem PySem.Spec PyProof.Rows L2
/-! ### for over a text, over enumerate of a text -/
theorem signs_get {x : Str} {i c : Nat} (e : x.cps[i]? = some c) : ((signs x).map Val.str)[i]? = some (.str ⟨#[c]⟩) := by
  unfold signs
  rw [List.getElem?_map, List.getElem?_map, Array.getElem?_toList, e]
  rfl
theorem signs_len {x : Str} : ((signs x).map Val.str).length = x.cps.size := by simp [signs]
/-- the signs of a text, each in a new pair with its number -/
def IteS (x : Str) : It := ⟨fun i _ => i < x.cps.size, fun i H v H' => ∃ T c, v = .ref T ∧ H T = none ∧ H' = upd H T (.tup [.int (i : Nat), .str ⟨#[c]⟩]) ∧ x.cps[i]? = some c, fun i _ => x.cps.size = i⟩
theorem turn_enS {P : Program} {w : World} {K : PySem.W.Frag} {elts : List Expr} {kk : Nat} {tpos : Pos} (e it : Addr) (x : Str) (t : Tok) :
    Turn P w K (.Tuple elts kk tpos) (IteS x) [e, it] e (fun i h => (∃ old, IsEnum h e it ((i : Nat) : Int) old) ∧ h.IsStrIter it (strIterType x) x t i ∧ e ≠ it) where
  mem := by simp
  obj := fun i h st b hb => by
    obtain ⟨⟨old, he⟩, ⟨o, ho, hc, hd⟩, _⟩ := st
    have e' : b = e ∨ b = it := by simpa using hb
    rcases e' with z | z
    · subst z; exact ⟨_, he, fun v q => nomatch q⟩
    · subst z; exact ⟨o, ho, fun v q => by rw [hd] at q; cases q⟩
  keep := fun i h h' st k => ⟨⟨st.1.choose, k e (by simp) _ st.1.choose_spec⟩, (let ⟨o, ho, r⟩ := st.2.1; ⟨o, k it (by simp) o ho, r⟩), st.2.2⟩
  item := by
    intro X hP hw hK hc i pins s σ H E I hf st hg
    subst hP hw hK
    obtain ⟨⟨old, he⟩, hit, hne⟩ := st
    have lt1 : e < s.heap.objs.size := Heap.lt_size he
    have lt2 : it < s.heap.objs.size := by obtain ⟨_, q, _⟩ := hit; exact Heap.lt_size q
    refine wpAny_pyNext_enum_itemD (Draws.text (A := X.A.in1) (show X.A.in1.handled = none from I.ok.hd hc) it x t) he hit hg hne (by simp [hne]) fun y h' tk hy ho hst hT hsz hk => ?_
    obtain ⟨cc, u, ec, rfl⟩ := hy
    refine ⟨_, rfl, wpAny_letOwnedTupleGo_enum (s := { s with heap := h', toks := tk + 1 }) ho fun h'' he' sb => ?_⟩
    have hT2 : h''.get? s.heap.objs.size = some { cls := .type "tuple", data := .seq #[.int i tk, .str ⟨#[cc]⟩ u] } := (sb.2 _ (Nat.ne_of_gt lt1)).trans hT
    have new : ObjOk X.prog X.w (upd H s.heap.objs.size (.tup [.int (i : Nat), .str ⟨#[cc]⟩])) h'' s.heap.objs.size (.tup [.int (i : Nat), .str ⟨#[cc]⟩]) := ⟨by show 2 ≤ sizeLine; decide, [.int i tk, .str ⟨#[cc]⟩ u], .cons ⟨_, rfl⟩ (.cons ⟨_, rfl⟩ .nil), ⟨_, hT2, rfl, _, rfl⟩⟩
    have I1 : Inv X pins σ (upd H s.heap.objs.size (.tup [.int (i : Nat), .str ⟨#[cc]⟩])) { s with heap := h'', toks := tk + 1 } :=
      I.turnedNew (ch := [e, it]) (fun b ob hb q => (sb.2 b (fun z => hb (by simp [z]))).trans (hk b ob (fun z => hb (by simp [z])) (fun z => hb (by simp [z])) q)) hf (Nat.le_refl _) new
    refine ⟨.ref s.heap.objs.size, _, I1, rfl, ⟨_, cc, rfl, I.hok.fresh (Nat.le_refl _), rfl, ec⟩, ⟨⟨.str ⟨#[cc]⟩ u, ?_⟩, (let ⟨o, ho, r⟩ := hst; ⟨o, (sb.2 it (Ne.symm hne)).trans ho, r⟩), hne⟩, fun b hb => ?_⟩
    · rw [show ((i + 1 : Nat) : Int) = (i : Int) + 1 from by omega]
      exact he'
    · have lt : b < s.heap.objs.size := by
        have e' : b = e ∨ b = it := by simpa using hb
        rcases e' with z | z
        · subst z; exact lt1
        · subst z; exact lt2
      rw [upd_ne (Nat.ne_of_lt lt)]
      exact (hf b hb).1
  done := by
    intro X hP hw hK hc i pins s σ H E I hf st hg
    subst hP hw hK
    obtain ⟨⟨old, he⟩, hit, hne⟩ := st
    have hg : x.cps.size = i := hg
    subst hg
    obtain ⟨f0, f1, f2, f3, f4, f5⟩ := hf it (by simp)
    exact wpAny_pyNext_enum_endD (Draws.text (A := X.A.in1) (show X.A.in1.handled = none from I.ok.hd hc) it x t) he hit fun h' eb => ⟨rfl, I.turned (t' := s.toks) (fun b o hb q => eb b o hb q) f0 f1 f3 f4 f5⟩
  self := fun A i s Q E st h => wpAny_pyIter_enum st.1.choose_spec h
def iEnSt (ta : TA) : TI := fun σ H R => ta σ H fun vs H1 => ∃ x, vs = [.str x] ∧ R (IteS x) H1
theorem pi_enS {X : Cx} {e : Expr} {ta : TA} {p pos tpos : Pos} {elts : List Expr} {kk : Nat} (hg : Gl X "enumerate") (hm : X.mg "enumerate" = none) (ha : PA X [e] ta) (hs : starEach [e] X.env = [(false, eval e X.env)] := by rfl) :
    PI X (.Tuple elts kk tpos) (.Call (.Name "enumerate" p) [e] [] pos) (iEnSt ta) := by
  refine ⟨fun pins s σ H R I h => ?_⟩
  refine Call_ (ld_blt I hg hm boot_enumerate (PyProof.Rows.callWith_type1 (thn (ha.run pos pins s σ H _ I h) fun us s1 ⟨vs, H1, I1, r1, q1⟩ => ?_) hs rfl))
  obtain ⟨x, ex, q⟩ := q1
  subst ex
  cases r1 with
  | cons r rr =>
    cases rr
    obtain ⟨t, rfl⟩ := r
    refine call_en (begins_text x t) trivial fun h' he hit hk => wpAny_pyIter_enum he ?_
    have I2 : Inv X pins σ H1 { s1 with heap := h' } := I1.kept (t' := s1.toks) hk
    refine ⟨s1.heap.objs.size + 1, [s1.heap.objs.size + 1, s1.heap.objs.size], _, _, H1, rfl, I2, turn_enS (s1.heap.objs.size + 1) s1.heap.objs.size x t, ⟨⟨.none, he⟩, ⟨_, hit, rfl, rfl⟩, Nat.succ_ne_self _⟩, fun b hb => ?_, q⟩
    have hle : s1.heap.objs.size ≤ b := by
      have e' : b = s1.heap.objs.size + 1 ∨ b = s1.heap.objs.size := by simpa using hb
      rcases e' with z | z
      · rw [z]; exact Nat.le_succ _
      · rw [z]; exact Nat.le_refl _
    exact I1.fpOk hle (I1.hok.fresh hle)
variable [HasK]
theorem ws_str {x : Str} : WSr (Its x) ((signs x).map .str) := fun c P H => by
  refine ⟨_, _, by rw [signs_len]; exact walk_str, fun c' h' H' _ _ _ _ _ => ⟨trivial, fun i v H'' hi y => ?_⟩⟩
  obtain ⟨rfl, cc, ec, rfl⟩ := y
  refine ⟨_, signs_get ec, .inl rfl, ?_⟩
  unfold VR
  rfl
theorem ws_enS {x : Str} : WSr (IteS x) (numd ((signs x).map .str)) := fun c P H => by
  refine ⟨fun _ => True, fun i H v H' => ∃ T cc, v = .ref T ∧ H T = none ∧ H' = upd H T (.tup [.int (i : Nat), .str ⟨#[cc]⟩]) ∧ x.cps[i]? = some cc, ⟨fun i H hi _ => ?_, fun H _ => ?_, fun i H v H' _ _ y => y⟩, fun c' h' H' _ _ k' _ _ => ⟨trivial, fun i v H'' hi y => ?_⟩⟩
  · rw [numd_len, signs_len] at hi
    exact hi
  · rw [numd_len, signs_len]
    rfl
  · obtain ⟨T, cc, rfl, nT, rfl, ec⟩ := y
    refine ⟨_, numd_get (signs_get ec), .inr ⟨T, _, nT, rfl⟩, ?_⟩
    exact RR.newTup (H0 := H') k' nT (VRs.cons (by unfold VR; rfl) (VRs.cons (by unfold VR; rfl) VRs.nil))
section
variable {X : Cx} {tg a e : Expr} {m ma : ME} {p pos : Pos}
theorem si_str (he : SE X e m) : SI X tg e (iS m) := pi_imp (pi_str he) fun σ H Q q => by
  obtain ⟨c, ow, σa, h, items, chk, h', k, e, f⟩ := q
  simp only [iS, Option.bind_eq_some_iff] at e
  obtain ⟨⟨r1, h1⟩, e1, e2⟩ := e
  refine ⟨c, ow, σa, h, r1, h1, k, e1, fun c1 H1 v E1 K1 R1 => ?_⟩
  dsimp only at e2
  split at e2
  · rename_i x
    simp only [Option.some.injEq, Prod.mk.injEq] at e2
    obtain ⟨rfl, rfl, rfl⟩ := e2
    exact ⟨x, str_rr R1, f c1 H1 _ E1 K1 (ws_str _ _ _)⟩
  · cases e2
theorem sj_enS {elts : List Expr} {kk : Nat} {tpos : Pos} (hm : X.mg "enumerate" = none) (ha : SE X a ma) (hg : Gl X "enumerate" := by rfl) (hs : starEach [a] X.env = [(false, eval a X.env)] := by rfl) : SJ X (.Tuple elts kk tpos) (.Call (.Name "enumerate" p) [a] [] pos) (jI (iEnS ma)) :=
  pi_imp (pi_enS hg hm (sa_cons ha sa_nil hs) hs) fun σ H Q q => by
    obtain ⟨c, ow, σa, h, items, chk, σa', h', k, e, f⟩ := q
    simp only [jI, Option.map_eq_some_iff, Prod.mk.injEq] at e
    obtain ⟨⟨it, ck, h1⟩, e1, rfl, rfl, rfl, rfl⟩ := e
    simp only [iEnS, Option.bind_eq_some_iff] at e1
    obtain ⟨⟨r1, h2⟩, e2, e3⟩ := e1
    refine ⟨c, ow, σa, h, [r1], h2, k, by simp [aCons, aNil, e2], fun c1 H1 xs E1 K1 R1 => ?_⟩
    obtain ⟨y, rfl, q1⟩ := rrs1 R1
    dsimp only at e3
    split at e3
    · rename_i x
      simp only [Option.some.injEq, Prod.mk.injEq] at e3
      obtain ⟨rfl, rfl, rfl⟩ := e3
      exact ⟨x, by rw [str_rr (x := x) q1], f c1 ow H1 _ E1.s (k.ext E1 K1) (ws_enS _ _ _)⟩
    · cases e3
end
end NL
set_option Elab.async false
set_option linter.all false
set_option maxRecDepth 100000
set_option maxHeartbeats 4000000
set_option autoImplicit false
namespace NL
open PySem PySem.Spec PyProof.Rows L2
/-! ### [a, *xs], (a, *xs) -/
def aStar (m : ME) (t : MA) : MA := fun s h => (m s h).bind fun p => (asQ p.2 p.1).bind fun xs => (t s p.2).map fun q => (xs.map .v ++ q.1, q.2)
theorem w_astar {m : ME} {t : MA} {s : Sl} {h : Hh} {Q : List R → Hh → Prop} (q : wE m s h fun r h1 => ∃ xs, asQ h1 r = some xs ∧ wA t s h1 fun rs h2 => Q (xs.map .v ++ rs) h2) : wA (aStar m t) s h Q := by
  obtain ⟨r, h1, e1, xs, e2, rs, h2, e3, q⟩ := q
  exact ⟨_, _, by simp only [aStar, e1, e2, e3, Option.bind_some, Option.map_some], q⟩
theorem vals_app {rs : List R} : ∀ {xs : List Val}, vals (xs.map .v ++ rs) = (vals rs).map (xs ++ ·)
  | [] => by
    rw [List.map_nil, List.nil_append]
    cases vals rs <;> rfl
  | x :: xs => by
    have e : vals ((x :: xs).map .v ++ rs) = (vals (xs.map .v ++ rs)).map (x :: ·) := rfl
    rw [e, vals_app]
    cases vals rs <;> rfl
theorem w_vapp {xs : List Val} {rs : List R} {Q : List Val → Prop} (q : wL (vals rs) fun vs => Q (xs ++ vs)) : wL (vals (xs.map .v ++ rs)) Q := by
  obtain ⟨ys, e, q⟩ := q
  exact ⟨_, by rw [vals_app, e]; rfl, q⟩
variable [HasK]
theorem rrs_app {c : List Addr} {H0 H : Hp} {rs : List R} {zs : List V} (q2 : RRs c H0 H rs zs) : ∀ {xs : List Val} {ys : List V}, VRs c H xs ys → RRs c H0 H (xs.map .v ++ rs) (ys ++ zs)
  | [], ys, q => by
    unfold VRs at q
    subst q
    exact q2
  | x :: xs, ys, q => by
    unfold VRs at q
    obtain ⟨y, ys', rfl, q1, q3⟩ := q
    exact ⟨y, ys' ++ zs, rfl, q1, rrs_app q2 q3⟩
theorem sa_star {X : Cx} {e : Expr} {es : List Expr} {p : Pos} {m : ME} {t : MA} (he : SE X e m) (hr : SA X es t) (hs : starEach (.Starred e p :: es) X.env = (true, eval e X.env) :: starEach es X.env := by rfl) : SA X (.Starred e p :: es) (aStar m t) := pa_imp (StX.pa_star he hr hs) fun σ H Q q => by
  obtain ⟨c, ow, σa, h, rs, h', k, e, f⟩ := q
  simp only [aStar, Option.bind_eq_some_iff, Option.map_eq_some_iff, Prod.mk.injEq] at e
  obtain ⟨⟨r1, h1⟩, e1, xs, e2, ⟨rs', h2⟩, e3, rfl, rfl⟩ := e
  refine ⟨c, ow, σa, h, r1, h1, k, e1, fun c1 H1 x E1 K1 R1 => ?_⟩
  obtain ⟨a, ys, rfl, sq, v1⟩ := asQ_rr (K := X.K) K1 e2 R1
  refine ⟨a, ys, rfl, sq.symm, c1, ow, σa, h1, rs', h2, k.ext E1 K1, e3, fun c2 H2 zs E2 K2 R2 => ?_⟩
  exact f c2 H2 _ (E1.trans E2) K2 (rrs_app (RRs.early E1 R2) (VRs.mono (E2.tk K1) _ _ v1))
end NL
set_option Elab.async false
set_option linter.all false
set_option maxRecDepth 100000
set_option maxHeartbeats 4000000
set_option autoImplicit false
namespace NL
open PySem PySem.Spec PyProof.Rows L2 RZ
/-! ### x.isascii(), x.isdigit(), x.split(y), int(x) of texts -/
def mTxB (g : Str → Bool) (mo : ME) : ME := fun s h => (mo s h).bind fun p => match p.1 with
  | .v (.str a) => some (.v (.bl (g a)), p.2)
  | _ => none
def mSplit (mo me : ME) : ME := fun s h => (mo s h).bind fun p => match p.1 with
  | .v (.str a) => (me s p.2).bind fun q => match q.1 with
    | .v (.str b) => if (b.length == 0) = false ∧ a.length ≤ 1000000 then some (.o ((Txt.split a b).map .str), q.2) else none
    | _ => none
  | _ => none
noncomputable def fIntS : FC := fun rs h => match rs with
  | [.v (.str a)] => if a.length ≤ 640 then (PySem.intText? a).map fun n => (.v (.int n), h) else none
  | _ => none
section
variable {s : Sl} {h : Hh} {Q : QE} {mo me : ME}
theorem w_txB {g : Str → Bool} (q : wE mo s h fun r h1 => ∃ a, r = .v (.str a) ∧ Q (.v (.bl (g a))) h1) : wE (mTxB g mo) s h Q := by
  obtain ⟨r, h1, e1, a, rfl, q⟩ := q
  exact ⟨_, _, by simp only [mTxB, e1, Option.bind_some], q⟩
theorem w_split (q : wE mo s h fun r h1 => ∃ a, r = .v (.str a) ∧ wE me s h1 fun r2 h2 => ∃ b, r2 = .v (.str b) ∧ (b.length == 0) = false ∧ a.length ≤ 1000000 ∧ Q (.o ((Txt.split a b).map .str)) h2) : wE (mSplit mo me) s h Q := by
  obtain ⟨r, h1, e1, a, rfl, r2, h2, e2, b, rfl, l1, l2, q⟩ := q
  exact ⟨_, _, by simp only [mSplit, e1, e2, Option.bind_some]; rw [if_pos ⟨l1, l2⟩], q⟩
theorem i_intS {a : Str} {n : Int} (e : PySem.intText? a = some n) (l : a.length ≤ 640) (q : Q (.v (.int n)) h) : wV (fIntS [.v (.str a)] h) Q := ⟨_, _, by simp only [fIntS]; rw [if_pos l, e]; rfl, q⟩
end
section
variable [HasK] {X : Cx} {o e : Expr} {mo m : ME} {pos apos : Pos}
theorem se_txB {g : Str → Bool} {id : String} {nm : Str} (slot : Slot "str" nm id) (ty : typeOf (.builtin id) = pure (.type "method_descriptor")) (rule : MtR X id (fun x xs H Q => ∃ a, x = .str a ∧ xs = [] ∧ True ∧ Q (.bl (g a)) H)) (ho : SE X o mo)
    (hbase : attributeBase o nm X.env (eval o X.env) = eval o X.env := by rfl) (hline : (apos.endLine == pos.line) = true := by rfl) :
    SE X (.Call (.Attribute o nm apos) [] [] pos) (mTxB g mo) := pe_imp (pe_m0 slot ty rule ho hbase hline) fun σ H Q q => by
  obtain ⟨c, ow, σa, h, r, h', k, e, f⟩ := q
  simp only [mTxB, Option.bind_eq_some_iff] at e
  obtain ⟨⟨r1, h1⟩, e1, e2⟩ := e
  refine ⟨c, ow, σa, h, r1, h1, k, e1, fun c1 H1 x E1 K1 R1 => ?_⟩
  dsimp only at e2
  split at e2
  · rename_i a
    simp only [Option.some.injEq, Prod.mk.injEq] at e2
    obtain ⟨rfl, rfl⟩ := e2
    exact ⟨⟨a, str_rr R1⟩, a, str_rr R1, rfl, trivial, f c1 H1 _ E1 K1 rr_bl⟩
  · cases e2
theorem se_ascii (ho : SE X o mo) (hbase : attributeBase o "isascii" X.env (eval o X.env) = eval o X.env := by rfl) (hline : (apos.endLine == pos.line) = true := by rfl) : SE X (.Call (.Attribute o "isascii" apos) [] [] pos) (mTxB Txt.isascii mo) := se_txB F.slot_str_isascii F.type_str_isascii mt_isascii ho hbase hline
theorem se_digit (ho : SE X o mo) (hbase : attributeBase o "isdigit" X.env (eval o X.env) = eval o X.env := by rfl) (hline : (apos.endLine == pos.line) = true := by rfl) : SE X (.Call (.Attribute o "isdigit" apos) [] [] pos) (mTxB Txt.isdigit mo) := se_txB F.slot_str_isdigit F.type_str_isdigit mt_isdigit ho hbase hline
theorem vrs_strs {c : List Addr} {H : Hp} : ∀ (ys : List Str), VRs c H (ys.map .str) (ys.map V.str)
  | [] => by unfold VRs; rfl
  | y :: ys => by
    unfold VRs
    exact ⟨_, _, rfl, by unfold VR; rfl, vrs_strs ys⟩
theorem se_split (ho : SE X o mo) (he : SE X e m) (hs : starEach [e] X.env = [(false, eval e X.env)] := by rfl) (hbase : attributeBase o "split" X.env (eval o X.env) = eval o X.env := by rfl) (hline : (apos.endLine == pos.line) = true := by rfl) :
    SE X (.Call (.Attribute o "split" apos) [e] [] pos) (mSplit mo m) := pe_imp (pe_split ho he hs hbase hline) fun σ H Q q => by
  obtain ⟨c, ow, σa, h, r, h', k, e, f⟩ := q
  simp only [mSplit, Option.bind_eq_some_iff] at e
  obtain ⟨⟨r1, h1⟩, e1, e2⟩ := e
  refine ⟨c, ow, σa, h, r1, h1, k, e1, fun c1 H1 x E1 K1 R1 => ?_⟩
  dsimp only at e2
  split at e2
  · rename_i a
    simp only [Option.bind_eq_some_iff] at e2
    obtain ⟨⟨r2, h2⟩, e3, e4⟩ := e2
    refine ⟨⟨a, str_rr R1⟩, c1, ow, σa, h1, r2, h2, k.ext E1 K1, e3, fun c2 H2 y E2 K2 R2 => ?_⟩
    dsimp only at e4
    split at e4
    · rename_i b
      split at e4
      · rename_i hz
        simp only [Option.some.injEq, Prod.mk.injEq] at e4
        obtain ⟨rfl, rfl⟩ := e4
        have big : (1000000 : Nat) + 2 ≤ sizeLine := by decide
        exact ⟨a, b, str_rr R1, by rw [str_rr (x := b) R2], hz.1, by have := hz.2; omega, fun p hp => f _ _ _ ((E1.trans E2).trans (Ext.alloc hp)) (K2.alloc hp) (RR.early (E1.trans E2) (RR.newLst K2 hp (vrs_strs _)))⟩
      · cases e4
    · cases e4
  · cases e2
theorem v_intS : VC (fun xs H Q => ∃ a n, xs = [V.str a] ∧ PySem.intText? a = some n ∧ a.length ≤ 640 ∧ Q (.int n) H) fIntS := by
  intro c h H0 H xs rs r' h' Q k q e f
  unfold fIntS at e
  split at e
  · rename_i a
    split at e
    · rename_i l
      rw [Option.map_eq_some_iff] at e
      obtain ⟨n, en, e⟩ := e
      simp only [Prod.mk.injEq] at e
      obtain ⟨rfl, rfl⟩ := e
      obtain ⟨x, rfl, q1⟩ := rrs1 q
      exact ⟨a, n, by rw [str_rr q1], en, l, f c H _ (Ext.refl c H) k rr_int⟩
    · cases e
  · cases e
end
end NL
set_option Elab.async false
set_option linter.all false
set_option maxRecDepth 100000
set_option maxHeartbeats 4000000
set_option autoImplicit false
namespace NL
open PySem PySem.Spec PyProof.Rows L2 RZ PySem.W PySem.SeqAt
open Classical

/-! ### dicts of the plain heap -/
def kVal : Key → Val
  | .inl i => .int i
  | .inr x => .str x
def asKey : Val → Option Key
  | .int i => some (.inl i)
  | .str x => some (.inr x)
  | _ => none
def asKeys : Val → Option (List Key)
  | .tup vs => mapO asKey vs
  | _ => none
section
variable {κ : Type} [DecidableEq κ]
def valP (kvs : List (κ × Val)) (k : κ) : Option Val := (kvs.find? fun kv => decide (kv.1 = k)).map (·.2)
def putP (kvs : List (κ × Val)) (k : κ) (v : Val) : List (κ × Val) :=
  if (kvs.any fun kv => decide (kv.1 = k)) = true then kvs.map (fun kv => if kv.1 = k then (kv.1, v) else kv) else kvs ++ [(k, v)]
variable {c : List Addr} {H : Hp}
theorem PRs.len : ∀ {vs : List (κ × Val)} {xs : List (κ × V)}, PRs c H vs xs → vs.length = xs.length
  | [], _, q => by unfold PRs at q; subst q; rfl
  | p :: ps, xs, ⟨y, ys, e, _, q⟩ => by subst e; simp [PRs.len q]
theorem PRs.val (k : κ) : ∀ {vs : List (κ × Val)} {xs : List (κ × V)}, PRs c H vs xs → (valP vs k = none ∧ valV xs k = none) ∨ ∃ v y, valP vs k = some v ∧ valV xs k = some y ∧ VR c H v y
  | [], _, q => by unfold PRs at q; subst q; exact .inl ⟨rfl, rfl⟩
  | p :: ps, xs, ⟨y, ys, e, r, q⟩ => by
    subst e
    by_cases hk : p.1 = k
    · exact .inr ⟨p.2, y, by simp [valP, hk], by simp [valV, hk], r⟩
    · have e1 : valP (p :: ps) k = valP ps k := by simp [valP, hk]
      have e2 : valV ((p.1, y) :: ys) k = valV ys k := by simp [valV, hk]
      rw [e1, e2]
      exact PRs.val k q
theorem PRs.any (k : κ) : ∀ {vs : List (κ × Val)} {xs : List (κ × V)}, PRs c H vs xs → (vs.any fun kv => decide (kv.1 = k)) = (xs.any fun kv => decide (kv.1 = k))
  | [], _, q => by unfold PRs at q; subst q; rfl
  | p :: ps, xs, ⟨y, ys, e, r, q⟩ => by
    subst e
    rw [List.any_cons, List.any_cons, PRs.any k q]
theorem PRs.repl (k : κ) {v : Val} {z : V} (rz : VR c H v z) : ∀ {vs : List (κ × Val)} {xs : List (κ × V)}, PRs c H vs xs → PRs c H (vs.map fun kv => if kv.1 = k then (kv.1, v) else kv) (xs.map fun kv => if kv.1 = k then (kv.1, z) else kv)
  | [], _, q => by unfold PRs at q; subst q; rfl
  | p :: ps, xs, ⟨y, ys, e, r, q⟩ => by
    subst e
    by_cases hk : p.1 = k
    · refine ⟨z, _, ?_, ?_, PRs.repl k rz q⟩
      · simp only [List.map_cons, if_pos hk]
      · simp only [if_pos hk]; exact rz
    · refine ⟨y, _, ?_, ?_, PRs.repl k rz q⟩
      · simp only [List.map_cons, if_neg hk]
      · simp only [if_neg hk]; exact r
theorem PRs.snoc (k : κ) {v : Val} {z : V} (rz : VR c H v z) : ∀ {vs : List (κ × Val)} {xs : List (κ × V)}, PRs c H vs xs → PRs c H (vs ++ [(k, v)]) (xs ++ [(k, z)])
  | [], _, q => by unfold PRs at q; subst q; exact ⟨z, [], rfl, rz, rfl⟩
  | p :: ps, xs, ⟨y, ys, e, r, q⟩ => by
    subst e
    exact ⟨y, ys ++ [(k, z)], rfl, r, PRs.snoc k rz q⟩
theorem PRs.put (k : κ) {v : Val} {z : V} (rz : VR c H v z) {vs : List (κ × Val)} {xs : List (κ × V)} (q : PRs c H vs xs) : PRs c H (putP vs k v) (putK xs k z) := by
  unfold putP putK
  rw [q.any k]
  split
  · exact q.repl k rz
  · exact q.snoc k rz
theorem valP_put (kvs : List (κ × Val)) (k j : κ) (y : Val) : valP (putP kvs k y) j = if j = k then some y else valP kvs j := by
  unfold putP
  split
  · rename_i h
    induction kvs with
    | nil => simp at h
    | cons p ps ih =>
      by_cases hp : p.1 = k
      · by_cases hj : j = k
        · simp [valP, hp, hj]
        · have : ¬ p.1 = j := fun z => hj (by rw [← z, hp])
          by_cases ha : (ps.any fun kv => decide (kv.1 = k)) = true
          · have ih := ih ha
            simp only [valP, List.map_cons, List.find?_cons, hp, if_true, hj, if_false] at ih ⊢
            have hkj : ¬ k = j := fun z => hj z.symm
            simp only [hkj, decide_false]
            exact ih
          · have e : ps.map (fun kv => if kv.1 = k then (kv.1, y) else kv) = ps := by
              conv => rhs; rw [← List.map_id ps]
              refine List.map_congr_left fun q hq => ?_
              rw [if_neg (fun z => ha (List.any_eq_true.mpr ⟨q, hq, by simp [z]⟩))]; rfl
            have hkj : ¬ k = j := fun z => hj z.symm
            simp only [valP, List.map_cons, List.find?_cons, hp, if_true, hj, if_false, hkj, decide_false, e]
      · have ha : (ps.any fun kv => decide (kv.1 = k)) = true := by simpa [hp] using h
        have ih := ih ha
        by_cases hj : p.1 = j
        · have : ¬ j = k := fun z => hp (by rw [hj, z])
          simp [valP, hp, hj, this]
        · simp only [valP, List.map_cons, List.find?_cons, hp, if_false, hj, decide_false] at ih ⊢
          exact ih
  · rename_i h
    have hn : ∀ q ∈ kvs, q.1 ≠ k := fun q hq z => h (List.any_eq_true.mpr ⟨q, hq, by simp [z]⟩)
    simp only [valP, List.find?_append]
    by_cases hj : j = k
    · subst hj
      have : kvs.find? (fun kv => decide (kv.1 = j)) = none := List.find?_eq_none.mpr fun q hq => by simp [hn q hq]
      simp [this]
    · have hkj : ¬ k = j := fun z => hj z.symm
      simp [hj, hkj]
theorem putP_len (kvs : List (κ × Val)) (k : κ) (y : Val) : (putP kvs k y).length ≤ kvs.length + 1 := by
  unfold putP
  split <;> simp
end
theorem key_vr {c : List Addr} {H : Hp} {v : Val} {x : V} {k : Key} (e : asKey v = some k) (q : VR c H v x) : x = kV k := by
  cases v <;> simp only [asKey, Option.some.injEq, reduceCtorEq] at e
  · subst e; unfold VR at q; exact q
  · subst e; unfold VR at q; exact q
theorem keys_vrs {c : List Addr} {H : Hp} : ∀ {vs : List Val} {xs : List V} {ks : List Key}, mapO asKey vs = some ks → VRs c H vs xs → xs = ks.map kV
  | [], xs, ks, e, q => by
    simp only [mapO, Option.some.injEq] at e
    unfold VRs at q
    subst e q; rfl
  | v :: vs, xs, ks, e, q => by
    simp only [mapO, Option.bind_eq_some_iff, Option.some.injEq] at e
    obtain ⟨k, e1, ks', e2, rfl⟩ := e
    unfold VRs at q
    obtain ⟨y, ys, rfl, q1, q2⟩ := q
    rw [key_vr e1 q1, keys_vrs e2 q2]; rfl
theorem keysT_vr {c : List Addr} {H : Hp} {v : Val} {x : V} {ks : List Key} (e : asKeys v = some ks) (q : VR c H v x) : ∃ b, x = .ref b ∧ H b = some (.tup (ks.map kV)) := by
  cases v <;> simp only [asKeys, reduceCtorEq] at e
  unfold VR at q
  obtain ⟨a, xs, rfl, e1, e2⟩ := q
  rw [keys_vrs e e2] at e1
  exact ⟨a, rfl, e1⟩
/-- what the dict at p holds -/
def dgetO (h : Hh) (p : Nat) (y : Val) : Option (Option Val) := match h[p]? with
  | some (.dK kvs) => (asKey y).map (valP kvs ·)
  | some (.dT kvs) => (asKeys y).map (valP kvs ·)
  | some (.fK kvs) => (asKey y).map (valP kvs ·)
  | some (.fT kvs) => (asKeys y).map (valP kvs ·)
  | _ => none
theorem dget_rr {c : List Addr} {h : Hh} {H : Hp} {p : Nat} {a : Addr} {y : Val} {z : V} {o : Option Val} (k : HR c h H) (e : c[p]? = some a) (q : VR c H y z) (g : dgetO h p y = some o) :
    ∃ o', DGet H a z o' ∧ ((o = none ∧ o' = none) ∨ ∃ v x, o = some v ∧ o' = some x ∧ VR c H v x) := by
  obtain ⟨ob, e1, e2⟩ := k.cell p a e
  unfold dgetO at g
  rw [e1] at g
  cases ob with
  | lst xs => cases g
  | dK kvs =>
    obtain ⟨ys, e3, e4⟩ := e2
    simp only [Option.map_eq_some_iff] at g
    obtain ⟨kk, g1, rfl⟩ := g
    refine ⟨valV ys kk, by rw [key_vr g1 q]; exact DGet.k e3, ?_⟩
    rcases e4.val kk with ⟨a1, a2⟩ | ⟨v, y, a1, a2, a3⟩
    · exact .inl ⟨a1, a2⟩
    · exact .inr ⟨v, y, a1, a2, a3⟩
  | dT kvs =>
    obtain ⟨ys, e3, e4⟩ := e2
    simp only [Option.map_eq_some_iff] at g
    obtain ⟨kk, g1, rfl⟩ := g
    obtain ⟨b, rfl, eb⟩ := keysT_vr g1 q
    refine ⟨valV ys kk, DGet.t e3 eb, ?_⟩
    rcases e4.val kk with ⟨a1, a2⟩ | ⟨v, y, a1, a2, a3⟩
    · exact .inl ⟨a1, a2⟩
    · exact .inr ⟨v, y, a1, a2, a3⟩
  | ins C fs => cases g
  | fK kvs =>
    obtain ⟨ys, ⟨o, e3⟩, e4⟩ := e2
    simp only [Option.map_eq_some_iff] at g
    obtain ⟨kk, g1, rfl⟩ := g
    refine ⟨valV ys kk, by rw [key_vr g1 q]; exact .inl ⟨ys, kk, .inr ⟨o, e3⟩, rfl, rfl⟩, ?_⟩
    rcases e4.val kk with ⟨a1, a2⟩ | ⟨v, y, a1, a2, a3⟩
    · exact .inl ⟨a1, a2⟩
    · exact .inr ⟨v, y, a1, a2, a3⟩
  | fT kvs =>
    obtain ⟨ys, ⟨o, e3⟩, e4⟩ := e2
    simp only [Option.map_eq_some_iff] at g
    obtain ⟨kk, g1, rfl⟩ := g
    obtain ⟨b, rfl, eb⟩ := keysT_vr g1 q
    refine ⟨valV ys kk, .inr ⟨ys, kk, b, .inr ⟨o, e3⟩, rfl, eb, rfl⟩, ?_⟩
    rcases e4.val kk with ⟨a1, a2⟩ | ⟨v, y, a1, a2, a3⟩
    · exact .inl ⟨a1, a2⟩
    · exact .inr ⟨v, y, a1, a2, a3⟩
def isDc (h : Hh) (p : Nat) : Bool := match h[p]? with
  | some (.dK _) => true
  | some (.dT _) => true
  | _ => false
theorem isDc_rr {c : List Addr} {h : Hh} {H : Hp} {p : Nat} {a : Addr} (k : HR c h H) (e : c[p]? = some a) (l : isDc h p = true) : IsD H a := by
  obtain ⟨o, e1, e2⟩ := k.cell p a e
  unfold isDc at l
  rw [e1] at l
  cases o with
  | lst xs => cases l
  | dK kvs => obtain ⟨ys, e3, _⟩ := e2; exact .inl ⟨ys, .inl e3⟩
  | dT kvs => obtain ⟨ys, e3, _⟩ := e2; exact .inr ⟨ys, .inl e3⟩
  | fK kvs => cases l
  | fT kvs => cases l
  | ins C fs => cases l
/-- the plain heap behind d[k] = v -/
def dputO (h : Hh) (p : Nat) (y v : Val) : Option Hh := match h[p]? with
  | some (.dK kvs) => if kvs.length < 1000000 then (asKey y).map fun k => h.set p (.dK (putP kvs k v)) else none
  | some (.dT kvs) => if kvs.length < 1000000 then (asKeys y).map fun k => h.set p (.dT (putP kvs k v)) else none
  | _ => none
/-! ### meanings -/
def fDGet : F2 := fun x y h => match x, y with
  | .v (.ref p), .v y => (dgetO h p y).bind fun o => o.map fun v => (.v v, h)
  | _, _ => none
def fDIn (neg : Bool) : F2 := fun y x h => match x, y with
  | .v (.ref p), .v y => (dgetO h p y).map fun o => (.v (.bl (o.isSome != neg)), h)
  | _, _ => none
def mDGet2 (md mk mx : ME) : ME := fun s h => (md s h).bind fun p => match p.1 with
  | .v (.ref q) => if isDc p.2 q then (mk s p.2).bind fun k => (mx s k.2).bind fun x => match k.1, x.1 with
    | .v y, .v z => (dgetO x.2 q y).map fun o => (.v (o.getD z), x.2)
    | _, _ => none else none
  | _ => none
def sDPutM (md mk mv : ME) : MS := fun s h => (mv s h).bind fun v => (md s v.2).bind fun d => (mk s d.2).bind fun k => match v.1, d.1, k.1 with
  | .v x, .v (.ref q), .v y => (dputO k.2 q y x).map fun h' => (.nx, s, h')
  | _, _, _ => none
def mDNewK : ME := fun _ h => some (.v (.ref h.length), h ++ [.dK []])
def mDNewT : ME := fun _ h => some (.v (.ref h.length), h ++ [.dT []])
def mD1 (mk mv : ME) : ME := fun s h => (mk s h).bind fun k => (mv s k.2).bind fun v => match k.1, v.1 with
  | .v y, .v x => (asKey y).map fun kk => (.v (.ref v.2.length), v.2 ++ [.dK [(kk, x)]])
  | _, _ => none
variable [HasK]
theorem dput_rr {c : List Addr} {h h' : Hh} {H : Hp} {p : Nat} {a : Addr} {y v : Val} {z x : V} (k : HR c h H) (e : c[p]? = some a) (q : VR c H y z) (qv : VR c H v x) (g : dputO h p y v = some h') :
    ∃ H', DPut H a z x H' ∧ HR c h' H' ∧ Ext c c H H' := by
  obtain ⟨ob, e1, e2⟩ := k.cell p a e
  unfold dputO at g
  rw [e1] at g
  cases ob with
  | lst xs => cases g
  | dK kvs =>
    obtain ⟨ys, e3, e4⟩ := e2
    simp only [Option.ite_none_right_eq_some, Option.map_eq_some_iff] at g
    obtain ⟨hl, kk, g1, rfl⟩ := g
    obtain ⟨k2, x2, _⟩ := k.setCellO (u := .dK (putK ys kk x)) (ob := .dK (putP kvs kk v)) e e1 rfl fun tk => ⟨_, upd_same, (PRs.mono tk _ _ e4).put kk (VR.mono tk _ _ qv)⟩
    exact ⟨_, by rw [key_vr g1 q]; exact DPut.k e3 (szlt (by rw [← e4.len]; exact hl)), k2, x2⟩
  | dT kvs =>
    obtain ⟨ys, e3, e4⟩ := e2
    simp only [Option.ite_none_right_eq_some, Option.map_eq_some_iff] at g
    obtain ⟨hl, kk, g1, rfl⟩ := g
    obtain ⟨b, rfl, eb⟩ := keysT_vr g1 q
    obtain ⟨k2, x2, _⟩ := k.setCellO (u := .dT (putK ys kk x)) (ob := .dT (putP kvs kk v)) e e1 rfl fun tk => ⟨_, upd_same, (PRs.mono tk _ _ e4).put kk (VR.mono tk _ _ qv)⟩
    exact ⟨_, DPut.t e3 eb (szlt (by rw [← e4.len]; exact hl)), k2, x2⟩
  | fK kvs => cases g
  | fT kvs => cases g
  | ins C fs => cases g

theorem v_dget : V2 (fun x y H Q => ∃ a v, x = .ref a ∧ DGet H a y (some v) ∧ Q v H) fDGet := by
  intro c h H0 H x y rx ry r' h' Q k qx qy e f
  unfold fDGet at e
  split at e
  · rename_i p y'
    simp only [Option.bind_eq_some_iff, Option.map_eq_some_iff, Prod.mk.injEq] at e
    obtain ⟨o, e1, v, rfl, rfl, rfl⟩ := e
    have qx : VR c H (.ref p) x := qx
    unfold VR at qx
    obtain ⟨a, rfl, e2⟩ := qx
    obtain ⟨o', g, rel⟩ := dget_rr k e2 qy e1
    rcases rel with ⟨z, _⟩ | ⟨v', x, ev, rfl, q⟩
    · cases z
    · cases ev
      exact ⟨a, x, rfl, g, f c H x (Ext.refl c H) k q⟩
  · cases e
theorem v_din : V2 (fun y x H Q => ∃ a o, x = .ref a ∧ DGet H a y o ∧ Q (.bl o.isSome) H) (fDIn false) := by
  intro c h H0 H y x ry rx r' h' Q k qy qx e f
  unfold fDIn at e
  split at e
  · rename_i p y'
    simp only [Option.map_eq_some_iff, Prod.mk.injEq] at e
    obtain ⟨o, e1, rfl, rfl⟩ := e
    have qx : VR c H (.ref p) x := qx
    unfold VR at qx
    obtain ⟨a, rfl, e2⟩ := qx
    obtain ⟨o', g, rel⟩ := dget_rr k e2 qy e1
    refine ⟨a, o', rfl, g, f c H _ (Ext.refl c H) k ?_⟩
    rcases rel with ⟨rfl, rfl⟩ | ⟨v', x, rfl, rfl, q⟩
    · show VR _ _ _ _; unfold VR; rfl
    · show VR _ _ _ _; unfold VR; rfl
  · cases e
theorem v_dnin : V2 (fun y x H Q => ∃ a o, x = .ref a ∧ DGet H a y o ∧ Q (.bl (!o.isSome)) H) (fDIn true) := by
  intro c h H0 H y x ry rx r' h' Q k qy qx e f
  unfold fDIn at e
  split at e
  · rename_i p y'
    simp only [Option.map_eq_some_iff, Prod.mk.injEq] at e
    obtain ⟨o, e1, rfl, rfl⟩ := e
    have qx : VR c H (.ref p) x := qx
    unfold VR at qx
    obtain ⟨a, rfl, e2⟩ := qx
    obtain ⟨o', g, rel⟩ := dget_rr k e2 qy e1
    refine ⟨a, o', rfl, g, f c H _ (Ext.refl c H) k ?_⟩
    rcases rel with ⟨rfl, rfl⟩ | ⟨v', x, rfl, rfl, q⟩
    · show VR _ _ _ _; unfold VR; rfl
    · show VR _ _ _ _; unfold VR; rfl
  · cases e
section
variable {X : Cx} {o i e f' : Expr} {mo mi m mx : ME} {pos tpos apos cpos : Pos}
theorem ulow {n : Nat} (h : n + 65 < cLine) : n + 1 < cLine := by omega
theorem se_dget (hu : X.A.units + 65 < cLine) (ho : SE X o mo) (hi : SE X i mi) (hs : NoSl i := by exact fun _ _ => rfl) : SE X (.Subscript o i pos) (m2 fDGet mo mi) :=
  pe_imp (pe_dget (ulow hu) ho hi hs) fun _ _ _ q => rd_2 (r := fun x y H Q => ∃ a v, x = .ref a ∧ DGet H a y (some v) ∧ Q v H) v_dget q
theorem se_din (hu : X.A.units + 65 < cLine) (hi : SE X i mi) (ho : SE X o mo) (hm : behindInMarks .In o = false := by rfl) : SE X (.Compare i [.In] [o] pos) (m2 (fDIn false) mi mo) :=
  pe_imp (pe_cmp (pc_din (ulow hu) hi ho) hm) fun _ _ _ q => rd_2 (r := fun y x H Q => ∃ a o, x = .ref a ∧ DGet H a y o ∧ Q (.bl o.isSome) H) v_din q
theorem se_dnin (hu : X.A.units + 65 < cLine) (hi : SE X i mi) (ho : SE X o mo) (hm : behindInMarks .NotIn o = false := by rfl) : SE X (.Compare i [.NotIn] [o] pos) (m2 (fDIn true) mi mo) :=
  pe_imp (pe_cmp (pc_dnotin (ulow hu) hi ho) hm) fun _ _ _ q => rd_2 (r := fun y x H Q => ∃ a o, x = .ref a ∧ DGet H a y o ∧ Q (.bl (!o.isSome)) H) v_dnin q
/-- a comparison's truth -/
theorem rd_tb {m : ME} {σ : L2.St} {H : Hp} {Q : Bool → Hp → Prop} (q : rdT (mTst m) σ H Q) : rdE m σ H (fun x H' => ∃ k, x = .bl k ∧ Q k H') := by
  obtain ⟨c, ow, σa, h, b, h', k, e, f⟩ := q
  simp only [mTst, Option.bind_eq_some_iff] at e
  obtain ⟨⟨r1, h1⟩, e1, e2⟩ := e
  dsimp only at e2
  split at e2
  · rename_i b0
    simp only [Option.some.injEq, Prod.mk.injEq] at e2
    obtain ⟨rfl, rfl⟩ := e2
    refine ⟨c, ow, σa, h, _, _, k, e1, fun c' H' x E K R => ?_⟩
    have R : VR c' H' (.bl b0) x := R
    unfold VR at R
    exact ⟨b0, R, f c' H' E K⟩
  · cases e2
theorem st_din (hu : X.A.units + 65 < cLine) (hi : SE X i mi) (ho : SE X o mo) (hm : behindInMarks .In o = false := by rfl) : ST X (.Compare i [.In] [o] pos) (mTst (m2 (fDIn false) mi mo)) :=
  pt_imp (pt_cmp (pc_din (ulow hu) hi ho) hm) fun _ _ _ q => rd_2 (r := fun y x H Q => ∃ a o, x = .ref a ∧ DGet H a y o ∧ Q (.bl o.isSome) H) v_din (rd_tb q)
theorem st_dnin (hu : X.A.units + 65 < cLine) (hi : SE X i mi) (ho : SE X o mo) (hm : behindInMarks .NotIn o = false := by rfl) : ST X (.Compare i [.NotIn] [o] pos) (mTst (m2 (fDIn true) mi mo)) :=
  pt_imp (pt_cmp (pc_dnotin (ulow hu) hi ho) hm) fun _ _ _ q => rd_2 (r := fun y x H Q => ∃ a o, x = .ref a ∧ DGet H a y o ∧ Q (.bl (!o.isSome)) H) v_dnin (rd_tb q)
theorem ref_vr {c : List Addr} {H0 H : Hp} {p : Nat} {x : V} (q : RR c H0 H (.v (.ref p)) x) : ∃ a, x = .ref a ∧ c[p]? = some a := by
  have q : VR c H (.ref p) x := q
  unfold VR at q
  exact q
theorem se_dget2 (hu : X.A.units + 65 < cLine) (ho : SE X o mo) (he : SE X e m) (hf : SE X f' mx) (mm : M2 X o "get" apos e f' cpos := by exact ⟨rfl, rfl, rfl, rfl⟩) : SE X (.Call (.Attribute o "get" apos) [e, f'] [] cpos) (mDGet2 mo m mx) :=
  pe_imp (pe_dget2 (ulow hu) ho he hf mm) fun σ H Q q => by
    obtain ⟨c, ow, σa, h, r, h', k, e, f⟩ := q
    simp only [mDGet2, Option.bind_eq_some_iff] at e
    obtain ⟨⟨r1, h1⟩, e1, e2⟩ := e
    refine ⟨c, ow, σa, h, r1, h1, k, e1, fun c1 H1 x E1 K1 R1 => ?_⟩
    have k1 := k.ext E1 K1
    dsimp only at e2
    split at e2
    · rename_i q
      split at e2
      case isFalse => cases e2
      rename_i hd
      obtain ⟨a, rfl, ea⟩ := ref_vr R1
      refine ⟨a, rfl, isDc_rr K1 ea hd, ?_⟩
      simp only [Option.bind_eq_some_iff] at e2
      obtain ⟨⟨r2, h2⟩, e3, ⟨r3, h3⟩, e4, e5⟩ := e2
      refine ⟨c1, ow, σa, h1, r2, h2, k1, e3, fun c2 H2 y E2 K2 R2 => ?_⟩
      have k2 := k1.ext E2 K2
      refine ⟨c2, ow, σa, h2, r3, h3, k2, e4, fun c3 H3 z E3 K3 R3 => ?_⟩
      dsimp only at e5
      split at e5
      · rename_i yv zv
        simp only [Option.map_eq_some_iff, Prod.mk.injEq] at e5
        obtain ⟨ov, e6, rfl, rfl⟩ := e5
        have R2' : VR c3 H3 yv y := RR.mono E3 K2 R2
        obtain ⟨o', g, rel⟩ := dget_rr K3 (E3.get (E2.get ea)) R2' e6
        refine ⟨o', g, f c3 H3 _ ((E1.trans E2).trans E3) K3 ?_⟩
        rcases rel with ⟨rfl, rfl⟩ | ⟨v', x, rfl, rfl, q⟩
        · exact R3
        · exact q
      · cases e5
    · cases e2
theorem ss_dput (hu : X.A.units + 65 < cLine) (he : SE X e m) (ho : SE X o mo) (hi : SE X i mi) (hs : swapsWith e (some (.Subscript o i tpos)) pos.line X.env = pure false := by rfl) : SS X (.Assign [.Subscript o i tpos] e pos) (sDPutM mo mi m) :=
  ps_imp (ps_dput (ulow hu) ho hi he hs) fun D σ H q => by
    obtain ⟨c, ow, σa, h, fl, σa', h', k, e, f⟩ := q
    simp only [sDPutM, Option.bind_eq_some_iff] at e
    obtain ⟨⟨r1, h1⟩, e1, ⟨r2, h2⟩, e2, ⟨r3, h3⟩, e3, e4⟩ := e
    refine ⟨c, ow, σa, h, r1, h1, k, e1, fun c1 H1 v E1 K1 R1 => ?_⟩
    have k1 := k.ext E1 K1
    refine ⟨c1, ow, σa, h1, r2, h2, k1, e2, fun c2 H2 x E2 K2 R2 => ?_⟩
    have k2 := k1.ext E2 K2
    refine ⟨c2, ow, σa, h2, r3, h3, k2, e3, fun c3 H3 y E3 K3 R3 => ?_⟩
    have k3 := k2.ext E3 K3
    dsimp only at e4
    split at e4
    · rename_i xv q yv
      simp only [Option.map_eq_some_iff, Prod.mk.injEq] at e4
      obtain ⟨hh, e5, rfl, rfl, rfl⟩ := e4
      obtain ⟨a, rfl, ea⟩ := ref_vr R2
      have R1' : VR c3 H3 xv v := RR.mono E3 K2 (RR.mono E2 K1 R1)
      obtain ⟨H4, g, k4, x4⟩ := dput_rr K3 (E3.get ea) R3 R1' e5
      exact ⟨a, H4, rfl, g, f c3 ow σ H4 (((E1.trans E2).trans E3).trans x4).s (k3.ext x4 k4)⟩
    · cases e4
theorem ref_rr {c : List Addr} {H0 H : Hp} {p : Nat} {a : Addr} (e : c[p]? = some a) : RR c H0 H (.v (.ref p)) (.ref a) := by
  show VR c H (.ref p) (.ref a)
  unfold VR
  exact ⟨a, rfl, e⟩
theorem ext_push {c c' : List Addr} {H H' : Hp} {p : Addr} (E : Ext c c' H H') (hp : H p = none) : Ext c (c' ++ [p]) H H' := by
  refine ⟨?_, E.keep, fun b hb hn => ?_, E.dom, E.frz⟩
  · obtain ⟨d, rfl⟩ := E.pre
    exact ⟨d ++ [p], by simp⟩
  · rcases List.mem_append.mp hb with hb | hb
    · exact E.new b hb hn
    · simp only [List.mem_singleton] at hb
      subst hb; exact hp
theorem se_dnewK : SE X (.Dict [] [] pos) mDNewK := pe_imp pe_dnewK fun σ H Q q => by
  obtain ⟨c, ow, σa, h, r, h', k, e, f⟩ := q
  simp only [mDNewK, Option.some.injEq, Prod.mk.injEq] at e
  obtain ⟨rfl, rfl⟩ := e
  intro p hp
  refine f (c ++ [p]) _ (.ref p) (ext_push (Ext.alloc hp) hp) ((k.hr.alloc hp).pushO (ob := .dK []) (k.hr.nin hp) ⟨[], upd_same, rfl⟩) ?_
  exact ref_rr (by rw [k.hr.len]; simp)
theorem se_dnewT : SE X (.Dict [] [] pos) mDNewT := pe_imp pe_dnewT fun σ H Q q => by
  obtain ⟨c, ow, σa, h, r, h', k, e, f⟩ := q
  simp only [mDNewT, Option.some.injEq, Prod.mk.injEq] at e
  obtain ⟨rfl, rfl⟩ := e
  intro p hp
  refine f (c ++ [p]) _ (.ref p) (ext_push (Ext.alloc hp) hp) ((k.hr.alloc hp).pushO (ob := .dT []) (k.hr.nin hp) ⟨[], upd_same, rfl⟩) ?_
  exact ref_rr (by rw [k.hr.len]; simp)
/-- a thing that the plain heap does not know is changed -/
theorem HR.otherO {c : List Addr} {h : Hh} {H : Hp} {D : Addr} {u u' : HO} (k : HR c h H) (hD : H D = some u) (nt : ∀ xs, u ≠ .tup xs) (hn : D ∉ c) : HR c h (upd H D u') ∧ TK c c H (upd H D u') := by
  have tk : TK c c H (upd H D u') := ⟨fun a xs t => by
    rw [upd_ne (fun z => by rw [z, hD] at t; cases t; exact nt _ rfl)]; exact t, fun _ _ q => q⟩
  refine ⟨⟨k.nd, k.len, fun p a e => ?_⟩, tk⟩
  obtain ⟨o, e1, e2⟩ := k.cell p a e
  exact ⟨o, e1, e2.to tk fun u e3 => by rw [upd_ne (fun z => hn (by rw [← z]; exact List.mem_of_getElem? e))]; exact e3⟩
theorem se_d1 (hk : SE X i mi) (hv : SE X e m) : SE X (.Dict [some i] [e] pos) (mD1 mi m) :=
  pe_imp (pe_disp (pps_cons hk hv pps_nil) rfl rfl (by simp) (by simp)) fun σ H Q q => by
    obtain ⟨c, ow, σa, h, r, h', k, e, f⟩ := q
    simp only [mD1, Option.bind_eq_some_iff] at e
    obtain ⟨⟨r1, h1⟩, e1, ⟨r2, h2⟩, e2, e3⟩ := e
    intro p hp
    have E0 : Ext c c H (upd H p (.dK [])) := Ext.alloc hp
    have k0 := k.ext E0 (k.hr.alloc (o := .dK []) hp)
    refine ⟨c, ow, σa, h, r1, h1, k0, e1, fun c1 H1 x E1 K1 R1 => ?_⟩
    have k1 := k0.ext E1 K1
    refine ⟨c1, ow, σa, h1, r2, h2, k1, e2, fun c2 H2 y E2 K2 R2 => ?_⟩
    dsimp only at e3
    split at e3
    · rename_i yv xv
      simp only [Option.map_eq_some_iff, Prod.mk.injEq] at e3
      obtain ⟨kk, e4, rfl, rfl⟩ := e3
      have np : p ∉ c := k.hr.nin hp
      have ep1 : H1 p = some (.dK []) := E1.keep _ _ upd_same np
      have n1 : p ∉ c1 := E1.notin upd_same np
      have ep2 : H2 p = some (.dK []) := E2.keep _ _ ep1 n1
      have n2 : p ∉ c2 := E2.notin ep1 n1
      have R1' : VR c2 H2 yv x := RR.mono E2 K1 R1
      have R2' : VR c2 H2 xv y := R2
      obtain ⟨kf, tk⟩ := K2.otherO (u' := .dK (mergeK [] [(kk, y)])) ep2 (fun _ z => by cases z) n2
      refine ⟨ep2, [(kk, y)], by rw [key_vr e4 R1']; rfl, by simp, ?_⟩
      have kg := kf.pushO (ob := .dK [(kk, xv)]) (a := p) n2 ⟨[(kk, y)], upd_same, y, [], rfl, VR.mono tk _ _ R2', rfl⟩
      have E02 : Ext c c2 (upd H p (.dK [])) H2 := E1.trans E2
      have EF : Ext c c2 H (upd H2 p (.dK (mergeK [] [(kk, y)]))) := by
        refine ⟨E02.pre, fun a o ha na => ?_, fun a ma na => ?_, fun a o ha => ?_, fun a o u ha => ?_⟩
        · have nap : a ≠ p := ne_of_none ha hp
          rw [upd_ne nap]
          exact E02.keep a o (by rw [upd_ne nap]; exact ha) na
        · have := E02.new a ma na
          have nap : a ≠ p := fun z => n2 (by rw [← z]; exact ma)
          rw [upd_ne nap] at this
          exact this
        · have nap : a ≠ p := ne_of_none ha hp
          obtain ⟨o', ho'⟩ := E02.dom a o (by rw [upd_ne nap]; exact ha)
          exact ⟨o', by rw [upd_ne nap]; exact ho'⟩
        · have nap : a ≠ p := ne_of_none ha hp
          rw [upd_ne nap]
          exact E02.frz a o u (by rw [upd_ne nap]; exact ha)
      refine f (c2 ++ [p]) _ (.ref p) (ext_push EF hp) kg ?_
      exact ref_rr (by rw [K2.len]; simp)
    · cases e3

/-! ### x.remove(y), x an own list of plain data -/
def rRemD : V → List V → Hp → VK → Prop := fun x vs H Q => ∃ (l : Addr) (bs : List VP) (y : V) (d : PyData) (j : Nat), x = .ref l ∧ vs = [y] ∧ H l = some (.lst (bs.map (·.1))) ∧ (∀ b ∈ bs, VD H b.1 b.2 ∧ b.2.depth ≤ 40) ∧ (VD H y d ∧ d.depth ≤ 40) ∧ PyData.plainAll (bs.map (·.2)) = true ∧ d.plain = true ∧ dataPlace (bs.map (·.2)) d = some j ∧ Q .non (upd H l (.lst ((bs.map (·.1)).eraseIdx j)))
theorem mt_removeD (hu : X.A.units + 65 < cLine) : MtM X "list.remove" rRemD := by
  intro pins s σ H x vs v us Q I rx rv h
  obtain ⟨l, bs, y, d, j, rfl, rfl, hH, hd, hy, pl, pd', hp, q⟩ := h
  cases rx
  obtain ⟨u, rfl, ru⟩ := rv.one
  obtain ⟨z, its, n, r, hl, e⟩ := I.lstM hH
  obtain ⟨as, ra⟩ := reads_all I.hok (bs := bs) r fun b hb => (hd b hb).1
  obtain ⟨as2, rb⟩ := reads_vd I.hok hy.1 ru
  have dp : PyData.depthAll (bs.map (·.2)) ≤ 40 := depth_all fun d' hd' => by
    obtain ⟨c, hc, rfl⟩ := List.mem_map.mp hd'
    exact (hd c hc).2
  have lz : its.length = (bs.map (·.1)).length := by rw [r.length]
  refine remove_list_data (j := j) (l := l) (vs := its.toArray) (xs := bs.map (·.2)) (d := d) ⟨_, e, rfl, n, rfl⟩ (by simpa using ra) rb pl pd' (by have := Nat.min_le_left (PyData.depthAll (bs.map (·.2))) d.depth; omega) hp (by rw [List.size_toArray]; omega) ?_
  have rr := r.eraseIdx j
  refine ⟨.non, _, I.lset (its' := its.eraseIdx j) (t' := s.toks) hH e ?_ rr ?_, rfl, q⟩
  · show its.toArray.eraseIdxIfInBounds j = (its.eraseIdx j).toArray
    rw [List.eraseIdxIfInBounds_toArray]
  · have z2 := len_erase (bs.map (·.1)) j
    omega
noncomputable def sRem (i : Nat) (m : ME) : MS := fun s h => match s[i]? with
  | some (some (.o xs)) => (m s h).bind fun p => match p.1 with
    | .v y => if (∀ v ∈ y :: xs, Plain v) ∧ PyData.plainAll (xs.map enc) = true ∧ (enc y).plain = true then (dataPlace (xs.map enc) (enc y)).map fun j => (.nx, s.set i (some (.o (xs.eraseIdx j))), p.2) else none
    | _ => none
  | _ => none
theorem VRs.eraseIdx {c : List Addr} {H : Hp} : ∀ {vs : List Val} {xs : List V} (j : Nat), VRs c H vs xs → VRs c H (vs.eraseIdx j) (xs.eraseIdx j)
  | [], xs, j, q => by unfold VRs at q; subst q; exact VRs.nil
  | v :: vs, xs, 0, q => by
    unfold VRs at q
    obtain ⟨y, ys, rfl, _, q2⟩ := q
    exact q2
  | v :: vs, xs, j + 1, q => by
    unfold VRs at q
    obtain ⟨y, ys, rfl, q1, q2⟩ := q
    exact VRs.cons q1 (VRs.eraseIdx j q2)
theorem rd_rem {K : PySem.W.Frag} {i : Nat} {m : ME} {D : Ends} {σ : L2.St} {H : Hp} (q : rdS (sRem i m) D σ H) : tDrop (tBM K "list" rRemD (tVar i) (tCons (rdE m) tNil)) D σ H := by
  obtain ⟨c, ow, σa, h, fl, σa', h', k, e, f⟩ := q
  unfold sRem at e
  split at e
  · rename_i xs e0
    simp only [Option.bind_eq_some_iff] at e
    obtain ⟨⟨r1, h1⟩, e1, e3⟩ := e
    obtain ⟨y, es, a, ys, rfl, e4, e5, e6⟩ := k.sl i _ e0
    refine ⟨_, es, .inl ⟨rfl, ys, .inl (.inl e4)⟩, c, ow, σa, h, r1, h1, k, e1, fun c1 H1 x E1 K1 R1 => ?_⟩
    have k1 := k.ext E1 K1
    have na := (k.oc i a e6).1
    dsimp only at e3
    split at e3
    · rename_i yv
      split at e3
      case isFalse => cases e3
      rename_i cond
      obtain ⟨pl, p1, p2⟩ := cond
      simp only [Option.map_eq_some_iff, Prod.mk.injEq] at e3
      obtain ⟨j, ej, rfl, rfl, rfl⟩ := e3
      have e5' := VRs.mono (E1.tk k.hr) _ _ e5
      obtain ⟨z1, z2, z3⟩ := zip_vr e5'
      generalize xs.zip ys = ts at z1 z2 z3
      have em : (ts.map fun t => ((t.2, enc t.1) : VP)).map (·.1) = ys := by rw [List.map_map]; exact z2
      have ed : (ts.map fun t => ((t.2, enc t.1) : VP)).map (·.2) = xs.map enc := by rw [List.map_map, ← z1, List.map_map]; rfl
      obtain ⟨k2, x2⟩ := k1.setOwn e0 e6 es (VRs.eraseIdx j e5')
      obtain ⟨g1, g2⟩ := vd_of K1 12 yv x (enc yv) (pd_pdat 12 _ _ (enc_some (pl _ (List.mem_cons_self ..)))) R1
      refine ⟨a, ts.map fun t => (t.2, enc t.1), x, enc yv, j, rfl, rfl, by rw [em]; exact E1.keep _ _ e4 na, fun b hb => ?_, ⟨g1, Nat.le_trans g2 (by decide)⟩, by rw [ed]; exact p1, p2, by rw [ed]; exact ej, ?_⟩
      · obtain ⟨t, ht, rfl⟩ := List.mem_map.mp hb
        have mz : t.1 ∈ xs := by rw [← z1]; exact List.mem_map_of_mem ht
        obtain ⟨g1, g2⟩ := vd_of K1 12 t.1 t.2 (enc t.1) (pd_pdat 12 _ _ (enc_some (pl _ (List.mem_cons_of_mem _ mz)))) (z3 t ht)
        exact ⟨g1, Nat.le_trans g2 (by decide)⟩
      · rw [em]
        exact f c1 ow σ _ (E1.s.trans x2) k2
    · cases e3
  · cases e
theorem ss_remove (i : Nat) {x : Str} {p : Pos} (hu : X.A.units + 65 < cLine) (he : SE X e m) (hN : X.N[i]? = some x := by rfl) (hv : Vis X.env.scope x := by first | exact Or.inl rfl | exact Or.inr (Or.inl rfl) | exact Or.inr (Or.inr rfl)) (hd : (x == ("__debug__" : Str)) = false := by decide)
    (hcd : (x == ("__classdict__" : Str)) = false := by decide)
    (hbase : attributeBase (.Name x p) "remove" X.env (eval (.Name x p) X.env) = eval (.Name x p) X.env := by rfl)
    (hfew : ((backTo cpos (starEach [e] X.env)).all (fun x => !x.1) && (backToKw cpos (keywordEach [] X.env)).all (fun x => x.1.isSome) && decide (([e] : List Expr).length + ([] : List Keyword).length + (if ([] : List Keyword).isEmpty then 0 else 1) < 30)) = true := by rfl)
    (hline : (apos.endLine == cpos.line) = true := by rfl) (hs : starEach [e] X.env = (false, eval e X.env) :: starEach [] X.env := by rfl) (hplain : (backTo cpos (starEach [] X.env)).any (·.1) = false := by rfl)
    (hsw : swapsWith (.Call (.Attribute (.Name x p) "remove" apos) [e] [] cpos) none pos.line X.env = pure false := by rfl) :
    SS X (.Expr (.Call (.Attribute (.Name x p) "remove" apos) [e] [] cpos) pos) (sRem i m) :=
  ps_imp (ps_expr (pe_bm PySem.F.plainAttrs_list PySem.F.slot_list_remove PySem.F.type_list_remove (mt_removeD hu) (pe_var hN hv hd hcd) (pa_cons he pa_nil hs) hbase hfew hline hs hplain) hsw) fun _ _ _ => rd_rem
end
end NL
set_option Elab.async false
set_option linter.all false
set_option maxRecDepth 100000
set_option maxHeartbeats 4000000
set_option autoImplicit false
namespace NL
open PySem L2
open Classical
/-! ### ways and fars -/
section
variable (L : List Ln) (SL : List Int)
inductive Way (s : Int) : Int → Int → Prop
  | nil : Way s s 0
  | step {a b d l c : Int} : Way s a d → (b, l, c) ∈ adjL L SL a → Way s b (d + c)
def IsFar (s b d : Int) : Prop := Way L SL s b d ∧ ∀ e, Way L SL s b e → d ≤ e
noncomputable def farOf (s b : Int) : Option Int := if h : ∃ d, IsFar L SL s b d then some h.choose else none
end
section
variable {L : List Ln} {SL : List Int} {n : Nat} {s a b c d e : Int}
def Pos1 (L : List Ln) (SL : List Int) : Prop := ∀ a p, p ∈ adjL L SL a → 1 ≤ p.2.2
theorem Way.nonneg (hc : Pos1 L SL) (w : Way L SL s b d) : 0 ≤ d := by
  induction w with
  | nil => exact Int.le_refl _
  | step w h ih => have := hc _ _ h; dsimp only at this; omega
theorem Way.reach (w : Way L SL s b d) : Reach L SL s b := by
  induction w with
  | nil => exact .refl
  | step w h ih => exact ih.step (adjL_edge h)
theorem Reach.way (r : Reach L SL s b) : ∃ d, Way L SL s b d := by
  induction r with
  | refl => exact ⟨0, .nil⟩
  | step r e ih =>
    obtain ⟨d, w⟩ := ih
    obtain ⟨l, c, h⟩ := edge_adjL e
    exact ⟨d + c, w.step h⟩
theorem IsFar.same (h : IsFar L SL s b d) (k : IsFar L SL s b e) : d = e := by
  have := h.2 e k.1
  have := k.2 d h.1
  omega
theorem far_some (h : IsFar L SL s b d) : farOf L SL s b = some d := by
  have : ∃ d, IsFar L SL s b d := ⟨d, h⟩
  unfold farOf
  rw [dif_pos this]
  exact congrArg some (this.choose_spec.same h)
theorem far_is (h : farOf L SL s b = some d) : IsFar L SL s b d := by
  unfold farOf at h
  split at h
  · rename_i q
    cases h
    exact q.choose_spec
  · cases h
theorem Way.far (hc : Pos1 L SL) (w : Way L SL s b d) : ∃ e, IsFar L SL s b e := by
  have key : ∀ (k : Nat) (d : Int), d.toNat ≤ k → Way L SL s b d → ∃ e, IsFar L SL s b e := by
    intro k
    induction k with
    | zero =>
      intro d hd w
      have h0 := w.nonneg hc
      exact ⟨d, w, fun e we => by have := we.nonneg hc; omega⟩
    | succ k ih =>
      intro d hd w
      by_cases z : ∀ e, Way L SL s b e → d ≤ e
      · exact ⟨d, w, z⟩
      · obtain ⟨e, z⟩ := Classical.not_forall.mp z
        obtain ⟨we, le⟩ := Classical.not_imp.mp z
        have := w.nonneg hc
        exact ih e (by omega) we
  exact key _ d (Nat.le_refl _) w
theorem far_reach (hc : Pos1 L SL) : (∃ d, farOf L SL s b = some d) ↔ Reach L SL s b := by
  constructor
  · rintro ⟨d, h⟩
    exact (far_is h).1.reach
  · intro r
    obtain ⟨d, w⟩ := r.way
    obtain ⟨e, f⟩ := w.far hc
    exact ⟨e, far_some f⟩
theorem far_self (hc : Pos1 L SL) : IsFar L SL s s 0 := ⟨.nil, fun e w => w.nonneg hc⟩
theorem far_zero (hc : Pos1 L SL) (h : IsFar L SL s b 0) : b = s := by
  have w := h.1
  generalize hz : (0 : Int) = z at w
  cases w with
  | nil => rfl
  | step w q =>
    have := w.nonneg hc
    have := hc _ _ q
    dsimp only at this
    omega
/-- the last step of a least way -/
theorem far_pred (hc : Pos1 L SL) (h : IsFar L SL s b d) (ne : b ≠ s) : ∃ a l c e, IsFar L SL s a e ∧ (b, l, c) ∈ adjL L SL a ∧ d = e + c := by
  obtain ⟨w, m⟩ := h
  cases w with
  | nil => exact absurd rfl ne
  | @step a _ d0 l c w q =>
    obtain ⟨e, f⟩ := w.far hc
    have h1 := f.2 _ w
    have h2 := m _ (f.1.step q)
    exact ⟨a, l, c, e, f, q, by omega⟩
/-- how many steps lead there -/
inductive Lev (L : List Ln) (SL : List Int) (s : Int) : Nat → Int → Int → Prop
  | nil : Lev L SL s 0 s 0
  | step {k : Nat} {a b d l c : Int} : Lev L SL s k a d → (b, l, c) ∈ adjL L SL a → IsFar L SL s b (d + c) → Lev L SL s (k + 1) b (d + c)
theorem far_lev (hc : Pos1 L SL) (hE : ∀ a b, Edge L SL a b → 0 ≤ b ∧ b < (n : Int)) (hs : 0 ≤ s ∧ s < (n : Int)) (h : IsFar L SL s b d) : ∃ k, k < n ∧ Lev L SL s k b d := by
  have inb : ∀ {b d}, IsFar L SL s b d → 0 ≤ b ∧ b < (n : Int) := fun {b d} h => h.1.reach.keep (P := fun y => 0 ≤ y ∧ y < (n : Int)) hs fun a b _ e => hE a b e
  have key : ∀ (m : Nat) (b d : Int), d.toNat ≤ m → IsFar L SL s b d → ∃ l : List Int, l.Nodup ∧ (∀ y ∈ l, 0 ≤ y ∧ y < (n : Int)) ∧ (∀ y ∈ l, ∃ e, e ≤ d ∧ IsFar L SL s y e) ∧ ∃ k, l.length = k + 1 ∧ Lev L SL s k b d := by
    intro m
    induction m with
    | zero =>
      intro b d hd h
      have := h.1.nonneg hc
      have z : d = 0 := by omega
      subst z
      have := far_zero hc h
      subst this
      exact ⟨[b], by simp, fun y hy => by simp at hy; subst hy; exact hs, fun y hy => by simp at hy; subst hy; exact ⟨0, Int.le_refl _, h⟩, 0, rfl, .nil⟩
    | succ m ih =>
      intro b d hd h
      by_cases ne : b = s
      · subst ne
        have := (far_self (s := b) hc).same h
        subst this
        exact ⟨[b], by simp, fun y hy => by simp at hy; subst hy; exact hs, fun y hy => by simp at hy; subst hy; exact ⟨0, Int.le_refl _, h⟩, 0, rfl, .nil⟩
      · obtain ⟨a, l, c, e, f, q, rfl⟩ := far_pred hc h ne
        have h1 := hc _ _ q
        dsimp only at h1
        have h0 := f.1.nonneg hc
        obtain ⟨ls, n1, n2, n3, k, lk, lv⟩ := ih a e (by omega) f
        refine ⟨b :: ls, List.nodup_cons.mpr ⟨fun hm => ?_, n1⟩, fun y hy => ?_, fun y hy => ?_, k + 1, by simp [lk], lv.step q h⟩
        · obtain ⟨e', le, fb⟩ := n3 b hm
          have := fb.same h
          omega
        · rcases List.mem_cons.mp hy with rfl | hy
          · exact inb h
          · exact n2 y hy
        · rcases List.mem_cons.mp hy with rfl | hy
          · exact ⟨_, Int.le_refl _, h⟩
          · obtain ⟨e', le, fb⟩ := n3 y hy
            exact ⟨e', by omega, fb⟩
  obtain ⟨l, n1, n2, _, k, lk, lv⟩ := key _ b d (Nat.le_refl _) h
  have := nodup_le (n := n) n1 n2
  exact ⟨k, by omega, lv⟩
theorem Lev.far (hc : Pos1 L SL) {k : Nat} (v : Lev L SL s k b d) : IsFar L SL s b d := by
  cases v with
  | nil => exact far_self hc
  | step _ _ h => exact h
end
/-! ### maps of whole numbers -/
def gI (F : List (Int × Int)) (k : Int) : Option Int := (F.find? fun p => decide (p.1 = k)).map (·.2)
def pI (F : List (Int × Int)) (k v : Int) : List (Int × Int) := if (F.any fun p => decide (p.1 = k)) = true then F.map (fun p => if p.1 = k then (p.1, v) else p) else F ++ [(k, v)]
theorem gI_any (F : List (Int × Int)) (k : Int) : (F.any fun p => decide (p.1 = k)) = (gI F k).isSome := by
  induction F with
  | nil => rfl
  | cons p F ih =>
    by_cases h : p.1 = k
    · simp [gI, h]
    · rw [List.any_cons, ih]
      simp [gI, h]
theorem gI_p (F : List (Int × Int)) (k v j : Int) : gI (pI F k v) j = if j = k then some v else gI F j := by
  unfold pI
  split
  · rename_i h
    have key : ∀ F : List (Int × Int), gI (F.map (fun p => if p.1 = k then (p.1, v) else p)) j = if j = k then (gI F k).map fun _ => v else gI F j := by
      intro F
      induction F with
      | nil => simp [gI]
      | cons p F ih =>
        by_cases hp : p.1 = k
        · by_cases hj : j = k
          · simp [gI, hp, hj]
          · have hkj : ¬ k = j := fun z => hj z.symm
            have e1 : gI ((p :: F).map (fun p => if p.1 = k then (p.1, v) else p)) j = gI (F.map (fun p => if p.1 = k then (p.1, v) else p)) j := by simp [gI, hp, hkj]
            have e2 : gI (p :: F) j = gI F j := by simp [gI, hp, hkj]
            rw [e1, e2, ih]
            simp [hj]
        · by_cases hj : p.1 = j
          · have hjk : ¬ j = k := fun z => hp (by rw [hj, z])
            simp [gI, hp, hj, hjk]
          · have e1 : gI ((p :: F).map (fun p => if p.1 = k then (p.1, v) else p)) j = gI (F.map (fun p => if p.1 = k then (p.1, v) else p)) j := by simp [gI, hp, hj]
            have e2 : gI (p :: F) j = gI F j := by simp [gI, hj]
            have e3 : gI (p :: F) k = gI F k := by simp [gI, hp]
            rw [e1, e2, e3, ih]
    rw [key F]
    rw [gI_any] at h
    obtain ⟨x, ex⟩ := Option.isSome_iff_exists.mp h
    rw [ex]
    rfl
  · rename_i h
    rw [gI_any] at h
    have e0 : gI F k = none := by cases q : gI F k with
      | none => rfl
      | some x => rw [q] at h; exact absurd rfl h
    by_cases hj : j = k
    · subst hj
      have : F.find? (fun p => decide (p.1 = j)) = none := by
        unfold gI at e0
        simpa using e0
      simp [gI, List.find?_append, this]
    · have hkj : ¬ k = j := fun z => hj z.symm
      simp [gI, List.find?_append, hj, hkj]
/-- its keys: each once, all below n -/
def Ky (n : Nat) (F : List (Int × Int)) : Prop := (F.map (·.1)).Nodup ∧ ∀ k ∈ F.map (·.1), 0 ≤ k ∧ k < (n : Int)
theorem Ky.len {n : Nat} {F : List (Int × Int)} (h : Ky n F) : F.length ≤ n := by
  have := nodup_le (n := n) h.1 h.2
  rwa [List.length_map] at this
theorem Ky.put {n : Nat} {F : List (Int × Int)} {k v : Int} (h : Ky n F) (hk : 0 ≤ k ∧ k < (n : Int)) : Ky n (pI F k v) := by
  unfold pI
  split
  · have e : (F.map (fun p => if p.1 = k then (p.1, v) else p)).map (·.1) = F.map (·.1) := by
      rw [List.map_map]
      refine List.map_congr_left fun p _ => ?_
      simp only [Function.comp]
      split <;> rfl
    unfold Ky
    rw [e]
    exact h
  · rename_i q
    unfold Ky
    rw [List.map_append]
    refine ⟨List.nodup_append.mpr ⟨h.1, by simp, fun x hx y hy e => ?_⟩, fun x hx => ?_⟩
    · simp at hy
      subst hy e
      obtain ⟨p, hp, e⟩ := List.mem_map.mp hx
      exact q (List.any_eq_true.mpr ⟨p, hp, by simp [e]⟩)
    · rcases List.mem_append.mp hx with hx | hx
      · exact h.2 x hx
      · simp at hx
        subst hx
        exact hk
theorem gI_mem {F : List (Int × Int)} {k v : Int} (h : gI F k = some v) : (k, v) ∈ F := by
  unfold gI at h
  obtain ⟨p, e, rfl⟩ := Option.map_eq_some_iff.mp h
  have := List.find?_some e
  simp at this
  subst this
  exact List.mem_of_find?_eq_some e
theorem gI_none_p {F : List (Int × Int)} {k v : Int} (h : gI F k = none) : pI F k v = F ++ [(k, v)] := by
  unfold pI
  rw [gI_any, h, if_neg (by decide)]
/-! ### the nearest first -/
structure Dj (L : List Ln) (SL : List Int) (s : Int) (F : List (Int × Int)) (W : List (Int × Int)) : Prop where
  far : ∀ h d, gI F h = some d → IsFar L SL s h d
  way : ∀ p ∈ W, Way L SL s p.2 p.1
  rim : ∀ h d b l c, gI F h = some d → (b, l, c) ∈ adjL L SL h → (∃ e, gI F b = some e) ∨ (d + c, b) ∈ W
  org : (∃ e, gI F s = some e) ∨ ((0 : Int), s) ∈ W
section
variable {L : List Ln} {SL : List Int} {n : Nat} {s : Int} {F W : List (Int × Int)}
theorem Dj.start : Dj L SL s [] [(0, s)] := ⟨fun h d e => by simp [gI] at e, fun p hp => by simp at hp; subst hp; exact .nil, fun h d b l c e => by simp [gI] at e, .inr (by simp)⟩
theorem Dj.out (hc : Pos1 L SL) (q : Dj L SL s F W) {b e : Int} (w : Way L SL s b e) : (∃ d, gI F b = some d) ∨ ∃ p ∈ W, p.1 ≤ e := by
  induction w with
  | nil =>
    rcases q.org with h | h
    · exact .inl h
    · exact .inr ⟨_, h, Int.le_refl _⟩
  | @step a b d l c w h ih =>
    have h1 := hc _ _ h
    dsimp only at h1
    rcases ih with ⟨x, hx⟩ | ⟨p, hp, le⟩
    · have le := (q.far a x hx).2 d w
      rcases q.rim a x b l c hx h with h2 | h2
      · exact .inl h2
      · exact .inr ⟨_, h2, by show x + c ≤ d + c; omega⟩
    · exact .inr ⟨p, hp, by omega⟩
/-- one that is known already -/
theorem Dj.skip (q : Dj L SL s F W) {p : Int × Int} {W' : List (Int × Int)} (hW : ∀ x ∈ W, x = p ∨ x ∈ W') (hW' : ∀ x ∈ W', x ∈ W) {e : Int} (hp : gI F p.2 = some e) : Dj L SL s F W' := by
  refine ⟨q.far, fun x hx => q.way x (hW' x hx), fun h d b l c e1 h1 => ?_, ?_⟩
  · rcases q.rim h d b l c e1 h1 with z | z
    · exact .inl z
    · rcases hW _ z with z | z
      · exact .inl ⟨e, by rw [← hp, ← z]⟩
      · exact .inr z
  · rcases q.org with z | z
    · exact .inl z
    · rcases hW _ z with z | z
      · exact .inl ⟨e, by rw [← hp, ← z]⟩
      · exact .inr z
/-- a new one -/
theorem Dj.more (hc : Pos1 L SL) (q : Dj L SL s F W) {p : Int × Int} {W' : List (Int × Int)} (hp : p ∈ W) (hmin : ∀ x ∈ W, p.1 ≤ x.1) (hW : ∀ x ∈ W, x = p ∨ x ∈ W') (hW' : ∀ x ∈ W', x ∈ W) (hn : gI F p.2 = none) : Dj L SL s (pI F p.2 p.1) (W' ++ (adjL L SL p.2).map fun t => (p.1 + t.2.2, t.1)) := by
  have fr : IsFar L SL s p.2 p.1 := ⟨q.way p hp, fun e w => by
    rcases q.out hc w with ⟨d, z⟩ | ⟨x, hx, le⟩
    · rw [hn] at z; cases z
    · have := hmin x hx; omega⟩
  have me : ∀ {x : Int × Int}, x ∈ W → (∃ e, gI (pI F p.2 p.1) x.2 = some e) ∨ x ∈ W' := fun {x} hx => by
    rcases hW x hx with z | z
    · exact .inl ⟨p.1, by rw [gI_p, z, if_pos rfl]⟩
    · exact .inr z
  have up : ∀ {k e : Int}, gI F k = some e → ∃ e, gI (pI F p.2 p.1) k = some e := fun {k e} h => by
    rw [gI_p]
    split
    · exact ⟨_, rfl⟩
    · exact ⟨e, h⟩
  refine ⟨fun h d e => ?_, fun x hx => ?_, fun h d b l c e1 h1 => ?_, ?_⟩
  · rw [gI_p] at e
    split at e
    · cases e
      rename_i z
      rw [z]
      exact fr
    · exact q.far h d e
  · rcases List.mem_append.mp hx with hx | hx
    · exact q.way x (hW' x hx)
    · obtain ⟨t, ht, rfl⟩ := List.mem_map.mp hx
      exact (q.way p hp).step (l := t.2.1) ht
  · rw [gI_p] at e1
    split at e1
    · rename_i z
      cases e1
      subst z
      exact .inr (List.mem_append_right _ (List.mem_map.mpr ⟨(b, l, c), h1, rfl⟩))
    · rcases q.rim h d b l c e1 h1 with ⟨e, z⟩ | z
      · exact .inl (up z)
      · rcases me z with z | z
        · exact .inl z
        · exact .inr (List.mem_append_left _ z)
  · rcases q.org with ⟨e, z⟩ | z
    · exact .inl (up z)
    · rcases me z with z | z
      · exact .inl z
      · exact .inr (List.mem_append_left _ z)
theorem Dj.done (hc : Pos1 L SL) (q : Dj L SL s F []) (b : Int) : gI F b = farOf L SL s b := by
  cases e : gI F b with
  | some d => rw [far_some (q.far b d e)]
  | none =>
    cases z : farOf L SL s b with
    | none => rfl
    | some d =>
      rcases q.out hc (far_is z).1 with ⟨x, hx⟩ | ⟨p, hp, _⟩
      · rw [e] at hx; cases hx
      · simp at hp
end
/-! ### again and again over all lines -/
/-- from a to b at cost c -/
def rlx (F : List (Int × Int)) (a b c : Int) : List (Int × Int) := match gI F a with
  | some x => pI F b (if x + c < (gI F b).getD (x + c) then x + c else (gI F b).getD (x + c))
  | none => F
def rlxAt (L : List Ln) (F : List (Int × Int)) (l : Int) : List (Int × Int) := match L[l.toNat]? with
  | some x => rlx (rlx F x.one x.other x.cost) x.other x.one x.cost
  | none => F
def rlxP (L : List Ln) (SL : List Int) (F : List (Int × Int)) : List (Int × Int) := SL.foldl (rlxAt L) F
structure Bf (L : List Ln) (SL : List Int) (s : Int) (t : Nat) (F : List (Int × Int)) : Prop where
  way : ∀ h d, gI F h = some d → Way L SL s h d
  lev : ∀ k h d, k ≤ t → Lev L SL s k h d → gI F h = some d
section
variable {L : List Ln} {SL : List Int} {n : Nat} {s : Int} {F : List (Int × Int)} {t : Nat}
theorem Bf.start (hc : Pos1 L SL) : Bf L SL s 0 [(s, 0)] := by
  refine ⟨fun h d e => ?_, fun k h d hk v => ?_⟩
  · unfold gI at e
    by_cases z : s = h
    · subst z
      simp at e
      subst e
      exact .nil
    · simp [z] at e
  · obtain rfl : k = 0 := by omega
    cases v
    simp [gI]
theorem rlx_get {a b c x : Int} (e : gI F a = some x) (j : Int) : gI (rlx F a b c) j = if j = b then some (if x + c < (gI F b).getD (x + c) then x + c else (gI F b).getD (x + c)) else gI F j := by
  unfold rlx
  rw [e]
  exact gI_p F b _ j
/-- what is told stays least -/
theorem Bf.rlx (hc : Pos1 L SL) (q : Bf L SL s t F) {a b l c : Int} (h : (b, l, c) ∈ adjL L SL a) : Bf L SL s t (rlx F a b c) ∧ ∀ d, gI F a = some d → IsFar L SL s b (d + c) → gI (NL.rlx F a b c) b = some (d + c) := by
  cases e : gI F a with
  | none =>
    have z : NL.rlx F a b c = F := by unfold NL.rlx; rw [e]
    rw [z]
    exact ⟨q, fun d hd => by cases hd⟩
  | some x =>
    have wb : ∀ y, gI (NL.rlx F a b c) b = some y → Way L SL s b y := fun y hy => by
      rw [rlx_get e, if_pos rfl] at hy
      cases hy
      have w1 : Way L SL s b (x + c) := (q.way a x e).step h
      split
      · exact w1
      · cases z : gI F b with
        | none => exact w1
        | some y => exact q.way b y z
    have lo : ∀ y, gI F b = some y → ∃ y', gI (NL.rlx F a b c) b = some y' ∧ y' ≤ y := fun y hy => by
      rw [rlx_get e, if_pos rfl, hy]
      refine ⟨_, rfl, ?_⟩
      simp only [Option.getD_some]
      split <;> omega
    refine ⟨⟨fun hh d hd => ?_, fun k hh d hk v => ?_⟩, fun d hd f => ?_⟩
    · by_cases z : hh = b
      · subst z; exact wb d hd
      · rw [rlx_get e, if_neg z] at hd; exact q.way hh d hd
    · have g := q.lev k hh d hk v
      by_cases z : hh = b
      · subst z
        obtain ⟨y', e1, le⟩ := lo d g
        have := (v.far hc).2 y' (wb y' e1)
        rw [e1]
        exact congrArg some (by omega)
      · rw [rlx_get e, if_neg z]; exact g
    · cases hd
      have e1 := rlx_get (b := b) (c := c) e b
      rw [if_pos rfl] at e1
      have := f.2 _ (wb _ e1)
      rw [e1]
      refine congrArg some ?_
      split at this
      · rename_i z; rw [if_pos z]
      · rename_i z; rw [if_neg z]; omega
theorem adj_of {l : Int} {x : Ln} (hl : l ∈ SL) (ex : L[l.toNat]? = some x) (lt : x.one < x.other) : (x.other, l, x.cost) ∈ adjL L SL x.one ∧ (x.one, l, x.cost) ∈ adjL L SL x.other := by
  constructor
  · refine List.mem_flatMap.mpr ⟨l, hl, ?_⟩
    rw [ex]
    dsimp only
    rw [if_pos rfl]; simp
  · refine List.mem_flatMap.mpr ⟨l, hl, ?_⟩
    rw [ex]
    dsimp only
    rw [if_neg (by omega), if_pos rfl]; simp
theorem Bf.at (hc : Pos1 L SL) (lt : ∀ x ∈ L, x.one < x.other) (q : Bf L SL s t F) {l : Int} (hl : l ∈ SL) : Bf L SL s t (rlxAt L F l) := by
  unfold rlxAt
  split
  · rename_i x ex
    obtain ⟨h1, h2⟩ := adj_of hl ex (lt x (List.mem_of_getElem? ex))
    exact ((q.rlx hc h1).1.rlx hc h2).1
  · exact q
/-- the line l is gone by: what its step tells -/
def Hit (L : List Ln) (SL : List Int) (s : Int) (t : Nat) (F : List (Int × Int)) (l : Int) : Prop := ∀ a b c d, (b, l, c) ∈ adjL L SL a → Lev L SL s t a d → IsFar L SL s b (d + c) → gI F b = some (d + c)
theorem far_keep (hc : Pos1 L SL) (q : Bf L SL s t F) {a b l c h d : Int} (hh : (b, l, c) ∈ adjL L SL a) (f : IsFar L SL s h d) (g : gI F h = some d) : gI (rlx F a b c) h = some d := by
  cases e : gI F a with
  | none =>
    have z : NL.rlx F a b c = F := by unfold NL.rlx; rw [e]
    rw [z]; exact g
  | some x =>
    by_cases z : h = b
    · subst z
      have q2 := (q.rlx hc hh).1
      have e1 := rlx_get (b := h) (c := c) e h
      rw [if_pos rfl, g] at e1
      simp only [Option.getD_some] at e1
      have := f.2 _ (q2.way h _ e1)
      rw [e1]
      refine congrArg some ?_
      split at this
      · rename_i z; rw [if_pos z]; omega
      · rename_i z; rw [if_neg z]
    · rw [rlx_get e, if_neg z]; exact g
theorem keep_at (hc : Pos1 L SL) (lt : ∀ x ∈ L, x.one < x.other) (q : Bf L SL s t F) {l h d : Int} (hl : l ∈ SL) (f : IsFar L SL s h d) (g : gI F h = some d) : gI (rlxAt L F l) h = some d := by
  unfold rlxAt
  split
  · rename_i x ex
    obtain ⟨h1, h2⟩ := adj_of hl ex (lt x (List.mem_of_getElem? ex))
    exact far_keep hc (q.rlx hc h1).1 h2 f (far_keep hc q h1 f g)
  · exact g
theorem hit_at (hc : Pos1 L SL) (lt : ∀ x ∈ L, x.one < x.other) (q : Bf L SL s t F) {l : Int} (hl : l ∈ SL) : Hit L SL s t (rlxAt L F l) l := by
  intro a b c d hm v f
  obtain ⟨l', hl', hm⟩ := List.mem_flatMap.mp hm
  have ga := q.lev t a d (Nat.le_refl _) v
  split at hm
  · rename_i x ex
    have ltx := lt x (List.mem_of_getElem? ex)
    split at hm
    · rename_i e1
      simp only [List.mem_singleton, Prod.mk.injEq] at hm
      obtain ⟨rfl, rfl, rfl⟩ := hm
      obtain ⟨h1, h2⟩ := adj_of hl ex ltx
      unfold rlxAt
      rw [ex]
      dsimp only
      rw [e1] at h1 ⊢
      exact far_keep hc (q.rlx hc h1).1 (by rw [← e1]; exact h2) f ((q.rlx hc h1).2 d ga f)
    · split at hm
      · rename_i e1
        simp only [List.mem_singleton, Prod.mk.injEq] at hm
        obtain ⟨rfl, rfl, rfl⟩ := hm
        obtain ⟨h1, h2⟩ := adj_of hl ex ltx
        unfold rlxAt
        rw [ex]
        dsimp only
        rw [e1] at h2 ⊢
        have q2 := (q.rlx hc h1).1
        rw [e1] at q2 h1
        exact (q2.rlx hc h2).2 d (far_keep hc q h1 (v.far hc) ga) f
      · simp at hm
  · simp at hm
theorem Bf.pass (hc : Pos1 L SL) (lt : ∀ x ∈ L, x.one < x.other) : ∀ (R : List Int) (F : List (Int × Int)), (∀ l ∈ R, l ∈ SL) → Bf L SL s t F → Bf L SL s t (rlxP L R F) ∧ (∀ h d, IsFar L SL s h d → gI F h = some d → gI (rlxP L R F) h = some d) ∧ ∀ l ∈ R, Hit L SL s t (rlxP L R F) l
  | [], F, _, q => ⟨q, fun _ _ _ g => g, fun l hl => by simp at hl⟩
  | l :: R, F, hR, q => by
    have hl := hR l (List.mem_cons_self ..)
    obtain ⟨h1, h2, h3⟩ := Bf.pass hc lt R (rlxAt L F l) (fun k hk => hR k (List.mem_cons_of_mem _ hk)) (q.at hc lt hl)
    refine ⟨h1, fun h d f g => h2 h d f (keep_at hc lt q hl f g), fun k hk => ?_⟩
    rcases List.mem_cons.mp hk with rfl | hk
    · intro a b c d hm v f
      exact h2 b (d + c) f (hit_at hc lt q hl a b c d hm v f)
    · exact h3 k hk
theorem adj_line {a b l c : Int} (h : (b, l, c) ∈ adjL L SL a) : l ∈ SL := by
  obtain ⟨l', hl, h⟩ := List.mem_flatMap.mp h
  split at h
  · split at h
    · simp only [List.mem_singleton, Prod.mk.injEq] at h
      rw [h.2.1]; exact hl
    · split at h
      · simp only [List.mem_singleton, Prod.mk.injEq] at h
        rw [h.2.1]; exact hl
      · simp at h
  · simp at h
theorem Bf.turn (hc : Pos1 L SL) (lt : ∀ x ∈ L, x.one < x.other) (q : Bf L SL s t F) : Bf L SL s (t + 1) (rlxP L SL F) := by
  obtain ⟨h1, h2, h3⟩ := Bf.pass hc lt SL F (fun _ h => h) q
  refine ⟨h1.way, fun k h d hk v => ?_⟩
  rcases Nat.lt_or_ge t k with z | z
  · obtain rfl : k = t + 1 := by omega
    cases v with
    | step v hm f => exact h3 _ (adj_line hm) _ _ _ _ hm v f
  · exact h1.lev k h d z v
theorem Bf.done (hc : Pos1 L SL) (hE : ∀ a b, Edge L SL a b → 0 ≤ b ∧ b < (n : Int)) (hs : 0 ≤ s ∧ s < (n : Int)) (q : Bf L SL s n F) (b : Int) : gI F b = farOf L SL s b := by
  cases z : farOf L SL s b with
  | some d =>
    obtain ⟨k, hk, v⟩ := far_lev hc hE hs (far_is z)
    exact q.lev k b d (by omega) v
  | none =>
    cases e : gI F b with
    | none => rfl
    | some d =>
      obtain ⟨d', e'⟩ := (far_reach hc).mpr (q.way b d e).reach
      rw [z] at e'; cases e'
theorem rlx_ky {a b c : Int} (k : Ky n F) (hb : 0 ≤ b ∧ b < (n : Int)) : Ky n (rlx F a b c) := by
  unfold rlx
  split
  · exact k.put hb
  · exact k
end
end NL
set_option Elab.async false
set_option linter.all false
set_option maxRecDepth 100000
set_option maxHeartbeats 4000000
set_option autoImplicit false
namespace NL
open PySem L2 PySem.W
/-! ### four numbers, by their order -/
structure Q4 where
  a : Int
  b : Int
  c : Int
  d : Int
  deriving DecidableEq
def Q4.v (q : Q4) : Val := .tup [.int q.a, .int q.b, .int q.c, .int q.d]
def lt4 (x y : Q4) : Bool := decide (x.a < y.a ∨ (x.a = y.a ∧ (x.b < y.b ∨ (x.b = y.b ∧ (x.c < y.c ∨ (x.c = y.c ∧ x.d < y.d))))))
theorem Q4.plain (q : Q4) : pd 12 q.v = some (.tuple ([q.a, q.b, q.c, q.d].map .int)) := rfl
theorem Q4.enc (q : Q4) : NL.enc q.v = .tuple ([q.a, q.b, q.c, q.d].map .int) := rfl
theorem lt4_data (x y : Q4) : dataLt (NL.enc x.v) (NL.enc y.v) = lt4 x y := by
  rw [Q4.enc, Q4.enc]
  have e : dataLt (.tuple ([x.a, x.b, x.c, x.d].map .int)) (.tuple ([y.a, y.b, y.c, y.d].map .int)) = rowLt ([x.a, x.b, x.c, x.d].map .int) ([y.a, y.b, y.c, y.d].map .int) := rfl
  rw [e, dataLt_ints]
  unfold lt4
  rw [Bool.eq_iff_iff]
  simp only [decide_eq_true_eq, List.cons_lt_cons_iff, List.not_lt_nil, and_false, or_false]
theorem alike_q4 (x y : Q4) : alike (NL.enc x.v) (NL.enc y.v) = true := by
  rw [Q4.enc, Q4.enc]
  have := alike_ints [x.a, x.b, x.c, x.d] [y.a, y.b, y.c, y.d]
  simpa [alike] using this
def least (x : Q4) (xs : List Q4) : Q4 := xs.foldl (fun a y => if lt4 y a = true then y else a) x
theorem minV_q4 (x : Q4) : ∀ (xs : List Q4), minV x.v (xs.map Q4.v) = (least x xs).v := by
  intro xs
  unfold minV least
  induction xs generalizing x with
  | nil => rfl
  | cons y ys ih =>
    rw [List.map_cons, List.foldl_cons, List.foldl_cons, ← ih, lt4_data]
    congr 1
    split <;> rfl
theorem least_ok (x : Q4) : ∀ (xs : List Q4), least x xs ∈ x :: xs ∧ ∀ y ∈ x :: xs, lt4 y (least x xs) = false := by
  intro xs
  unfold least
  induction xs generalizing x with
  | nil =>
    refine ⟨List.mem_cons_self .., fun y hy => ?_⟩
    simp only [List.mem_singleton] at hy
    subst hy
    simp [lt4]
  | cons y ys ih =>
    rw [List.foldl_cons]
    obtain ⟨h1, h2⟩ := ih (if lt4 y x = true then y else x)
    generalize (ys.foldl (fun a y => if lt4 y a = true then y else a) (if lt4 y x = true then y else x)) = r at h1 h2
    have hx : lt4 x r = false ∧ lt4 y r = false := by
      have h3 := h2 _ (List.mem_cons_self ..)
      by_cases c : lt4 y x = true
      · rw [if_pos c] at h3
        refine ⟨?_, h3⟩
        unfold lt4 at *
        simp only [decide_eq_true_eq, decide_eq_false_iff_not] at *
        omega
      · rw [if_neg c] at h3
        refine ⟨h3, ?_⟩
        unfold lt4 at *
        simp only [decide_eq_true_eq, decide_eq_false_iff_not] at *
        omega
    refine ⟨?_, fun z hz => ?_⟩
    · rcases List.mem_cons.mp h1 with e | h1
      · rw [e]; split <;> simp
      · exact List.mem_cons_of_mem _ (List.mem_cons_of_mem _ h1)
    · rcases List.mem_cons.mp hz with rfl | hz
      · exact hx.1
      · rcases List.mem_cons.mp hz with rfl | hz
        · exact hx.2
        · exact h2 z (List.mem_cons_of_mem _ hz)
theorem q4_same {x y : Q4} (h1 : lt4 x y = false) (h2 : lt4 y x = false) : x = y := by
  obtain ⟨a, b, c, d⟩ := x
  obtain ⟨a', b', c', d'⟩ := y
  unfold lt4 at h1 h2
  simp only [decide_eq_false_iff_not] at h1 h2
  have : a = a' ∧ b = b' ∧ c = c' ∧ d = d' := by omega
  obtain ⟨rfl, rfl, rfl, rfl⟩ := this
  rfl
theorem sort_q4 (x : Q4) (xs : List Q4) : ∃ r, sortVs ((x :: xs).map Q4.v) = (least x xs).v :: r := by
  have e : sortVs ((x :: xs).map Q4.v) = ((x :: xs).mergeSort (fun a b => !lt4 b a)).map Q4.v := by
    unfold sortVs
    rw [← List.map_mergeSort (r := fun a b => !lt4 b a) (s := dataLe false NL.enc) (f := Q4.v) fun a _ b _ => by
      rw [dataLe_eq]
      show (!lt4 b a) = !dataLt (NL.enc b.v) (NL.enc a.v)
      rw [lt4_data]]
  have pm := List.mergeSort_perm (x :: xs) (fun a b => !lt4 b a)
  have pw : ((x :: xs).mergeSort (fun a b => !lt4 b a)).Pairwise (fun a b => (!lt4 b a) = true) := List.pairwise_mergeSort (fun a b c h1 h2 => by
      simp only [lt4, Bool.not_eq_true', decide_eq_false_iff_not] at *
      omega) (fun a b => by
      simp only [lt4, Bool.or_eq_true, Bool.not_eq_true', decide_eq_false_iff_not]
      omega) _
  rw [e]
  cases hm : (x :: xs).mergeSort (fun a b => !lt4 b a) with
  | nil =>
    have := pm.length_eq
    rw [hm] at this
    simp at this
  | cons h0 r =>
    rw [hm] at pm pw
    refine ⟨r.map Q4.v, ?_⟩
    rw [List.map_cons]
    congr 1
    congr 1
    obtain ⟨l1, l2⟩ := least_ok x xs
    refine q4_same (l2 h0 (pm.mem_iff.mp (List.mem_cons_self ..))) ?_
    rcases List.mem_cons.mp (pm.mem_iff.mpr l1) with e | e
    · rw [e]; simp [lt4]
    · have := (List.pairwise_cons.mp pw).1 _ e
      simpa using this
/-! ### coming to rest -/
def le2 (x y : Int × Int) : Prop := x.1 < y.1 ∨ (x.1 = y.1 ∧ x.2 ≤ y.2)
def plus2 (x : Int × Int) (c : Int) : Int × Int := (x.1, x.2 + c)
theorem settle {n : Nat} {W : Int → Prop} {E : Int → Int → Int → Prop} {P : Nat → Int → Int × Int} (hn : 1 ≤ n) (hW : ∀ x, W x → 0 ≤ x ∧ x < (n : Int)) (hE : ∀ h x c, W h → E h x c → W x ∧ 1 ≤ c)
    (h0 : ∀ h, W h → P 0 h = (h, 0)) (hA : ∀ k h, W h → le2 (P (k + 1) h) (h, 0)) (hB : ∀ k h x c, W h → E h x c → le2 (P (k + 1) h) (plus2 (P k x) c)) (hC : ∀ k h, W h → P (k + 1) h = (h, 0) ∨ ∃ x c, E h x c ∧ P (k + 1) h = plus2 (P k x) c) :
    ∀ h, W h → P n h = P (n - 1) h := by
  have le_trans : ∀ {x y z : Int × Int}, le2 x y → le2 y z → le2 x z := fun {x y z} a b => by unfold le2 at *; omega
  have le_refl : ∀ {x : Int × Int}, le2 x x := fun {x} => by unfold le2; omega
  have le_anti : ∀ {x y : Int × Int}, le2 x y → le2 y x → x = y := fun {x y} a b => by
    unfold le2 at *
    exact Prod.ext (by omega) (by omega)
  have le0 : ∀ k h, W h → le2 (P k h) (h, 0) := fun k h w => by
    cases k with
    | zero => rw [h0 h w]; exact le_refl
    | succ k => exact hA k h w
  have mono1 : ∀ k h, W h → le2 (P (k + 1) h) (P k h) := by
    intro k
    induction k with
    | zero => intro h w; rw [h0 h w]; exact hA 0 h w
    | succ k ih =>
      intro h w
      rcases hC k h w with e | ⟨x, c, ex, e⟩
      · rw [e]; exact hA (k + 1) h w
      · rw [e]
        refine le_trans (hB (k + 1) h x c w ex) ?_
        have := ih x (hE h x c w ex).1
        unfold le2 plus2 at *
        simp only
        omega
  have mono : ∀ j k h, W h → j ≤ k → le2 (P k h) (P j h) := by
    intro j k h w hjk
    induction hjk with
    | refl => exact le_refl
    | step _ ih => exact le_trans (mono1 _ h w) ih
  have chain : ∀ t h, W h → (t = 0 ∨ P t h ≠ P (t - 1) h) → ∃ l : List Int, l.length = t + 1 ∧ l.Nodup ∧ (∀ y ∈ l, W y) ∧ ∀ y ∈ l, ∃ s, s ≤ t ∧ le2 (P s y) (P t h) := by
    intro t
    induction t with
    | zero => intro h w _; exact ⟨[h], rfl, by simp, fun y hy => by simp at hy; subst hy; exact w, fun y hy => by simp at hy; subst hy; exact ⟨0, Nat.le_refl _, le_refl⟩⟩
    | succ t ih =>
      intro h w hne
      have hne : P (t + 1) h ≠ P t h := by
        rcases hne with z | z
        · omega
        · exact z
      rcases hC t h w with e | ⟨x, c, ex, e⟩
      · exact absurd (le_anti (mono1 t h w) (by rw [e]; exact le0 t h w)) hne
      · obtain ⟨wx, c1⟩ := hE h x c w ex
        have hx : t = 0 ∨ P t x ≠ P (t - 1) x := by
          cases t with
          | zero => exact .inl rfl
          | succ t =>
            refine .inr fun z => hne ?_
            refine le_anti (mono1 _ h w) ?_
            rw [e, z]
            exact hB t h x c w ex
        obtain ⟨l, l1, l2, l3, l4⟩ := ih x wx hx
        have nh : h ∉ l := fun hm => by
          obtain ⟨s, hs, hl⟩ := l4 h hm
          have h1 := mono s (t + 1) h w (by omega)
          rw [e] at h1
          unfold le2 plus2 at *
          simp only at h1
          omega
        refine ⟨h :: l, by simp [l1], List.nodup_cons.mpr ⟨nh, l2⟩, fun y hy => ?_, fun y hy => ?_⟩
        · rcases List.mem_cons.mp hy with rfl | hy
          · exact w
          · exact l3 y hy
        · rcases List.mem_cons.mp hy with rfl | hy
          · exact ⟨t + 1, Nat.le_refl _, le_refl⟩
          · obtain ⟨s, hs, hl⟩ := l4 y hy
            refine ⟨s, by omega, ?_⟩
            rw [e]
            unfold le2 plus2 at *
            simp only
            omega
  intro h w
  apply Classical.byContradiction
  intro hne
  obtain ⟨l, l1, l2, l3, _⟩ := chain n h w (.inr hne)
  have := nodup_le (n := n) l2 fun x hx => hW x (l3 x hx)
  omega
end NL
set_option Elab.async false
set_option linter.all false
set_option maxRecDepth 100000
set_option maxHeartbeats 4000000
set_option autoImplicit false
namespace NL
open PySem L2 PySem.W
/-! ### rows of tellings -/
abbrev T3 := Int × Int × Int
abbrev Row := List (Option T3)
def rvO : Option T3 → Val
  | none => .non
  | some t => .tup [.int t.1, .int t.2.1, .int t.2.2]
def ch (row : Row) (p : Int × Int × Int) : Q4 := match row[p.1.toNat]? with
  | some (some t) => ⟨t.1, t.2.1 + p.2.2, p.1, p.2.1⟩
  | _ => ⟨0, 0, 0, 0⟩
def own4 (h : Int) : Q4 := ⟨h, 0, -1, -1⟩
def best (L : List Ln) (SL : List Int) (row : Row) (h : Int) : Q4 := least (own4 h) ((adjL L SL h).map (ch row))
def toldT (L : List Ln) (SL : List Int) (row : Row) (h : Int) : T3 := ((best L SL row h).a, (best L SL row h).b, (best L SL row h).d)
def nextR (L : List Ln) (SL : List Int) (row : Row) : Row := (List.range row.length).map fun i => match row[i]? with
  | some (some _) => some (toldT L SL row i)
  | _ => none
def firstR (n : Nat) (fh : List Int) : Row := (List.range n).map fun (i : Nat) => if fh.contains (i : Int) = true then none else some ((i : Int), 0, -1)
def seqR (L : List Ln) (SL : List Int) (n : Nat) (fh : List Int) : Nat → Row
  | 0 => firstR n fh
  | k + 1 => nextR L SL (seqR L SL n fh k)
structure Vr (n : Nat) (fh : List Int) (row : Row) : Prop where
  len : row.length = n
  no : ∀ i, i < n → fh.contains (i : Int) = true → row[i]? = some none
  yes : ∀ i, i < n → fh.contains (i : Int) = false → ∃ t, row[i]? = some (some t)
section
variable {L : List Ln} {SL : List Int} {n : Nat} {fh : List Int}
theorem lt4_le2 {x y : Q4} (h : lt4 y x = false) : le2 (x.a, x.b) (y.a, y.b) := by
  unfold lt4 at h
  simp only [decide_eq_false_iff_not] at h
  unfold le2
  dsimp only
  omega
theorem firstR_at {i : Nat} (hi : i < n) : (firstR n fh)[i]? = some (if fh.contains (i : Int) = true then none else some ((i : Int), 0, -1)) := by
  rw [firstR, List.getElem?_map, List.getElem?_range hi]; rfl
theorem firstR_ok : Vr n fh (firstR n fh) := ⟨by simp [firstR], fun i hi c => by rw [firstR_at hi, if_pos c], fun i hi c => ⟨_, by rw [firstR_at hi, if_neg (by rw [c]; decide)]⟩⟩
theorem nextR_at {row : Row} {i : Nat} (hi : i < row.length) : (nextR L SL row)[i]? = some (match row[i]? with | some (some _) => some (toldT L SL row i) | _ => none) := by
  rw [nextR, List.getElem?_map, List.getElem?_range hi]; rfl
theorem Vr.next {row : Row} (v : Vr n fh row) : Vr n fh (nextR L SL row) := ⟨by simp [nextR, v.len], fun i hi c => by rw [nextR_at (by rw [v.len]; exact hi), v.no i hi c], fun i hi c => by
  obtain ⟨t, e⟩ := v.yes i hi c
  exact ⟨_, by rw [nextR_at (by rw [v.len]; exact hi), e]⟩⟩
theorem seqR_ok : ∀ k, Vr n fh (seqR L SL n fh k)
  | 0 => firstR_ok
  | k + 1 => (seqR_ok k).next
def P2 (row : Row) (h : Int) : Int × Int := match row[h.toNat]? with
  | some (some t) => (t.1, t.2.1)
  | _ => (0, 0)
theorem ch_P2 {row : Row} {p : Int × Int × Int} {t : T3} (e : row[p.1.toNat]? = some (some t)) : ch row p = ⟨(P2 row p.1).1, (P2 row p.1).2 + p.2.2, p.1, p.2.1⟩ := by simp only [ch, P2, e]
theorem seqR_rest (hn : 1 ≤ n) (hE : ∀ a b, Edge L SL a b → (0 ≤ b ∧ b < (n : Int)) ∧ b ∉ fh) (hc : ∀ a p, p ∈ adjL L SL a → 1 ≤ p.2.2) : seqR L SL n fh (n + 1) = seqR L SL n fh n := by
  have yes : ∀ k (x : Int), (0 ≤ x ∧ x < (n : Int)) ∧ x ∉ fh → ∃ t, (seqR L SL n fh k)[x.toNat]? = some (some t) := fun k x w => by
    obtain ⟨j, rfl⟩ := Int.eq_ofNat_of_zero_le w.1.1
    have := (seqR_ok (L := L) (SL := SL) (n := n) (fh := fh) k).yes j (by omega) (by
      cases hcc : fh.contains (j : Int) with
      | false => rfl
      | true => exact absurd (List.contains_iff_mem.mp hcc) w.2)
    simpa using this
  have nx : ∀ k (x : Int), (0 ≤ x ∧ x < (n : Int)) ∧ x ∉ fh → P2 (seqR L SL n fh (k + 1)) x = ((best L SL (seqR L SL n fh k) x).a, (best L SL (seqR L SL n fh k) x).b) := fun k x w => by
    obtain ⟨t, e⟩ := yes k x w
    obtain ⟨j, rfl⟩ := Int.eq_ofNat_of_zero_le w.1.1
    have hj : j < (seqR L SL n fh k).length := by rw [(seqR_ok k).len]; omega
    have e2 : (seqR L SL n fh (k + 1))[j]? = some (some (toldT L SL (seqR L SL n fh k) j)) := by
      rw [seqR, nextR_at hj]
      rw [Int.toNat_natCast] at e
      rw [e]
    rw [P2, Int.toNat_natCast, e2]
    rfl
  have key := settle (n := n) (W := fun x => (0 ≤ x ∧ x < (n : Int)) ∧ x ∉ fh) (E := fun h x c => ∃ l, (x, l, c) ∈ adjL L SL h) (P := fun k h => P2 (seqR L SL n fh k) h) hn (fun x w => w.1) (fun h x c w e => by
      obtain ⟨l, e⟩ := e
      exact ⟨hE h x (adjL_edge e), hc h _ e⟩) (fun h w => by
      obtain ⟨j, rfl⟩ := Int.eq_ofNat_of_zero_le w.1.1
      have hcc : fh.contains (j : Int) = false := by
        cases hcc : fh.contains (j : Int) with
        | false => rfl
        | true => exact absurd (List.contains_iff_mem.mp hcc) w.2
      show P2 (firstR n fh) _ = _
      rw [P2, Int.toNat_natCast, firstR_at (by omega), if_neg (by rw [hcc]; decide)]) (fun k h w => by
      rw [nx k h w]
      exact lt4_le2 ((least_ok (own4 h) ((adjL L SL h).map (ch (seqR L SL n fh k)))).2 (own4 h) (List.mem_cons_self ..))) (fun k h x c w e => by
      obtain ⟨l, e⟩ := e
      rw [nx k h w]
      have wx := hE h x (adjL_edge e)
      obtain ⟨t, et⟩ := yes k x wx
      have := (least_ok (own4 h) ((adjL L SL h).map (ch (seqR L SL n fh k)))).2 (ch (seqR L SL n fh k) (x, l, c)) (List.mem_cons_of_mem _ (List.mem_map_of_mem e))
      rw [ch_P2 (p := (x, l, c)) et] at this
      exact lt4_le2 this) (fun k h w => by
      rw [nx k h w]
      have := (least_ok (own4 h) ((adjL L SL h).map (ch (seqR L SL n fh k)))).1
      rcases List.mem_cons.mp this with e | e
      · refine .inl ?_
        rw [best, e]
        rfl
      · obtain ⟨⟨x, l, c⟩, hp, e⟩ := List.mem_map.mp e
        refine .inr ⟨x, c, ⟨l, hp⟩, ?_⟩
        have wx := hE h x (adjL_edge hp)
        obtain ⟨t, et⟩ := yes k x wx
        rw [best, ← e, ch_P2 (p := (x, l, c)) et]
        rfl)
  obtain ⟨m, rfl⟩ : ∃ m, n = m + 1 := ⟨n - 1, by omega⟩
  show nextR L SL (seqR L SL (m + 1) fh (m + 1)) = nextR L SL (seqR L SL (m + 1) fh m)
  have l1 := (seqR_ok (L := L) (SL := SL) (n := m + 1) (fh := fh) (m + 1)).len
  have l2 := (seqR_ok (L := L) (SL := SL) (n := m + 1) (fh := fh) m).len
  apply List.ext_getElem?
  intro i
  by_cases hi : i < m + 1
  · rw [nextR_at (by omega), nextR_at (by omega)]
    congr 1
    cases hcc : fh.contains (i : Int) with
    | true => rw [(seqR_ok (m + 1)).no i hi hcc, (seqR_ok m).no i hi hcc]
    | false =>
      obtain ⟨t, e1⟩ := (seqR_ok (L := L) (SL := SL) (n := m + 1) (fh := fh) (m + 1)).yes i hi hcc
      obtain ⟨u, e2⟩ := (seqR_ok (L := L) (SL := SL) (n := m + 1) (fh := fh) m).yes i hi hcc
      rw [e1, e2]
      simp only
      congr 1
      have : best L SL (seqR L SL (m + 1) fh (m + 1)) i = best L SL (seqR L SL (m + 1) fh m) i := by
        unfold best
        congr 1
        refine List.map_congr_left fun p hp => ?_
        obtain ⟨x, l, c⟩ := p
        have wx := hE i x (adjL_edge hp)
        obtain ⟨t1, et1⟩ := yes (m + 1) x wx
        obtain ⟨t2, et2⟩ := yes m x wx
        have kx := key x wx
        simp only [Nat.add_sub_cancel] at kx
        rw [ch_P2 (p := (x, l, c)) et1, ch_P2 (p := (x, l, c)) et2, kx]
      unfold toldT
      rw [this]
  · rw [List.getElem?_eq_none (by simp [nextR, l1]; omega), List.getElem?_eq_none (by simp [nextR, l2]; omega)]
/-- where the rows come to rest first -/
theorem rest_at (hr : seqR L SL n fh (n + 1) = seqR L SL n fh n) : ∃ m, m ≤ n ∧ seqR L SL n fh (m + 1) = seqR L SL n fh m ∧ ∀ k, k < m → seqR L SL n fh (k + 1) ≠ seqR L SL n fh k := by
  have key : ∀ N, seqR L SL n fh (N + 1) = seqR L SL n fh N → ∃ m, m ≤ N ∧ seqR L SL n fh (m + 1) = seqR L SL n fh m ∧ ∀ k, k < m → seqR L SL n fh (k + 1) ≠ seqR L SL n fh k := by
    intro N
    induction N with
    | zero => intro e; exact ⟨0, Nat.le_refl _, e, fun k hk => by omega⟩
    | succ N ih =>
      intro e
      by_cases c : seqR L SL n fh (N + 1) = seqR L SL n fh N
      · obtain ⟨m, h1, h2, h3⟩ := ih c
        exact ⟨m, by omega, h2, h3⟩
      · by_cases c2 : ∃ k, k < N + 1 ∧ seqR L SL n fh (k + 1) = seqR L SL n fh k
        · obtain ⟨k, hk, ek⟩ := c2
          have st : ∀ j, seqR L SL n fh (k + j + 1) = seqR L SL n fh (k + j) := by
            intro j
            induction j with
            | zero => exact ek
            | succ j ihj => show nextR L SL (seqR L SL n fh (k + j + 1)) = nextR L SL (seqR L SL n fh (k + j)); rw [ihj]
          have := st (N - k)
          rw [show k + (N - k) = N by omega] at this
          exact absurd this c
        · exact ⟨N + 1, Nat.le_refl _, e, fun k hk z => c2 ⟨k, hk, z⟩⟩
  exact key n hr
theorem rest_all {m : Nat} (e : seqR L SL n fh (m + 1) = seqR L SL n fh m) : ∀ j, m ≤ j → seqR L SL n fh j = seqR L SL n fh m := by
  intro j hj
  induction hj with
  | refl => rfl
  | step _ ih => show nextR L SL _ = _; rw [ih]; exact e
end
/-! ### rows as data -/
def dO : Option T3 → PyData
  | none => .none
  | some t => .tuple [.int t.1, .int t.2.1, .int t.2.2]
theorem dat_row {h : Hh} {k : Nat} : ∀ (r : Row), mapO (datV h (k + 1)) (r.map rvO) = some (r.map dO)
  | [] => rfl
  | o :: r => by
    rw [List.map_cons]
    unfold mapO
    rw [dat_row r]
    cases o with
    | none => rfl
    | some t => cases k <;> rfl
theorem eqv_O (a b : Option T3) : PyData.eqv (dO a) (dO b) = decide (a = b) := by
  cases a with
  | none => cases b with
    | none => rfl
    | some t => rfl
  | some t => cases b with
    | none => rfl
    | some u =>
      obtain ⟨x, y, z⟩ := t
      obtain ⟨x', y', z'⟩ := u
      simp only [dO, PyData.eqv, PyData.eqvAll]
      rw [Bool.eq_iff_iff]
      simp [and_assoc]
theorem eqv_rows : ∀ (a b : Row), PyData.eqvAll (a.map dO) (b.map dO) = decide (a = b)
  | [], [] => rfl
  | [], _ :: _ => by simp [PyData.eqvAll]
  | _ :: _, [] => by simp [PyData.eqvAll]
  | x :: a, y :: b => by
    rw [List.map_cons, List.map_cons]
    simp only [PyData.eqvAll]
    rw [eqv_O, eqv_rows a b]
    rw [Bool.eq_iff_iff]
    simp
theorem i_neRR {h : Hh} {p q : Nat} {a b : Row} {Q : QE} (ep : h[p]? = some (.lst (a.map rvO))) (eq : h[q]? = some (.lst (b.map rvO))) (k : Q (.v (.bl (!decide (a = b)))) h) : wV (fEq true (.v (.ref p)) (.v (.ref q)) h) Q := by
  have d1 : dat h (.v (.ref p)) = some (.list (a.map dO)) := by
    show datV h 20 (.ref p) = _
    unfold datV
    rw [ep]
    dsimp only
    rw [dat_row]
    rfl
  have d2 : dat h (.v (.ref q)) = some (.list (b.map dO)) := by
    show datV h 20 (.ref q) = _
    unfold datV
    rw [eq]
    dsimp only
    rw [dat_row]
    rfl
  refine ⟨_, _, by simp only [fEq, d1, d2, Option.bind_some]; rfl, ?_⟩
  have : PyData.eqv (.list (a.map dO)) (.list (b.map dO)) = decide (a = b) := by
    rw [← eqv_rows]
    simp [PyData.eqv]
  rw [this, show (decide (a = b) != true) = !decide (a = b) by cases decide (a = b) <;> rfl]
  exact k
end NL
set_option Elab.async false
set_option linter.all false
set_option maxRecDepth 100000
set_option maxHeartbeats 4000000
set_option autoImplicit false
namespace NL
open PySem L2 PySem.W PySem.SeqAt
open Classical
/-! ### dicts of whole numbers -/
def dI (F : List (Int × Int)) : Ob := .dK (F.map fun p => (.inl p.1, .int p.2))
theorem valP_dI (F : List (Int × Int)) (k : Int) : valP (F.map fun p => ((.inl p.1 : Key), Val.int p.2)) (.inl k) = (gI F k).map .int := by
  induction F with
  | nil => rfl
  | cons p F ih =>
    by_cases h : p.1 = k
    · simp [valP, gI, h]
    · simp only [valP, gI, List.map_cons, List.find?_cons, Sum.inl.injEq, h, decide_false] at ih ⊢
      exact ih
theorem any_dI (F : List (Int × Int)) (k : Int) : ((F.map fun p => ((.inl p.1 : Key), Val.int p.2)).any fun kv => decide (kv.1 = .inl k)) = (F.any fun p => decide (p.1 = k)) := by
  rw [List.any_map]
  congr 1
  funext p
  simp [Function.comp]
theorem putP_dI (F : List (Int × Int)) (k v : Int) : putP (F.map fun p => ((.inl p.1 : Key), Val.int p.2)) (.inl k) (.int v) = (pI F k v).map fun p => ((.inl p.1 : Key), Val.int p.2) := by
  unfold putP pI
  rw [any_dI]
  split
  · rw [List.map_map, List.map_map]
    refine List.map_congr_left fun p _ => ?_
    simp only [Function.comp, Sum.inl.injEq]
    split <;> rfl
  · rw [List.map_append]; rfl
section
variable {s : Sl} {h : Hh} {Q : QE} {QS : Fl → Sl → Hh → Prop} {q : Nat} {F : List (Int × Int)} {k d : Int} {md mk mx mv m : ME} {i : Nat}
theorem dget_dI (e : h[q]? = some (dI F)) : dgetO h q (.int k) = some ((gI F k).map .int) := by
  unfold dgetO
  rw [e]
  simp only [dI, asKey, Option.map_some, valP_dI]
theorem i_dget (e : h[q]? = some (dI F)) (g : gI F k = some d) (c : Q (.v (.int d)) h) : wV (fDGet (.v (.ref q)) (.v (.int k)) h) Q := ⟨_, _, by simp only [fDGet, dget_dI e, Option.bind_some, g, Option.map_some], c⟩
theorem i_din (e : h[q]? = some (dI F)) (c : Q (.v (.bl (gI F k).isSome)) h) : wV (fDIn false (.v (.int k)) (.v (.ref q)) h) Q := ⟨_, _, by simp only [fDIn, dget_dI e, Option.map_some, Option.isSome_map, Bool.bne_false], c⟩
theorem i_dnin (e : h[q]? = some (dI F)) (c : Q (.v (.bl (!(gI F k).isSome))) h) : wV (fDIn true (.v (.int k)) (.v (.ref q)) h) Q := ⟨_, _, by simp only [fDIn, dget_dI e, Option.map_some, Option.isSome_map, Bool.bne_true], c⟩
theorem isDc_of (e : h[q]? = some (dI F)) : isDc h q = true := by unfold isDc; rw [e]; rfl
theorem i_dget2 (c : wE md s h fun r h1 => ∃ q, r = .v (.ref q) ∧ isDc h1 q = true ∧ wE mk s h1 fun r2 h2 => wE mx s h2 fun r3 h3 => ∃ k z F, r2 = .v (.int k) ∧ r3 = .v (.int z) ∧ h3[q]? = some (dI F) ∧ Q (.v (.int ((gI F k).getD z))) h3) : wE (mDGet2 md mk mx) s h Q := by
  obtain ⟨r, h1, e1, q, rfl, hq, r2, h2, e2, r3, h3, e3, k, z, F, rfl, rfl, e4, c⟩ := c
  refine ⟨_, _, by simp only [mDGet2, e1, Option.bind_some, hq, if_true, e2, e3, dget_dI e4, Option.map_some]; rfl, ?_⟩
  cases g : gI F k with
  | none => rw [g] at c; exact c
  | some x => rw [g] at c; exact c
theorem i_dput (c : wE mv s h fun r h1 => wE md s h1 fun r2 h2 => wE mk s h2 fun r3 h3 => ∃ x q k F, r = .v (.int x) ∧ r2 = .v (.ref q) ∧ r3 = .v (.int k) ∧ h3[q]? = some (dI F) ∧ F.length < 1000000 ∧ QS .nx s (h3.set q (dI (pI F k x)))) : wS (sDPutM md mk mv) s h QS := by
  obtain ⟨r, h1, e1, r2, h2, e2, r3, h3, e3, x, q, k, F, rfl, rfl, rfl, e4, hl, c⟩ := c
  refine ⟨_, _, _, ?_, c⟩
  simp only [sDPutM, e1, e2, e3, Option.bind_some]
  unfold dputO
  rw [e4]
  simp only [dI, List.length_map]
  rw [if_pos hl]
  simp only [asKey, Option.map_some, putP_dI]
theorem i_dnew (c : Q (.v (.ref h.length)) (h ++ [dI []])) : wE mDNewK s h Q := ⟨_, _, rfl, c⟩
theorem i_d1 (c : wE mk s h fun r h1 => wE mv s h1 fun r2 h2 => ∃ k x, r = .v (.int k) ∧ r2 = .v (.int x) ∧ Q (.v (.ref h2.length)) (h2 ++ [dI [(k, x)]])) : wE (mD1 mk mv) s h Q := by
  obtain ⟨r, h1, e1, r2, h2, e2, k, x, rfl, rfl, c⟩ := c
  exact ⟨_, _, by simp only [mD1, e1, e2, Option.bind_some, asKey, Option.map_some]; rfl, c⟩
theorem set_last {x y : Ob} : (h ++ [x]).set h.length y = h ++ [y] := by rw [List.set_append_right _ _ (Nat.le_refl _), Nat.sub_self]; rfl
theorem get_last {x : Ob} : (h ++ [x])[h.length]? = some x := by simp
end
/-! ### pairs, by their order -/
def lt2 (x y : Int × Int) : Bool := decide (x.1 < y.1 ∨ (x.1 = y.1 ∧ x.2 < y.2))
theorem pr_enc (p : Int × Int) : NL.enc (pr p) = .tuple ([p.1, p.2].map .int) := rfl
theorem pr_plain (p : Int × Int) : Plain (pr p) := ⟨.tuple ([p.1, p.2].map .int), rfl⟩
theorem lt2_data (x y : Int × Int) : dataLt (NL.enc (pr x)) (NL.enc (pr y)) = lt2 x y := by
  rw [pr_enc, pr_enc]
  have e : dataLt (.tuple ([x.1, x.2].map .int)) (.tuple ([y.1, y.2].map .int)) = rowLt ([x.1, x.2].map .int) ([y.1, y.2].map .int) := rfl
  rw [e, dataLt_ints]
  unfold lt2
  rw [Bool.eq_iff_iff]
  simp only [decide_eq_true_eq, List.cons_lt_cons_iff, List.not_lt_nil, and_false, or_false]
theorem alike_pr (x y : Int × Int) : alike (NL.enc (pr x)) (NL.enc (pr y)) = true := by
  rw [pr_enc, pr_enc]
  have := alike_ints [x.1, x.2] [y.1, y.2]
  simpa [alike] using this
def least2 (x : Int × Int) (xs : List (Int × Int)) : Int × Int := xs.foldl (fun a y => if lt2 y a = true then y else a) x
theorem minV_pr (x : Int × Int) : ∀ (xs : List (Int × Int)), minV (pr x) (xs.map pr) = pr (least2 x xs) := by
  intro xs
  unfold minV least2
  induction xs generalizing x with
  | nil => rfl
  | cons y ys ih =>
    rw [List.map_cons, List.foldl_cons, List.foldl_cons, ← ih, lt2_data]
    congr 1
    split <;> rfl
theorem least2_ok (x : Int × Int) : ∀ (xs : List (Int × Int)), least2 x xs ∈ x :: xs ∧ ∀ y ∈ x :: xs, lt2 y (least2 x xs) = false := by
  intro xs
  unfold least2
  induction xs generalizing x with
  | nil =>
    refine ⟨List.mem_cons_self .., fun y hy => ?_⟩
    simp only [List.mem_singleton] at hy
    subst hy
    simp [lt2]
  | cons y ys ih =>
    rw [List.foldl_cons]
    obtain ⟨h1, h2⟩ := ih (if lt2 y x = true then y else x)
    generalize (ys.foldl (fun a y => if lt2 y a = true then y else a) (if lt2 y x = true then y else x)) = r at h1 h2
    have hx : lt2 x r = false ∧ lt2 y r = false := by
      have h3 := h2 _ (List.mem_cons_self ..)
      by_cases c : lt2 y x = true
      · rw [if_pos c] at h3
        refine ⟨?_, h3⟩
        unfold lt2 at *
        simp only [decide_eq_true_eq, decide_eq_false_iff_not] at *
        omega
      · rw [if_neg c] at h3
        refine ⟨h3, ?_⟩
        unfold lt2 at *
        simp only [decide_eq_true_eq, decide_eq_false_iff_not] at *
        omega
    refine ⟨?_, fun z hz => ?_⟩
    · rcases List.mem_cons.mp h1 with e | h1
      · rw [e]; split <;> simp
      · exact List.mem_cons_of_mem _ (List.mem_cons_of_mem _ h1)
    · rcases List.mem_cons.mp hz with rfl | hz
      · exact hx.1
      · rcases List.mem_cons.mp hz with rfl | hz
        · exact hx.2
        · exact h2 z (List.mem_cons_of_mem _ hz)
theorem alikeAll_pr (ws : List (Int × Int)) : AlikeAll ((ws.map pr).map NL.enc) := by
  have em : ∀ x ∈ (ws.map pr).map NL.enc, ∃ y : Int × Int, x = NL.enc (pr y) := fun x hx => by
    obtain ⟨w, hw, rfl⟩ := List.mem_map.mp hx
    obtain ⟨y, _, rfl⟩ := List.mem_map.mp hw
    exact ⟨y, rfl⟩
  refine ⟨fun x hx y hy => ?_, fun x hx => ?_⟩
  · obtain ⟨x', rfl⟩ := em x hx
    obtain ⟨y', rfl⟩ := em y hy
    exact alike_pr _ _
  · obtain ⟨x', rfl⟩ := em x hx
    rw [pr_enc]
    simp
theorem i_minP {h : Hh} {Q : QE} {w : Int × Int} {ws : List (Int × Int)} (c : Q (.v (.tup [.int (least2 w ws).1, .int (least2 w ws).2])) h) : wV (fMinD [.l ((w :: ws).map pr)] h) Q := by
  refine ⟨.v (pr (least2 w ws)), h, ?_, c⟩
  have pl : ∀ v ∈ pr w :: ws.map pr, Plain v := fun v hv => by
    rcases List.mem_cons.mp hv with rfl | hv
    · exact pr_plain _
    · obtain ⟨y, _, rfl⟩ := List.mem_map.mp hv
      exact pr_plain _
  have al := alikeAll_pr (w :: ws)
  rw [List.map_cons] at al ⊢
  simp only [fMinD, asL, Option.bind_some]
  rw [if_pos ⟨pl, al⟩, minV_pr]
theorem eqv_pr (a b : Int × Int) : PyData.eqv (NL.enc (pr a)) (NL.enc (pr b)) = decide (a = b) := by
  rw [pr_enc, pr_enc]
  obtain ⟨a1, a2⟩ := a
  obtain ⟨b1, b2⟩ := b
  rw [Bool.eq_iff_iff]
  simp [PyData.eqv, PyData.eqvAll]
theorem place_pr (p : Int × Int) : ∀ (W : List (Int × Int)), dataPlace ((W.map pr).map NL.enc) (NL.enc (pr p)) = W.findIdx? (fun x => decide (x = p)) := by
  intro W
  unfold dataPlace
  rw [List.map_map, List.findIdx?_map]
  congr 1
  funext x
  exact eqv_pr x p
theorem plain_prs : ∀ (W : List (Int × Int)), PyData.plainAll ((W.map pr).map NL.enc) = true
  | [] => rfl
  | p :: W => by
    have ih := plain_prs W
    rw [List.map_cons, List.map_cons, pr_enc]
    simp only [PyData.plainAll, ih, Bool.and_true]
    rfl
theorem erase_facts {W : List (Int × Int)} {p : Int × Int} {j : Nat} (e : W.findIdx? (fun x => decide (x = p)) = some j) : (∀ x ∈ W, x = p ∨ x ∈ W.eraseIdx j) ∧ (∀ x ∈ W.eraseIdx j, x ∈ W) ∧ (W.eraseIdx j).length + 1 = W.length := by
  obtain ⟨h1, h2, h3⟩ := List.findIdx?_eq_some_iff_getElem.mp e
  have h2 : W[j] = p := by simpa using h2
  refine ⟨fun x hx => ?_, fun x hx => List.mem_of_mem_eraseIdx hx, ?_⟩
  · obtain ⟨i, hi⟩ := List.getElem?_of_mem hx
    rcases Nat.lt_trichotomy i j with z | z | z
    · exact .inr (List.mem_of_getElem? (i := i) (by rw [List.getElem?_eraseIdx_of_lt z]; exact hi))
    · subst z
      rw [List.getElem?_eq_getElem h1, h2] at hi
      exact .inl (Option.some.inj hi).symm
    · refine .inr (List.mem_of_getElem? (i := i - 1) ?_)
      rw [List.getElem?_eraseIdx_of_ge (by omega), show i - 1 + 1 = i by omega]
      exact hi
  · rw [List.length_eraseIdx_of_lt h1]
    omega
theorem map_erase {α β : Type} (f : α → β) : ∀ (l : List α) (j : Nat), (l.map f).eraseIdx j = (l.eraseIdx j).map f
  | [], j => by simp
  | a :: r, 0 => by simp
  | a :: r, j + 1 => by simp [map_erase f r j]
theorem i_rem {s : Sl} {h : Hh} {QS : Fl → Sl → Hh → Prop} {i : Nat} {m : ME} {W : List (Int × Int)} (hs : s[i]? = some (some (.o (W.map pr)))) (c : wE m s h fun r h1 => ∃ p, r = .v (.tup [.int p.1, .int p.2]) ∧ p ∈ W ∧ ∀ W' : List (Int × Int), (∀ x ∈ W, x = p ∨ x ∈ W') → (∀ x ∈ W', x ∈ W) → W'.length + 1 = W.length → QS .nx (s.set i (some (.o (W'.map pr)))) h1) : wS (sRem i m) s h QS := by
  obtain ⟨r, h1, e1, p, rfl, hp, c⟩ := c
  have hf : ∃ j, W.findIdx? (fun x => decide (x = p)) = some j := by
    cases e : W.findIdx? (fun x => decide (x = p)) with
    | some j => exact ⟨j, rfl⟩
    | none =>
      have := List.findIdx?_eq_none_iff.mp e p hp
      simp at this
  obtain ⟨j, ej⟩ := hf
  obtain ⟨f1, f2, f3⟩ := erase_facts ej
  refine ⟨_, _, _, ?_, c _ f1 f2 f3⟩
  simp only [sRem, hs, e1, Option.bind_some]
  have pl : ∀ v ∈ Val.tup [.int p.1, .int p.2] :: W.map pr, Plain v := fun v hv => by
    rcases List.mem_cons.mp hv with rfl | hv
    · exact pr_plain p
    · obtain ⟨y, _, rfl⟩ := List.mem_map.mp hv
      exact pr_plain _
  have := place_pr p W
  rw [ej] at this
  rw [if_pos ⟨pl, plain_prs W, rfl⟩, show Val.tup [.int p.1, .int p.2] = pr p from rfl, this, Option.map_some, map_erase]
/-! ### a name's list, owned or lent -/
theorem i_varB {s : Sl} {h : Hh} {Q : QE} {k : Nat} {r : R} {xs : List Val} (hr : r = .o xs ∨ r = .l xs) (e : s[k]? = some (some r)) (q : Q (.l xs) h) : wE (mVar k) s h Q := by
  rcases hr with rfl | rfl
  · exact i_varO ⟨_, e, q⟩
  · exact i_varL ⟨_, e, q⟩
theorem for_vB {s : Sl} {h : Hh} {QS : Fl → Sl → Hh → Prop} {k : Nat} {r : R} {xs : List Val} {T : Tg} {b : MS} (hr : r = .o xs ∨ r = .l xs) (e : s[k]? = some (some r)) (q : wS (forL (fun _ => True) T b xs) (s.set k (some (.l xs))) h QS) : wS (sFor (jV k) T b) s h QS := by
  rcases hr with rfl | rfl
  · exact i_forO e q
  · obtain ⟨hl, el⟩ := List.getElem?_eq_some_iff.mp e
    have z : s.set k (some (.l xs)) = s := by rw [← el, List.set_getElem_self]
    rw [z] at q
    exact for_vl e q
/-! ### the tree -/
noncomputable def rootOf (L : List Ln) (SL : List Int) (n : Nat) (i : Int) : Int := ((comp L SL n i).head?).getD 0
noncomputable def upsL (L : List Ln) (SL : List Int) (s i : Int) : List (Int × Int) := ((adjL L SL i).filter fun t => decide ((farOf L SL s t.1).map (· + t.2.2) = farOf L SL s i)).map fun t => (t.1, t.2.1)
def pick2 : List (Int × Int) → Int
  | w :: ws => (least2 w ws).2
  | [] => 0
noncomputable def upN (L : List Ln) (SL : List Int) (s i : Int) : Int := if i = s then -1 else pick2 (upsL L SL s i)
noncomputable def trT (L : List Ln) (SL : List Int) (n : Nat) (i : Int) : T3 := (rootOf L SL n i, (farOf L SL (rootOf L SL n i) i).getD 0, upN L SL (rootOf L SL n i) i)
noncomputable def treeR (L : List Ln) (SL : List Int) (n : Nat) (fh : List Int) : Row := (List.range n).map fun (i : Nat) => if fh.contains (i : Int) = true then none else some (trT L SL n i)
section
variable {L : List Ln} {SL : List Int} {n : Nat} {s a b l c i : Int}
theorem adj_symm (lt : ∀ x ∈ L, x.one < x.other) (h : (b, l, c) ∈ adjL L SL a) : (a, l, c) ∈ adjL L SL b := by
  obtain ⟨l', hl, h⟩ := List.mem_flatMap.mp h
  split at h
  · rename_i x ex
    have ltx := lt x (List.mem_of_getElem? ex)
    obtain ⟨h1, h2⟩ := adj_of hl ex ltx
    split at h
    · rename_i e1
      simp only [List.mem_singleton, Prod.mk.injEq] at h
      obtain ⟨rfl, rfl, rfl⟩ := h
      rw [← e1]; exact h2
    · split at h
      · rename_i e1
        simp only [List.mem_singleton, Prod.mk.injEq] at h
        obtain ⟨rfl, rfl, rfl⟩ := h
        rw [← e1]; exact h1
      · simp at h
  · simp at h
theorem ups_ne (hc : Pos1 L SL) (lt : ∀ x ∈ L, x.one < x.other) (r : Reach L SL s i) (ne : i ≠ s) : upsL L SL s i ≠ [] := by
  obtain ⟨d, hd⟩ := (far_reach hc).mpr r
  obtain ⟨a, l, c, e, f, q, rfl⟩ := far_pred hc (far_is hd) ne
  intro z
  have : (a, l) ∈ upsL L SL s i := List.mem_map.mpr ⟨(a, l, c), List.mem_filter.mpr ⟨adj_symm lt q, by
    rw [decide_eq_true_eq, hd, far_some f]; rfl⟩, rfl⟩
  rw [z] at this
  simp at this
theorem root_eq {r : Int} {C : List Int} (e : comp L SL n i = r :: C) : rootOf L SL n i = r := by
  unfold rootOf
  rw [e]; rfl
end
end NL
set_option Elab.async false
set_option linter.all false
set_option maxRecDepth 100000
set_option maxHeartbeats 4000000
set_option autoImplicit false
/-! ### del d[k], k a tuple -/
namespace DT
open PySem PySem.W PySem.Calls PyProof.Rows PyProof.V PySem.Spec
section
variable {K : Type} [DecidableEq K] {prog : Program} {w : World} {knd : HeapKind prog w K}
theorem meetsDel {d b : Addr} {k : K} :
    MeetsIn prog w (Builtin.«dict.__delitem__» ⟨[.ref d, .ref b], []⟩) (fun A R s => ∃ xs, knd.room A.in1 ∧ knd.is s.heap k b ∧ s.heap.DictOfH knd d xs ∧ xs.length ≤ sizeLine ∧ (atKey xs k).isSome = true ∧
      ∀ h' tk, h'.DictOfH knd d (dropH xs k) → Heap.SameBut d s.heap h' → R (.ok (.ret .none)) { s with heap := h', toks := tk }) :=
  .of_wp fun A R s ⟨xs, hu, hkey, hm, hsz, hthere, h⟩ => by
    unfold Builtin.«dict.__delitem__»
    refine wpAny_bind ?_
    unfold Builtin.Dict.dictSlotArgs
    refine wpAny_bind (wpAny_notOrdered_dict hm.typeIs ?_)
    show wpAny _ _ (pure (Value.ref d, Value.ref b)) _ _ s
    refine wpAny_pure ?_
    show wpAny _ _ (Builtin.Dict.takeOut d (.ref b) >>= _) _ _ s
    refine wpAny_bind (takeH hu hkey hm hsz (fun hn => by rw [hn] at hthere; exact absurd hthere (by decide)) fun p e hp hev h' hm' hs' => ?_)
    exact wpAny_bind (wpAny_letGo (wpAny_pure ⟨.none, rfl, h h' _ hm' hs'⟩))
end
end DT
namespace L2
open PySem PySem.Spec PyProof.Rows
section
variable {X : Cx} {pins : List (Addr × Obj)} {σ : St} {H : Hp} {s : Shared} {A : Around} {E : Value → Shared → Prop} {a b : Addr} {kvs : List (List Key × V)} {k : List Key}
theorem d_delT {Q : Unit → Shared → Prop} (hu : A.units + 1 < cLine) (I : Inv X pins σ H s) (ha : H a = some (.dT kvs)) (hb : H b = some (.tup (k.map kV))) (l : (valV kvs k).isSome = true) (h : ∀ s', Inv X pins σ (upd H a (.dT (dropK kvs k))) s' → Q () s') :
    wpAny (model X.prog X.w) A (delItem (.ref a) (.ref b)) Q E s := by
  obtain ⟨z, hd, xs', rel, dd⟩ := dt_of I.hok ha
  have hz : xs'.length ≤ sizeLine := by rw [← Paired.length rel]; exact z
  refine wpAny_delItem_slot dd.typeIs (by decide) PySem.F.slot_dict_delitem
    (call_meetsIn PySem.F.slot_dict_delitem dd.typeIs PySem.F.entry_dict_delitem (PySem.F.args_dict_delitem_2 _ _) (DT.meetsDel (knd := tupleKind (mixKind X.prog X.w)) (k := k)) ⟨xs', tupleKind_room_in1 hu, key_of I.hok hb, dd, hz, ?_, fun h' tk dd' hs => h _ ?_⟩)
  · have r := rel.val k
    cases e : atKey xs' k with
    | some p => rfl
    | none =>
      rw [e] at r
      cases ev : valV kvs k with
      | none => rw [ev] at l; cases l
      | some v0 =>
        rw [ev] at r
        exact (show False from r).elim
  · obtain ⟨o, es, ep, hq, h2, h3, h4, _, h5⟩ := dd'
    exact d_write I (by rw [ha]; exact True.intro) hs ⟨o, hq⟩ ⟨Nat.le_trans (dropK_le kvs k) z, hd, _, (L2.DX.KT_drop k rel).keeps (fun c ys ec => (by rw [upd_ne (ne_of ec ha (fun z => nomatch z))]; exact ec)), o, es, ep, hq, h2, h3, h4, h5⟩
end
def sDDelT (td ty : TE) : TS := fun D σ H => td σ H fun x H1 => ty σ H1 fun y H2 => ∃ a b kvs k, x = .ref a ∧ y = .ref b ∧ H2 a = some (.dT kvs) ∧ H2 b = some (.tup (k.map kV)) ∧ (valV kvs k).isSome = true ∧ D.nx σ (upd H2 a (.dT (dropK kvs k)))
theorem ps_ddelT {X : Cx} {o i : Expr} {pos tpos : Pos} {td ty : TE} (hu : X.A.units + 1 < cLine) (ho : PE X o td) (hi : PE X i ty) : PS X (.Delete [.Subscript o i tpos] pos) (sDDelT td ty) := by
  refine ⟨fun pins s σ H D I h => ?_⟩
  refine wpAny_Delete (wpAny_deleteEach_cons (wpAny_delete_Subscript (thn (ho.run pins s σ H _ I h) fun u s1 ⟨x, H1, I1, rx, q1⟩ => thn (hi.run pins s1 σ H1 _ I1 q1) fun iv s2 ⟨y, H2, I2, ry, a, b, kvs, k, ex, ey, e, eb, l, q2⟩ => ?_)))
  subst ex ey
  obtain rfl : u = Value.ref a := rx
  obtain rfl : iv = Value.ref b := ry
  exact d_delT hu I2 e eb l fun s3 I3 => wpAny_deleteEach_nil ⟨σ, _, I3, q2⟩
end L2
namespace NL
open PySem PySem.Spec PyProof.Rows L2 RZ PySem.W PySem.SeqAt
open Classical
def dropP {κ : Type} [DecidableEq κ] (kvs : List (κ × Val)) (k : κ) : List (κ × Val) := kvs.filter fun kv => decide (kv.1 ≠ k)
theorem PRs.drop {κ : Type} [DecidableEq κ] {c : List Addr} {H : Hp} (k : κ) : ∀ {vs : List (κ × Val)} {xs : List (κ × V)}, PRs c H vs xs → PRs c H (dropP vs k) (dropK xs k)
  | [], _, q => by unfold PRs at q; subst q; rfl
  | p :: ps, xs, ⟨y, ys, e, r, q⟩ => by
    subst e
    unfold dropP dropK
    by_cases h : p.1 = k
    · rw [List.filter_cons_of_neg (by simp [h]), List.filter_cons_of_neg (by simp [h])]
      exact PRs.drop k q
    · rw [List.filter_cons_of_pos (by simp [h]), List.filter_cons_of_pos (by simp [h])]
      exact ⟨y, _, rfl, r, PRs.drop k q⟩
theorem PRs.get {κ : Type} {c : List Addr} {H : Hp} : ∀ {vs : List (κ × Val)} {xs : List (κ × V)} {i : Nat} {p : κ × V}, PRs c H vs xs → xs[i]? = some p → ∃ v, vs[i]? = some (p.1, v)
  | [], _, i, p, q, e => by unfold PRs at q; subst q; simp at e
  | v :: vs, xs, 0, p, ⟨y, ys, e1, r, q⟩, e => by
    subst e1
    simp at e
    subst e
    exact ⟨v.2, rfl⟩
  | v :: vs, xs, i + 1, p, ⟨y, ys, e1, r, q⟩, e => by
    subst e1
    rw [List.getElem?_cons_succ] at e
    obtain ⟨w, hw⟩ := PRs.get q e
    exact ⟨w, by rw [List.getElem?_cons_succ]; exact hw⟩
theorem keys_vr {c : List Addr} {H : Hp} : ∀ (k : List Key), VRs c H (k.map kVal) (k.map kV)
  | [] => by unfold VRs; rfl
  | .inl i :: k => by
    unfold VRs
    exact ⟨_, _, rfl, by unfold kVal VR; rfl, keys_vr k⟩
  | .inr x :: k => by
    unfold VRs
    exact ⟨_, _, rfl, by unfold kVal VR; rfl, keys_vr k⟩
/-! ### meanings -/
def sDDelM (md mk : ME) : MS := fun s h => (md s h).bind fun d => (mk s d.2).bind fun k => match d.1, k.1 with
  | .v (.ref q), .v y => match k.2[q]? with
    | some (.dT kvs) => (asKeys y).bind fun kk => if (valP kvs kk).isSome = true then some (.nx, s, k.2.set q (.dT (dropP kvs kk))) else none
    | _ => none
  | _, _ => none
def fLenD : FC := fun rs h => match rs with
  | [.v (.ref q)] => match h[q]? with
    | some (.dT kvs) => some (.v (.int kvs.length), h)
    | _ => none
  | _ => none
/-- an expression within which a dict is walked -/
def mLock (mq : Sl → Hh → Option Nat) (m : ME) : ME := fun s h => (mq s h).bind fun q => match h[q]? with
  | some (.dT kvs) => (m s (h.set q (.fT kvs))).bind fun p => match p.2[q]? with
    | some (.fT kvs') => some (p.1, p.2.set q (.dT kvs'))
    | _ => none
  | _ => none
noncomputable def iDk (m : ME) : MI := fun s h => (m s h).bind fun p => match p.1 with
  | .v (.ref q) => match p.2[q]? with
    | some (.fT kvs) => some (kvs.map fun kv => .tup (kv.1.map kVal), (fun h => h[q]? = some (.fT kvs)), p.2)
    | _ => none
  | _ => none
variable [HasK]
theorem HR.putO {c : List Addr} {h : Hh} {H : Hp} {p : Nat} {a : Addr} {ob : Ob} {u : HO} (k : HR c h H) (hp : c[p]? = some a) (q : TK c c H (upd H a u) → OR c (upd H a u) ob a) : HR c (h.set p ob) (upd H a u) ∧ TK c c H (upd H a u) := by
  have ma : a ∈ c := List.mem_of_getElem? hp
  obtain ⟨us, ea, nt⟩ := k.dom ma
  have tk : TK c c H (upd H a u) := ⟨fun b zs t => by rw [upd_ne (fun z => by rw [z, ea] at t; cases t; exact nt _ rfl)]; exact t, fun _ _ q => q⟩
  refine ⟨⟨k.nd, by simp [k.len], fun l b e => ?_⟩, tk⟩
  by_cases hl : l = p
  · subst hl
    rw [hp] at e
    cases e
    have hlt : l < h.length := by
      rw [k.len]; exact (List.getElem?_eq_some_iff.mp hp).1
    exact ⟨ob, List.getElem?_set_self hlt, q tk⟩
  · obtain ⟨o, e1, e2⟩ := k.cell l b e
    have hb : b ≠ a := fun z => hl (by
      rw [z] at e
      obtain ⟨h1, e1⟩ := List.getElem?_eq_some_iff.mp e
      obtain ⟨h2, e2⟩ := List.getElem?_eq_some_iff.mp hp
      exact (List.getElem_inj k.nd).mp (e1.trans e2.symm))
    exact ⟨o, by rw [List.getElem?_set_ne (Ne.symm hl)]; exact e1, e2.to tk fun u e3 => by rw [upd_ne hb]; exact e3⟩
theorem RR.putO {c : List Addr} {H0 H : Hp} {a : Addr} {u : HO} (tk : TK c c H (upd H a u)) (ma : a ∈ c) : ∀ {r : R} {x : V}, RR c H0 H r x → RR c H0 (upd H a u) r x
  | .v v, x, q => VR.mono tk v x q
  | .l xs, x, ⟨b, ys, e1, e2, e3, e4⟩ => ⟨b, ys, e1, by rw [upd_ne (fun z => e4 (by rw [z]; exact ma))]; exact e2, VRs.mono tk _ _ e3, e4⟩
  | .z xs, x, ⟨b, ys, e1, e3, e4⟩ => ⟨b, ys, e1, VRs.mono tk _ _ e3, e4.imp (fun z => ⟨by
      have nb : b ≠ a := fun w => z.2 (by rw [w]; exact ma)
      rcases z.1 with y | ⟨o, y⟩
      · exact .inl (by rw [upd_ne nb]; exact y)
      · exact .inr ⟨o, by rw [upd_ne nb]; exact y⟩, z.2⟩) fun z => z⟩
  | .o xs, x, ⟨b, ys, e1, e0, e2, e3, e4⟩ => ⟨b, ys, e1, e0, by rw [upd_ne (fun z => e4 (by rw [z]; exact ma))]; exact e2, VRs.mono tk _ _ e3, e4⟩
section
variable {X : Cx} {tg o i e : Expr} {mo mi m : ME} {pos tpos : Pos}
theorem se_lock {mq : Sl → Hh → Option Nat} (h : SE X e m) : SE X e (mLock mq m) := pe_imp (pe_lock h) fun σ H Q q => by
  obtain ⟨c, ow, σa, hh, r, h', k, e, f⟩ := q
  simp only [mLock, Option.bind_eq_some_iff] at e
  obtain ⟨q, e1, e2⟩ := e
  split at e2
  · rename_i kvs eq
    simp only [Option.bind_eq_some_iff] at e2
    obtain ⟨⟨r1, h1⟩, e3, e4⟩ := e2
    dsimp only at e4
    split at e4
    · rename_i kvs' eq'
      simp only [Option.some.injEq, Prod.mk.injEq] at e4
      obtain ⟨rfl, rfl⟩ := e4
      have ql : q < c.length := by
        rw [← k.hr.len]
        exact (List.getElem?_eq_some_iff.mp eq).1
      have hd := List.getElem?_eq_getElem ql
      generalize c[q] = d at hd
      have md : d ∈ c := List.mem_of_getElem? hd
      obtain ⟨ob, e5, e6⟩ := k.hr.cell q d hd
      rw [eq] at e5
      cases e5
      obtain ⟨ys, e7, e8⟩ := e6
      refine ⟨d, .dT ys, e7, trivial, fun od => ?_⟩
      obtain ⟨k2, x2, tk2⟩ := k.hr.setCellO (u := .frz od (.dT ys)) (ob := .fT kvs) hd eq rfl fun tk => ⟨ys, ⟨od, upd_same⟩, PRs.mono tk _ _ e8⟩
      refine ⟨c, ow, σa, hh.set q (.fT kvs), r1, h1, k.ext x2 k2, e3, fun c' H' x E K R => ?_⟩
      have f1 : H' d = some (.frz od (.dT ys)) := E.frz d od _ upd_same
      refine ⟨f1, ?_⟩
      have hd' : c'[q]? = some d := E.get hd
      have md' : d ∈ c' := E.mem md
      obtain ⟨ob', g1, g2⟩ := K.cell q d hd'
      rw [eq'] at g1
      cases g1
      obtain ⟨ys', ⟨o', g3⟩, g4⟩ := g2
      rw [f1] at g3
      cases g3
      obtain ⟨k3, tk3⟩ := K.putO (u := .dT ys) (ob := .dT kvs') hd' fun tk => ⟨ys, upd_same, PRs.mono tk _ _ g4⟩
      have EE := x2.trans E
      refine f c' _ x ⟨EE.pre, fun a o z n => ?_, EE.new, fun a o z => ?_, fun a o u z => ?_⟩ k3 (RR.putO tk3 md' (RR.early x2 R))
      · rw [upd_ne (fun w => n (by rw [w]; exact md))]
        exact EE.keep a o z n
      · by_cases w : a = d
        · exact ⟨_, by rw [w]; exact upd_same⟩
        · rw [upd_ne w]
          exact EE.dom a o z
      · rw [upd_ne (fun w => by rw [w, e7] at z; cases z)]
        exact EE.frz a o u z
    · cases e4
  · cases e2
theorem si_dk (he : SE X e m) : SI X tg e (iDk m) := pi_imp (pi_keys he) fun σ H Q q => by
  obtain ⟨c, ow, σa, h, items, chk, h', k, e, f⟩ := q
  simp only [iDk, Option.bind_eq_some_iff] at e
  obtain ⟨⟨r1, h1⟩, e1, e2⟩ := e
  refine ⟨c, ow, σa, h, r1, h1, k, e1, fun c1 H1 x E1 K1 R1 => ?_⟩
  dsimp only at e2
  split at e2
  · rename_i q
    split at e2
    · rename_i kvs eq
      simp only [Option.some.injEq, Prod.mk.injEq] at e2
      obtain ⟨rfl, rfl, rfl⟩ := e2
      obtain ⟨a, rfl, ea⟩ := ref_vr R1
      obtain ⟨ob, e5, e6⟩ := K1.cell q a ea
      rw [eq] at e5
      cases e5
      obtain ⟨ys, ⟨o, e3⟩, e4⟩ := e6
      refine ⟨a, o, rfl, .inr ⟨ys, e3, f c1 H1 _ E1 K1 ?_⟩⟩
      refine ⟨_, _, by rw [List.length_map, e4.len]; exact walk_keysT, fun c' h' H' pre kp k' ck fz => ⟨fz a o _ e3, fun i x H'' hi y => ?_⟩⟩
      obtain ⟨rfl, kk, v, q', ek, rfl, eq2⟩ := y
      obtain ⟨w, hw⟩ := e4.get ek
      refine ⟨.tup (kk.map kVal), by rw [List.getElem?_map, hw]; rfl, .inl rfl, ?_⟩
      unfold VR
      exact ⟨q', kk.map kV, rfl, eq2, keys_vr kk⟩
    · cases e2
  · cases e2
theorem ss_ddel (hu : X.A.units + 65 < cLine) (ho : SE X o mo) (hi : SE X i mi) : SS X (.Delete [.Subscript o i tpos] pos) (sDDelM mo mi) := ps_imp (ps_ddelT (ulow hu) ho hi) fun D σ H q => by
  obtain ⟨c, ow, σa, h, fl, σa', h', k, e, f⟩ := q
  simp only [sDDelM, Option.bind_eq_some_iff] at e
  obtain ⟨⟨r1, h1⟩, e1, ⟨r2, h2⟩, e2, e3⟩ := e
  refine ⟨c, ow, σa, h, r1, h1, k, e1, fun c1 H1 x E1 K1 R1 => ?_⟩
  have k1 := k.ext E1 K1
  refine ⟨c1, ow, σa, h1, r2, h2, k1, e2, fun c2 H2 y E2 K2 R2 => ?_⟩
  dsimp only at e3
  split at e3
  · rename_i q yv
    split at e3
    · rename_i kvs eq
      simp only [Option.bind_eq_some_iff] at e3
      obtain ⟨kk, e4, e5⟩ := e3
      split at e5
      · rename_i hv
        simp only [Option.some.injEq, Prod.mk.injEq] at e5
        obtain ⟨rfl, rfl, rfl⟩ := e5
        obtain ⟨a, rfl, ea⟩ := ref_vr R1
        have ea2 := E2.get ea
        obtain ⟨ob, e6, e7⟩ := K2.cell q a ea2
        rw [eq] at e6
        cases e6
        obtain ⟨ys, e8, e9⟩ := e7
        obtain ⟨b, rfl, eb⟩ := keysT_vr e4 R2
        obtain ⟨k3, x3, _⟩ := K2.setCellO (u := .dT (dropK ys kk)) (ob := .dT (dropP kvs kk)) ea2 eq rfl fun tk => ⟨_, upd_same, (PRs.mono tk _ _ e9).drop kk⟩
        refine ⟨a, b, ys, kk, rfl, rfl, e8, eb, ?_, f c2 ow σ _ ((E1.trans E2).trans x3).s ((k1.ext E2 K2).ext x3 k3)⟩
        rcases e9.val kk with ⟨z1, z2⟩ | ⟨v, w, z1, z2, _⟩
        · rw [z1] at hv; cases hv
        · rw [z2]; rfl
      · cases e5
    · cases e3
  · cases e3
end
theorem v_lenD : VC rLenT fLenD := by
  intro c h H0 H xs rs r' h' Q k q e f
  unfold fLenD at e
  split at e
  · rename_i p
    split at e
    · rename_i kvs eq
      simp only [Option.some.injEq, Prod.mk.injEq] at e
      obtain ⟨rfl, rfl⟩ := e
      obtain ⟨y, rfl, q1⟩ := rrs1 q
      obtain ⟨a, rfl, ea⟩ := ref_vr q1
      obtain ⟨ob, e6, e7⟩ := k.cell p a ea
      rw [eq] at e6
      cases e6
      obtain ⟨ys, e8, e9⟩ := e7
      refine ⟨a, ys, rfl, e8, ?_⟩
      rw [← e9.len]
      exact f c H _ (Ext.refl c H) k rr_int
    · cases e
  · cases e
end NL
set_option Elab.async false
set_option linter.all false
set_option maxRecDepth 100000
set_option maxHeartbeats 4000000
set_option autoImplicit false
namespace NL
open PySem PySem.Spec PyProof.Rows L2
/-! ### instances -/
def putFv (f : Str) (v : Val) : List (Str × Val) → List (Str × Val)
  | [] => [(f, v)]
  | (g, x) :: r => if g = f then (g, v) :: r else (g, x) :: putFv f v r
theorem PRs.fld {c : List Addr} {H : Hp} (f : Str) : ∀ {vs : List (Str × Val)} {xs : List (Str × V)}, PRs c H vs xs → (vs.lookup f = none ∧ xs.lookup f = none) ∨ ∃ v y, vs.lookup f = some v ∧ xs.lookup f = some y ∧ VR c H v y
  | [], _, q => by unfold PRs at q; subst q; exact .inl ⟨rfl, rfl⟩
  | p :: ps, xs, ⟨y, ys, e, r, q⟩ => by
    subst e
    obtain ⟨g, v⟩ := p
    by_cases h : f = g
    · subst h
      exact .inr ⟨v, y, by simp [List.lookup], by simp [List.lookup], r⟩
    · have h' : (f == g) = false := by simpa using h
      have e1 : List.lookup f ((g, v) :: ps) = List.lookup f ps := by simp [List.lookup, h']
      have e2 : List.lookup f ((g, y) :: ys) = List.lookup f ys := by simp [List.lookup, h']
      rw [e1, e2]
      exact PRs.fld f q
theorem PRs.putF {c : List Addr} {H : Hp} (f : Str) {v : Val} {z : V} (rz : VR c H v z) : ∀ {vs : List (Str × Val)} {xs : List (Str × V)}, PRs c H vs xs → PRs c H (putFv f v vs) (L2.putF f z xs)
  | [], _, q => by unfold PRs at q; subst q; exact ⟨z, [], rfl, rz, rfl⟩
  | p :: ps, xs, ⟨y, ys, e, r, q⟩ => by
    subst e
    obtain ⟨g, w⟩ := p
    unfold putFv L2.putF
    by_cases h : g = f
    · rw [if_pos h, if_pos h]
      exact ⟨z, ys, rfl, rz, q⟩
    · rw [if_neg h, if_neg h]
      exact ⟨y, _, rfl, r, PRs.putF f rz q⟩
theorem PRs.len' {κ : Type} {c : List Addr} {H : Hp} : ∀ {vs : List (κ × Val)} {xs : List (κ × V)}, PRs c H vs xs → vs.length = xs.length
  | [], _, q => by unfold PRs at q; subst q; rfl
  | p :: ps, xs, ⟨y, ys, e, _, q⟩ => by subst e; simp [PRs.len' q]
variable [HasK]
/-- where a class stands -/
def clO (cl : Str) : Addr := He.ga HasK.K cl
/-! ### meanings -/
def mFld (cl f : Str) (m : ME) : ME := fun s h => (m s h).bind fun p => match p.1 with
  | .v (.ref q) => match p.2[q]? with
    | some (.ins C fs) => if C = clO cl then (fs.lookup f).map fun v => (.v v, p.2) else none
    | _ => none
  | _ => none
def sFldP (cl f : Str) (mo mv : ME) : MS := fun s h => (mv s h).bind fun v => (mo s v.2).bind fun p => match v.1, p.1 with
  | .v x, .v (.ref q) => match p.2[q]? with
    | some (.ins C fs) => if C = clO cl ∧ fs.length < 1000 then some (.nx, s, p.2.set q (.ins C (putFv f x fs))) else none
    | _ => none
  | _, _ => none
def sFldA (cl f : Str) (mo mv : ME) : MS := fun s h => (mo s h).bind fun p => match p.1 with
  | .v (.ref q) => match p.2[q]? with
    | some (.ins C fs) => if C = clO cl then match fs.lookup f with
      | some (.int i) => (mv s p.2).bind fun v => match v.1 with
        | .v (.int j) => match v.2[q]? with
          | some (.ins C' fs') => if C' = C ∧ fs'.length < 1000 then some (.nx, s, v.2.set q (.ins C' (putFv f (.int (i + j)) fs'))) else none
          | _ => none
        | _ => none
      | _ => none else none
    | _ => none
  | _ => none
def mMeth (cl m : Str) (fm : FM) (mo : ME) (t : MA) : ME := fun s h => (mo s h).bind fun p => match p.1 with
  | .v (.ref q) => match p.2[q]? with
    | some (.ins C fs) => if C = clO cl ∧ fs.lookup m = none then (t s p.2).bind fun as => fm (.v (.ref q) :: as.1.map bor) as.2 else none
    | _ => none
  | _ => none
def mMake (cl : Str) (fm : FM) (t : MA) : ME := fun s h => (t s h).bind fun as => (fm (.v (.ref as.2.length) :: as.1.map bor) (as.2 ++ [.ins (clO cl) []])).bind fun p => match p.1 with
  | .v .non => some (.v (.ref as.2.length), p.2)
  | _ => none
/-- a method that may be called -/
structure CalM (P : Program) (w : World) (K : PySem.W.Frag) (mg : Str → Option Value) (base : Heap) (cl m : Str) (ps : List Str) (k : Nat) (fm : FM) : Prop where
  ex : ∃ (f : Addr) (fd : FuncData), Cls K (He.ga K cl) ∧ Meth K (He.ga K cl) m f ∧ FnOk P w K mg base CX0 k f fd ps (spM ps.length fm) ∧ Binds K fd ps []
/-- a class that may be made -/
structure MkM (P : Program) (w : World) (K : PySem.W.Frag) (mg : Str → Option Value) (base : Heap) (cl : Str) (ps : List Str) (k : Nat) (fm : FM) : Prop where
  ex : ∃ (f : Addr) (fd : FuncData), Mk K (He.ga K cl) f ∧ mg cl = some (.ref (He.ga K cl)) ∧ FnOk P w K mg base CX0 k f fd ps (spM ps.length fm) ∧ Binds K fd ps []
section
variable {P : Program} {w : World} {K : PySem.W.Frag} {mg : Str → Option Value} {base : Heap}
theorem fnQ_ok {x qual : Str} {st : Stmt} {f : Addr} {fd : FuncData} {N ps : List Str} {k : Nat} {mb : MS} (F : FunD K x qual (defArgs st) (defBody st) (defScope st) [] [] f fd) (S : FnScope N ps (defScope st))
    (hb : ∀ (cdv : Value) (A : Around) (outer : List Env) (s : Shared) (H : Hp) (E : XK), Room k (A.deeper (envOfC qual (defScope st) s.heap.objs.size f cdv)) → SSs (cxOf CX0 P w K mg base N qual (defScope st) f cdv A outer s H E).nox (defBody st) mb) :
    FnOk P w K mg base CX0 (k + 1) f fd ps (spM ps.length (mDef N.length ps.length mb)) := by
  refine F.ok S (fun vs H Q E h => ?_) (fun cdv A outer s H vs Q E hr h => ?_)
  · obtain ⟨c, h, rs, r, h', k, q, hl, _⟩ := h
    rw [← q.length, hl]
  · obtain ⟨c, h, rs, r, h', k, q, hl, e, g⟩ := h
    refine ⟨_, PSs.nox (hb cdv A outer s H E hr), ?_⟩
    unfold mDef at e
    rw [if_pos hl] at e
    have k0 := rel_start (N := N) rfl k q hl
    split at e
    · rename_i r' s' h'' e1
      simp only [Option.some.injEq, Prod.mk.injEq] at e
      obtain ⟨rfl, rfl⟩ := e
      exact ⟨c, _, _, h, _, _, _, k0, e1, fun c1 ow1 σ1 H1 E1 K1 y hy => g c1 H1 y E1.ext K1.hr hy⟩
    · rename_i s' h'' e1
      simp only [Option.some.injEq, Prod.mk.injEq] at e
      obtain ⟨rfl, rfl⟩ := e
      exact ⟨c, _, _, h, _, _, _, k0, e1, fun c1 ow1 σ1 H1 E1 K1 => g c1 H1 _ E1.ext K1.hr (show VR c1 H1 .non .non by unfold VR; rfl)⟩
    · cases e
end
section
variable {X : Cx} {o e value : Expr} {es : List Expr} {cl f m : Str} {pos pos' tpos apos p : Pos} {mo mv ma : ME} {t : MA} {k j : Nat} {ps : List Str} {fm : FM}
theorem se_fld (hK : X.K = HasK.K) (c : Cls X.K (He.ga X.K cl)) (n : NoAttr X.K (He.ga X.K cl) f) (he : SE X e ma) (hb : attributeBase e f X.env (eval e X.env) = eval e X.env := by rfl) : SE X (.Attribute e f pos) (mFld cl f ma) := pe_imp (pe_fld he hb) fun σ H Q q => by
  obtain ⟨c', ow, σa, h, r, h', k, e, g⟩ := q
  simp only [mFld, Option.bind_eq_some_iff] at e
  obtain ⟨⟨r1, h1⟩, e1, e2⟩ := e
  refine ⟨c', ow, σa, h, r1, h1, k, e1, fun c1 H1 x E1 K1 R1 => ?_⟩
  dsimp only at e2
  split at e2
  · rename_i q
    split at e2
    · rename_i C fs eq
      split at e2
      · rename_i hC
        simp only [Option.map_eq_some_iff, Prod.mk.injEq] at e2
        obtain ⟨v, ev, rfl, rfl⟩ := e2
        obtain ⟨a, rfl, ea⟩ := ref_vr R1
        obtain ⟨ob, e5, e6⟩ := K1.cell q a ea
        rw [eq] at e5
        cases e5
        obtain ⟨ys, ⟨dx, e7⟩, e8⟩ := e6
        rcases e8.fld f with ⟨z1, z2⟩ | ⟨v', y, z1, z2, z3⟩
        · rw [z1] at ev; cases ev
        · rw [z1] at ev
          cases ev
          have hC' : C = He.ga X.K cl := by rw [hC, hK]; rfl
          exact ⟨a, C, dx, ys, y, rfl, e7, by rw [hC']; exact c, by rw [hC']; exact n, z2, g c1 H1 y E1 K1 z3⟩
      · cases e2
    · cases e2
  · cases e2
theorem ss_fld (hK : X.K = HasK.K) (c : Cls X.K (He.ga X.K cl)) (n : NoAttr X.K (He.ga X.K cl) f) (ho : SE X o mo) (hv : SE X value mv) (hs : swapsWith value (some (.Attribute o f pos')) pos.line X.env = pure false := by rfl) : SS X (.Assign [.Attribute o f pos'] value pos) (sFldP cl f mo mv) := ps_imp (ps_fld ho hv hs) fun D σ H q => by
  obtain ⟨c', ow, σa, h, fl, σa', h', k, e, g⟩ := q
  simp only [sFldP, Option.bind_eq_some_iff] at e
  obtain ⟨⟨r1, h1⟩, e1, ⟨r2, h2⟩, e2, e3⟩ := e
  refine ⟨c', ow, σa, h, r1, h1, k, e1, fun c1 H1 y E1 K1 R1 => ?_⟩
  have k1 := k.ext E1 K1
  refine ⟨c1, ow, σa, h1, r2, h2, k1, e2, fun c2 H2 x E2 K2 R2 => ?_⟩
  dsimp only at e3
  split at e3
  · rename_i xv q
    split at e3
    · rename_i C fs eq
      split at e3
      · rename_i hC
        simp only [Option.some.injEq, Prod.mk.injEq] at e3
        obtain ⟨rfl, rfl, rfl⟩ := e3
        obtain ⟨a, rfl, ea⟩ := ref_vr R2
        obtain ⟨ob, e5, e6⟩ := K2.cell q a ea
        rw [eq] at e5
        cases e5
        obtain ⟨ys, ⟨dx, e7⟩, e8⟩ := e6
        have hC' : C = He.ga X.K cl := by rw [hC.1, hK]; rfl
        have R1' : VR c2 H2 xv y := RR.mono E2 K1 R1
        obtain ⟨k3, x3, _⟩ := K2.setCellO (u := .ins C dx (L2.putF f y ys)) (ob := .ins C (putFv f xv fs)) ea eq rfl fun tk => ⟨_, ⟨dx, upd_same⟩, (PRs.mono tk _ _ e8).putF f (VR.mono tk _ _ R1')⟩
        exact ⟨a, C, dx, ys, rfl, e7, by rw [hC']; exact c, by rw [hC']; exact n, by rw [← e8.len']; exact hC.2, g c2 ow σ _ ((E1.trans E2).trans x3).s ((k1.ext E2 K2).ext x3 k3)⟩
      · cases e3
    · cases e3
  · cases e3
theorem ss_fldA (hK : X.K = HasK.K) (c : Cls X.K (He.ga X.K cl)) (n : NoAttr X.K (He.ga X.K cl) f) (ho : SE X o mo) (hv : SE X value mv) : SS X (.AugAssign (.Attribute o f tpos) .Add value pos) (sFldA cl f mo mv) := ps_imp (ps_fldaug ho hv in_add) fun D σ H q => by
  obtain ⟨c', ow, σa, h, fl, σa', h', k, e, g⟩ := q
  simp only [sFldA, Option.bind_eq_some_iff] at e
  obtain ⟨⟨r1, h1⟩, e1, e2⟩ := e
  refine ⟨c', ow, σa, h, r1, h1, k, e1, fun c1 H1 x E1 K1 R1 => ?_⟩
  have k1 := k.ext E1 K1
  dsimp only at e2
  split at e2
  · rename_i q
    split at e2
    · rename_i C fs eq
      split at e2
      · rename_i hC
        split at e2
        · rename_i i ei
          simp only [Option.bind_eq_some_iff] at e2
          obtain ⟨⟨r2, h2⟩, e3, e4⟩ := e2
          dsimp only at e4
          obtain ⟨a, rfl, ea⟩ := ref_vr R1
          obtain ⟨ob, e5, e6⟩ := K1.cell q a ea
          rw [eq] at e5
          cases e5
          obtain ⟨ys, ⟨dx, e7⟩, e8⟩ := e6
          have hC' : C = He.ga X.K cl := by rw [hC, hK]; rfl
          rcases e8.fld f with ⟨z1, z2⟩ | ⟨v', y, z1, z2, z3⟩
          · rw [z1] at ei; cases ei
          rw [z1] at ei
          cases ei
          unfold VR at z3
          subst z3
          refine ⟨a, C, dx, ys, _, rfl, e7, by rw [hC']; exact c, by rw [hC']; exact n, z2, ?_⟩
          refine ⟨c1, ow, σa, h1, r2, h2, k1, e3, fun c2 H2 y2 E2 K2 R2 => ?_⟩
          split at e4
          case h_2 => cases e4
          rename_i j
          split at e4
          · rename_i C2 fs2 eq2'
            split at e4
            · rename_i hC2
              simp only [Option.some.injEq, Prod.mk.injEq] at e4
              obtain ⟨rfl, rfl, rfl⟩ := e4
              have ea2 := E2.get ea
              obtain ⟨ob2, e9, e10⟩ := K2.cell q a ea2
              rw [eq2'] at e9
              cases e9
              obtain ⟨ys2, ⟨dx2, e11⟩, e12⟩ := e10
              obtain ⟨k3, x3, _⟩ := K2.setCellO (u := .ins C2 dx2 (L2.putF f (.int (i + j)) ys2)) (ob := .ins C2 (putFv f (.int (i + j)) fs2)) ea2 eq2' rfl fun tk => ⟨_, ⟨dx2, upd_same⟩, (PRs.mono tk _ _ e12).putF f (by unfold VR; rfl)⟩
              refine ⟨i, j, rfl, int_rr R2, dx2, ys2, by rw [← hC2.1]; exact e11, by rw [← e12.len']; exact hC2.2, ?_⟩
              rw [← hC2.1]
              exact g c2 ow σ _ ((E1.trans E2).trans x3).s ((k1.ext E2 K2).ext x3 k3)
            · cases e4
          · cases e4
        · cases e2
      · cases e2
    · cases e2
  · cases e2
theorem rd_meth {σ : L2.St} {H : Hp} {Q : VK} {E : XK} {np : Nat} {C : Addr} (hC : C = clO cl) (ha : ∀ s h rs h', t s h = some (rs, h') → rs.length + 1 = np) (q : rdE (mMeth cl m fm mo t) σ H Q) : tMeth C m (spM np fm) [] E (rdE mo) (rdA t) σ H Q := by
  obtain ⟨c', ow, σa, h, r, h', k, e, g⟩ := q
  simp only [mMeth, Option.bind_eq_some_iff] at e
  obtain ⟨⟨r1, h1⟩, e1, e2⟩ := e
  refine ⟨c', ow, σa, h, r1, h1, k, e1, fun c1 H1 x E1 K1 R1 => ?_⟩
  have k1 := k.ext E1 K1
  dsimp only at e2
  split at e2
  · rename_i q
    split at e2
    · rename_i C0 fs eq
      split at e2
      · rename_i hc
        simp only [Option.bind_eq_some_iff] at e2
        obtain ⟨⟨rs, h2⟩, e3, e4⟩ := e2
        obtain ⟨a, rfl, ea⟩ := ref_vr R1
        obtain ⟨ob, e5, e6⟩ := K1.cell q a ea
        rw [eq] at e5
        cases e5
        obtain ⟨ys, ⟨dx, e7⟩, e8⟩ := e6
        have e9 : ys.lookup m = none := by
          rcases e8.fld m with ⟨_, z2⟩ | ⟨v', y, z1, _⟩
          · exact z2
          · rw [hc.2] at z1; cases z1
        refine ⟨a, dx, ys, rfl, by rw [hC, ← hc.1]; exact e7, e9, ?_⟩
        refine ⟨c1, ow, σa, h1, rs, h2, k1, e3, fun c2 H2 xs E2 K2 R2 => ?_⟩
        show spM np fm (.ref a :: (xs ++ [])) H2 Q E
        rw [List.append_nil]
        refine ⟨c2, h2, .v (.ref q) :: rs.map bor, r, h', K2, ⟨.ref a, xs, rfl, ?_, RAs.of R2⟩, by rw [List.length_cons, List.length_map]; exact ha _ _ _ _ e3, e4, fun c3 H3 y E3 K3 R3 => g c3 H3 y ((E1.trans E2).trans E3) K3 (RR.early (E1.trans E2) R3.rr)⟩
        show VR c2 H2 (.ref q) (.ref a)
        unfold VR
        exact ⟨a, rfl, E2.get ea⟩
      · cases e2
    · cases e2
  · cases e2
theorem se_meth (hK : X.K = HasK.K) (C : CalM X.prog X.w X.K X.mg X.base cl m ps k fm) (hr : Room j X.A) (ho : SE X o mo) (ha : SA X (e :: es) t) (hl : ∀ s h rs h', t s h = some (rs, h') → rs.length + 1 = ps.length) (hk : k ≤ j := by decide) {pl : Sem Bool}
    (hst : starEach (e :: es) X.env = (false, eval e X.env) :: starEach es X.env := by rfl) (hpl : (backTo pos (starEach es X.env)).any (·.1) = false := by rfl)
    (ht : eval (.Call (.Attribute o m apos) (e :: es) [] pos) X.env = (do
      let ov ← eval o X.env
      standAt apos.atName
      let (f, first) ← holding [ov] (getMethod ov m pl)
      callWith pos f first (backTo pos (starEach (e :: es) X.env)) (backToKw pos (keywordEach [] X.env))) := by rfl) :
    SE X (.Call (.Attribute o m apos) (e :: es) [] pos) (mMeth cl m fm mo t) := by
  obtain ⟨f, fd, c, hm, F, hb⟩ := C.ex
  exact pe_imp (pe_meth (pl := pl) ho c hm F (hr.mono hk) hb .nil pass0 ha hst hpl ht) fun _ _ _ => rd_meth (by rw [hK]; rfl) hl
theorem nil_rd {σ : L2.St} {H : Hp} {Q : List V → Hp → Prop} (q : rdA aNil σ H Q) : tNil σ H Q := by
  obtain ⟨c, ow, σa, h, rs, h', k, e, g⟩ := q
  simp only [aNil, Option.some.injEq, Prod.mk.injEq] at e
  obtain ⟨rfl, rfl⟩ := e
  exact g c H [] (Ext.refl c H) k.hr rfl
theorem se_meth0 (hK : X.K = HasK.K) (C : CalM X.prog X.w X.K X.mg X.base cl m ps k fm) (hr : Room j X.A) (ho : SE X o mo) (hl : 1 = ps.length) (hk : k ≤ j := by decide) {pl : Sem Bool}
    (ht : eval (.Call (.Attribute o m apos) [] [] pos) X.env = (do
      let ov ← eval o X.env
      standAt apos.atName
      let (f, first) ← holding [ov] (getMethod ov m pl)
      callWith pos f first (backTo pos (starEach [] X.env)) (backToKw pos (keywordEach [] X.env))) := by rfl) :
    SE X (.Call (.Attribute o m apos) [] [] pos) (mMeth cl m fm mo aNil) := by
  obtain ⟨f, fd, c, hm, F, hb⟩ := C.ex
  refine pe_imp (pe_meth0 (pl := pl) ho c hm F (hr.mono hk) hb .nil (show Passes CX0 X (fun _ _ _ => False) from pass0) ht) fun σ H Q q => ?_
  have z := rd_meth (E := fun _ _ _ => False) (np := ps.length) (C := He.ga X.K cl) (by rw [hK]; rfl) (fun s h rs h' e => by
    simp only [aNil, Option.some.injEq, Prod.mk.injEq] at e
    obtain ⟨rfl, rfl⟩ := e
    exact hl) q
  obtain ⟨c1, ow, σa, h, r, h', k, e, g⟩ := z
  refine ⟨c1, ow, σa, h, r, h', k, e, fun c2 H2 x E2 K2 R2 => ?_⟩
  obtain ⟨a, dx, fs, e1, e2, e3, e4⟩ := g c2 H2 x E2 K2 R2
  exact ⟨a, dx, fs, e1, e2, e3, nil_rd e4⟩
theorem rd_make {σ : L2.St} {H : Hp} {Q : VK} {E : XK} {np : Nat} {C : Addr} (hC : C = clO cl) (ha : ∀ s h rs h', t s h = some (rs, h') → rs.length + 1 = np) (q : rdE (mMake cl fm t) σ H Q) : tMake C (spM np fm) [] E (rdA t) σ H Q := by
  obtain ⟨c', ow, σa, h, r, h', k, e, g⟩ := q
  simp only [mMake, Option.bind_eq_some_iff] at e
  obtain ⟨⟨rs, h1⟩, e1, ⟨r2, h2⟩, e2, e3⟩ := e
  dsimp only at e2 e3
  split at e3
  · simp only [Option.some.injEq, Prod.mk.injEq] at e3
    obtain ⟨rfl, rfl⟩ := e3
    refine ⟨c', ow, σa, h, rs, h1, k, e1, fun c1 H1 xs E1 K1 R1 x dx hx hdx ne => ?_⟩
    show spM np fm (.ref x :: (xs ++ [])) _ _ E
    rw [List.append_nil]
    have hx2 : (upd H1 dx (.own x)) x = none := by rw [upd_ne (fun z => ne z.symm)]; exact hx
    have EA : Ext c1 c1 H1 (upd H1 dx (.own x)) := Ext.alloc hdx
    have KA := K1.alloc (o := .own x) hdx
    have EB : Ext c1 c1 (upd H1 dx (.own x)) (upd (upd H1 dx (.own x)) x (.ins C dx [])) := Ext.alloc hx2
    have KB := KA.alloc (o := .ins C dx []) hx2
    have EAB := EA.trans EB
    have nx : x ∉ c1 := K1.nin hx
    have KC := KB.pushO (ob := .ins C []) (a := x) nx ⟨[], ⟨dx, upd_same⟩, rfl⟩
    have EC : Ext c1 (c1 ++ [x]) H1 (upd (upd H1 dx (.own x)) x (.ins C dx [])) := ext_push EAB hx
    have R2 := RRs.mono EAB K1 R1
    have tk : TK c1 (c1 ++ [x]) (upd (upd H1 dx (.own x)) x (.ins C dx [])) (upd (upd H1 dx (.own x)) x (.ins C dx [])) := ⟨fun _ _ z => z, fun p a z => by rw [List.getElem?_append_left (List.getElem?_eq_some_iff.mp z).1]; exact z⟩
    refine ⟨c1 ++ [x], h1 ++ [.ins (clO cl) []], .v (.ref h1.length) :: rs.map bor, .v .non, h2, by rw [← hC]; exact KC, ⟨.ref x, xs, rfl, ?_, ?_⟩, by rw [List.length_cons, List.length_map]; exact ha _ _ _ _ e1, e2, fun c3 H3 y E3 K3 R3 => ⟨?_, g c3 H3 (.ref x) ((E1.trans EC).trans E3) K3 ?_⟩⟩
    · show VR (c1 ++ [x]) (upd (upd H1 dx (.own x)) x (.ins C dx [])) (.ref h1.length) (.ref x)
      unfold VR
      exact ⟨x, rfl, by rw [K1.len]; simp⟩
    · have E4 : Ext c1 (c1 ++ [x]) H1 (upd (upd H1 dx (.own x)) x (.ins C dx [])) := EC
      exact RAs.of (RRs.mono E4 K1 R1)
    · have R3 : VR c3 H3 .non y := R3
      unfold VR at R3
      exact R3
    · exact ref_rr (E3.get (by rw [K1.len]; simp))
  · cases e3
theorem se_make (hK : X.K = HasK.K) (C : MkM X.prog X.w X.K X.mg X.base cl ps k fm) (hr : Room j X.A) (ha : SA X (e :: es) t) (hl : ∀ s h rs h', t s h = some (rs, h') → rs.length + 1 = ps.length) (hk : k + 1 ≤ j := by decide)
    (hg : Gl X cl := by rfl) (hdb : (cl == ("__debug__" : Str)) = false := by decide) (he : starEach (e :: es) X.env = (false, eval e X.env) :: starEach es X.env := by rfl) (hpl : (backTo pos (starEach es X.env)).any (·.1) = false := by rfl) :
    SE X (.Call (.Name cl p) (e :: es) [] pos) (mMake cl fm t) := by
  obtain ⟨f, fd, M, hm, F, hb⟩ := C.ex
  exact pe_imp (pe_make M F (hr.mono hk) hg hm hb .nil pass0 ha hdb he hpl) fun _ _ _ => rd_make (by rw [hK]; rfl) hl
end
end NL
set_option Elab.async false
set_option linter.all false
set_option maxRecDepth 100000
set_option maxHeartbeats 4000000
set_option autoImplicit false
namespace NL
open PySem PySem.Spec PyProof.Rows L2
def qOf (m : ME) : Sl → Hh → Option Nat := fun s h => match m s h with
  | some (.v (.ref q), _) => some q
  | _ => none
theorem len_p1 {t : MA} {n : Nat} (ht : ∀ s h rs h', t s h = some (rs, h') → rs.length = n) : ∀ s h rs h', t s h = some (rs, h') → rs.length + 1 = n + 1 := fun s h rs h' e => by rw [ht s h rs h' e]
/-! ### {k: v, ..} -/
def evP : List (ME × ME) → Sl → Hh → Option (List (Key × Val) × Hh)
  | [], _, h => some ([], h)
  | (mk, mv) :: r, s, h => (mk s h).bind fun k => (mv s k.2).bind fun v => match k.1, v.1 with
    | .v y, .v x => (asKey y).bind fun kk => (evP r s v.2).map fun q => ((kk, x) :: q.1, q.2)
    | _, _ => none
def mergeP (kvs more : List (Key × Val)) : List (Key × Val) := more.foldl (fun acc kv => putP acc kv.1 kv.2) kvs
def mDisp (ps : List (ME × ME)) : ME := fun s h => (evP ps s h).map fun q => (.v (.ref q.2.length), q.2 ++ [.dK (mergeP [] q.1)])
theorem PRs.merge {c : List Addr} {H : Hp} : ∀ {more : List (Key × Val)} {ys : List (Key × V)} {kvs : List (Key × Val)} {xs : List (Key × V)}, PRs c H more ys → PRs c H kvs xs → PRs c H (mergeP kvs more) (mergeK xs ys)
  | [], _, kvs, xs, q, r => by unfold PRs at q; subst q; exact r
  | p :: ps, _, kvs, xs, ⟨y, ys, e, q1, q2⟩, r => by
    subst e
    exact PRs.merge (more := ps) (ys := ys) q2 (r.put p.1 q1)
/-- d[k], x = e -/
def sUnpD (md mk : ME) (j : Nat) (m : ME) : MS := fun s h => (m s h).bind fun p => match p.1 with
  | .v (.tup [a, b]) => (md s p.2).bind fun d => (mk s d.2).bind fun k => match d.1, k.1 with
    | .v (.ref q), .v y => (dputO k.2 q y a).map fun h' => (.nx, s.set j (some (.v b)), h')
    | _, _ => none
  | _ => none
variable [HasK]
theorem rd_pairs {ow : Ow} {σa : Sl} {σ : L2.St} : ∀ {ps : List (ME × ME)} {c : List Addr} {h h' : Hh} {H : Hp} {kvs : List (Key × Val)} {Q : List (V × V) → Hp → Prop}, Rel c ow σa h σ H → evP ps σa h = some (kvs, h') →
    (∀ c' H' ys, Ext c c' H H' → HR c' h' H' → PRs c' H' kvs ys → Q (ys.map fun kv => (kV kv.1, kv.2)) H') → tPairs (ps.map fun p => (rdE p.1, rdE p.2)) σ H Q
  | [], c, h, h', H, kvs, Q, k, e, f => by
    simp only [evP, Option.some.injEq, Prod.mk.injEq] at e
    obtain ⟨rfl, rfl⟩ := e
    exact f c H [] (Ext.refl c H) k.hr rfl
  | (mk, mv) :: r, c, h, h', H, kvs, Q, k, e, f => by
    simp only [evP, Option.bind_eq_some_iff] at e
    obtain ⟨⟨r1, h1⟩, e1, ⟨r2, h2⟩, e2, e3⟩ := e
    refine ⟨c, ow, σa, h, r1, h1, k, e1, fun c1 H1 x E1 K1 R1 => ?_⟩
    have k1 := k.ext E1 K1
    refine ⟨c1, ow, σa, h1, r2, h2, k1, e2, fun c2 H2 y E2 K2 R2 => ?_⟩
    have k2 := k1.ext E2 K2
    dsimp only at e3
    split at e3
    · rename_i yv xv
      simp only [Option.bind_eq_some_iff, Option.map_eq_some_iff, Prod.mk.injEq] at e3
      obtain ⟨kk, e4, ⟨q, h3⟩, e5, rfl, rfl⟩ := e3
      refine rd_pairs k2 e5 fun c3 H3 ys E3 K3 P3 => ?_
      have R1' : VR c2 H2 yv x := RR.mono E2 K1 R1
      have R2' : VR c3 H3 xv y := RR.mono E3 K2 R2
      have := f c3 H3 ((kk, y) :: ys) ((E1.trans E2).trans E3) K3 ⟨y, ys, rfl, R2', P3⟩
      rw [key_vr e4 R1']
      exact this
    · cases e3
section
variable {X : Cx} {pos : Pos} {e : Expr} {m : ME}
theorem se_disp {keys : List (Option Expr)} {values : List Expr} {ps : List (ME × ME)} (hp : PPs X pos keys values (ps.map fun p => (rdE p.1, rdE p.2))) (hall : keys.all (·.isSome) = true) (hl : keys.length = values.length) (h0 : keys ≠ []) (h15 : keys.length ≤ 15) (hn : ps.length ≤ 15) : SE X (.Dict keys values pos) (mDisp ps) :=
  pe_imp (pe_disp hp hall hl h0 h15) fun σ H Q q => by
    obtain ⟨c, ow, σa, h, r, h', k, e, f⟩ := q
    simp only [mDisp, Option.map_eq_some_iff, Prod.mk.injEq] at e
    obtain ⟨⟨kvs, h2⟩, e1, rfl, rfl⟩ := e
    intro p hp
    have E0 : Ext c c H (upd H p (.dK [])) := Ext.alloc hp
    have k0 := k.ext E0 (k.hr.alloc (o := .dK []) hp)
    refine rd_pairs k0 e1 fun c2 H2 ys E2 K2 P2 => ?_
    have np : p ∉ c := k.hr.nin hp
    have ep2 : H2 p = some (.dK []) := E2.keep _ _ upd_same np
    have n2 : p ∉ c2 := E2.notin upd_same np
    have len : ∀ {ps : List (ME × ME)} {s : Sl} {h h' : Hh} {kvs : List (Key × Val)}, evP ps s h = some (kvs, h') → kvs.length = ps.length := by
      intro ps
      induction ps with
      | nil =>
        intro s h h' kvs e
        simp only [evP, Option.some.injEq, Prod.mk.injEq] at e
        rw [← e.1]; rfl
      | cons q r ih =>
        intro s h h' kvs e
        obtain ⟨mk, mv⟩ := q
        simp only [evP, Option.bind_eq_some_iff] at e
        obtain ⟨⟨r1, h1⟩, _, ⟨r2, h2⟩, _, e3⟩ := e
        dsimp only at e3
        split at e3
        · simp only [Option.bind_eq_some_iff, Option.map_eq_some_iff, Prod.mk.injEq] at e3
          obtain ⟨kk, _, ⟨q, h3⟩, e5, rfl, _⟩ := e3
          simp [ih e5]
        · cases e3
    obtain ⟨kf, tk⟩ := K2.otherO (u' := .dK (mergeK [] ys)) ep2 (fun _ z => by cases z) n2
    refine ⟨ep2, ys, rfl, by rw [← P2.len, len e1]; exact hn, ?_⟩
    have kg := kf.pushO (ob := .dK (mergeP [] kvs)) (a := p) n2 ⟨_, upd_same, PRs.merge (PRs.mono tk _ _ P2) rfl⟩
    have EF : Ext c c2 H (upd H2 p (.dK (mergeK [] ys))) := by
      refine ⟨E2.pre, fun a o ha na => ?_, fun a ma na => ?_, fun a o ha => ?_, fun a o u ha => ?_⟩
      · have nap : a ≠ p := ne_of_none ha hp
        rw [upd_ne nap]
        exact E2.keep a o (by rw [upd_ne nap]; exact ha) na
      · have := E2.new a ma na
        have nap : a ≠ p := fun z => n2 (by rw [← z]; exact ma)
        rw [upd_ne nap] at this
        exact this
      · have nap : a ≠ p := ne_of_none ha hp
        obtain ⟨o', ho'⟩ := E2.dom a o (by rw [upd_ne nap]; exact ha)
        exact ⟨o', by rw [upd_ne nap]; exact ho'⟩
      · have nap : a ≠ p := ne_of_none ha hp
        rw [upd_ne nap]
        exact E2.frz a o u (by rw [upd_ne nap]; exact ha)
    refine f (c2 ++ [p]) _ (.ref p) (ext_push EF hp) kg ?_
    exact ref_rr (by rw [K2.len]; simp)
theorem ss_unpD (j : Nat) {o i : Expr} {x : Str} {px pt ps : Pos} {kt : Nat} {mo mi : ME} (hu : X.A.units + 65 < cLine) (hc : X.calm = true) (he : SE X e m) (ho : SE X o mo) (hi : SE X i mi) (hN : X.N.Nodup) (hj : X.N[j]? = some x := by rfl) (hx : Loc X.env.scope x := by first | exact Or.inl rfl | exact Or.inr rfl)
    (hf : X.fn x = true ∨ X.env.scope.names.lookup x = some .local := by first | exact .inl rfl | exact .inr rfl)
    (ha : ∀ v, assign (.Subscript o i ps) X.env v = (do
      let ov ← holding [v] (eval o X.env)
      let iv ← holding [v, ov] (eval i X.env)
      standAt ps
      holding [v, ov, iv] (setItem ov iv v)
      release [v, ov, iv] []) := by intro _; rfl)
    (hs : swapsWithSole [.Tuple [.Subscript o i ps, .Name x px] kt pt] e pos.line X.env = pure false := by rfl) (hw : swappedStores [.Tuple [.Subscript o i ps, .Name x px] kt pt] e X.env = pure none := by rfl)
    (h1 : (assignEach [.Tuple [.Subscript o i ps, .Name x px] kt pt] X.env).map (·.2) = [assign (.Tuple [.Subscript o i ps, .Name x px] kt pt) X.env] := by rfl) :
    SS X (.Assign [.Tuple [.Subscript o i ps, .Name x px] kt pt] e pos) (sUnpD mo mi j m) :=
  ps_imp (ps_asg he (pg_tup (n := 2) hc (pgs_cons (pg_sub ho hi (set_dict (ulow hu)) ha) (pgs_cons (pg_name (i := j) hN hj hx hf) pgs_nil))) hs hw h1) fun D σ H q => by
    obtain ⟨c, ow, σa, h, fl, σa', h', k, e, f⟩ := q
    simp only [sUnpD, Option.bind_eq_some_iff] at e
    obtain ⟨⟨r1, h1⟩, e1, e2⟩ := e
    refine ⟨c, ow, σa, h, r1, h1, k, e1, fun c1 H1 y E1 K1 R1 => ?_⟩
    have k1 := k.ext E1 K1
    dsimp only at e2
    split at e2
    · rename_i va vb
      simp only [Option.bind_eq_some_iff] at e2
      obtain ⟨⟨r2, h2⟩, e3, ⟨r3, h3⟩, e4, e5⟩ := e2
      have R1 : VR c1 H1 (.tup [va, vb]) y := R1
      unfold VR at R1
      obtain ⟨ta, xs, rfl, et, vr⟩ := R1
      unfold VRs at vr
      obtain ⟨xa, xs', rfl, vra, vr⟩ := vr
      unfold VRs at vr
      obtain ⟨xb, xs'', rfl, vrb, vr⟩ := vr
      unfold VRs at vr
      subst vr
      refine ⟨ta, [xa, xb], rfl, .inl (.inl et), rfl, xa, [xb], rfl, ?_⟩
      refine ⟨c1, ow, σa, h1, r2, h2, k1, e3, fun c2 H2 od E2 K2 R2 => ?_⟩
      have k2 := k1.ext E2 K2
      refine ⟨c2, ow, σa, h2, r3, h3, k2, e4, fun c3 H3 ok E3 K3 R3 => ?_⟩
      have k3 := k2.ext E3 K3
      dsimp only at e5
      split at e5
      · rename_i q yv
        simp only [Option.map_eq_some_iff, Prod.mk.injEq] at e5
        obtain ⟨h4, e6, rfl, rfl, rfl⟩ := e5
        obtain ⟨a, rfl, ea⟩ := ref_vr R2
        have E23 := E2.trans E3
        have va' : VR c3 H3 va xa := VR.mono (E23.tk K1) _ _ vra
        have vb' : VR c3 H3 vb xb := VR.mono (E23.tk K1) _ _ vrb
        obtain ⟨H4, g, k4, x4⟩ := dput_rr K3 (E3.get ea) R3 va' e6
        refine ⟨a, H4, rfl, g, xb, [], rfl, rfl, ?_⟩
        have kk := k3.ext x4 k4
        have vb4 : VR c3 H4 vb xb := VR.mono (x4.tk K3) _ _ vb'
        exact f c3 (put ow j none) _ H4 ((((E1.trans E2).trans E3).trans x4).s.trans exts_drop) (kk.setV vb4)
      · cases e5
    · cases e2
end
end NL
set_option Elab.async false
set_option linter.all false
set_option maxRecDepth 100000
set_option maxHeartbeats 4000000
set_option autoImplicit false
namespace NL
open PySem PySem.Spec PyProof.Rows L2 RZ PySem.W PySem.SeqAt
open Classical
/-! ### the order of data -/
/-- different data have different signs -/
def Tells (S : List Val) : Prop := ∀ v ∈ S, ∀ w ∈ S, keyToks (enc v) = keyToks (enc w) → v = w
theorem Tells.sub {S T : List Val} (t : Tells T) (h : ∀ v ∈ S, v ∈ T) : Tells S := fun v hv w hw e => t v (h v hv) w (h w hw) e
theorem Tells.same {S : List Val} (t : Tells S) {v w : Val} (hv : v ∈ S) (hw : w ∈ S) (h1 : dataLt (enc v) (enc w) = false) (h2 : dataLt (enc w) (enc v) = false) : v = w :=
  t v hv w hw ((listOrd itemOrd).total _ _ h1 h2)
theorem leT : TotalLe (dataLe false enc) := sortLe_total (listOrd itemOrd) false fun b => keyToks (enc b)
theorem le_lt {a b : Val} : dataLe false enc a b = !dataLt (enc b) (enc a) := by rw [dataLe_eq]; rfl
theorem srt_perm {xs ys : List Val} (p : xs.Perm ys) (t : Tells xs) : sortVs xs = sortVs ys := by
  unfold sortVs
  refine List.Perm.eq_of_pairwise (le := fun a b => dataLe false enc a b = true) (fun a b ha hb h1 h2 => ?_) (sort_pairwise leT _) (sort_pairwise leT _) (((List.mergeSort_perm xs _).trans p).trans (List.mergeSort_perm ys _).symm)
  have ma := (List.mergeSort_perm xs _).mem_iff.mp ha
  have mb := p.mem_iff.mpr ((List.mergeSort_perm ys _).mem_iff.mp hb)
  rw [le_lt] at h1 h2
  exact t.same ma mb (by simpa using h2) (by simpa using h1)
/-- the least of a list -/
def IsLeast (S : List Val) (m : Val) : Prop := m ∈ S ∧ ∀ y ∈ S, dataLt (enc y) (enc m) = false
theorem IsLeast.one {S : List Val} {m m' : Val} (t : Tells S) (h : IsLeast S m) (h' : IsLeast S m') : m = m' := t.same h.1 h'.1 (h'.2 m h.1) (h.2 m' h'.1)
theorem IsLeast.perm {S T : List Val} {m : Val} (p : S.Perm T) (h : IsLeast S m) : IsLeast T m := ⟨p.mem_iff.mp h.1, fun y hy => h.2 y (p.mem_iff.mpr hy)⟩
theorem srt_head {x : Val} {xs : List Val} : ∃ m t, sortVs (x :: xs) = m :: t ∧ IsLeast (x :: xs) m := by
  have pm := List.mergeSort_perm (x :: xs) (dataLe false enc)
  have so := sort_pairwise leT (x :: xs)
  unfold sortVs
  cases e : (x :: xs).mergeSort (dataLe false enc) with
  | nil =>
    rw [e] at pm
    have := pm.length_eq
    simp at this
  | cons m t =>
    rw [e] at pm so
    refine ⟨m, t, rfl, pm.mem_iff.mp (List.mem_cons_self ..), fun y hy => ?_⟩
    have hy' := pm.mem_iff.mpr hy
    rcases List.mem_cons.mp hy' with rfl | hy'
    · exact ((listOrd itemOrd).irrefl _)
    · have h1 := (List.pairwise_cons.mp so).1 y hy'
      rw [le_lt] at h1
      simpa using h1
theorem min_least (x : Val) : ∀ (xs : List Val), IsLeast (x :: xs) (minV x xs) := by
  intro xs
  refine ⟨minV_mem x xs, ?_⟩
  have key : ∀ (xs : List Val) (a : Val) (S : List Val), (∀ y ∈ S, dataLt (enc y) (enc a) = false) → ∀ y, (y ∈ S ∨ y ∈ xs) → dataLt (enc y) (enc (xs.foldl (fun a y => if dataLt (enc y) (enc a) then y else a) a)) = false := by
    intro xs
    induction xs with
    | nil =>
      intro a S h y hy
      rcases hy with hy | hy
      · exact h y hy
      · simp at hy
    | cons z zs ih =>
      intro a S h y hy
      rw [List.foldl_cons]
      refine ih _ (z :: S) (fun u hu => ?_) y ?_
      · by_cases c : dataLt (enc z) (enc a) = true
        · rw [if_pos c]
          rcases List.mem_cons.mp hu with rfl | hu
          · exact ((listOrd itemOrd).irrefl _)
          · cases d : dataLt (enc u) (enc z) with
            | false => rfl
            | true =>
              have := (listOrd itemOrd).trans _ _ _ d c
              have h2 := h u hu
              exact absurd (this.symm.trans h2) (by simp)
        · rw [if_neg c]
          rcases List.mem_cons.mp hu with rfl | hu
          · simpa using c
          · exact h u hu
      · rcases hy with hy | hy
        · exact .inl (List.mem_cons_of_mem _ hy)
        · rcases List.mem_cons.mp hy with rfl | hy
          · exact .inl (List.mem_cons_self ..)
          · exact .inr hy
  exact fun y hy => key xs x [x] (fun u hu => by simp at hu; subst hu; exact ((listOrd itemOrd).irrefl _)) y (by simpa using hy)
/-! ### rows of tables -/
structure Rw where
  g : Int
  n : Str
  wk : Str
  wn : Int
  w : Int
  deriving DecidableEq
namespace Rw
def pr (r : Rw) : Val := .tup [.int r.g, .str r.n]
def wy (r : Rw) : Val := .tup [.str r.wk, .int r.wn]
def v (r : Rw) : Val := .tup [.int r.g, .str r.n, r.wy, .int r.w]
def kw (r : Rw) : Val := .tup [.int r.w, r.pr]
def en (now : Int) (r : Rw) : Val := .tup [.int r.g, .str r.n, r.wy, .int (now - r.w)]
def k (r : Rw) : List Key := [.inl r.g, .inr r.n]
def dv (r : Rw) : Val := .tup [r.wy, .int r.w]
theorem k_eq {r q : Rw} : r.k = q.k ↔ r.g = q.g ∧ r.n = q.n := by
  unfold k
  simp
theorem pr_k {r q : Rw} (e : r.pr = q.pr) : r.k = q.k := by
  unfold pr at e
  simp at e
  exact k_eq.mpr e
theorem k_pr {r q : Rw} (e : r.k = q.k) : r.pr = q.pr := by
  obtain ⟨e1, e2⟩ := k_eq.mp e
  unfold pr
  rw [e1, e2]
theorem key_pr {r : Rw} : Val.tup (r.k.map kVal) = r.pr := rfl
theorem asKeys_pr {r : Rw} : asKeys r.pr = some r.k := rfl
end Rw
def dOf (D : List Rw) : List (List Key × Val) := D.map fun r => (r.k, r.dv)
theorem dOf_len {D : List Rw} : (dOf D).length = D.length := by simp [dOf]
/-- each pair once -/
def Once (D : List Rw) : Prop := (D.map Rw.k).Nodup
theorem Once.perm {D E : List Rw} (p : D.Perm E) (o : Once D) : Once E := (p.map Rw.k).nodup_iff.mp o
theorem Once.filter {D : List Rw} (p : Rw → Bool) (o : Once D) : Once (D.filter p) := (List.filter_sublist.map Rw.k).nodup o
theorem Once.same : ∀ {D : List Rw} {r q : Rw}, Once D → r ∈ D → q ∈ D → r.k = q.k → r = q
  | x :: D, r, q, o, hr, hq, e => by
    unfold Once at o
    rw [List.map_cons, List.nodup_cons] at o
    rcases List.mem_cons.mp hr with rfl | hr'
    · rcases List.mem_cons.mp hq with rfl | hq'
      · rfl
      · exact absurd (List.mem_map_of_mem (f := Rw.k) hq') (by rw [← e]; exact o.1)
    · rcases List.mem_cons.mp hq with rfl | hq'
      · exact absurd (List.mem_map_of_mem (f := Rw.k) hr') (by rw [e]; exact o.1)
      · exact Once.same (D := D) o.2 hr' hq' e
theorem valP_in {D : List Rw} {r : Rw} (o : Once D) (h : r ∈ D) : valP (dOf D) r.k = some r.dv := by
  unfold valP dOf
  rw [List.find?_map]
  cases e : D.find? ((fun kv : List Key × Val => decide (kv.1 = r.k)) ∘ fun r => (r.k, r.dv)) with
  | none =>
    have := List.find?_eq_none.mp e r h
    simp at this
  | some q =>
    have h1 := List.find?_some e
    have h2 := List.mem_of_find?_eq_some e
    simp at h1
    rw [o.same h2 h h1]
    rfl
theorem valP_out {D : List Rw} {k : List Key} (h : ∀ r ∈ D, r.k ≠ k) : valP (dOf D) k = none := by
  unfold valP dOf
  rw [List.find?_map, List.find?_eq_none.mpr fun r hr => by simpa using h r hr]
  rfl
theorem put_in {D : List Rw} {q : Rw} (h : ∃ r ∈ D, r.k = q.k) : putP (dOf D) q.k q.dv = dOf (D.map fun r => if r.k = q.k then q else r) := by
  obtain ⟨r, hr, e⟩ := h
  unfold putP
  have a : ((dOf D).any fun kv => decide (kv.1 = q.k)) = true := by
    unfold dOf
    rw [List.any_map, List.any_eq_true]
    exact ⟨r, hr, by simp [e]⟩
  rw [if_pos a]
  unfold dOf
  rw [List.map_map, List.map_map]
  refine List.map_congr_left fun x _ => ?_
  show (if x.k = q.k then (x.k, q.dv) else (x.k, x.dv)) = ((if x.k = q.k then q else x).k, (if x.k = q.k then q else x).dv)
  by_cases c : x.k = q.k
  · rw [if_pos c, if_pos c, c]
  · rw [if_neg c, if_neg c]
theorem put_out {D : List Rw} {q : Rw} (h : ∀ r ∈ D, r.k ≠ q.k) : putP (dOf D) q.k q.dv = dOf (D ++ [q]) := by
  unfold putP
  have a : ¬ ((dOf D).any fun kv => decide (kv.1 = q.k)) = true := by
    unfold dOf
    rw [List.any_map, List.any_eq_true]
    rintro ⟨r, hr, e⟩
    simp at e
    exact h r hr e
  rw [if_neg a]
  unfold dOf
  rw [List.map_append]
  rfl
theorem drop_d {D : List Rw} {k : List Key} : dropP (dOf D) k = dOf (D.filter fun r => decide (r.k ≠ k)) := by
  unfold dropP dOf
  rw [List.filter_map]
  rfl
/-- put in its place, or at the end: the same rows -/
theorem put_perm : ∀ {D : List Rw} {q : Rw}, Once D → (∃ r ∈ D, r.k = q.k) → (D.map fun r => if r.k = q.k then q else r).Perm ((D.filter fun r => decide (r.k ≠ q.k)) ++ [q])
  | [], q, _, ⟨r, hr, _⟩ => by simp at hr
  | x :: D, q, o, h => by
    unfold Once at o
    rw [List.map_cons, List.nodup_cons] at o
    by_cases c : x.k = q.k
    · have no : ∀ r ∈ D, r.k ≠ q.k := fun r hr e => o.1 (by rw [c, ← e]; exact List.mem_map_of_mem hr)
      have e1 : (D.map fun r => if r.k = q.k then q else r) = D := by
        conv => rhs; rw [← List.map_id D]
        exact List.map_congr_left fun r hr => if_neg (no r hr)
      have e2 : (D.filter fun r => decide (r.k ≠ q.k)) = D := List.filter_eq_self.mpr fun r hr => by simpa using no r hr
      rw [List.map_cons, if_pos c, List.filter_cons_of_neg (by simp [c]), e1, e2]
      exact (List.perm_append_singleton q D).symm
    · rw [List.map_cons, if_neg c, List.filter_cons_of_pos (by simp [c]), List.cons_append]
      refine (put_perm (D := D) o.2 ?_).cons x
      obtain ⟨r, hr, e⟩ := h
      rcases List.mem_cons.mp hr with rfl | hr
      · exact absurd e c
      · exact ⟨r, hr, e⟩
/-! rows as data -/
theorem enc_pr {r : Rw} : pd 12 r.pr = some (.tuple [.int r.g, .str r.n]) := by simp [Rw.pr, pd, mapO]
theorem enc_kw {r : Rw} : pd 12 r.kw = some (.tuple [.int r.w, .tuple [.int r.g, .str r.n]]) := by simp [Rw.kw, Rw.pr, pd, mapO]
theorem enc_en {r : Rw} {now : Int} : pd 12 (r.en now) = some (.tuple [.int r.g, .str r.n, .tuple [.str r.wk, .int r.wn], .int (now - r.w)]) := by simp [Rw.en, Rw.wy, pd, mapO]
theorem enc_rv {r : Rw} : pd 12 r.v = some (.tuple [.int r.g, .str r.n, .tuple [.str r.wk, .int r.wn], .int r.w]) := by simp [Rw.v, Rw.wy, pd, mapO]
theorem enc_of {v : Val} {d : PyData} (e : pd 12 v = some d) : enc v = d := by rw [enc, e]; rfl
theorem tells_pr {D : List Rw} : Tells (D.map Rw.pr) := by
  intro v hv w hw e
  obtain ⟨r, _, rfl⟩ := List.mem_map.mp hv
  obtain ⟨q, _, rfl⟩ := List.mem_map.mp hw
  rw [enc_of enc_pr, enc_of enc_pr] at e
  simp only [keyToks, keyToksAll, List.cons_append, List.nil_append, List.cons.injEq, Sum.inl.injEq, Sum.inr.injEq, true_and, and_true] at e
  rw [Rw.k_pr (Rw.k_eq.mpr ⟨e.1, str_of_cps e.2⟩)]
theorem tells_kw {D : List Rw} : Tells (D.map Rw.kw) := by
  intro v hv w hw e
  obtain ⟨r, _, rfl⟩ := List.mem_map.mp hv
  obtain ⟨q, _, rfl⟩ := List.mem_map.mp hw
  rw [enc_of enc_kw, enc_of enc_kw] at e
  simp only [keyToks, keyToksAll, List.cons_append, List.nil_append, List.cons.injEq, Sum.inl.injEq, Sum.inr.injEq, true_and, and_true] at e
  obtain ⟨e1, e2, e3⟩ := e
  unfold Rw.kw
  rw [e1, Rw.k_pr (Rw.k_eq.mpr ⟨e2, str_of_cps e3⟩)]
theorem tells_en {D : List Rw} {now : Int} : Tells (D.map (Rw.en now)) := by
  intro v hv w hw e
  obtain ⟨r, _, rfl⟩ := List.mem_map.mp hv
  obtain ⟨q, _, rfl⟩ := List.mem_map.mp hw
  rw [enc_of enc_en, enc_of enc_en] at e
  simp only [keyToks, keyToksAll, List.cons_append, List.nil_append, List.cons.injEq, Sum.inl.injEq, Sum.inr.injEq, true_and, and_true] at e
  obtain ⟨e1, e2, e3, e4, e5⟩ := e
  unfold Rw.en Rw.wy
  rw [e1, str_of_cps e2, str_of_cps e3, e4, e5]
/-- may be sorted, may be asked for the least -/
def Srt (S : List Val) : Prop := (∀ v ∈ S, Plain v) ∧ AllAlike (S.map enc) ∧ Sortable (S.map enc) ∧ AlikeAll (S.map enc)
theorem srt_of {D : List Rw} {f : Rw → Val} {g : Rw → List PyData} (h : ∀ r, pd 12 (f r) = some (.tuple (g r))) (hn : ∀ r, ∃ x y, g r = x :: y) (al : ∀ r q, alikeAll (g r) (g q) = true) : Srt (D.map f) := by
  have em : (D.map f).map enc = D.map fun r => PyData.tuple (g r) := by
    rw [List.map_map]
    exact List.map_congr_left fun r _ => enc_of (h r)
  have a : ∀ r q, alike (.tuple (g r)) (.tuple (g q)) = true := fun r q => by rw [alike]; exact al r q
  refine ⟨fun v hv => ?_, ?_, ?_, ?_, ?_⟩
  · obtain ⟨r, _, rfl⟩ := List.mem_map.mp hv
    exact ⟨_, h r⟩
  · rw [em]
    intro d hd d' hd'
    obtain ⟨r, _, rfl⟩ := List.mem_map.mp hd
    obtain ⟨q, _, rfl⟩ := List.mem_map.mp hd'
    exact a r q
  · rw [em]
    refine .inl fun d hd => ?_
    obtain ⟨r, _, rfl⟩ := List.mem_map.mp hd
    obtain ⟨x, y, e⟩ := hn r
    exact ⟨x, y, by rw [e]⟩
  · rw [em]
    intro d hd d' hd'
    obtain ⟨r, _, rfl⟩ := List.mem_map.mp hd
    obtain ⟨q, _, rfl⟩ := List.mem_map.mp hd'
    exact a r q
  · rw [em]
    intro d hd z
    obtain ⟨r, _, rfl⟩ := List.mem_map.mp hd
    cases z
theorem srt_pr {D : List Rw} : Srt (D.map Rw.pr) := srt_of (fun r => enc_pr) (fun r => ⟨_, _, rfl⟩) fun r q => by simp [alikeAll, alike]
theorem srt_kw {D : List Rw} : Srt (D.map Rw.kw) := srt_of (fun r => enc_kw) (fun r => ⟨_, _, rfl⟩) fun r q => by simp [alikeAll, alike]
theorem srt_en {D : List Rw} {now : Int} : Srt (D.map (Rw.en now)) := srt_of (fun r => enc_en) (fun r => ⟨_, _, rfl⟩) fun r q => by simp [alikeAll, alike]
theorem i_sortD {S : List Val} {h : Hh} {r : R} {Q : QE} (e : asL h r = some S) (s : Srt S) (q : Q (.o (sortVs S)) h) : wV (fSortD [r] h) Q :=
  ⟨_, _, by simp only [fSortD, e, Option.bind_some]; rw [if_pos ⟨s.1, s.2.1, s.2.2.1⟩], q⟩
theorem i_minD {x : Val} {S : List Val} {h : Hh} {r : R} {Q : QE} (e : asL h r = some (x :: S)) (s : Srt (x :: S)) (q : Q (.v (minV x S)) h) : wV (fMinD [r] h) Q :=
  ⟨_, _, by simp only [fMinD, e, Option.bind_some]; rw [if_pos ⟨s.1, s.2.2.2⟩], q⟩
end NL
set_option Elab.async false
set_option linter.all false
set_option maxRecDepth 100000
set_option maxHeartbeats 4000000
set_option autoImplicit false
namespace NL
open PySem PySem.Spec PyProof.Rows L2 RZ PySem.W PySem.SeqAt
open Classical
section
variable {s : Sl} {h : Hh} {Q : QE} {QS : Fl → Sl → Hh → Prop} {T : Tg} {t : MT} {e m mo mk mv : ME} {W : List Nat}
/-- a comprehension that changes nothing -/
theorem lc_pureA {α : Type} {chk : Hh → Prop} {s0 : Sl} {g f : α → Val} {p : α → Bool} (hc : chk h) : ∀ (xs : List α) (acc : List Val), acc.length + xs.length ≤ 100000 →
    (∀ x ∈ xs, ∃ s1, asg T (g x) s0 = some s1 ∧ t s1 h = some (p x, h) ∧ (p x = true → e s1 h = some (.v (f x), h))) → lcL chk T t e s0 (xs.map g) acc h = some (acc ++ (xs.filter p).map f, h)
  | [], acc, _, _ => by
    rw [List.map_nil]
    unfold lcL
    rw [if_pos hc]
    simp
  | x :: xs, acc, hl, hs => by
    rw [List.length_cons] at hl
    rw [List.map_cons]
    unfold lcL
    rw [if_pos ⟨hc, by omega⟩]
    obtain ⟨s1, e1, e2, e3⟩ := hs x (List.mem_cons_self ..)
    simp only [e1, e2, Option.bind_some]
    have hs' := fun y hy => hs y (List.mem_cons_of_mem _ hy)
    cases hp : p x with
    | true =>
      simp only [if_true]
      rw [e3 hp]
      simp only [Option.bind_some]
      rw [lc_pureA hc xs (acc ++ [f x]) (by simp; omega) hs', List.filter_cons_of_pos hp]
      simp
    | false =>
      simp only [Bool.false_eq_true, if_false]
      rw [lc_pureA hc xs acc (by omega) hs', List.filter_cons_of_neg (by simp [hp])]
/-- over a dict of rows -/
theorem i_lkD {q : Nat} {D : List Rw} {mq : Sl → Hh → Option Nat} {f : Rw → Val} {p : Rw → Bool} (eq : h[q]? = some (.dT (dOf D))) (hq : mq s h = some q) (hm : m s (h.set q (.fT (dOf D))) = some (.v (.ref q), h.set q (.fT (dOf D)))) (hl : D.length ≤ 100000)
    (hs : ∀ r ∈ D, ∃ s1, asg T r.pr (wipeA s W) = some s1 ∧ t s1 (h.set q (.fT (dOf D))) = some (p r, h.set q (.fT (dOf D))) ∧ (p r = true → e s1 (h.set q (.fT (dOf D))) = some (.v (f r), h.set q (.fT (dOf D)))))
    (c : Q (.o ((D.filter p).map f)) h) : wE (mLock mq (mLc W (iDk m) T t e)) s h Q := by
  have lq := (List.getElem?_eq_some_iff.mp eq).1
  have e1 : (h.set q (.fT (dOf D)))[q]? = some (.fT (dOf D)) := List.getElem?_set_self lq
  refine ⟨.o ((D.filter p).map f), h, ?_, c⟩
  unfold mLock mLc iDk
  simp only [hq, Option.bind_some, eq, hm, e1]
  have ei : (dOf D).map (fun kv => Val.tup (kv.1.map kVal)) = D.map Rw.pr := by
    unfold dOf
    rw [List.map_map]
    exact List.map_congr_left fun r _ => rfl
  rw [ei, lc_pureA (g := Rw.pr) (f := f) (p := p) e1 D [] (by simpa using hl) hs]
  simp only [Option.map_some, Option.bind_some, e1, List.nil_append]
  rw [List.set_set]
  have : h.set q (.dT (dOf D)) = h := by
    obtain ⟨_, z⟩ := List.getElem?_eq_some_iff.mp eq
    rw [← z]
    exact List.set_getElem_self lq
  rw [this]
/-- over a list in the heap, over a list that is read -/
theorem i_lcH {α : Type} {g f : α → Val} {p : α → Bool} {q : Nat} {xs : List α} (hm : m s h = some (.v (.ref q), h)) (eq : h[q]? = some (.lst (xs.map g))) (hl : xs.length ≤ 100000)
    (hs : ∀ x ∈ xs, ∃ s1, asg T (g x) (wipeA s W) = some s1 ∧ t s1 h = some (p x, h) ∧ (p x = true → e s1 h = some (.v (f x), h))) (c : Q (.o ((xs.filter p).map f)) h) : wE (mLc W (iE m) T t e) s h Q := by
  refine ⟨.o ((xs.filter p).map f), h, ?_, c⟩
  unfold mLc iE
  simp only [hm, Option.bind_some, eq]
  rw [lc_pureA (chk := fun h => h[q]? = some (.lst (xs.map g))) (g := g) (f := f) (p := p) eq xs [] (by simpa using hl) hs]
  simp only [Option.map_some, List.nil_append]
theorem i_lcL {α : Type} {g f : α → Val} {p : α → Bool} {xs : List α} (hm : m s h = some (.l (xs.map g), h)) (hl : xs.length ≤ 100000)
    (hs : ∀ x ∈ xs, ∃ s1, asg T (g x) (wipeA s W) = some s1 ∧ t s1 h = some (p x, h) ∧ (p x = true → e s1 h = some (.v (f x), h))) (c : Q (.o ((xs.filter p).map f)) h) : wE (mLc W (iE m) T t e) s h Q := by
  refine ⟨.o ((xs.filter p).map f), h, ?_, c⟩
  unfold mLc iE
  simp only [hm, Option.bind_some]
  rw [lc_pureA (chk := fun _ => True) (g := g) (f := f) (p := p) trivial xs [] (by simpa using hl) hs]
  simp only [Option.map_some, List.nil_append]
/-! dicts of rows -/
theorem i_dgetW {p : Nat} {D : List Rw} {r : Rw} (o : Once D) (hr : r ∈ D) (e : h[p]? = some (.dT (dOf D)) ∨ h[p]? = some (.fT (dOf D))) (q : Q (.v (.tup [r.wy, .int r.w])) h) : wV (fDGet (.v (.ref p)) (.v r.pr) h) Q := by
  refine ⟨.v r.dv, h, ?_, q⟩
  have : dgetO h p r.pr = some (some r.dv) := by
    unfold dgetO
    rcases e with e | e <;> rw [e] <;> simp only [Rw.asKeys_pr, Option.map_some, valP_in o hr]
  simp only [fDGet, this, Option.bind_some, Option.map_some]
theorem i_dinW {p : Nat} {D : List Rw} {n : Bool} {g : Int} {x : Str} (o : Once D) (e : h[p]? = some (.dT (dOf D))) (q : Q (.v (.bl ((D.any fun r => decide (r.k = [.inl g, .inr x])) != n))) h) : wV (fDIn n (.v (.tup [.int g, .str x])) (.v (.ref p)) h) Q := by
  refine ⟨_, h, ?_, q⟩
  have : (dgetO h p (.tup [.int g, .str x])).map Option.isSome = some (D.any fun r => decide (r.k = [.inl g, .inr x])) := by
    unfold dgetO
    rw [e]
    simp only [asKeys, mapO, asKey, Option.bind_some, Option.map_some]
    cases a : D.any fun r => decide (r.k = [.inl g, .inr x]) with
    | true =>
      obtain ⟨r, hr, e2⟩ := List.any_eq_true.mp a
      have e2 := of_decide_eq_true e2
      have := valP_in o hr
      rw [e2] at this
      rw [this]; rfl
    | false =>
      rw [valP_out fun r hr z => ?_]
      · rfl
      · have := List.any_eq_false.mp a r hr
        simp [z] at this
  cases d : dgetO h p (.tup [.int g, .str x]) with
  | none => rw [d] at this; cases this
  | some o' =>
    rw [d] at this
    have e3 := Option.some.inj this
    simp only [fDIn, d, Option.map_some]
    rw [← e3]
theorem i_lenD {p : Nat} {D : List Rw} (e : h[p]? = some (.dT (dOf D))) (q : Q (.v (.int (D.length : Nat))) h) : wV (fLenD [.v (.ref p)] h) Q := ⟨_, h, by simp only [fLenD, e, dOf_len], q⟩
theorem w_dput : wS (sDPutM mo mk mv) s h QS = wE mv s h fun v h1 => wE mo s h1 fun d h2 => wE mk s h2 fun k h3 => ∃ x q y h', v = .v x ∧ d = .v (.ref q) ∧ k = .v y ∧ dputO h3 q y x = some h' ∧ QS .nx s h' := by
  simp only [wS, wE, sDPutM, Option.bind_eq_some_iff, eq_iff_iff]
  constructor
  · rintro ⟨fl, s', h', ⟨⟨v, h1⟩, e1, ⟨d, h2⟩, e2, ⟨k, h3⟩, e3, e4⟩, c⟩
    dsimp only at e4
    split at e4
    · simp only [Option.map_eq_some_iff, Prod.mk.injEq] at e4
      obtain ⟨h4, e5, rfl, rfl, rfl⟩ := e4
      rename_i x q y _ _ _
      exact ⟨_, _, e1, _, _, e2, _, _, e3, _, _, _, _, rfl, rfl, rfl, e5, c⟩
    · cases e4
  · rintro ⟨v, h1, e1, d, h2, e2, k, h3, e3, x, q, y, h', rfl, rfl, rfl, e4, c⟩
    exact ⟨.nx, s, h', ⟨_, e1, _, e2, _, e3, by simp only [e4, Option.map_some]⟩, c⟩
theorem dput_row {p : Nat} {D : List Rw} {q : Rw} (e : h[p]? = some (.dT (dOf D))) (l : D.length < 1000000) : dputO h p q.pr q.dv = some (h.set p (.dT (putP (dOf D) q.k q.dv))) := by
  unfold dputO
  rw [e]
  simp only [dOf_len, if_pos l, Rw.asKeys_pr, Option.map_some]
theorem w_ddel : wS (sDDelM mo mk) s h QS = wE mo s h fun d h1 => wE mk s h1 fun k h2 => ∃ q y kvs kk, d = .v (.ref q) ∧ k = .v y ∧ h2[q]? = some (.dT kvs) ∧ asKeys y = some kk ∧ (valP kvs kk).isSome = true ∧ QS .nx s (h2.set q (.dT (dropP kvs kk))) := by
  simp only [wS, wE, sDDelM, Option.bind_eq_some_iff, eq_iff_iff]
  constructor
  · rintro ⟨fl, s', h', ⟨⟨d, h1⟩, e1, ⟨k, h2⟩, e2, e3⟩, c⟩
    dsimp only at e3
    split at e3
    · split at e3
      · simp only [Option.bind_eq_some_iff] at e3
        obtain ⟨kk, e4, e5⟩ := e3
        split at e5
        · cases e5
          exact ⟨_, _, e1, _, _, e2, _, _, _, _, rfl, rfl, by assumption, e4, by assumption, c⟩
        · cases e5
      · cases e3
    · cases e3
  · rintro ⟨d, h1, e1, k, h2, e2, q, y, kvs, kk, rfl, rfl, e3, e4, e5, c⟩
    exact ⟨_, _, _, ⟨_, e1, _, e2, by simp only [e3, e4, Option.bind_some]; rw [if_pos e5]⟩, c⟩
end
/-! ### instances -/
variable [HasK]
section
variable {s : Sl} {h : Hh} {Q : QE} {QS : Fl → Sl → Hh → Prop} {cl f : Str} {m mo mv : ME} {t : MA} {fm : FM}
theorem w_fld : wE (mFld cl f m) s h Q = wE m s h fun r h1 => ∃ q fs v, r = .v (.ref q) ∧ h1[q]? = some (.ins (clO cl) fs) ∧ fs.lookup f = some v ∧ Q (.v v) h1 := by
  simp only [wE, mFld, Option.bind_eq_some_iff, eq_iff_iff]
  constructor
  · rintro ⟨r, h', ⟨⟨x, h1⟩, e1, e2⟩, c⟩
    dsimp only at e2
    split at e2
    · split at e2
      · split at e2
        · rename_i hc
          simp only [Option.map_eq_some_iff, Prod.mk.injEq] at e2
          obtain ⟨v, e3, rfl, rfl⟩ := e2
          subst hc
          exact ⟨_, _, e1, _, _, _, rfl, by assumption, e3, c⟩
        · cases e2
      · cases e2
    · cases e2
  · rintro ⟨r, h1, e1, q, fs, v, rfl, e2, e3, c⟩
    exact ⟨_, _, ⟨_, e1, by simp only [e2, if_true, e3, Option.map_some]⟩, c⟩
theorem i_fldP (c : wE mv s h fun v h1 => wE mo s h1 fun r h2 => ∃ x q fs, v = .v x ∧ r = .v (.ref q) ∧ h2[q]? = some (.ins (clO cl) fs) ∧ fs.length < 1000 ∧ QS .nx s (h2.set q (.ins (clO cl) (putFv f x fs)))) : wS (sFldP cl f mo mv) s h QS := by
  obtain ⟨v, h1, e1, r, h2, e2, x, q, fs, rfl, rfl, e3, l, c⟩ := c
  exact ⟨_, _, _, by simp only [sFldP, e1, e2, Option.bind_some, e3]; rw [if_pos ⟨trivial, l⟩], c⟩
theorem i_fldA (c : wE mo s h fun r h1 => ∃ q fs i, r = .v (.ref q) ∧ h1[q]? = some (.ins (clO cl) fs) ∧ fs.lookup f = some (.int i) ∧ wE mv s h1 fun v h2 => ∃ j fs', v = .v (.int j) ∧ h2[q]? = some (.ins (clO cl) fs') ∧ fs'.length < 1000 ∧ QS .nx s (h2.set q (.ins (clO cl) (putFv f (.int (i + j)) fs')))) : wS (sFldA cl f mo mv) s h QS := by
  obtain ⟨r, h1, e1, q, fs, i, rfl, e2, e3, v, h2, e4, j, fs', rfl, e5, l, c⟩ := c
  exact ⟨_, _, _, by simp only [sFldA, e1, Option.bind_some, e2, if_true, e3, e4, e5]; rw [if_pos ⟨trivial, l⟩], c⟩
theorem i_meth (c : wE mo s h fun r h1 => ∃ q fs, r = .v (.ref q) ∧ h1[q]? = some (.ins (clO cl) fs) ∧ fs.lookup f = none ∧ wA t s h1 fun rs h2 => wF fm (.v (.ref q) :: rs.map bor) h2 Q) : wE (mMeth cl f fm mo t) s h Q := by
  obtain ⟨r, h1, e1, q, fs, rfl, e2, e3, rs, h2, e4, r', h3, e5, c⟩ := c
  exact ⟨_, _, by simp only [mMeth, e1, Option.bind_some, e2]; rw [if_pos ⟨trivial, e3⟩, e4]; exact e5, c⟩
theorem i_make (c : wA t s h fun rs h1 => wF fm (.v (.ref h1.length) :: rs.map bor) (h1 ++ [.ins (clO cl) []]) fun r h2 => r = .v .non ∧ Q (.v (.ref h1.length)) h2) : wE (mMake cl fm t) s h Q := by
  obtain ⟨rs, h1, e1, r, h2, e2, rfl, c⟩ := c
  exact ⟨_, _, by simp only [mMake, e1, Option.bind_some, e2], c⟩
end
end NL
set_option Elab.async false
set_option linter.all false
set_option maxRecDepth 100000
set_option maxHeartbeats 4000000
set_option autoImplicit false
namespace NL
open PySem L2 PySem.Spec PyProof.Rows
/-! ### {k: v for target in iter}, keys of any kind that a dict may have -/
section
variable {X : Cx} {pins : List (Addr × Obj)} {σ : L2.St} {H H2 : Hp} {s : Shared} {D : Addr} {y v : V} {u r : Value} {Ex : Value → Shared → Prop} {Q : Unit → Shared → Prop}
theorem put_comp (hu : X.A.units + 1 < cLine) (J : Inv X pins σ H s) (g : DPut H D y v H2) (ry : RelV y u) (rv : RelV v r) (k : ∀ t, Inv X pins σ H2 t → Q () t) :
    wpAny (model X.prog X.w) X.A (dictSet D u r) Q Ex s := by
  have hu1 : X.A.units < cLine := Nat.lt_of_succ_lt hu
  rcases g with ⟨l, n, e, rfl, lt, rfl⟩ | ⟨l, n, b, e, rfl, eb, lt, rfl⟩
  · exact d_dictSet J e lt ry rv k
  · have eu : u = Value.ref b := ry
    subst eu
    obtain ⟨z1, z2, xs, rel, dd⟩ := dt_of J.hok e
    have z3 : xs.length ≤ sizeLine := by
      rw [← Paired.length rel]
      exact z1
    have z4 : (putK l n v).length ≤ sizeLine := Nat.le_trans (length_putK l n v) lt
    refine wpAny_dictSet_heap (hsz := z3) hu1 (key_of J.hok eb) dd fun h1 d1 sb => k _ ?_
    obtain ⟨q, es, ep, q1, q2, q3, q4, _, q5⟩ := d1
    have kp := (rel.put n eb rv).keeps (H' := upd H D (.dT (putK l n v))) fun c ys ec => by
      have ne : c ≠ D := ne_of ec e (fun z => nomatch z)
      rw [upd_ne ne]; exact ec
    exact d_write J (by rw [e]; trivial) sb ⟨q, q1⟩ ⟨z4, z2, _, kp, q, es, ep, q1, q2, q3, q4, q5⟩
end
/-- as a term: D the new dict, u0 what it is first -/
def tDg (u0 : HO) (wi : TI) (g : TG) (tt : TT) (tk tv : TE) (vs : List Nat) : TE := fun σ H Q => wi σ H fun J H1 => ∀ D, H1 D = none →
  ∃ W : Nat → Nat → Hp → Prop, (∃ m, W 0 m (upd H1 D u0)) ∧ ∀ i m H2, W i m H2 → (J.stop i H2 ∧ Q (.ref D) H2) ∨
    (J.go i H2 ∧ ∃ Nx : Hp → Prop, (∀ K, Nx K → ∃ m', m' < m ∧ W (i + 1) m' K) ∧
      ∀ x K, J.yld i H2 x K → g x (wipe σ vs) K fun σ2 K2 => wipe σ2 vs = wipe σ vs ∧ tt σ2 K2 fun b K3 =>
        if b = true then tk σ2 K3 fun y K4 => tv σ2 K4 fun z K5 => ∃ K6, DPut K5 D y z K6 ∧ Nx K6 else Nx K3)
section
variable {X : Cx} {kx vx tg iter : Expr} {ifs : List Expr} {scope : Scope} {own : List (Str × Nat)} {pos : Pos} {wi : TI} {g : TG} {tt : TT} {tk tv : TE} {u0 : HO}
/-- the block of a comprehension, entered -/
abbrev BX (X : Cx) (s : Shared) (H : Hp) (scope : Scope) (C : Addr) (cl : List (Str × Addr)) (fp : List Addr) : Cx := X.blk s H scope (compEnvC scope cl C X.env) fp
theorem pe_dg (hu : X.A.units + 1 < cLine) (hc : X.calm = true) (hN : X.N.Nodup) (h0 : ∀ (H : Hp) (h : Heap), sysModules < h.objs.size → ObjOk X.prog X.w H (h.push { cls := .type "dict", data := .dict #[] }) h.objs.size u0)
    (hi : PI X tg iter wi) (ok : BlkOk X.N X.env.scope scope own)
    (hg : ∀ s H C cl fp, PG (BX X s H scope C cl fp) tg g) (ht : ∀ s H C cl fp, PTs (BX X s H scope C cl fp) ifs tt)
    (hk : ∀ s H C cl fp, PE (BX X s H scope C cl fp) kx tk) (hv : ∀ s H C cl fp, PE (BX X s H scope C cl fp) vx tv) (hs : ∀ x, foldedSetIterable iter X.env x = pure x := by intro _; rfl) :
    PE X (.DictComp kx vx [⟨tg, iter, ifs, 0⟩] scope pos) (tDg u0 wi g tt tk tv (own.map (·.2))) := by
  refine ⟨fun pins s σ H Q I h => ?_⟩
  rw [arm_eval_DictComp]
  have cells : ∀ y ∈ scope.names, y.2 = .free → ∃ c, X.env.cells.lookup y.1 = some c := fun y hy e =>
    (ok.free y hy e).elim (fun k => I.ok.has _ (.inl k)) fun k => I.ok.has _ (.inr k)
  refine wpAny_comprehension_free (use := none) rfl hs (closure_ok cells) ok.kind (fun y hy e => by rw [ok.uniq y hy, e]) (thn (hi.run pins s σ H _ I h) fun xv s1 hx => thn hx fun itv s2 h2 => ?_)
  obtain ⟨it, fp, tn, J, H2, rfl, I2, T, st2, f2, q⟩ := h2
  refine wpAny_newObj_type (newEnv_comp ?_)
  generalize eD : s2.heap.objs.size = D
  have nD : H2 D = none := I2.hok.fresh (Nat.le_of_eq eD)
  obtain ⟨W, ⟨m0, w0⟩, turn⟩ := q D nD
  generalize es3 : ({ s2 with heap := s2.heap.push { cls := .type "dict", data := .dict #[] } } : Shared) = s3
  have hp3 : s3.heap = s2.heap.push { cls := .type "dict", data := .dict #[] } := by rw [← es3]
  have I3 : Inv X pins σ (upd H2 D u0) s3 := by
    rw [← es3]
    refine I2.laid (t' := s2.toks) (fun b o e => Heap.get?_push_of_some _ e) (Nat.le_of_eq eD) ?_
    rw [← eD]
    exact h0 _ s2.heap I2.big
  have below : ∀ b ∈ fp, b < s2.heap.objs.size := fun b hb => by
    obtain ⟨o, e, _⟩ := T.obj _ _ st2 b hb
    exact Heap.lt_size e
  have f3 : ∀ b ∈ fp, FpOk X pins (upd H2 D u0) b ∧ b < s3.heap.objs.size := fun b hb => by
    have lt := below b hb
    have ne : b ≠ D := by rw [← eD]; exact Nat.ne_of_lt lt
    exact ⟨⟨by rw [upd_ne ne]; exact (f2 b hb).1, (f2 b hb).2⟩, by rw [hp3, Heap.size_push]; exact Nat.lt_succ_of_lt lt⟩
  have st3 : tn 0 s3.heap := T.keep _ _ _ st2 fun b _ o e => by
    rw [hp3]
    exact Heap.get?_push_of_some _ e
  have I4 := block_start I3 ok hN f3
  have pg := hg s3 (upd H2 D u0) s3.heap.objs.size (cellsFrom (s3.heap.objs.size + 1) scope.names (cloFrom X.env.cells scope.names [])) fp
  have pt := ht s3 (upd H2 D u0) s3.heap.objs.size (cellsFrom (s3.heap.objs.size + 1) scope.names (cloFrom X.env.cells scope.names [])) fp
  have pk := hk s3 (upd H2 D u0) s3.heap.objs.size (cellsFrom (s3.heap.objs.size + 1) scope.names (cloFrom X.env.cells scope.names [])) fp
  have pv := hv s3 (upd H2 D u0) s3.heap.objs.size (cellsFrom (s3.heap.objs.size + 1) scope.names (cloFrom X.env.cells scope.names [])) fp
  unfold BX at pg pt pk pv
  show codeAny _ X.A (Code.compStart (.DictComp kx vx [⟨tg, iter, ifs, 0⟩] scope pos) 0 (.ref it) (.ref D)
      (compEnvC scope (cellsFrom (s3.heap.objs.size + 1) scope.names (cloFrom X.env.cells scope.names [])) s3.heap.objs.size X.env))
    (compPost _ X.A X.xe none _ (.ref D) s3.heap.objs.size) ({ s3 with heap := pushCells (s3.heap.push { cls := .type "dict", data := .dict #[] }) scope.names } : Shared)
  generalize ece : compEnvC scope (cellsFrom (s3.heap.objs.size + 1) scope.names (cloFrom X.env.cells scope.names [])) s3.heap.objs.size X.env = ce at I4 pg pt pk pv ⊢
  have eL : ce.locals = s3.heap.objs.size := by rw [← ece]; rfl
  have none3 : ∀ b ∈ fp, (upd H2 D u0) b = none := fun b hb => (f3 b hb).1.1
  generalize eH3 : upd H2 D u0 = H3 at I3 I4 pg pt pk pv w0 none3 f3
  generalize es4 : ({ s3 with heap := pushCells (s3.heap.push { cls := .type "dict", data := .dict #[] }) scope.names } : Shared) = s4 at I4 ⊢
  have st4 : tn 0 s4.heap := T.keep _ _ _ st3 fun b _ o e => by
    rw [← es4]
    exact pushCells_keeps _ _ _ _ (Heap.get?_push_of_some _ e)
  have still : ∀ {σ' : L2.St} {K : Hp} {t : Shared}, Inv (X.blk s3 H3 scope ce fp) [] σ' K t → (∀ b ∈ fp, K b = none) → ∀ b ∈ fp, FpOk (X.blk s3 H3 scope ce fp) [] K b := fun I' hn b hb =>
    ⟨hn b hb, (I'.ok.exf b hb).1, I'.ok.exfs b hb, .inl hb, fun x c e => (I'.ok.exf b hb).2 x c e, fun p hp => absurd hp (by simp [Cx.blk])⟩
  have loop : codeAny (model X.prog X.w) X.A (.compLoop (.DictComp kx vx [⟨tg, iter, ifs, 0⟩] scope pos) 0 (.ref it) (.ref D) ce) (compPost (model X.prog X.w) X.A X.xe none (EP X pins σ Q) (.ref D) s3.heap.objs.size) s4 := by
    refine compLoop_anyD (fun n t => ∃ i K, Inv (X.blk s3 H3 scope ce fp) [] (wipe σ (own.map (·.2))) K t ∧ tn i t.heap ∧ (∀ b ∈ fp, K b = none) ∧ W i n K) ?_ m0 ⟨0, H3, I4, st4, none3, w0⟩
    rintro n s5 ⟨i, H5, I5, st5, n5, w5⟩
    rcases turn i n H5 w5 with ⟨stop, qq⟩ | ⟨go, Nx, nx, step⟩
    · refine thnF (T.done (X.blk s3 H3 scope ce fp) rfl rfl rfl hc i [] s5 _ H5 (fun _ _ => False) I5 (still I5 n5) st5 stop) fun r s6 ⟨er, I6⟩ => ?_
      subst er
      have I7 : Inv X pins σ H5 s6 := I3.call' (ch := fp) I6.os I6.base I6.hok I6.bare fun b hb => ⟨(f3 b hb).1.2.2.2.1, (f3 b hb).1.2.1, (f3 b hb).1.2.2.2.2.1, (f3 b hb).1.2.2.2.2.2⟩
      have noneC : H5 s3.heap.objs.size = none := by
        rw [← eL]
        exact I6.free
      obtain ⟨m, hn, _⟩ := I6.loc
      rw [show (X.blk s3 H3 scope ce fp).env.locals = s3.heap.objs.size from eL] at hn
      obtain ⟨a0, a1, a2, a3, a4, a5⟩ := I3.fpOk (Nat.le_refl _) noneC
      exact ⟨m, hn, fun hh sb => ⟨.ref D, H5, I7.turned (t' := s6.toks) (fun b o hb e => (sb.2 b hb).trans e) a0 a1 a3 a4 a5, rfl, qq⟩⟩
    · refine thnF (T.item (X.blk s3 H3 scope ce fp) rfl rfl rfl hc i [] s5 _ H5 (fun _ _ => False) I5 (still I5 n5) st5 go) fun r s6 ⟨u, er, h6⟩ => ?_
      subst er
      refine thnF h6 fun _ s7 ⟨x, H7, I7, r7, y7, st7, n7⟩ => ?_
      have I8 := I7.pinned (still I7 n7) (T.obj _ _ st7)
      refine thnF (pg.run _ s7 _ H7 x u _ I8 r7 (step x H7 y7)) fun _ s8 ⟨σ8, H8, J8, w8, q8⟩ => ?_
      refine thnF (pt.run _ s8 σ8 H8 _ J8 q8) fun b s9 ⟨H9, J9, q9⟩ => ?_
      have fin : ∀ {t : Shared} {K : Hp}, Inv (X.blk s3 H3 scope ce fp) ([] ++ pinsAt fp s7.heap) σ8 K t → Nx K → ∃ m, m < n ∧ ∃ i K, Inv (X.blk s3 H3 scope ce fp) [] (wipe σ (own.map (·.2))) K t ∧ tn i t.heap ∧ (∀ b ∈ fp, K b = none) ∧ W i m K := fun {t K} I' nk => by
        obtain ⟨m', lt', w'⟩ := nx K nk
        have pin : ∀ b ∈ fp, ∀ o, s7.heap.get? b = some o → t.heap.get? b = some o ∧ K b = none := fun b hb o e =>
          have z := I'.pin (b, o) (List.mem_append_right _ (List.mem_append_right _ (mem_pinsAt hb e)))
          ⟨z.1, z.2.1⟩
        refine ⟨m', lt', i + 1, K, (I'.unpinned (pins := [])).weak (by rw [← w8, wipe_length]) (fun j v e => by rw [← w8] at e; exact (wipe_some e).1), T.keep _ _ _ st7 fun b hb o e => (pin b hb o e).1, fun b hb => ?_, w'⟩
        obtain ⟨o, e, _⟩ := T.obj _ _ st7 b hb
        exact (pin b hb o e).2
      cases b with
      | false => exact fin J9 q9
      | true =>
        refine thnF (pk.run _ s9 σ8 H9 _ J9 q9) fun z s10 ⟨yk, H10, J10, r10, q10⟩ => ?_
        refine thnF (pv.run _ s10 σ8 H10 _ J10 q10) fun z2 s11 ⟨yv, H11, J11, r11, H12, g12, nk⟩ => ?_
        exact put_comp (X := X.blk s3 H3 scope ce fp) hu J11 g12 r10 r11 fun t J12 => fin J12 nk
  exact codeAny_compStart_dict loop (T.self X.A 0 _ _ _ st4 loop)
end
/-! ### plain -/
open Classical in
noncomputable def dcL (chk : Hh → Prop) (T : Tg) (ek ev : ME) (s0 : Sl) (q : Nat) : List Val → Hh → Option Hh
  | [], h => if chk h then some h else none
  | x :: xs, h => if chk h then (asg T x s0).bind fun s1 => (ek s1 h).bind fun k => (ev s1 k.2).bind fun v => match k.1, v.1 with
      | .v y, .v z => (dputO v.2 q y z).bind fun h' => dcL chk T ek ev s0 q xs h'
      | _, _ => none
    else none
noncomputable def mDc (o0 : Ob) (W : List Nat) (m : MI) (T : Tg) (ek ev : ME) : ME := fun s h => (m s h).bind fun p => (dcL p.2.1 T ek ev (wipeA s W) p.2.2.length p.1 (p.2.2 ++ [o0])).map fun h' => (.v (.ref p.2.2.length), h')
theorem dcL_chk {chk : Hh → Prop} {T : Tg} {ek ev : ME} {s0 : Sl} {q : Nat} {xs : List Val} {h r : Hh} (e : dcL chk T ek ev s0 q xs h = some r) : chk h := by
  cases xs with
  | nil =>
    unfold dcL at e
    split at e
    · assumption
    · cases e
  | cons x xs =>
    unfold dcL at e
    split at e
    · assumption
    · cases e
variable [HasK]
/-- an empty dict, of either kind -/
inductive Emp : Ob → HO → Prop where
  | k : Emp (.dK []) (.dK [])
  | t : Emp (.dT []) (.dT [])
theorem Emp.or {o : Ob} {u : HO} (e : Emp o u) {c : List Addr} {H : Hp} {D : Addr} : OR c (upd H D u) o D := by
  cases e with
  | k => exact ⟨[], upd_same, rfl⟩
  | t => exact ⟨[], upd_same, rfl⟩
theorem rd_dc {K : PySem.W.Frag} {W : List Nat} {m : MI} {T : Tg} {ek ev : ME} {σ : L2.St} {H : Hp} {Q : VK} {o0 : Ob} {u0 : HO} (em : Emp o0 u0) (hW : ∀ i ∈ T.slots, i ∈ W) (q : rdE (mDc o0 W m T ek ev) σ H Q) : tDg u0 (rdI m) (gTg K T) (rdT tYe) (rdE ek) (rdE ev) W σ H Q := by
  obtain ⟨c, ow, σa, h, r, h', k, ee, f⟩ := q
  simp only [mDc, Option.bind_eq_some_iff, Option.map_eq_some_iff, Prod.mk.injEq] at ee
  obtain ⟨⟨items, chk, h1⟩, e1, h2, e2, rfl, rfl⟩ := ee
  dsimp only at e2 f
  refine ⟨c, ow, σa, h, items, chk, h1, k, e1, fun c1 H1 J E1 K1 ws D hD => ?_⟩
  obtain ⟨G, Y, w, st⟩ := ws
  have HD : H D = none := E1.back hD
  have nD := K1.nin hD
  have x0 : Ext c1 (c1 ++ [D]) H1 (upd H1 D u0) := by
    refine ⟨⟨[D], rfl⟩, fun a o z _ => ?_, fun a ma na => ?_, fun a o z => ?_, fun a o u z => ?_⟩
    · rw [upd_ne (fun q => by rw [q, hD] at z; cases z)]; exact z
    · rcases List.mem_append.mp ma with ma | ma
      · exact absurd ma na
      · rw [List.mem_singleton.mp ma]; exact hD
    · exact ⟨o, by rw [upd_ne (fun q => by rw [q, hD] at z; cases z)]; exact z⟩
    · rw [upd_ne (fun q => by rw [q, hD] at z; cases z)]; exact z
  have k0 : HR (c1 ++ [D]) (h1 ++ [o0]) (upd H1 D u0) := by
    have ka : HR c1 h1 (upd H1 D u0) := ⟨K1.nd, K1.len, fun p a e => by
      obtain ⟨o, e3, e4⟩ := K1.cell p a e
      have tk : TK c1 c1 H1 (upd H1 D u0) := ⟨fun a xs t => by rw [upd_ne (fun q => by rw [q, hD] at t; cases t)]; exact t, fun _ _ q => q⟩
      exact ⟨o, e3, e4.to tk fun u z => by rw [upd_ne (fun q => by rw [q, hD] at z; cases z)]; exact z⟩⟩
    exact ka.pushO (ob := o0) nD em.or
  refine ⟨fun i n H' => n = items.length - i ∧ i ≤ items.length ∧ ∃ c' hh', Ext c1 c' H1 H' ∧ HR c' hh' H' ∧ c'[h1.length]? = some D ∧ dcL chk T ek ev (wipeA σa W) h1.length (items.drop i) hh' = some h2, ⟨_, rfl, Nat.zero_le _, c1 ++ [D], h1 ++ [o0], x0, k0, by rw [K1.len]; simp, by simpa using e2⟩, ?_⟩
  rintro i n H' ⟨rfl, hi, c', hh', E, K', eD, ef⟩
  obtain ⟨hG, hY⟩ := st c' hh' H' E.pre (fun a o z n _ => E.keep a o z n) K' (dcL_chk ef) E.frz
  by_cases lt : i < items.length
  · refine .inr ⟨w.goes i H' lt hG, fun H6 => ∃ c' hh', Ext c1 c' H1 H6 ∧ HR c' hh' H6 ∧ c'[h1.length]? = some D ∧ dcL chk T ek ev (wipeA σa W) h1.length (items.drop (i + 1)) hh' = some h2, fun H6 z => ⟨_, by omega, rfl, lt, z⟩, fun x H'' y => ?_⟩
    have y := w.yields i H' x H'' lt hG y
    obtain ⟨v, ev', eh, vr⟩ := hY i x H'' lt y
    obtain ⟨K2, E2⟩ := K'.step eh
    have ed : items.drop i = v :: items.drop (i + 1) := by
      rw [List.getElem?_eq_getElem lt] at ev'
      cases ev'
      exact List.drop_eq_getElem_cons lt
    rw [ed] at ef
    unfold dcL at ef
    split at ef
    · simp only [Option.bind_eq_some_iff] at ef
      obtain ⟨s1, ea, ⟨rk, h3⟩, ek3, ⟨rv, h4⟩, ev4, ef⟩ := ef
      have kw := (k.ext ((E1.trans E).trans E2) K2).wipe W
      refine tg_rd (W := W) kw vr ea hW fun ow'' σ'' hs kk hw => ⟨?_, ?_⟩
      · rw [hw, wipe_wipe]
      · refine ⟨c', ow'', s1, hh', true, hh', kk, rfl, fun c4 H4 E4 K4 => ?_⟩
        simp only [if_true]
        refine ⟨c4, ow'', s1, hh', rk, h3, kk.ext E4 K4, ek3, fun c5 H5 y5 E5 K5 R5 => ?_⟩
        refine ⟨c5, ow'', s1, h3, rv, h4, (kk.ext E4 K4).ext E5 K5, ev4, fun c6 H6 y6 E6 K6 R6 => ?_⟩
        dsimp only at ef
        cases rk with
        | v yk =>
          cases rv with
          | v yv =>
            simp only [Option.bind_eq_some_iff] at ef
            obtain ⟨h7, ep, ef⟩ := ef
            obtain ⟨H7, g7, k7, x7⟩ := dput_rr K6 (E6.get (E5.get (E4.get (E2.get eD)))) (VR.mono (E6.tk K5) _ _ R5) R6 ep
            exact ⟨H7, g7, c6, h7, ((((E.trans E2).trans E4).trans E5).trans E6).trans x7, k7, E6.get (E5.get (E4.get (E2.get eD))), ef⟩
          | l _ => simp at ef
          | z _ => simp at ef
          | o _ => simp at ef
        | l _ => simp at ef
        | z _ => simp at ef
        | o _ => simp at ef
    · cases ef
  · have : i = items.length := by omega
    subst this
    rw [List.drop_length] at ef
    unfold dcL at ef
    split at ef
    · cases ef
      refine .inl ⟨w.stops H' hG, f c' H' _ (E1.trans E) K' ?_⟩
      exact ref_rr eD
    · cases ef
section
variable {X : Cx} {kx vx tg iter : Expr} {scope : Scope} {own : List (Str × Nat)} {pos : Pos} {m : MI} {T : Tg} {ek ev : ME}
theorem se_dc {o0 : Ob} {u0 : HO} (em : Emp o0 u0) (hu : X.A.units + 65 < cLine) (own : List (Str × Nat)) (hc : X.calm = true) (hN : X.N.Nodup) (hi : SI X tg iter m) (ok : BlkOk X.N X.env.scope scope own)
    (hg : ∀ (s : Shared) (H : Hp) (C : Addr) (cl : List (Str × Addr)) (fp : List Addr), PG (X.blk s H scope (compEnvC scope cl C X.env) fp) tg (gTg X.K T))
    (hk : ∀ (s : Shared) (H : Hp) (C : Addr) (cl : List (Str × Addr)) (fp : List Addr), SE (X.blk s H scope (compEnvC scope cl C X.env) fp) kx ek)
    (hv : ∀ (s : Shared) (H : Hp) (C : Addr) (cl : List (Str × Addr)) (fp : List Addr), SE (X.blk s H scope (compEnvC scope cl C X.env) fp) vx ev) (hW : ∀ i ∈ T.slots, i ∈ own.map (·.2) := by decide) (hs : ∀ x, foldedSetIterable iter X.env x = pure x := by intro _; rfl) :
    SE X (.DictComp kx vx [⟨tg, iter, [], 0⟩] scope pos) (mDc o0 (own.map (·.2)) m T ek ev) :=
  pe_imp (pe_dg (ulow hu) hc hN (fun H h hb => by
    cases em with
    | k => exact dk_empty h hb
    | t => exact dt_empty h hb) hi ok hg (fun _ _ _ _ _ => pts_ye) hk hv hs) fun _ _ _ => rd_dc em hW
end
end NL
set_option Elab.async false
set_option linter.all false
set_option maxRecDepth 100000
set_option maxHeartbeats 4000000
set_option autoImplicit false
namespace NL
open PySem L2 PySem.Spec
/-! ### dict(d): keys whole numbers and texts -/
def rDcp : List V → Hp → VK → Prop := fun xs H Q => ∃ a kvs, xs = [.ref a] ∧ H a = some (.dK kvs) ∧ ∀ p, H p = none → Q (.ref p) (upd H p (.dK kvs))
theorem call_dcp {X : Cx} : CallR X (.type "dict") rDcp := by
  intro pins s σ H xs us Q I r h
  obtain ⟨a, kvs, rfl, e, q⟩ := h
  obtain ⟨u, rfl, rx⟩ := vals1 r
  cases rx
  obtain ⟨z, hd, vs, rel, dd⟩ := dk_of I.hok e
  refine kt_call_dict hd dd (by rw [← rel.length]; exact z) fun h' d1 sb => ?_
  refine ⟨.ref s.heap.objs.size, _, I.laid (t' := s.toks) (fun b o e1 => ?_) (Nat.le_refl _) (dk_new (H' := upd H s.heap.objs.size (.dK kvs)) z ?_ rel d1), rfl, q _ (I.hok.fresh (Nat.le_refl _))⟩
  · rw [sb.2 b (Nat.ne_of_lt (Heap.lt_size e1))]
    exact Heap.get?_push_of_some _ e1
  · exact beq_eq_false_iff_ne.mpr (Ne.symm (Nat.ne_of_lt I.big))
def fDcp : NL.FC := fun rs h => match rs with
  | [.v (.ref q)] => match h[q]? with
    | some (.dK kvs) => some (.v (.ref h.length), h ++ [.dK kvs])
    | _ => none
  | _ => none
variable [HasK]
theorem v_dcp : VC rDcp fDcp := by
  intro c h H0 H xs rs r' h' Q k q e f
  unfold fDcp at e
  split at e
  · rename_i p
    split at e
    · rename_i kvs eq
      simp only [Option.some.injEq, Prod.mk.injEq] at e
      obtain ⟨rfl, rfl⟩ := e
      obtain ⟨y, rfl, q1⟩ := rrs1 q
      obtain ⟨a, rfl, ea⟩ := ref_vr q1
      obtain ⟨ob, e6, e7⟩ := k.cell p a ea
      rw [eq] at e6
      cases e6
      obtain ⟨ys, e8, e9⟩ := e7
      refine ⟨a, ys, rfl, e8, fun D hD => ?_⟩
      have nD := k.nin hD
      have tk : TK c c H (upd H D (.dK ys)) := ⟨fun a xs t => by rw [upd_ne (fun q => by rw [q, hD] at t; cases t)]; exact t, fun _ _ q => q⟩
      have ka : HR c h (upd H D (.dK ys)) := ⟨k.nd, k.len, fun p a e => by
        obtain ⟨o, e3, e4⟩ := k.cell p a e
        exact ⟨o, e3, e4.to tk fun u z => by rw [upd_ne (fun q => by rw [q, hD] at z; cases z)]; exact z⟩⟩
      have x0 : Ext c (c ++ [D]) H (upd H D (.dK ys)) := by
        refine ⟨⟨[D], rfl⟩, fun a o z _ => ?_, fun a ma na => ?_, fun a o z => ?_, fun a o u z => ?_⟩
        · rw [upd_ne (fun q => by rw [q, hD] at z; cases z)]; exact z
        · rcases List.mem_append.mp ma with ma | ma
          · exact absurd ma na
          · rw [List.mem_singleton.mp ma]; exact hD
        · exact ⟨o, by rw [upd_ne (fun q => by rw [q, hD] at z; cases z)]; exact z⟩
        · rw [upd_ne (fun q => by rw [q, hD] at z; cases z)]; exact z
      refine f (c ++ [D]) _ _ x0 (ka.pushO (ob := .dK kvs) nD ⟨ys, upd_same, PRs.mono tk _ _ e9⟩) ?_
      exact ref_rr (by rw [k.len]; simp)
    · cases e
  · cases e
end NL
set_option Elab.async false
set_option linter.all false
set_option maxRecDepth 100000
set_option maxHeartbeats 4000000
set_option autoImplicit false
namespace NL
open PySem PySem.Spec PyProof.Rows L2 RZ PySem.W PySem.SeqAt
open Classical
/-! ### list(range(n)), d.get(k), dicts of lists -/
def mLstR (m : ME) : ME := fun s h => (m s h).bind fun p => match p.1 with
  | .v (.int n) => if 0 ≤ n ∧ n ≤ 100000 then some (.o ((rangeI n).map .int), p.2) else none
  | _ => none
theorem i_lstR {m : ME} {s : Sl} {h : Hh} {Q : QE} (q : wE m s h fun r h1 => ∃ n : Int, r = .v (.int n) ∧ 0 ≤ n ∧ n ≤ 100000 ∧ Q (.o ((rangeI n).map .int)) h1) : wE (mLstR m) s h Q := by
  obtain ⟨r, h1, e, n, rfl, h2, h3, q⟩ := q
  exact ⟨_, _, by simp only [mLstR, e, Option.bind_some]; rw [if_pos ⟨h2, h3⟩], q⟩
def mDGet1 (md mk : ME) : ME := fun s h => (md s h).bind fun p => match p.1 with
  | .v (.ref q) => if isDc p.2 q then (mk s p.2).bind fun k => match k.1 with
    | .v y => (dgetO k.2 q y).map fun o => (.v (o.getD .non), k.2)
    | _ => none else none
  | _ => none
/-- a dict of whole numbers, its values places of the heap -/
def dR (F : List (Int × Int)) : Ob := .dK (F.map fun p => (.inl p.1, .ref p.2.toNat))
theorem valP_dR (F : List (Int × Int)) (k : Int) : valP (F.map fun p => ((.inl p.1 : Key), Val.ref p.2.toNat)) (.inl k) = (gI F k).map fun x => .ref x.toNat := by
  induction F with
  | nil => rfl
  | cons p F ih =>
    by_cases h : p.1 = k
    · simp [valP, gI, h]
    · simp only [valP, gI, List.map_cons, List.find?_cons, Sum.inl.injEq, h, decide_false] at ih ⊢
      exact ih
theorem any_dR (F : List (Int × Int)) (k : Int) : ((F.map fun p => ((.inl p.1 : Key), Val.ref p.2.toNat)).any fun kv => decide (kv.1 = .inl k)) = (F.any fun p => decide (p.1 = k)) := by
  rw [List.any_map]
  congr 1
  funext p
  simp [Function.comp]
theorem putP_dR (F : List (Int × Int)) (k : Int) (v : Nat) : putP (F.map fun p => ((.inl p.1 : Key), Val.ref p.2.toNat)) (.inl k) (.ref v) = (pI F k v).map fun p => ((.inl p.1 : Key), Val.ref p.2.toNat) := by
  unfold putP pI
  rw [any_dR]
  split
  · rw [List.map_map, List.map_map]
    refine List.map_congr_left fun p _ => ?_
    simp only [Function.comp, Sum.inl.injEq]
    split
    · simp
    · rfl
  · rw [List.map_append]
    simp
section
variable {s : Sl} {h : Hh} {Q : QE} {QS : Fl → Sl → Hh → Prop} {q : Nat} {F : List (Int × Int)} {k d : Int} {md mk mx mv m : ME} {i : Nat}
theorem dget_dR (e : h[q]? = some (dR F)) : dgetO h q (.int k) = some ((gI F k).map fun x => .ref x.toNat) := by
  unfold dgetO
  rw [e]
  simp only [dR, asKey, Option.map_some, valP_dR]
theorem i_dgetR (e : h[q]? = some (dR F)) (g : gI F k = some d) (c : Q (.v (.ref d.toNat)) h) : wV (fDGet (.v (.ref q)) (.v (.int k)) h) Q := ⟨_, _, by simp only [fDGet, dget_dR e, Option.bind_some, g, Option.map_some], c⟩
theorem i_dinR (e : h[q]? = some (dR F)) (c : Q (.v (.bl (gI F k).isSome)) h) : wV (fDIn false (.v (.int k)) (.v (.ref q)) h) Q := ⟨_, _, by simp only [fDIn, dget_dR e, Option.map_some, Option.isSome_map, Bool.bne_false], c⟩
theorem i_dninR (e : h[q]? = some (dR F)) (c : Q (.v (.bl (!(gI F k).isSome))) h) : wV (fDIn true (.v (.int k)) (.v (.ref q)) h) Q := ⟨_, _, by simp only [fDIn, dget_dR e, Option.map_some, Option.isSome_map, Bool.bne_true], c⟩
theorem isDc_ofR (e : h[q]? = some (dR F)) : isDc h q = true := by unfold isDc; rw [e]; rfl
theorem i_dget1R (c : wE md s h fun r h1 => ∃ q, r = .v (.ref q) ∧ isDc h1 q = true ∧ wE mk s h1 fun r2 h2 => ∃ k F, r2 = .v (.int k) ∧ h2[q]? = some (dR F) ∧ Q (.v (match gI F k with | some x => .ref x.toNat | none => .non)) h2) : wE (mDGet1 md mk) s h Q := by
  obtain ⟨r, h1, e1, q, rfl, hq, r2, h2, e2, k, F, rfl, e4, c⟩ := c
  refine ⟨_, _, by simp only [mDGet1, e1, Option.bind_some, hq, if_true, e2, dget_dR e4, Option.map_some]; rfl, ?_⟩
  cases g : gI F k with
  | none => rw [g] at c; exact c
  | some x => rw [g] at c; exact c
theorem i_dputR (c : wE mv s h fun r h1 => wE md s h1 fun r2 h2 => wE mk s h2 fun r3 h3 => ∃ x q k F, r = .v (.ref x) ∧ r2 = .v (.ref q) ∧ r3 = .v (.int k) ∧ h3[q]? = some (dR F) ∧ F.length < 1000000 ∧ QS .nx s (h3.set q (dR (pI F k x)))) : wS (sDPutM md mk mv) s h QS := by
  obtain ⟨r, h1, e1, r2, h2, e2, r3, h3, e3, x, q, k, F, rfl, rfl, rfl, e4, hl, c⟩ := c
  refine ⟨_, _, _, ?_, c⟩
  simp only [sDPutM, e1, e2, e3, Option.bind_some]
  unfold dputO
  rw [e4]
  simp only [dR, List.length_map]
  rw [if_pos hl]
  simp only [asKey, Option.map_some, putP_dR]
theorem i_d1R (c : wE mk s h fun r h1 => wE mv s h1 fun r2 h2 => ∃ k x, r = .v (.int k) ∧ r2 = .v (.ref x) ∧ Q (.v (.ref h2.length)) (h2 ++ [dR [(k, (x : Nat))]])) : wE (mD1 mk mv) s h Q := by
  obtain ⟨r, h1, e1, r2, h2, e2, k, x, rfl, rfl, c⟩ := c
  refine ⟨_, _, by simp only [mD1, e1, e2, Option.bind_some, asKey, Option.map_some]; rfl, ?_⟩
  have e : dR [(k, ((x : Nat) : Int))] = .dK [(.inl k, .ref x)] := by simp [dR]
  rw [e] at c
  exact c
end
variable [HasK]
theorem se_lstR {X : Cx} {a : Expr} {m : ME} {p p2 pos pos2 : Pos} (hm : X.mg "list" = none) (hm2 : X.mg "range" = none) (ha : SE X a m) (hc : X.calm = true := by rfl) (hg : Gl X "list" := by rfl) (hg2 : Gl X "range" := by rfl)
    (n1 : starEach [a] X.env = (false, eval a X.env) :: starEach [] X.env := by rfl) (n2 : starEach [Expr.Call (.Name "range" p2) [a] [] pos2] X.env = (false, eval (Expr.Call (.Name "range" p2) [a] [] pos2) X.env) :: starEach [] X.env := by rfl) :
    SE X (.Call (.Name "list" p) [.Call (.Name "range" p2) [a] [] pos2] [] pos) (mLstR m) := pe_imp (pe_listRg hc hg hm (prg_1 hg2 hm2 ha n1) n2) fun σ H Q q => by
  obtain ⟨c, ow, σa, h, r, h', k, e, f⟩ := q
  simp only [mLstR, Option.bind_eq_some_iff] at e
  obtain ⟨⟨r1, h1⟩, e1, e2⟩ := e
  refine ⟨c, ow, σa, h, r1, h1, k, e1, fun c1 H1 x E1 K1 R1 => ?_⟩
  dsimp only at e2
  split at e2
  · rename_i n
    split at e2
    · rename_i hn
      simp only [Option.some.injEq, Prod.mk.injEq] at e2
      obtain ⟨rfl, rfl⟩ := e2
      refine ⟨n, int_rr R1, RgOk.of_le (by decide) (by omega) (by decide) hn.1, fun q nq => ?_⟩
      have e : rgV 0 n = (rangeI n).map V.int := by
        unfold rgV rangeI
        rw [List.map_map, Int.sub_zero]
        refine List.map_congr_left fun i _ => ?_
        show V.int (0 + (i : Int)) = V.int (i : Int)
        rw [Int.zero_add]
      rw [e]
      exact f c1 _ _ (E1.trans (Ext.alloc nq)) (K1.alloc nq) (RR.early E1 (RR.newLst K1 nq (vrs_ints _)))
    · cases e2
  · cases e2
section
variable {X : Cx} {o i e f' : Expr} {mo mi m mx : ME} {pos tpos apos cpos : Pos}
theorem se_dget1 (hu : X.A.units + 65 < cLine) (ho : SE X o mo) (he : SE X e m) (mm : M1 X o "get" apos e cpos := by exact ⟨rfl, rfl, rfl, rfl⟩) : SE X (.Call (.Attribute o "get" apos) [e] [] cpos) (mDGet1 mo m) :=
  pe_imp (pe_dget1 (ulow hu) ho he mm) fun σ H Q q => by
    obtain ⟨c, ow, σa, h, r, h', k, e, f⟩ := q
    simp only [mDGet1, Option.bind_eq_some_iff] at e
    obtain ⟨⟨r1, h1⟩, e1, e2⟩ := e
    refine ⟨c, ow, σa, h, r1, h1, k, e1, fun c1 H1 x E1 K1 R1 => ?_⟩
    have k1 := k.ext E1 K1
    dsimp only at e2
    split at e2
    · rename_i q
      split at e2
      case isFalse => cases e2
      rename_i hd
      obtain ⟨a, rfl, ea⟩ := ref_vr R1
      refine ⟨a, rfl, isDc_rr K1 ea hd, ?_⟩
      simp only [Option.bind_eq_some_iff] at e2
      obtain ⟨⟨r2, h2⟩, e3, e5⟩ := e2
      refine ⟨c1, ow, σa, h1, r2, h2, k1, e3, fun c2 H2 y E2 K2 R2 => ?_⟩
      dsimp only at e5
      split at e5
      · rename_i yv
        simp only [Option.map_eq_some_iff, Prod.mk.injEq] at e5
        obtain ⟨ov, e6, rfl, rfl⟩ := e5
        obtain ⟨o', g, rel⟩ := dget_rr K2 (E2.get ea) R2 e6
        refine ⟨o', g, f c2 H2 _ (E1.trans E2) K2 ?_⟩
        rcases rel with ⟨rfl, rfl⟩ | ⟨v', x, rfl, rfl, q⟩
        · show VR _ _ _ _
          unfold VR
          rfl
        · exact q
      · cases e5
    · cases e2
end
end NL
set_option Elab.async false
set_option linter.all false
set_option maxRecDepth 100000
set_option maxHeartbeats 4000000
set_option autoImplicit false
namespace L2
open PySem PySem.Spec PyProof.Rows
section
variable {X : Cx}
/-- d.pop(k), k there: keys tuples -/
def rPopOne : V → List V → Hp → VK → Prop := fun x xs H Q => ∃ (a : Addr) (l : List (List Key × V)) (n : List Key) (b : Addr) (v : V), x = .ref a ∧ xs = [.ref b] ∧ H a = some (.dT l) ∧ H b = some (.tup (n.map kV)) ∧ valV l n = some v ∧ Q v (upd H a (.dT (dropK l n)))
theorem mt_popOne (hu : X.A.units + 1 < cLine) : MtR X "dict.pop" rPopOne := by
  intro pins s σ H x xs v us Q I rx rxs q
  obtain ⟨a, l, n, b, w, rfl, rfl, ha, hb, hw, q⟩ := q
  cases rx
  obtain ⟨u, rfl, ru⟩ := vals1 rxs
  have eu : u = Value.ref b := ru
  subst eu
  obtain ⟨z, hd, ys, rel, dd⟩ := dt_of I.hok ha
  have z2 : ys.length ≤ sizeLine := by
    rw [← Paired.length rel]
    exact z
  obtain ⟨w', hw', rw'⟩ := RelO.some_of (v := w) (o := (atKey ys n).map (·.2)) (by rw [← hw]; exact rel.val n)
  obtain ⟨p, hp, rfl⟩ := Option.map_eq_some_iff.mp hw'
  refine call_pop_heap (knd := tupleKind (mixKind X.prog X.w)) (more := []) (hsz := z2) (.inl rfl) (PySem.F.args_dict_pop_2 _ _) (tupleKind_room_in1 hu) (key_of I.hok hb) hd dd hp fun h1 d1 sb => ?_
  obtain ⟨o, es, ep, e1, e2, e3, e4, _, e5⟩ := d1
  have kp := (show KT H (dropK l n) (withoutH ys n) from L2.DX.KT_drop n rel).keeps (H' := upd H a (.dT (dropK l n))) fun c zs ec => by
    have ne : c ≠ a := ne_of ec ha (fun z => nomatch z)
    rw [upd_ne ne]
    exact ec
  exact ⟨w, upd H a (.dT (dropK l n)), d_write I (by rw [ha]; trivial) sb ⟨o, e1⟩ ⟨Nat.le_trans (dropK_le l n) z, hd, _, kp, o, es, ep, e1, e2, e3, e4, e5⟩, rw', q⟩
end
end L2
namespace NL
open PySem L2 PySem.Spec
open Classical
/-! ### what is never come to -/
def sNever : MS := fun _ _ => none
def mNever : ME := fun _ _ => none
/-! ### d.pop(k) -/
noncomputable def mDPopT (md mk : ME) : ME := fun s h => (md s h).bind fun d => match d.1 with
  | .v (.ref q) => match d.2[q]? with
    | some (.dT _) => (mk s d.2).bind fun k => match k.1 with
      | .v y => match k.2[q]? with
        | some (.dT kvs) => (asKeys y).bind fun kk => (valP kvs kk).map fun v => (.v v, k.2.set q (.dT (dropP kvs kk)))
        | _ => none
      | _ => none
    | _ => none
  | _ => none
noncomputable def mDPopK (md mk : ME) : ME := fun s h => (md s h).bind fun d => match d.1 with
  | .v (.ref q) => match d.2[q]? with
    | some (.dK _) => (mk s d.2).bind fun k => match k.1 with
      | .v y => match k.2[q]? with
        | some (.dK kvs) => (asKey y).bind fun kk => (valP kvs kk).map fun v => (.v v, k.2.set q (.dK (dropP kvs kk)))
        | _ => none
      | _ => none
    | _ => none
  | _ => none
noncomputable def sDDelK (md mk : ME) : MS := fun s h => (md s h).bind fun d => (mk s d.2).bind fun k => match d.1, k.1 with
  | .v (.ref q), .v y => match k.2[q]? with
    | some (.dK kvs) => (asKey y).bind fun kk => if (valP kvs kk).isSome = true then some (.nx, s, k.2.set q (.dK (dropP kvs kk))) else none
    | _ => none
  | _, _ => none
variable [HasK]
theorem ss_never {X : Cx} {st : Stmt} : SS X st sNever := ⟨fun pins s σ H D I q => by
  obtain ⟨c, ow, σa, h, fl, σa', h', k, e, f⟩ := q
  cases e⟩
theorem se_never {X : Cx} {e : Expr} : SE X e mNever := ⟨fun pins s σ H Q I q => by
  obtain ⟨c, ow, σa, h, r, h', k, e, f⟩ := q
  cases e⟩
section
variable {X : Cx} {o e i : Expr} {mo m mi : ME} {pos tpos apos cpos : Pos}
theorem se_popT (hu : X.A.units + 65 < cLine) (ho : SE X o mo) (he : SE X e m)
    (hbase : attributeBase o "pop" X.env (eval o X.env) = eval o X.env := by rfl)
    (hfew : ((backTo cpos (starEach [e] X.env)).all (fun x => !x.1) && (backToKw cpos (keywordEach [] X.env)).all (fun x => x.1.isSome) && decide (([e] : List Expr).length + ([] : List Keyword).length + (if ([] : List Keyword).isEmpty then 0 else 1) < 30)) = true := by rfl)
    (hline : (apos.endLine == cpos.line) = true := by rfl) (hs : starEach [e] X.env = (false, eval e X.env) :: starEach [] X.env := by rfl) (hplain : (backTo cpos (starEach [] X.env)).any (·.1) = false := by rfl) :
    SE X (.Call (.Attribute o "pop" apos) [e] [] cpos) (mDPopT mo m) :=
  pe_imp (pe_bm PySem.F.plainAttrs_dict PySem.F.slot_dict_pop PySem.F.type_dict_pop (mt_popOne (ulow hu)) ho (pa_cons he pa_nil hs) hbase hfew hline hs hplain) fun σ H Q q => by
    obtain ⟨c, ow, σa, h, r, h', k, e, f⟩ := q
    simp only [mDPopT, Option.bind_eq_some_iff] at e
    obtain ⟨⟨r1, h1⟩, e1, e2⟩ := e
    refine ⟨c, ow, σa, h, r1, h1, k, e1, fun c1 H1 x E1 K1 R1 => ?_⟩
    have k1 := k.ext E1 K1
    dsimp only at e2
    split at e2
    · rename_i q
      split at e2
      · rename_i kv0 eq0
        obtain ⟨a, rfl, ea⟩ := ref_vr R1
        obtain ⟨ob0, f6, f7⟩ := K1.cell q a ea
        rw [eq0] at f6
        cases f6
        obtain ⟨ys0, f8, _⟩ := f7
        refine ⟨.inr (.inr (.inl ⟨rfl, .inr ⟨_, f8⟩⟩)), ?_⟩
        simp only [Option.bind_eq_some_iff] at e2
        obtain ⟨⟨r2, h2⟩, e3, e4⟩ := e2
        refine ⟨c1, ow, σa, h1, r2, h2, k1, e3, fun c2 H2 y E2 K2 R2 => ?_⟩
        dsimp only at e4
        split at e4
        · rename_i yv
          split at e4
          · rename_i kvs eq
            simp only [Option.bind_eq_some_iff, Option.map_eq_some_iff, Prod.mk.injEq] at e4
            obtain ⟨kk, e5, v, e6, rfl, rfl⟩ := e4
            have ea2 := E2.get ea
            obtain ⟨ob, g6, g7⟩ := K2.cell q a ea2
            rw [eq] at g6
            cases g6
            obtain ⟨ys, g8, g9⟩ := g7
            obtain ⟨b, rfl, eb⟩ := keysT_vr e5 R2
            obtain ⟨k3, x3, tk3⟩ := K2.setCellO (u := .dT (dropK ys kk)) (ob := .dT (dropP kvs kk)) ea2 eq rfl fun tk => ⟨_, upd_same, (PRs.mono tk _ _ g9).drop kk⟩
            rcases g9.val kk with ⟨z1, z2⟩ | ⟨v', w, z1, z2, z3⟩
            · rw [z1] at e6; cases e6
            · rw [z1] at e6
              cases e6
              refine ⟨a, ys, kk, b, w, rfl, rfl, g8, eb, z2, f c2 _ _ ((E1.trans E2).trans x3) k3 ?_⟩
              exact VR.mono (x3.tk K2) _ _ z3
          · cases e4
        · cases e4
      · cases e2
    · cases e2
theorem se_popK (hu : X.A.units + 65 < cLine) (ho : SE X o mo) (he : SE X e m) (mm : M1 X o "pop" apos e cpos := by exact ⟨rfl, rfl, rfl, rfl⟩) : SE X (.Call (.Attribute o "pop" apos) [e] [] cpos) (mDPopK mo m) :=
  pe_imp (pe_dpop1 ho he mm) fun σ H Q q => by
    obtain ⟨c, ow, σa, h, r, h', k, e, f⟩ := q
    simp only [mDPopK, Option.bind_eq_some_iff] at e
    obtain ⟨⟨r1, h1⟩, e1, e2⟩ := e
    refine ⟨c, ow, σa, h, r1, h1, k, e1, fun c1 H1 x E1 K1 R1 => ?_⟩
    have k1 := k.ext E1 K1
    dsimp only at e2
    split at e2
    · rename_i q
      split at e2
      · rename_i kv0 eq0
        obtain ⟨a, rfl, ea⟩ := ref_vr R1
        obtain ⟨ob0, f6, f7⟩ := K1.cell q a ea
        rw [eq0] at f6
        cases f6
        obtain ⟨ys0, f8, _⟩ := f7
        refine ⟨a, rfl, .inl ⟨_, .inl f8⟩, ?_⟩
        simp only [Option.bind_eq_some_iff] at e2
        obtain ⟨⟨r2, h2⟩, e3, e4⟩ := e2
        refine ⟨c1, ow, σa, h1, r2, h2, k1, e3, fun c2 H2 y E2 K2 R2 => ?_⟩
        dsimp only at e4
        split at e4
        · rename_i yv
          split at e4
          · rename_i kvs eq
            simp only [Option.bind_eq_some_iff, Option.map_eq_some_iff, Prod.mk.injEq] at e4
            obtain ⟨kk, e5, v, e6, rfl, rfl⟩ := e4
            have ea2 := E2.get ea
            obtain ⟨ob, g6, g7⟩ := K2.cell q a ea2
            rw [eq] at g6
            cases g6
            obtain ⟨ys, g8, g9⟩ := g7
            have ek : y = kV kk := key_vr e5 R2
            obtain ⟨k3, x3, tk3⟩ := K2.setCellO (u := .dK (dropK ys kk)) (ob := .dK (dropP kvs kk)) ea2 eq rfl fun tk => ⟨_, upd_same, (PRs.mono tk _ _ g9).drop kk⟩
            rcases g9.val kk with ⟨z1, z2⟩ | ⟨v', w, z1, z2, z3⟩
            · rw [z1] at e6; cases e6
            · rw [z1] at e6
              cases e6
              refine ⟨ys, kk, w, g8, ek, z2, f c2 _ _ ((E1.trans E2).trans x3) k3 ?_⟩
              exact VR.mono (x3.tk K2) _ _ z3
          · cases e4
        · cases e4
      · cases e2
    · cases e2
theorem ss_ddelK (hu : X.A.units + 65 < cLine) (ho : SE X o mo) (hi : SE X i mi) : SS X (.Delete [.Subscript o i tpos] pos) (sDDelK mo mi) := ps_imp (ps_ddel ho hi) fun D σ H q => by
  obtain ⟨c, ow, σa, h, fl, σa', h', k, e, f⟩ := q
  simp only [sDDelK, Option.bind_eq_some_iff] at e
  obtain ⟨⟨r1, h1⟩, e1, ⟨r2, h2⟩, e2, e3⟩ := e
  refine ⟨c, ow, σa, h, r1, h1, k, e1, fun c1 H1 x E1 K1 R1 => ?_⟩
  have k1 := k.ext E1 K1
  refine ⟨c1, ow, σa, h1, r2, h2, k1, e2, fun c2 H2 y E2 K2 R2 => ?_⟩
  dsimp only at e3
  split at e3
  · rename_i q yv
    split at e3
    · rename_i kvs eq
      simp only [Option.bind_eq_some_iff] at e3
      obtain ⟨kk, e4, e5⟩ := e3
      split at e5
      · rename_i hv
        simp only [Option.some.injEq, Prod.mk.injEq] at e5
        obtain ⟨rfl, rfl, rfl⟩ := e5
        obtain ⟨a, rfl, ea⟩ := ref_vr R1
        have ea2 := E2.get ea
        obtain ⟨ob, e6, e7⟩ := K2.cell q a ea2
        rw [eq] at e6
        cases e6
        obtain ⟨ys, e8, e9⟩ := e7
        obtain ⟨k3, x3, _⟩ := K2.setCellO (u := .dK (dropK ys kk)) (ob := .dK (dropP kvs kk)) ea2 eq rfl fun tk => ⟨_, upd_same, (PRs.mono tk _ _ e9).drop kk⟩
        refine ⟨a, ys, kk, rfl, e8, key_vr e4 R2, ?_, f c2 ow σ _ ((E1.trans E2).trans x3).s ((k1.ext E2 K2).ext x3 k3)⟩
        rcases e9.val kk with ⟨z1, z2⟩ | ⟨v, w, z1, z2, _⟩
        · rw [z1] at hv; cases hv
        · rw [z2]; rfl
      · cases e5
    · cases e3
  · cases e3
end
end NL
set_option Elab.async false
set_option linter.all false
set_option maxRecDepth 100000
set_option maxHeartbeats 4000000
set_option autoImplicit false
namespace NL
open PySem PySem.Spec PyProof.Rows L2 RZ PySem.W PySem.SeqAt
/-! ### o.pop(i), o a list of the plain heap by an expression -/
def mPopAt (mo m : ME) : ME := fun s h => (mo s h).bind fun p => match p.1 with
  | .v (.ref q) => if isLs p.2 q then (m s p.2).bind fun r => match r.1 with
    | .v (.int i) => match r.2[q]? with
      | some (.lst xs) => if 0 ≤ i ∧ i < (xs.length : Int) ∧ i < 2 ^ 62 then (xs[i.toNat]?).map fun y => (.v y, r.2.set q (.lst (xs.eraseIdx i.toNat))) else none
      | _ => none
    | _ => none else none
  | _ => none
theorem i_popAt {mo m : ME} {s : Sl} {h : Hh} {Q : QE} (q : wE mo s h fun r h1 => ∃ p, r = .v (.ref p) ∧ isLs h1 p = true ∧ wE m s h1 fun r2 h2 => ∃ i xs y, r2 = .v (.int i) ∧ h2[p]? = some (.lst xs) ∧ 0 ≤ i ∧ i < (xs.length : Int) ∧ i < 2 ^ 62 ∧ xs[i.toNat]? = some y ∧ Q (.v y) (h2.set p (.lst (xs.eraseIdx i.toNat)))) : wE (mPopAt mo m) s h Q := by
  obtain ⟨r, h1, e1, p, rfl, e2, r2, h2, e3, i, xs, y, rfl, e4, l1, l2, l3, e5, q⟩ := q
  refine ⟨_, _, ?_, q⟩
  simp only [mPopAt, e1, Option.bind_some, e2, if_true, e3, e4]
  rw [if_pos ⟨l1, l2, l3⟩, e5]
  rfl
section
variable [HasK] {X : Cx} {e o : Expr} {m mo : ME} {pos apos cpos : Pos}
theorem se_popAt (ho : SE X o mo) (he : SE X e m)
    (hbase : attributeBase o "pop" X.env (eval o X.env) = eval o X.env := by rfl)
    (hfew : ((backTo cpos (starEach [e] X.env)).all (fun x => !x.1) && (backToKw cpos (keywordEach [] X.env)).all (fun x => x.1.isSome) && decide (([e] : List Expr).length + ([] : List Keyword).length + (if ([] : List Keyword).isEmpty then 0 else 1) < 30)) = true := by rfl)
    (hline : (apos.endLine == cpos.line) = true := by rfl) (hs : starEach [e] X.env = (false, eval e X.env) :: starEach [] X.env := by rfl) (hplain : (backTo cpos (starEach [] X.env)).any (·.1) = false := by rfl) :
    SE X (.Call (.Attribute o "pop" apos) [e] [] cpos) (mPopAt mo m) :=
  pe_imp (pe_bm PySem.F.plainAttrs_list PySem.F.slot_list_pop PySem.F.type_list_pop mt_popAt ho (pa_cons he pa_nil hs) hbase hfew hline hs hplain) fun σ H Q q => by
    obtain ⟨c, ow, σa, h, r, h', k, e, f⟩ := q
    simp only [mPopAt, Option.bind_eq_some_iff] at e
    obtain ⟨⟨r1, h1⟩, e1, e2⟩ := e
    refine ⟨c, ow, σa, h, r1, h1, k, e1, fun c1 H1 x E1 K1 R1 => ?_⟩
    have k1 := k.ext E1 K1
    dsimp only at e2
    split at e2
    · rename_i q
      split at e2
      case isFalse => cases e2
      rename_i hls
      simp only [Option.bind_eq_some_iff] at e2
      obtain ⟨⟨r2, h2⟩, e3, e4⟩ := e2
      have R1' : VR c1 H1 (.ref q) x := R1
      unfold VR at R1'
      obtain ⟨a, rfl, e5⟩ := R1'
      obtain ⟨us, ea⟩ := isLs_rr K1 e5 hls
      refine ⟨.inl ⟨rfl, us, .inl (.inl ea)⟩, c1, ow, σa, h1, r2, h2, k1, e3, fun c2 H2 y E2 K2 R2 => ?_⟩
      dsimp only at e4
      split at e4
      · rename_i i
        split at e4
        · rename_i xs ex
          split at e4
          · rename_i hl
            simp only [Option.map_eq_some_iff] at e4
            obtain ⟨yv, ey, e4⟩ := e4
            simp only [Prod.mk.injEq] at e4
            obtain ⟨rfl, rfl⟩ := e4
            have e6 := E2.get e5
            obtain ⟨ob, e7, e8⟩ := K2.cell q a e6
            rw [ex] at e7
            cases e7
            obtain ⟨ys, e9, e10⟩ := e8
            have R2' : VR c2 H2 (.int i) y := R2
            unfold VR at R2'
            subst R2'
            obtain ⟨z, ez, vz⟩ := e10.get ey
            obtain ⟨k3, x3, tk⟩ := K2.setCell e6 ex rfl (e10.eraseIdx i.toNat)
            have ly := e10.length
            have ix : seqIndex? i ys.length = some i.toNat := by
              unfold seqIndex?
              have n1 : ¬ i < 0 := by omega
              simp only [n1, if_false]
              rw [if_pos]
              simp only [Bool.and_eq_true, decide_eq_true_eq]
              omega
            exact ⟨a, ys, i, i.toNat, z, rfl, rfl, e9, by omega, by omega, ix, ez, f c2 _ z ((E1.trans E2).trans x3) k3 (VR.mono tk _ _ vz)⟩
          · cases e4
        · cases e4
      · cases e4
    · cases e2
end
/-! ### d < e of plain data -/
open Classical in
noncomputable def fLtD : F2 := fun x y h => (dat h x).bind fun d => (dat h y).bind fun e => if alike d e = true ∧ d ≠ .none ∧ d.depth ≤ 40 then some (.v (.bl (dataLt d e)), h) else none
theorem i_ltD {h : Hh} {Q : QE} {x y : R} {d e : PyData} {b : Bool} (hx : dat h x = some d) (hy : dat h y = some e) (hc : alike d e = true ∧ d ≠ .none ∧ d.depth ≤ 40) (hb : dataLt d e = b) (q : Q (.v (.bl b)) h) : wV (fLtD x y h) Q :=
  ⟨_, _, by simp only [fLtD, hx, hy, Option.bind_some]; rw [if_pos hc, hb], q⟩
section
variable [HasK]
def rLtD (K : PySem.W.Frag) : R2 := fun x y H Q => ∃ d e, Dp K H x d ∧ Dp K H y e ∧ alike d e = true ∧ d ≠ .none ∧ d.depth ≤ 40 ∧ Q (.bl (dataLt d e)) H
theorem op_ltD {X : Cx} (hu : X.A.units + 64 < cLine) : OpR X (compareOp .Lt) (rLtD X.K) := by
  intro pins s σ H x y v u Q I rx ry h
  obtain ⟨d, e, hd, he, al, nn, dp, q⟩ := h
  obtain ⟨as, r1⟩ := Dp.reads I d x v hd rx
  obtain ⟨bs, r2⟩ := Dp.reads I e y u he ry
  exact lt_data r1 r2 al nn (by omega) ⟨.bl _, H, I, rfl, q⟩
theorem v_ltD {K : PySem.W.Frag} : V2 (rLtD K) fLtD := by
  intro c h H0 H x y rx ry r' h' Q k qx qy e f
  simp only [fLtD, Option.bind_eq_some_iff] at e
  obtain ⟨d, e1, d2, e2, e3⟩ := e
  split at e3
  · rename_i cond
    simp only [Option.some.injEq, Prod.mk.injEq] at e3
    obtain ⟨rfl, rfl⟩ := e3
    exact ⟨d, d2, dat_dp k qx e1, dat_dp k qy e2, cond.1, cond.2.1, cond.2.2, f c H _ (Ext.refl c H) k rr_bl⟩
  · cases e3
theorem se_ltD {X : Cx} {a b : Expr} {pos : Pos} {ma mb : ME} (hu : X.A.units + 64 < cLine) (ha : SE X a ma) (hb : SE X b mb) : SE X (.Compare a [.Lt] [b] pos) (m2 fLtD ma mb) := se_cmp (op_ltD hu) v_ltD ha hb (nomark _)
theorem st_ltD {X : Cx} {a b : Expr} {pos : Pos} {ma mb : ME} (hu : X.A.units + 64 < cLine) (ha : SE X a ma) (hb : SE X b mb) : ST X (.Compare a [.Lt] [b] pos) (mTst (m2 fLtD ma mb)) := st_cmp (op_ltD hu) v_ltD ha hb (nomark _)
end
end NL
set_option Elab.async false
set_option linter.all false
set_option maxRecDepth 100000
set_option maxHeartbeats 4000000
set_option autoImplicit false
namespace NL
open PySem PySem.Spec PyProof.Rows L2 RZ PySem.W PySem.SeqAt
/-! ### a, b, .. = a list -/
def sUnpL (is : List Nat) (m : ME) : MS := fun s h => (m s h).bind fun p => (asL p.2 p.1).bind fun xs => (setAll is xs s).map fun s' => (.nx, s', p.2)
theorem i_unpL {is : List Nat} {m : ME} {s : Sl} {h : Hh} {QS : Fl → Sl → Hh → Prop} (q : wE m s h fun r h1 => ∃ xs s', asL h1 r = some xs ∧ setAll is xs s = some s' ∧ QS .nx s' h1) : wS (sUnpL is m) s h QS := by
  obtain ⟨r, h1, e1, xs, s', e2, e3, q⟩ := q
  exact ⟨_, _, _, by simp only [sUnpL, e1, Option.bind_some, e2, e3, Option.map_some], q⟩
section
variable [HasK] {X : Cx} {tg e : Expr} {is : List Nat} {m : ME} {pos : Pos}
theorem ss_unpL (he : SE X e m) (hg : PG X tg (gUnl X.K is.length (gNames is))) (hs : swapsWithSole [tg] e pos.line X.env = pure false := by rfl) (hw : swappedStores [tg] e X.env = pure none := by rfl)
    (h1 : (assignEach [tg] X.env).map (·.2) = [assign tg X.env] := by rfl) : SS X (.Assign [tg] e pos) (sUnpL is m) := ps_imp (ps_asg he hg hs hw h1) fun D σ H q => by
  obtain ⟨c, ow, σa, h, fl, σa', h', k, e, f⟩ := q
  simp only [sUnpL, Option.bind_eq_some_iff, Option.map_eq_some_iff, Prod.mk.injEq] at e
  obtain ⟨⟨r1, h1⟩, e1, xs, e2, s', e3, rfl, rfl, rfl⟩ := e
  refine ⟨c, ow, σa, h, r1, h1, k, e1, fun c1 H1 x E1 K1 R1 => ?_⟩
  obtain ⟨a, us, rfl, t1, v1⟩ := asL_rr K1 e2 R1
  exact ⟨a, us, rfl, .inl t1, by rw [← v1.length, setAll_len e3], names_rd (W := is) (k.ext E1 K1) v1 e3 (fun _ z => z) rfl (fun _ _ z => z) fun ow' σ' hs kk _ => f c1 ow' σ' H1 (E1.s.trans (exts_sub hs)) kk⟩
end
end NL
set_option Elab.async false
set_option linter.all false
set_option maxRecDepth 100000
set_option maxHeartbeats 4000000
set_option autoImplicit false
namespace NL
open PySem PySem.Spec PyProof.Rows L2 RZ
/-! ### a, b, *c = a list -/
section
variable {prog : Program} {w : World} {A : Around} {E : Value → Shared → Prop} {s : Shared}
theorem star_items {l : Addr} {xs : Array Value} {n i : Nat} {Q : List Value → Shared → Prop} (hl : s.heap.IsList l xs) (hh : A.handled = none) (hi : i < n) (hn : n ≤ xs.size + 1) (hz : xs.size ≤ 16384)
    (k : ∀ (g : Heap) (tk : Nat), (∀ b o, s.heap.get? b = some o → g.get? b = some o) → Q (xs.toList.take i ++ [.ref g.objs.size] ++ (xs.toList.drop i).drop (xs.size + 1 - n)) { s with heap := g.push { cls := .type "list", data := .seq ((xs.toList.drop i).take (xs.size + 1 - n)).toArray }, toks := tk }) :
    wpAny (model prog w) A (unpackItems (.ref l) n (some i)) Q E s := by
  have ll : l < s.heap.objs.size := by
    obtain ⟨o, ho, _⟩ := hl
    exact Heap.lt_size ho
  have lne : l ≠ s.heap.objs.size := Nat.ne_of_lt ll
  unfold unpackItems
  apply wpAny_bind
  unfold notIterableAtAll
  apply wpAny_bind
  apply wpAny_specialOf hl.typeIs slot_list_iter.lookup
  apply wpAny_pure
  simp only [Bool.false_eq_true, if_false]
  apply wpAny_bind
  apply wpAny_holding
  apply wpAny_pyIter_list hl
  apply wpAny_bind
  apply wpAny_holding
  apply PySem.W.kun_draw lne i 0 _ _ ⟨_, Heap.get?_push_size _ rfl, rfl, rfl⟩ (hl.push _) (by omega)
  intro g1 it1 sb1
  have hl1 : g1.IsList l xs := (hl.push _).extBut sb1.extBut lne
  rw [Nat.zero_add] at it1
  obtain ⟨oi, hoi, _⟩ := id it1
  obtain ⟨ol, hol, _⟩ := id hl1
  rw [List.drop_zero]
  have tl : (xs.toList.take i).length = i := by
    rw [List.length_take, Array.length_toList]
    omega
  rw [if_neg (by rw [tl]; omega)]
  apply wpAny_bind
  apply wpAny_holding
  refine PySem.W.kun_collect (s := { s with heap := g1 }) (T := "list_iterator") (.inr (.inr (.inl rfl))) (Walks.list (A := A.in1) hh s.heap.objs.size l lne xs)
    (fun j u st => st.1.typeIs) (k := i) (by omega) ⟨it1, hl1⟩ (Heap.lt_size hoi) (Heap.lt_size hol) (fun g2 tk hk => ?_) (by rw [sizeLine_eq]; omega)
  have dl : (xs.toList.drop i).length = xs.size - i := by rw [List.length_drop, Array.length_toList]
  have ml : (xs.toList.drop i).length - (n - 1 - i) = xs.size + 1 - n := by
    rw [dl]
    omega
  show wpAny _ _ (if (xs.toList.drop i).length < n - 1 - i then _ else _) _ _ _
  rw [if_neg (by rw [dl]; omega)]
  show wpAny _ _ (newList ((xs.toList.drop i).take ((xs.toList.drop i).length - (n - 1 - i))) >>= fun d => pure (xs.toList.take i ++ [d] ++ (xs.toList.drop i).drop ((xs.toList.drop i).length - (n - 1 - i)))) _ _ _
  rw [ml]
  apply wpAny_bind
  refine wpAny_newList ?_ (by rw [List.length_take, dl, sizeLine_eq]; omega)
  apply wpAny_pure
  have old : ∀ b o, s.heap.get? b = some o → g2.get? b = some o := fun b o e => by
    have nb : b ≠ s.heap.objs.size := Nat.ne_of_lt (Heap.lt_size e)
    exact hk b o nb (sb1.extBut b o nb (Heap.get?_push_of_some _ e))
  exact k g2 tk old
end
def gStL (K : PySem.W.Frag) (n i : Nat) (t : TGs) : TG := fun v σ H Q => ∃ a xs, v = .ref a ∧ SqL K H a xs ∧ i < n ∧ n ≤ xs.length + 1 ∧ xs.length ≤ 16384 ∧ ∀ D, H D = none → t (xs.take i ++ [.ref D] ++ (xs.drop i).drop (xs.length + 1 - n)) σ (upd H D (.lst ((xs.drop i).take (xs.length + 1 - n)))) Q
section
variable {X : Cx} {pos : Pos}
theorem pg_starL {es : List Expr} {k : Nat} {t : TGs} {n i : Nat} (hc : X.calm = true) (h : PGs X es t) (hn : (assignEach es X.env).length = n := by rfl) (hst : (assignEach es X.env).findIdx? (·.1) = some i := by rfl) : PG X (.Tuple es k pos) (gStL X.K n i t) := by
  constructor
  intro pins s σ H v u Q I r hw
  obtain ⟨a, xs, rfl, hq, hi, hn2, hz, hw⟩ := hw
  cases r
  obtain ⟨its, rv, pl, _⟩ := I.list hq
  have isl : s.heap.IsList a its.toArray := by
    obtain ⟨o, m, e, c, d, q⟩ := pl
    exact ⟨o, e, c, m, q⟩
  have ln : its.length = xs.length := rv.length.symm
  rw [PyProof.Rows.assign_Tuple]
  apply wpAny_bind
  apply wpAny_standAt
  unfold unpack
  rw [hn, hst]
  apply wpAny_bind
  apply wpAny_holding
  refine star_items (xs := its.toArray) isl (I.ok.hd hc) hi (by simp; omega) (by simp; omega) fun g tk old => ?_
  have I1 : Inv X pins σ H { s with heap := g, toks := tk } := I.kept (t' := tk) old
  have hp := I1.hok.fresh (Nat.le_refl g.objs.size)
  have es : its.toArray.size = xs.length := by simp [ln]
  rw [es, List.toList_toArray]
  have rm : Vals ((xs.drop i).take (xs.length + 1 - n)) ((its.drop i).take (xs.length + 1 - n)) := (rv.drop i).take _
  have I2 := I1.laid (a := g.objs.size) (o := .lst ((xs.drop i).take (xs.length + 1 - n))) (t' := tk) (h' := g.push { cls := .type "list", data := .seq ((its.drop i).take (xs.length + 1 - n)).toArray }) (fun b u q => Heap.get?_push_of_some _ q) (Nat.le_refl _)
    ⟨by rw [List.length_take, List.length_drop, sizeLine_eq]; omega, _, _, rm, Heap.get?_push_size _ rfl⟩
  exact h.run pins _ σ _ _ _ Q I2 (((rv.take i).append (.cons (show RelV (.ref g.objs.size) (.ref g.objs.size) from rfl) .nil)).append ((rv.drop i).drop _)) (hw _ hp)
end
theorem pgs_consS {X : Cx} {e : Expr} {es : List Expr} {p : Pos} {t : TG} {u : TGs} (h1 : PG X e t) (h2 : PGs X es u) (hs : (assignEach (.Starred e p :: es) X.env).map (·.2) = assign e X.env :: (assignEach es X.env).map (·.2) := by rfl) : PGs X (.Starred e p :: es) (gCons t u) := by
  constructor
  intro pins s σ H vs us Q I r h
  obtain ⟨v, vr, rfl, h⟩ := h
  cases r with
  | cons r rr =>
    rw [hs]
    apply assignInOrder_cons
    apply thn (h1.run pins s σ H _ _ _ I r h)
    rintro _ s1 ⟨σ1, H1, I1, q1⟩
    exact h2.run pins s1 σ1 H1 _ _ Q I1 rr q1
/-! ### the meaning: the first names hold values, the last one the rest, a new list -/
def sUnpS (is : List Nat) (j : Nat) (m : ME) : MS := fun s h => (m s h).bind fun p => (asL p.2 p.1).bind fun xs => if is.length ≤ xs.length ∧ xs.length ≤ 16000 then (setAll is (xs.take is.length) s).map fun s' => (.nx, s'.set j (some (.o (xs.drop is.length))), p.2) else none
theorem i_unpS {is : List Nat} {j : Nat} {m : ME} {s : Sl} {h : Hh} {QS : Fl → Sl → Hh → Prop} (q : wE m s h fun r h1 => ∃ xs s', asL h1 r = some xs ∧ is.length ≤ xs.length ∧ xs.length ≤ 16000 ∧ setAll is (xs.take is.length) s = some s' ∧ QS .nx (s'.set j (some (.o (xs.drop is.length)))) h1) : wS (sUnpS is j m) s h QS := by
  obtain ⟨r, h1, e1, xs, s', e2, l1, l2, e3, q⟩ := q
  exact ⟨_, _, _, by simp only [sUnpS, e1, Option.bind_some, e2]; rw [if_pos ⟨l1, l2⟩, e3]; rfl, q⟩
def gNamesS (j : Nat) : List Nat → TGs
  | [] => gCons (gName j) gNil
  | i :: is => gCons (gName i) (gNamesS j is)
section
variable [HasK]
theorem namesS_rd {c : List Addr} {h : Hh} {H H2 : Hp} {D : Addr} {j : Nat} {Q : L2.St → Hp → Prop} {ow0 : Ow} : ∀ {is : List Nat} {vs : List Val} {xs : List V} {ow : Ow} {σa σa' : Sl} {σ : L2.St},
    Rel c ow σa h σ H → VRs c H vs xs → setAll is vs σa = some σa' → (∀ i a, ow i = some a → ow0 i = some a) →
    (∀ ow' σ', (∀ i a, ow' i = some a → ow0 i = some a) → Rel c ow' σa' h σ' H → gName j (.ref D) σ' H2 Q) → gNamesS j is (xs ++ [.ref D]) σ H2 Q
  | [], [], xs, ow, σa, σa', σ, k, q, e, ho, f => by
    simp only [setAll, Option.some.injEq] at e
    subst e
    unfold VRs at q
    subst q
    exact ⟨.ref D, [], rfl, Eq.mpr (by rfl) (show gName j (.ref D) σ H2 (fun σ' H' => gNil [] σ' H' Q) from by
      have := f ow σ ho k
      exact ⟨rfl, this⟩)⟩
  | i :: is, v :: vs, xs, ow, σa, σa', σ, k, q, e, ho, f => by
    simp only [setAll] at e
    unfold VRs at q
    obtain ⟨y, ys, rfl, q1, q2⟩ := q
    refine ⟨y, ys ++ [.ref D], rfl, ?_⟩
    refine namesS_rd (k.setV q1) q2 e (fun j' a z => ?_) f
    by_cases hj : j' = i
    · rw [hj, put_same] at z; cases z
    · rw [put_ne hj] at z; exact ho j' a z
  | [], _ :: _, xs, ow, σa, σa', σ, k, q, e, ho, f => by simp [setAll] at e
  | _ :: _, [], xs, ow, σa, σa', σ, k, q, e, ho, f => by simp [setAll] at e
theorem VRs.takeN {c : List Addr} {H : Hp} : ∀ {vs : List Val} {xs : List V} (n : Nat), VRs c H vs xs → VRs c H (vs.take n) (xs.take n)
  | [], xs, n, q => by
    unfold VRs at q
    subst q
    simp
    unfold VRs
    rfl
  | v :: vs, xs, 0, q => by
    simp
    unfold VRs
    rfl
  | v :: vs, xs, n + 1, q => by
    unfold VRs at q
    obtain ⟨y, ys, rfl, q1, q2⟩ := q
    simp only [List.take_succ_cons]
    unfold VRs
    exact ⟨_, _, rfl, q1, VRs.takeN n q2⟩
theorem VRs.dropN {c : List Addr} {H : Hp} : ∀ {vs : List Val} {xs : List V} (n : Nat), VRs c H vs xs → VRs c H (vs.drop n) (xs.drop n)
  | [], xs, n, q => by
    unfold VRs at q
    subst q
    simp
    unfold VRs
    rfl
  | v :: vs, xs, 0, q => q
  | v :: vs, xs, n + 1, q => by
    unfold VRs at q
    obtain ⟨y, ys, rfl, q1, q2⟩ := q
    simp only [List.drop_succ_cons]
    exact VRs.dropN n q2
theorem ss_unpS {X : Cx} {tg e : Expr} {is : List Nat} {j : Nat} {m : ME} {pos : Pos} (he : SE X e m) (hg : PG X tg (gStL X.K (is.length + 1) is.length (gNamesS j is))) (hs : swapsWithSole [tg] e pos.line X.env = pure false := by rfl) (hw : swappedStores [tg] e X.env = pure none := by rfl)
    (h1 : (assignEach [tg] X.env).map (·.2) = [assign tg X.env] := by rfl) : SS X (.Assign [tg] e pos) (sUnpS is j m) := ps_imp (ps_asg he hg hs hw h1) fun D σ H q => by
  obtain ⟨c, ow, σa, h, fl, σa', h', k, e, f⟩ := q
  simp only [sUnpS, Option.bind_eq_some_iff] at e
  obtain ⟨⟨r1, h1⟩, e1, xs, e2, e⟩ := e
  split at e
  · rename_i l
    rw [Option.map_eq_some_iff] at e
    obtain ⟨s', e3, e⟩ := e
    simp only [Prod.mk.injEq] at e
    obtain ⟨rfl, rfl, rfl⟩ := e
    refine ⟨c, ow, σa, h, r1, h1, k, e1, fun c1 H1 x E1 K1 R1 => ?_⟩
    obtain ⟨a, us, rfl, t1, v1⟩ := asL_rr K1 e2 R1
    have lu := v1.length
    refine ⟨a, us, rfl, .inl t1, by omega, by omega, by omega, fun dn hd => ?_⟩
    have z1 : us.length + 1 - (is.length + 1) = us.length - is.length := by omega
    have z2 : (us.drop is.length).take (us.length - is.length) = us.drop is.length := List.take_of_length_le (by rw [List.length_drop]; omega)
    have z3 : (us.drop is.length).drop (us.length - is.length) = [] := List.drop_of_length_le (by rw [List.length_drop]; omega)
    rw [z1, z2, z3, List.append_nil]
    have k1 := k.ext E1 K1
    have E2 := Ext.alloc (c := c1) (o := .lst (us.drop is.length)) hd
    have K2 := K1.alloc (o := .lst (us.drop is.length)) hd
    obtain ⟨a2, ys, ea2, e4, e5, e6, e7⟩ := RR.newLst K1 hd (v1.dropN is.length)
    cases ea2
    refine namesS_rd k1 (v1.takeN is.length) e3 (fun i a z => z) fun ow' σ' ho k' => ?_
    have E := E1.trans E2
    refine f c1 (put ow' j (some dn)) (σ'.set j (some (.ref dn))) _ ⟨E.pre, fun b o h n _ => E.keep b o h n, E.new, E.dom, fun i b z => ?_, E.frz⟩ (k'.setO E2 K2 e4 e7 e5 e6)
    by_cases hj : i = j
    · rw [hj, put_same] at z
      cases z
      exact .inr (E1.back hd)
    · rw [put_ne hj] at z
      exact .inl ⟨i, ho i b z⟩
  · cases e
end
end NL
set_option Elab.async false
set_option linter.all false
set_option maxRecDepth 100000
set_option maxHeartbeats 4000000
set_option autoImplicit false
namespace NL
open PySem PySem.Spec PyProof.Rows L2 RZ
/-! ### for i in range(a, b) -/
theorem for_range2 {m m' : ME} {T : Tg} {b : MS} {s : Sl} {h : Hh} {QS : Fl → Sl → Hh → Prop} (q : wE m s h fun r h1 => wE m' s h1 fun r' h2 => ∃ l n : Int, r = .v (.int l) ∧ r' = .v (.int n) ∧ (-(2 ^ 62) ≤ l ∧ l < 2 ^ 62 ∧ -(2 ^ 62) ≤ n ∧ n < 2 ^ 62) ∧ wS (forL (fun _ => True) T b ((List.range (n - l).toNat).map fun (i : Nat) => Val.int (l + (i : Int)))) s h2 QS) : wS (sFor (jI (iR2 m m')) T b) s h QS := by
  obtain ⟨r, h1, e1, r', h2, e2, l, n, rfl, rfl, hb, f, s2, h3, e3, q⟩ := q
  refine ⟨f, s2, h3, ?_, q⟩
  simp only [sFor, jI, iR2, e1, e2, Option.bind_some]
  rw [if_pos hb]
  exact e3
variable [HasK]
theorem sj_range2 {X : Cx} {tg a b : Expr} {ma mb : ME} {p pos : Pos} (hm : X.mg "range" = none) (ha : SE X a ma) (hb : SE X b mb) (hg : Gl X "range" := by rfl) (hs : starEach [a, b] X.env = [(false, eval a X.env), (false, eval b X.env)] := by rfl) (hs2 : starEach [b] X.env = [(false, eval b X.env)] := by rfl) : SJ X tg (.Call (.Name "range" p) [a, b] [] pos) (jI (iR2 ma mb)) :=
  pi_imp (pi_range2 hg hm (sa_cons ha (sa_cons hb sa_nil hs2) (by rw [hs, hs2])) hs hs2) fun σ H Q q => by
    obtain ⟨c, ow, σa, h, items, chk, σa', h', k, e, f⟩ := q
    simp only [jI, Option.map_eq_some_iff, Prod.mk.injEq] at e
    obtain ⟨⟨it, ck, h1⟩, e1, rfl, rfl, rfl, rfl⟩ := e
    exact rd_rng2 k e1 fun c' H' J E K w => f c' ow H' J E.s (k.ext E K) (w _ _ _)
end NL
set_option Elab.async false
set_option linter.all false
set_option maxRecDepth 100000
set_option maxHeartbeats 4000000
set_option autoImplicit false
namespace NL
open PySem PySem.Spec PyProof.Rows L2
/-! ### a tuple once, and not at all -/
theorem mulT_one (l : Addr) (its : Array Value) (n : Nat) (dct : Option Addr) (sl : Array (Option Value)) (u : Tok) (ne : its.isEmpty = false) :
    Meets (Builtin.«tuple.__mul__» ⟨[.ref l, .int 1 u], []⟩) (fun _ R s => s.heap.get? l = some { cls := .type "tuple", dict := dct, data := .seq its n, slots := sl } ∧ R (.ok (.ret (.ref l))) s) :=
  .of_wp fun prog w A R s hyp => by
    obtain ⟨hp, gs, ds, tk, os⟩ := s
    obtain ⟨hl, g⟩ := hyp
    have q1 := AutoSeq1.idx_int
    wp_walk using wpAny_loadPart' hl
    exact ⟨_, rfl, g⟩
theorem mulT_nil (l : Addr) (its : Array Value) (n : Nat) (dct : Option Addr) (sl : Array (Option Value)) (u : Tok) (ne : its.isEmpty = false) :
    Meets (Builtin.«tuple.__mul__» ⟨[.ref l, .int 0 u], []⟩) (fun _ R s => s.heap.get? l = some { cls := .type "tuple", dict := dct, data := .seq its n, slots := sl } ∧ R (.ok (.ret (Value.ref s.heap.objs.size))) { s with heap := s.heap.push { cls := .type "tuple", data := .seq #[] }, toks := s.toks }) :=
  .of_wp fun prog w A R s hyp => by
    obtain ⟨hp, gs, ds, tk, os⟩ := s
    obtain ⟨hl, g⟩ := hyp
    have q1 := AutoSeq1.idx_int
    wp_walk using wpAny_loadPart' hl
    exact ⟨_, rfl, g⟩
def rRepT1 (K : PySem.W.Frag) : R2 := fun x y H Q => ∃ l xs, x = .ref l ∧ y = .int 1 ∧ SqT K H l xs ∧ xs ≠ [] ∧ Q (.ref l) H
def rRepT0 (K : PySem.W.Frag) : R2 := fun x y H Q => ∃ l xs, x = .ref l ∧ y = .int 0 ∧ SqT K H l xs ∧ xs ≠ [] ∧ ∀ p, H p = none → Q (.ref p) (upd H p (.tup []))
section
variable {X : Cx}
theorem arr_ne {xs : List V} {its : List Value} (r : Vals xs its) (ne : xs ≠ []) : its.toArray.isEmpty = false := by
  cases its with
  | nil => exact absurd (List.eq_nil_of_length_eq_zero (by simpa using r.length)) ne
  | cons a b => rfl
theorem op_repT1 : OpR X (binaryOp .Mult) (rRepT1 X.K) := by
  intro pins s σ H x y v u Q I rx ry hyp
  obtain ⟨l, xs, rfl, rfl, hT, ne, q⟩ := hyp
  cases rx
  obtain ⟨t, rfl⟩ := ry
  obtain ⟨its, r, ⟨⟨cl, dct, dt, sl⟩, ho, ec, n, ed⟩, hs⟩ := I.tuple hT
  replace ec : cl = .type "tuple" := ec
  replace ed : dt = .seq its.toArray n := ed
  subst ec ed
  have ty : s.TypeIs (.ref l) "tuple" := ⟨_, ho, rfl⟩
  refine wpAny_binaryOp_repeat_ref (T := "tuple") (U := "int") (by decide) ty (fun z => typeIs_int z 1 t) noFill_tuple_mul F.fills_int_mul F.slot_int_rmul repeat_tuple F.slot_int_index.lookup ?_
  refine call_meets F.slot_int_rmul (typeIs_int s 1 t) F.entry_int_rmul (F.args_int_rmul_2 _ _) (int_rmul_tuple 1 t l its.toArray n dct sl) ⟨ho, rfl, ty, ?_⟩
  refine call_meets F.slot_tuple_mul ty F.entry_tuple_mul (F.args_tuple_mul_2 _ _) (mulT_one l its.toArray n dct sl t (arr_ne r ne)) ⟨ho, ?_⟩
  exact ⟨.ref l, H, I, rfl, q⟩
theorem op_repT0 : OpR X (binaryOp .Mult) (rRepT0 X.K) := by
  intro pins s σ H x y v u Q I rx ry hyp
  obtain ⟨l, xs, rfl, rfl, hT, ne, q⟩ := hyp
  cases rx
  obtain ⟨t, rfl⟩ := ry
  obtain ⟨its, r, ⟨⟨cl, dct, dt, sl⟩, ho, ec, n, ed⟩, hs⟩ := I.tuple hT
  replace ec : cl = .type "tuple" := ec
  replace ed : dt = .seq its.toArray n := ed
  subst ec ed
  have ty : s.TypeIs (.ref l) "tuple" := ⟨_, ho, rfl⟩
  refine wpAny_binaryOp_repeat_ref (T := "tuple") (U := "int") (by decide) ty (fun z => typeIs_int z 0 t) noFill_tuple_mul F.fills_int_mul F.slot_int_rmul repeat_tuple F.slot_int_index.lookup ?_
  refine call_meets F.slot_int_rmul (typeIs_int s 0 t) F.entry_int_rmul (F.args_int_rmul_2 _ _) (int_rmul_tuple 0 t l its.toArray n dct sl) ⟨ho, rfl, ty, ?_⟩
  refine call_meets F.slot_tuple_mul ty F.entry_tuple_mul (F.args_tuple_mul_2 _ _) (mulT_nil l its.toArray n dct sl t (arr_ne r ne)) ⟨ho, ?_⟩
  refine ⟨.ref s.heap.objs.size, _, I.laid (a := s.heap.objs.size) (o := .tup []) (t' := s.toks) (fun _ _ z => Heap.get?_push_of_some _ z) (Nat.le_refl _) ?_, rfl, q _ (I.hok.fresh (Nat.le_refl _))⟩
  exact ⟨Nat.zero_le _, [], .nil, _, Heap.get?_push_size _ rfl, rfl, 0, rfl⟩
end
def fTimesT : F2 := fun x y h => match x, y with
  | .v (.tup xs), .v (.int j) => if xs ≠ [] ∧ 0 ≤ j ∧ j ≤ 1000 ∧ xs.length ≤ 1000 then some (.v (.tup (rep xs j.toNat)), h) else none
  | _, _ => none
theorem i_timesT {h : Hh} {xs : List Val} {j : Int} {Q : R → Hh → Prop} (ne : xs ≠ []) (h0 : 0 ≤ j) (h1 : j ≤ 1000) (hl : xs.length ≤ 1000) (q : Q (.v (.tup (rep xs j.toNat))) h) : ∃ r h', fTimesT (.v (.tup xs)) (.v (.int j)) h = some (r, h') ∧ Q r h' := ⟨_, _, by unfold fTimesT; dsimp only; rw [if_pos ⟨ne, h0, h1, hl⟩], q⟩
variable [HasK]
theorem v_timesT {K : PySem.W.Frag} : V2 (fun x y H Q => rRepT1 K x y H Q ∨ (rRepT0 K x y H Q ∨ rRepT K x y H Q)) fTimesT := by
  intro c h H0 H x y rx ry r' h' Q k qx qy e f
  unfold fTimesT at e
  split at e
  · rename_i xs j
    split at e
    · rename_i hz
      obtain ⟨z1, z2, z3, z4⟩ := hz
      simp only [Option.some.injEq, Prod.mk.injEq] at e
      obtain ⟨rfl, rfl⟩ := e
      obtain ⟨a, us, rfl, t1, v1⟩ := asT_rr (xs := xs) rfl qx
      have l1 := v1.length
      have nu : us ≠ [] := fun z => by
        subst z
        exact z1 (List.eq_nil_of_length_eq_zero (by simpa using l1))
      have ey := int_rr qy
      by_cases j1 : j = 1
      · subst j1
        refine .inl ⟨a, us, rfl, ey, .inl (.inl t1), nu, ?_⟩
        have e1 : rep xs (1 : Int).toNat = xs := by simp [rep]
        rw [e1] at f
        exact f c H _ (Ext.refl c H) k qx
      · by_cases j0 : j = 0
        · subst j0
          refine .inr (.inl ⟨a, us, rfl, ey, .inl (.inl t1), nu, fun p hp => ?_⟩)
          have e1 : rep xs (0 : Int).toNat = [] := by simp [rep]
          rw [e1] at f
          exact f c _ _ (Ext.alloc hp) (k.alloc hp) (RR.newTup k hp VRs.nil)
        · exact .inr (.inr ⟨a, j, us, rfl, ey, .inl (.inl t1), nu, by omega, z3, by omega, fun p hp => f c _ _ (Ext.alloc hp) (k.alloc hp) (RR.newTup k hp (v1.rep _))⟩)
    · cases e
  · cases e
theorem se_mulT {X : Cx} {a b : Expr} {pos : Pos} {ma mb : ME} (ha : SE X a ma) (hb : SE X b mb) : SE X (.BinOp a .Mult b pos) (m2 fTimesT ma mb) := se_op (or_op op_repT1 (or_op op_repT0 op_repT)) v_timesT ha hb
end NL
set_option Elab.async false
set_option linter.all false
set_option maxRecDepth 100000
set_option maxHeartbeats 4000000
set_option autoImplicit false
namespace NL
open PySem PySem.Spec PyProof.Rows L2
/-! ### words with a sign between -/
def jn (sep : Nat) : List (List Nat) → List Nat
  | [] => []
  | [w] => w
  | w :: v :: ws => w ++ sep :: jn sep (v :: ws)
theorem split_one {sep : Nat} : ∀ {w v A B : List Nat}, sep ∉ w → sep ∉ v → w ++ sep :: A = v ++ sep :: B → w = v ∧ A = B
  | [], [], A, B, _, _, e => ⟨rfl, (List.cons.inj e).2⟩
  | [], y :: v, A, B, _, hv, e => absurd (List.mem_cons_self ..) (by rw [(List.cons.inj e).1] at hv; exact hv)
  | x :: w, [], A, B, hw, _, e => absurd (List.mem_cons_self ..) (by rw [← (List.cons.inj e).1] at hw; exact hw)
  | x :: w, y :: v, A, B, hw, hv, e => by
    obtain ⟨e1, e2⟩ := List.cons.inj e
    obtain ⟨e3, e4⟩ := split_one (fun z => hw (List.mem_cons_of_mem _ z)) (fun z => hv (List.mem_cons_of_mem _ z)) e2
    exact ⟨by rw [e1, e3], e4⟩
theorem jn_inj {sep : Nat} : ∀ {ws vs : List (List Nat)}, ws ≠ [] → vs ≠ [] → (∀ w ∈ ws, sep ∉ w) → (∀ v ∈ vs, sep ∉ v) → jn sep ws = jn sep vs → ws = vs
  | [], _, h, _, _, _, _ => absurd rfl h
  | _ :: _, [], _, h, _, _, _ => absurd rfl h
  | [w], [v], _, _, _, _, e => by
    have e : w = v := e
    rw [e]
  | [w], v :: v2 :: vs, _, _, hw, _, e => by
    have e : w = v ++ sep :: jn sep (v2 :: vs) := e
    exact absurd (by rw [e]; simp) (hw w (List.mem_cons_self ..))
  | w :: w2 :: ws, [v], _, _, _, hv, e => by
    have e : w ++ sep :: jn sep (w2 :: ws) = v := e
    exact absurd (by rw [← e]; simp) (hv v (List.mem_cons_self ..))
  | w :: w2 :: ws, v :: v2 :: vs, _, _, hw, hv, e => by
    have e : w ++ sep :: jn sep (w2 :: ws) = v ++ sep :: jn sep (v2 :: vs) := e
    obtain ⟨e1, e2⟩ := split_one (hw w (List.mem_cons_self ..)) (hv v (List.mem_cons_self ..)) e
    have ih := jn_inj (ws := w2 :: ws) (vs := v2 :: vs) (by simp) (by simp) (fun x hx => hw x (List.mem_cons_of_mem _ hx)) (fun x hx => hv x (List.mem_cons_of_mem _ hx)) e2
    rw [e1, ih]
theorem mem_jn {sep c : Nat} : ∀ {ws : List (List Nat)}, c ∈ jn sep ws → c = sep ∨ ∃ w ∈ ws, c ∈ w
  | [], h => by simp [jn] at h
  | [w], h => .inr ⟨w, List.mem_cons_self .., h⟩
  | w :: v :: ws, h => by
    have h : c ∈ w ++ sep :: jn sep (v :: ws) := h
    rcases List.mem_append.mp h with h | h
    · exact .inr ⟨w, List.mem_cons_self .., h⟩
    · rcases List.mem_cons.mp h with h | h
      · exact .inl h
      · rcases mem_jn h with h | ⟨x, hx, h⟩
        · exact .inl h
        · exact .inr ⟨x, List.mem_cons_of_mem _ hx, h⟩
theorem jn_len {sep b : Nat} : ∀ {ws : List (List Nat)}, (∀ w ∈ ws, w.length ≤ b) → (jn sep ws).length ≤ ws.length * (b + 1)
  | [], _ => by simp [jn]
  | [w], h => by
    have := h w (List.mem_cons_self ..)
    show w.length ≤ _
    simp
    omega
  | w :: v :: ws, h => by
    have h1 := h w (List.mem_cons_self ..)
    have h2 := jn_len (sep := sep) (ws := v :: ws) fun x hx => h x (List.mem_cons_of_mem _ hx)
    show (w ++ sep :: jn sep (v :: ws)).length ≤ _
    rw [List.length_append, List.length_cons]
    rw [List.length_cons (a := w), Nat.add_mul]
    omega
/-- a text's signs -/
abbrev cp (x : Str) : List Nat := x.cps.toList
theorem cp_inj {x y : Str} (e : cp x = cp y) : x = y := by
  obtain ⟨a⟩ := x
  obtain ⟨b⟩ := y
  have : a = b := Array.ext' e
  rw [this]
theorem cp_app {x y : Str} : cp (x ++ y) = cp x ++ cp y := by
  show (x.cps ++ y.cps).toList = _
  simp
theorem cp_join {s : Nat} : ∀ {ws : List Str}, cp (Txt.join ⟨#[s]⟩ ws) = jn s (ws.map cp) := by
  intro ws
  have e : Txt.join ⟨#[s]⟩ ws = Str.join ⟨#[s]⟩ ws := StrLaws.glued_eq_join _ _
  rw [e]
  clear e
  induction ws with
  | nil => rfl
  | cons w ws ih =>
    cases ws with
    | nil => rfl
    | cons v ws =>
      have e : Str.join ⟨#[s]⟩ (w :: v :: ws) = w ++ ⟨#[s]⟩ ++ Str.join ⟨#[s]⟩ (v :: ws) := rfl
      rw [e, cp_app, cp_app, ih]
      show cp w ++ [s] ++ jn s ((v :: ws).map cp) = cp w ++ s :: jn s ((v :: ws).map cp)
      simp
theorem sum_le {b : Nat} : ∀ {ys : List Str}, (∀ y ∈ ys, y.length ≤ b) → (ys.map (·.length)).sum ≤ ys.length * b
  | [], _ => by simp
  | y :: ys, h => by
    have h1 := h y (List.mem_cons_self ..)
    have h2 := sum_le fun x hx => h x (List.mem_cons_of_mem _ hx)
    rw [List.map_cons, List.sum_cons, List.length_cons, Nat.add_mul]
    omega
/-! ### small numbers written -/
def nm (i : Int) : List Nat := cp (Str.ofString (toString i))
theorem nm_small : ((List.range 100).all fun n => (nm (n : Nat)).all (fun c => decide (48 ≤ c) && decide (c ≤ 57)) && decide ((nm (n : Nat)).length ≤ 2)) = true := by decide +kernel
theorem nm_ok {i : Int} (h0 : 0 ≤ i) (h1 : i < 100) : (∀ c ∈ nm i, 48 ≤ c ∧ c ≤ 57) ∧ (nm i).length ≤ 2 := by
  obtain ⟨n, rfl⟩ := Int.eq_ofNat_of_zero_le h0
  have z := List.all_eq_true.mp nm_small n (List.mem_range.mpr (by omega))
  rw [Bool.and_eq_true, decide_eq_true_eq] at z
  refine ⟨fun c hc => ?_, z.2⟩
  have := List.all_eq_true.mp z.1 c hc
  rw [Bool.and_eq_true, decide_eq_true_eq, decide_eq_true_eq] at this
  exact this
theorem nm_inj {i j : Int} (h0 : 0 ≤ i) (h1 : i < 100) (k0 : 0 ≤ j) (k1 : j < 100) (e : nm i = nm j) : i = j := by
  have a := PySem.W.KIN.num_reads h0 (show i < 10 ^ 10 by omega)
  have b := PySem.W.KIN.num_reads k0 (show j < 10 ^ 10 by omega)
  rw [cp_inj (x := Str.ofString (toString i)) (y := Str.ofString (toString j)) e] at a
  rw [a] at b
  exact Option.some.inj b
theorem map_inj_on {α β : Type} {f : α → β} : ∀ {A B : List α}, (∀ a ∈ A, ∀ b ∈ B, f a = f b → a = b) → A.map f = B.map f → A = B
  | [], [], _, _ => rfl
  | [], b :: B, _, e => by simp at e
  | a :: A, [], _, e => by simp at e
  | a :: A, b :: B, h, e => by
    rw [List.map_cons, List.map_cons] at e
    obtain ⟨e1, e2⟩ := List.cons.inj e
    rw [h a (List.mem_cons_self ..) b (List.mem_cons_self ..) e1, map_inj_on (fun x hx y hy => h x (List.mem_cons_of_mem _ hx) y (List.mem_cons_of_mem _ hy)) e2]
theorem two_maps {α β γ : Type} {f : α → γ} {g : β → γ} : ∀ {A A' : List α} {B B' : List β}, (∀ a ∈ A, ∀ a' ∈ A', f a = f a' → a = a') → (∀ b ∈ B, ∀ b' ∈ B', g b = g b' → b = b') → (∀ a ∈ A, ∀ b ∈ B', f a ≠ g b) → (∀ a ∈ A', ∀ b ∈ B, f a ≠ g b) → A.map f ++ B.map g = A'.map f ++ B'.map g → A = A' ∧ B = B'
  | [], [], B, B', _, hg, _, _, e => ⟨rfl, map_inj_on hg e⟩
  | [], a' :: A', B, B', _, _, _, h4, e => by
    cases B with
    | nil => simp at e
    | cons b B =>
      rw [List.map_nil, List.nil_append, List.map_cons, List.map_cons, List.cons_append] at e
      exact absurd (List.cons.inj e).1.symm (h4 a' (List.mem_cons_self ..) b (List.mem_cons_self ..))
  | a :: A, [], B, B', _, _, h3, _, e => by
    cases B' with
    | nil => simp at e
    | cons b B' =>
      rw [List.map_nil, List.nil_append, List.map_cons, List.map_cons, List.cons_append] at e
      exact absurd (List.cons.inj e).1 (h3 a (List.mem_cons_self ..) b (List.mem_cons_self ..))
  | a :: A, a' :: A', B, B', hf, hg, h3, h4, e => by
    rw [List.map_cons, List.map_cons, List.cons_append, List.cons_append] at e
    obtain ⟨e1, e2⟩ := List.cons.inj e
    obtain ⟨i1, i2⟩ := two_maps (fun x hx y hy => hf x (List.mem_cons_of_mem _ hx) y (List.mem_cons_of_mem _ hy)) hg (fun x hx => h3 x (List.mem_cons_of_mem _ hx)) (fun x hx => h4 x (List.mem_cons_of_mem _ hx)) e2
    exact ⟨by rw [hf a (List.mem_cons_self ..) a' (List.mem_cons_self ..) e1, i1], i2⟩
/-! ### a weaving's text -/
def wds (w : Str) (ns : List Int) : List Str := w :: ns.map fun i => Str.ofString (toString i)
def rowT (w : Str) (ns : List Int) : Str := Txt.join (" " : Str) (wds w ns)
def lnN (x : Ln) : List Int := [x.one, x.other, x.cost, x.st] ++ x.gs
def rowsT (Hs : List (List Int)) (L : List Ln) : List Str := Hs.map (rowT "house") ++ L.map fun x => rowT "line" (lnN x)
def textT (Hs : List (List Int)) (L : List Ln) : Str := Txt.join ("\n" : Str) (rowsT Hs L)
/-- small numbers all -/
def Sn (ns : List Int) : Prop := ns.length ≤ 20 ∧ ∀ i ∈ ns, 0 ≤ i ∧ i < 100
theorem spc : (" " : Str) = ⟨#[32]⟩ := by decide +kernel
theorem nwl : ("\n" : Str) = ⟨#[10]⟩ := by decide +kernel
def wordOk (w : Str) : Prop := w.length ≤ 5 ∧ ∀ c ∈ cp w, 97 ≤ c ∧ c ≤ 122
theorem house_ok : wordOk "house" := by
  refine ⟨by decide +kernel, ?_⟩
  have : (cp ("house" : Str)).all (fun c => decide (97 ≤ c) && decide (c ≤ 122)) = true := by decide +kernel
  intro c hc
  have z := List.all_eq_true.mp this c hc
  rw [Bool.and_eq_true, decide_eq_true_eq, decide_eq_true_eq] at z
  exact z
theorem line_ok : wordOk "line" := by
  refine ⟨by decide +kernel, ?_⟩
  have : (cp ("line" : Str)).all (fun c => decide (97 ≤ c) && decide (c ≤ 122)) = true := by decide +kernel
  intro c hc
  have z := List.all_eq_true.mp this c hc
  rw [Bool.and_eq_true, decide_eq_true_eq, decide_eq_true_eq] at z
  exact z
section
variable {w v : Str} {ns ms : List Int}
theorem wds_len (ow : wordOk w) (s : Sn ns) : (∀ y ∈ wds w ns, y.length ≤ 5) ∧ (wds w ns).length ≤ 21 := by
  refine ⟨fun y hy => ?_, by unfold wds; rw [List.length_cons, List.length_map]; have := s.1; omega⟩
  rcases List.mem_cons.mp hy with rfl | hy
  · exact ow.1
  · obtain ⟨i, hi, rfl⟩ := List.mem_map.mp hy
    have z := (nm_ok (s.2 i hi).1 (s.2 i hi).2).2
    unfold nm cp at z
    rw [Array.length_toList] at z
    show (Str.ofString (toString i)).cps.size ≤ 5
    omega
theorem cp_wds : (wds w ns).map cp = cp w :: ns.map nm := by
  unfold wds
  rw [List.map_cons, List.map_map]
  rfl
theorem cp_row : cp (rowT w ns) = jn 32 (cp w :: ns.map nm) := by
  unfold rowT
  rw [spc, cp_join, cp_wds]
theorem wd_signs (ow : wordOk w) (s : Sn ns) : ∀ u ∈ cp w :: ns.map nm, ∀ c ∈ u, 48 ≤ c ∧ c ≤ 122 := fun u hu c hc => by
  rcases List.mem_cons.mp hu with rfl | hu
  · have := ow.2 c hc; omega
  · obtain ⟨i, hi, rfl⟩ := List.mem_map.mp hu
    have := (nm_ok (s.2 i hi).1 (s.2 i hi).2).1 c hc
    omega
theorem row_signs (ow : wordOk w) (s : Sn ns) : ∀ c ∈ cp (rowT w ns), c = 32 ∨ (48 ≤ c ∧ c ≤ 122) := fun c hc => by
  rw [cp_row] at hc
  rcases mem_jn hc with h | ⟨u, hu, h⟩
  · exact .inl h
  · exact .inr (wd_signs ow s u hu c h)
theorem row_len (ow : wordOk w) (s : Sn ns) : (rowT w ns).length ≤ 126 := by
  have e : (rowT w ns).length = (cp (rowT w ns)).length := by simp [Str.length]
  obtain ⟨h1, h2⟩ := wds_len ow s
  have z := jn_len (sep := 32) (b := 5) (ws := (wds w ns).map cp) fun u hu => by
    obtain ⟨y, hy, rfl⟩ := List.mem_map.mp hu
    have := h1 y hy
    simpa [Str.length] using this
  rw [e, cp_row, ← cp_wds]
  rw [List.length_map] at z
  omega
theorem row_inj (ow : wordOk w) (ov : wordOk v) (s : Sn ns) (t : Sn ms) (e : rowT w ns = rowT v ms) : w = v ∧ ns = ms := by
  have e1 : jn 32 (cp w :: ns.map nm) = jn 32 (cp v :: ms.map nm) := by rw [← cp_row, ← cp_row, e]
  have e2 := jn_inj (by simp) (by simp) (fun u hu h => by have := wd_signs ow s u hu 32 h; omega) (fun u hu h => by have := wd_signs ov t u hu 32 h; omega) e1
  obtain ⟨e3, e4⟩ := List.cons.inj e2
  exact ⟨cp_inj e3, map_inj_on (fun a ha b hb z => nm_inj (s.2 a ha).1 (s.2 a ha).2 (t.2 b hb).1 (t.2 b hb).2 z) e4⟩
end
section
variable {Hs Hs' : List (List Int)} {L L' : List Ln}
/-- a weaving of small numbers, small -/
structure Wk (Hs : List (List Int)) (L : List Ln) : Prop where
  one : Hs ≠ []
  hs : ∀ gs ∈ Hs, Sn gs
  ls : ∀ x ∈ L, Sn (lnN x)
  few : Hs.length + L.length ≤ 40
theorem rows_ok (k : Wk Hs L) : ∀ r ∈ rowsT Hs L, r.length ≤ 126 ∧ ∀ c ∈ cp r, c = 32 ∨ (48 ≤ c ∧ c ≤ 122) := fun r hr => by
  rcases List.mem_append.mp hr with hr | hr
  · obtain ⟨gs, hg, rfl⟩ := List.mem_map.mp hr
    exact ⟨row_len house_ok (k.hs gs hg), row_signs house_ok (k.hs gs hg)⟩
  · obtain ⟨x, hx, rfl⟩ := List.mem_map.mp hr
    exact ⟨row_len line_ok (k.ls x hx), row_signs line_ok (k.ls x hx)⟩
theorem rows_ne (k : Wk Hs L) : rowsT Hs L ≠ [] := fun z => by
  unfold rowsT at z
  have := (List.append_eq_nil_iff.mp z).1
  exact k.one (List.map_eq_nil_iff.mp this)
theorem text_inj (k : Wk Hs L) (k' : Wk Hs' L') (e : textT Hs L = textT Hs' L') : Hs = Hs' ∧ L = L' := by
  have e1 : jn 10 ((rowsT Hs L).map cp) = jn 10 ((rowsT Hs' L').map cp) := by
    rw [← cp_join, ← cp_join, ← nwl]
    exact congrArg cp e
  have ne : ∀ {Hs : List (List Int)} {L : List Ln}, Wk Hs L → ∀ u ∈ (rowsT Hs L).map cp, 10 ∉ u := fun k u hu h => by
    obtain ⟨r, hr, rfl⟩ := List.mem_map.mp hu
    have := (rows_ok k r hr).2 10 h
    omega
  have e2 := jn_inj (by simpa using rows_ne k) (by simpa using rows_ne k') (ne k) (ne k') e1
  have e3 := map_inj_on (fun a _ b _ z => cp_inj z) e2
  have hl : ("house" : Str) ≠ "line" := by decide +kernel
  refine two_maps (fun a ha b hb z => (row_inj house_ok house_ok (k.hs a ha) (k'.hs b hb) z).2) (fun a ha b hb z => ?_) (fun a ha b hb z => hl (row_inj house_ok line_ok (k.hs a ha) (k'.ls b hb) z).1) (fun a ha b hb z => hl (row_inj house_ok line_ok (k'.hs a ha) (k.ls b hb) z).1) e3
  have q := (row_inj line_ok line_ok (k.ls a ha) (k'.ls b hb) z).2
  unfold lnN at q
  obtain ⟨a1, a2, a3, a4, a5⟩ := a
  obtain ⟨b1, b2, b3, b4, b5⟩ := b
  simp only [List.cons_append, List.nil_append, List.cons.injEq] at q
  obtain ⟨rfl, rfl, rfl, rfl, rfl⟩ := q
  rfl
theorem text_ok (k : Wk Hs L) : PyData.strOk (textT Hs L) = true := by
  unfold PyData.strOk
  rw [← Array.all_toList, List.all_eq_true]
  intro c hc
  have hc : c ∈ cp (textT Hs L) := hc
  unfold textT at hc
  rw [nwl, cp_join] at hc
  rw [decide_eq_true_eq]
  rcases mem_jn hc with h | ⟨u, hu, h⟩
  · omega
  · obtain ⟨r, hr, rfl⟩ := List.mem_map.mp hu
    have := (rows_ok k r hr).2 c h
    omega
end
/-! ### data that are the same -/
theorem eqvAll_map {α : Type} {f : α → PyData} {A B : List α} [DecidableEq α] (h : ∀ a b, PyData.eqv (f a) (f b) = decide (a = b)) : PyData.eqvAll (A.map f) (B.map f) = decide (A = B) := by
  induction A generalizing B with
  | nil => cases B <;> simp [PyData.eqvAll]
  | cons a A ih =>
    cases B with
    | nil => simp [PyData.eqvAll]
    | cons b B =>
      rw [List.map_cons, List.map_cons]
      have e : PyData.eqvAll (f a :: A.map f) (f b :: B.map f) = (PyData.eqv (f a) (f b) && PyData.eqvAll (A.map f) (B.map f)) := by simp [PyData.eqvAll]
      rw [e, h, ih, Bool.eq_iff_iff]
      simp
end NL
set_option Elab.async false
set_option linter.all false
set_option maxRecDepth 100000
set_option maxHeartbeats 4000000
set_option autoImplicit false
namespace NL
open PySem PySem.Spec PyProof.Rows L2 RZ
/-! ### numbers of four figures at most, read back -/
theorem nq_ok {i : Int} (h0 : 0 ≤ i) (h1 : i < 10000) : (∀ c ∈ nm i, 48 ≤ c ∧ c ≤ 57) ∧ nm i ≠ [] ∧ (nm i).length ≤ 4 := by
  obtain ⟨m, rfl⟩ := Int.eq_ofNat_of_zero_le h0
  have es : nm (m : Int) = (Nat.toDigits 10 m).map Char.toNat := PySem.W.KIN.signs_num m
  refine ⟨fun c hc => ?_, fun z => ?_, ?_⟩
  · rw [es] at hc
    obtain ⟨ch, hch, rfl⟩ := List.mem_map.mp hc
    exact PyProof.Rows.digit_range (Nat.isDigit_of_mem_toDigits (by decide) (by decide) hch)
  · have h := PySem.W.KIN.num_reads (n := (m : Int)) h0 (by omega)
    have e : Str.ofString (toString (m : Int)) = Str.empty := cp_inj (by unfold nm at z; exact z)
    rw [e] at h
    have : PySem.intText? Str.empty = none := by decide +kernel
    rw [this] at h
    cases h
  · have := toString_length_le (v := (m : Int)) (k := 4) h0 (by decide) (by omega)
    unfold nm cp
    rw [Array.length_toList]
    exact this
/-- rows of numbers of four figures, thirty at most -/
def Sf (ns : List Int) : Prop := ns.length ≤ 30 ∧ ∀ i ∈ ns, 0 ≤ i ∧ i < 10000
section
variable {w v : Str} {ns ms : List Int}
theorem wq_len (ow : wordOk w) (s : Sf ns) : (∀ y ∈ wds w ns, y.length ≤ 5) ∧ (wds w ns).length ≤ 31 := by
  refine ⟨fun y hy => ?_, by unfold wds; rw [List.length_cons, List.length_map]; have := s.1; omega⟩
  rcases List.mem_cons.mp hy with rfl | hy
  · exact ow.1
  · obtain ⟨i, hi, rfl⟩ := List.mem_map.mp hy
    have z := (nq_ok (s.2 i hi).1 (s.2 i hi).2).2.2
    unfold nm cp at z
    rw [Array.length_toList] at z
    show (Str.ofString (toString i)).cps.size ≤ 5
    omega
theorem wq_signs (ow : wordOk w) (s : Sf ns) : ∀ u ∈ wds w ns, ∀ c ∈ cp u, 48 ≤ c ∧ c ≤ 122 := fun u hu c hc => by
  rcases List.mem_cons.mp hu with rfl | hu
  · have := ow.2 c hc; omega
  · obtain ⟨i, hi, rfl⟩ := List.mem_map.mp hu
    have := (nq_ok (s.2 i hi).1 (s.2 i hi).2).1 c hc
    omega
theorem rowq_signs (ow : wordOk w) (s : Sf ns) : ∀ c ∈ cp (rowT w ns), c = 32 ∨ (48 ≤ c ∧ c ≤ 122) := fun c hc => by
  unfold rowT at hc
  rw [spc, cp_join] at hc
  rcases mem_jn hc with h | ⟨u, hu, h⟩
  · exact .inl h
  · obtain ⟨y, hy, rfl⟩ := List.mem_map.mp hu
    exact .inr (wq_signs ow s y hy c h)
theorem rowq_len (ow : wordOk w) (s : Sf ns) : (rowT w ns).length ≤ 186 := by
  have e : (rowT w ns).length = (cp (rowT w ns)).length := by simp [Str.length]
  obtain ⟨h1, h2⟩ := wq_len ow s
  have z := jn_len (sep := 32) (b := 5) (ws := (wds w ns).map cp) fun u hu => by
    obtain ⟨y, hy, rfl⟩ := List.mem_map.mp hu
    have := h1 y hy
    simpa [Str.length] using this
  rw [e]
  unfold rowT
  rw [spc, cp_join]
  rw [List.length_map] at z
  omega
theorem splitq_row (ow : wordOk w) (s : Sf ns) : Txt.split (rowT w ns) (" " : Str) = wds w ns := by
  unfold rowT
  refine TL.split_join (y := (" " : Str)) (s := 32) (S := []) (by rw [spc]) (by decide +kernel) (by unfold wds; simp) fun p hp h => ?_
  have := wq_signs ow s p hp 32 h
  omega
end
section
variable {Hs : List (List Int)} {L : List Ln}
/-- a weaving of numbers of four figures -/
structure Wq (Hs : List (List Int)) (L : List Ln) : Prop where
  one : Hs ≠ []
  hs : ∀ gs ∈ Hs, Sf gs
  ls : ∀ x ∈ L, Sf (lnN x)
  few : Hs.length + L.length ≤ 80
theorem rowsq_ok (k : Wq Hs L) : ∀ r ∈ rowsT Hs L, r.length ≤ 186 ∧ ∀ c ∈ cp r, c = 32 ∨ (48 ≤ c ∧ c ≤ 122) := fun r hr => by
  rcases List.mem_append.mp hr with hr | hr
  · obtain ⟨gs, hg, rfl⟩ := List.mem_map.mp hr
    exact ⟨rowq_len house_ok (k.hs gs hg), rowq_signs house_ok (k.hs gs hg)⟩
  · obtain ⟨x, hx, rfl⟩ := List.mem_map.mp hr
    exact ⟨rowq_len line_ok (k.ls x hx), rowq_signs line_ok (k.ls x hx)⟩
theorem rowsq_ne (k : Wq Hs L) : rowsT Hs L ≠ [] := fun z => by
  unfold rowsT at z
  have := (List.append_eq_nil_iff.mp z).1
  exact k.one (List.map_eq_nil_iff.mp this)
theorem rowsq_few (k : Wq Hs L) : (rowsT Hs L).length ≤ 80 := by
  have := k.few
  unfold rowsT
  rw [List.length_append, List.length_map, List.length_map]
  exact this
theorem textq_ok (k : Wq Hs L) : PyData.strOk (textT Hs L) = true := by
  unfold PyData.strOk
  rw [← Array.all_toList, List.all_eq_true]
  intro c hc
  have hc : c ∈ cp (textT Hs L) := hc
  unfold textT at hc
  rw [nwl, cp_join] at hc
  rw [decide_eq_true_eq]
  rcases mem_jn hc with h | ⟨u, hu, h⟩
  · omega
  · obtain ⟨r, hr, rfl⟩ := List.mem_map.mp hu
    have := (rowsq_ok k r hr).2 c h
    omega
theorem splitq_text (k : Wq Hs L) : Txt.split (textT Hs L) ("\n" : Str) = rowsT Hs L := by
  unfold textT
  refine TL.split_join (y := ("\n" : Str)) (s := 10) (S := []) (by rw [nwl]) (by decide +kernel) (rowsq_ne k) fun p hp h => ?_
  have := (rowsq_ok k p hp).2 10 h
  omega
theorem textq_len (k : Wq Hs L) : (textT Hs L).length ≤ 15000 := by
  have e : (textT Hs L).length = (cp (textT Hs L)).length := by simp [Str.length]
  have z := jn_len (sep := 10) (b := 186) (ws := (rowsT Hs L).map cp) fun u hu => by
    obtain ⟨y, hy, rfl⟩ := List.mem_map.mp hu
    have := (rowsq_ok k y hy).1
    simpa [Str.length] using this
  have f := rowsq_few k
  rw [e]
  unfold textT
  rw [nwl, cp_join]
  rw [List.length_map] at z
  omega
end
/-! ### a number's word is read -/
theorem ascii_num {i : Int} (h0 : 0 ≤ i) (h1 : i < 10000) : Txt.isascii (Str.ofString (toString i)) = true := by
  unfold Txt.isascii
  rw [← Array.all_toList, List.all_eq_true]
  intro c hc
  have := (nq_ok h0 h1).1 c hc
  rw [decide_eq_true_eq]
  omega
theorem digit_num {i : Int} (h0 : 0 ≤ i) (h1 : i < 10000) : Txt.isdigit (Str.ofString (toString i)) = true := by
  have ne := (nq_ok h0 h1).2.1
  unfold Txt.isdigit
  rw [Bool.and_eq_true]
  refine ⟨?_, ?_⟩
  · rw [decide_eq_true_eq]
    unfold nm cp at ne
    have : (Str.ofString (toString i)).cps.toList.length ≠ 0 := fun z => ne (List.length_eq_zero_iff.mp z)
    rw [Array.length_toList] at this
    show (Str.ofString (toString i)).cps.size > 0
    omega
  · rw [← Array.all_toList, List.all_eq_true]
    intro c hc
    have r := (nq_ok h0 h1).1 c hc
    have e := PyProof.Rows.cls_isdigit c (by omega)
    rw [e]
    cases z : inR 48 57 ⟨#[c]⟩ with
    | true => rfl
    | false => exact absurd r (PyProof.Rows.inR_false z)
theorem strOk_num {i : Int} (h0 : 0 ≤ i) (h1 : i < 10000) : PyData.strOk (Str.ofString (toString i)) = true := by
  unfold PyData.strOk
  rw [← Array.all_toList, List.all_eq_true]
  intro c hc
  have := (nq_ok h0 h1).1 c hc
  rw [decide_eq_true_eq]
  omega
theorem len_num4 {i : Int} (h0 : 0 ≤ i) (h1 : i < 10000) : (Str.ofString (toString i)).length ≤ 4 := by
  have := (nq_ok h0 h1).2.2
  unfold nm cp at this
  rw [Array.length_toList] at this
  exact this
end NL
set_option Elab.async false
set_option linter.all false
set_option maxRecDepth 100000
set_option maxHeartbeats 4000000
set_option autoImplicit false
/-! sets of more tuples than 63: tables of up to 512 slots -/
namespace NL.ST
open PySem PySem.Spec PyProof.Rows L2

/-! ### x -> 5 x + 1 goes round all slots -/
def Wide (m : Nat) : Prop := m = 7 ∨ m = 31 ∨ m = 127 ∨ m = 511
/-- the slots met by n steps from x, as bits -/
def metBits (m : Nat) : Nat → Nat → Nat → Nat
  | 0, _, acc => acc
  | n + 1, x, acc => metBits m n ((x * 5 + 1) % (m + 1)) (acc ||| 2 ^ x)
theorem lcg_shift (m x : Nat) : ∀ k, lcgI m ((x * 5 + 1) % (m + 1)) k = lcgI m x (k + 1)
  | 0 => rfl
  | k + 1 => by
    have ih := lcg_shift m x k
    show (lcgI m ((x * 5 + 1) % (m + 1)) k * 5 + 1) % (m + 1) = (lcgI m x (k + 1) * 5 + 1) % (m + 1)
    rw [ih]
theorem met_bit {m j : Nat} : ∀ (n x acc : Nat), (metBits m n x acc).testBit j = true → acc.testBit j = true ∨ ∃ k, k < n ∧ lcgI m x k = j
  | 0, _, _, h => .inl h
  | n + 1, x, acc, h => by
    rcases met_bit n _ _ h with z | ⟨k, hk, e⟩
    · rw [Nat.testBit_or, Bool.or_eq_true] at z
      rcases z with z | z
      · exact .inl z
      · rw [Nat.testBit_two_pow] at z
        exact .inr ⟨0, by omega, by simpa [lcgI] using z⟩
    · exact .inr ⟨k + 1, by omega, by rw [← lcg_shift]; exact e⟩
theorem goes_round : ∀ {m : Nat}, Wide m → metBits m (m + 1) 0 0 = 2 ^ (m + 1) - 1 ∧ lcgI m 0 (m + 1) = 0 := by
  intro m hm
  rcases hm with rfl | rfl | rfl | rfl <;> decide +kernel
theorem from_zero {m j : Nat} (hm : Wide m) (hj : j ≤ m) : ∃ k, k ≤ m ∧ lcgI m 0 k = j := by
  have b : (metBits m (m + 1) 0 0).testBit j = true := by
    rw [(goes_round hm).1, Nat.testBit_two_pow_sub_one]
    exact decide_eq_true (by omega)
  rcases met_bit _ _ _ b with z | ⟨k, hk, e⟩
  · simp at z
  · exact ⟨k, by omega, e⟩
theorem lcg_cat (m x a : Nat) : ∀ k, lcgI m (lcgI m x a) k = lcgI m x (a + k)
  | 0 => rfl
  | k + 1 => by
    have ih := lcg_cat m x a k
    show (lcgI m (lcgI m x a) k * 5 + 1) % (m + 1) = (lcgI m x (a + k) * 5 + 1) % (m + 1)
    rw [ih]
theorem lcg_lap {m : Nat} (hm : Wide m) (k : Nat) : lcgI m 0 (m + 1 + k) = lcgI m 0 k := by
  rw [← lcg_cat, (goes_round hm).2]
theorem from_any {m i j : Nat} (hm : Wide m) (hi : i ≤ m) (hj : j ≤ m) : ∃ k, k ≤ m ∧ lcgI m i k = j := by
  obtain ⟨a, ha, rfl⟩ := from_zero hm hi
  obtain ⟨b, hb, rfl⟩ := from_zero hm hj
  by_cases c : a ≤ b
  · exact ⟨b - a, by omega, by rw [lcg_cat]; congr 1; omega⟩
  · refine ⟨m + 1 - a + b, by omega, ?_⟩
    rw [lcg_cat, show a + (m + 1 - a + b) = m + 1 + b by omega, lcg_lap hm]

/-! ### the way of a hash -/
variable {m : Nat}
theorem starts (hm : Wide m) (h : Int) {j : Nat} (hj : j ≤ m) : ∃ n, n ≤ m + 12 ∧ runI m (SetTable.bits h) n = j := by
  obtain ⟨k, hk, e⟩ := from_any hm (runI_le m (SetTable.bits h) 12) hj
  refine ⟨12 + k, by omega, ?_⟩
  rw [runI_tail (bits_lt h), e]
theorem way_start (m : Nat) (h : Int) (n : Nat) : ∃ k, k ≤ 10 * n ∧ way m h k = runI m (SetTable.bits h) n := by
  obtain ⟨k, hk, e⟩ := run_nth m (SetTable.bits h) n
  exact ⟨k, hk, congrArg SetTable.Probe.j e⟩
theorem comes_by (hm : Wide m) (h : Int) {j : Nat} (hj : j ≤ m) : ∃ k, k < 10 * SetTable.turns m ∧ way m h k = j := by
  obtain ⟨n, hn, rfl⟩ := starts hm h hj
  obtain ⟨k, hk, e⟩ := way_start m h n
  exact ⟨k, by unfold SetTable.turns; omega, e⟩
theorem way_in {h : Int} {k : Nat} : way m h k ≤ m := by
  have b : SetTable.bits h % (m + 1) ≤ m := Nat.le_of_lt_succ (Nat.mod_lt _ (Nat.succ_pos _))
  have q := nth_in (m := m) k (runAt m (SetTable.bits h % (m + 1)) (SetTable.bits h)) (by
    have := runEnd_bd b
    simp only [runAt]
    omega)
  exact Nat.le_trans (Nat.le_add_right _ _) q

/-! ### tables -/
/-- each entry is found again on the way of its hash -/
structure Tab (t : SetTable) (hs : List Int) : Prop where
  ris : Ris t.place.toList
  bare : t.dummies = #[]
  many : t.place.size = hs.length
  wide : Wide t.mask
  low : ∀ x ∈ t.place.toList, x ≤ t.mask
  found : ∀ (i : Nat) (h : Int) (j : Nat), hs[i]? = some h → t.place.toList[i]? = some j → ∃ k, way t.mask h k = j ∧ ∀ c, c < k → way t.mask h c ∈ t.place.toList
variable {t : SetTable} {hs : List Int}
theorem Tab.len (T : Tab t hs) : t.place.toList.length = hs.length := by rw [Array.length_toList]; exact T.many
/-- the first free slot of a way -/
theorem Tab.gap (T : Tab t hs) (l : hs.length ≤ t.mask) (h : Int) : ∃ K, K < 10 * SetTable.turns t.mask ∧ way t.mask h K ∉ t.place.toList ∧ ∀ c, c < K → way t.mask h c ∈ t.place.toList := by
  obtain ⟨j, hj, nj⟩ := st_missing t.place.toList (t.mask + 1) (by rw [T.len]; omega)
  obtain ⟨k, hk, rfl⟩ := comes_by T.wide h (Nat.le_of_lt_succ hj)
  obtain ⟨K, h1, h2, h3⟩ := st_least (p := fun k => way t.mask h k ∉ t.place.toList) k nj
  exact ⟨K, by omega, h2, fun c hc => Classical.not_not.mp (h3 c hc)⟩
/-- an entry stands ahead of the first gap of its hash's way -/
theorem Tab.ahead (T : Tab t hs) {h : Int} {K i j : Nat} (g : way t.mask h K ∉ t.place.toList) (hi : hs[i]? = some h) (hj : t.place.toList[i]? = some j) : ∃ k, k < K ∧ way t.mask h k = j := by
  obtain ⟨k, e, f⟩ := T.found i h j hi hj
  refine ⟨k, Classical.byContradiction fun c => ?_, e⟩
  rcases Nat.lt_or_ge K k with z | z
  · exact g (f K z)
  · have : k = K := by omega
    subst this
    exact g (by rw [e]; exact List.mem_of_getElem? hj)
theorem Tab.odd (T : Tab t hs) : ¬ t.gaveWay = true := by
  unfold SetTable.gaveWay
  have : t.mask % 2 = 1 := by rcases T.wide with e | e | e | e <;> rw [e]
  rw [this]
  decide
/-- one more, at the first gap of its hash's way -/
theorem Tab.add (T : Tab t hs) {h : Int} {K : Nat} (g : way t.mask h K ∉ t.place.toList) (f : ∀ c, c < K → way t.mask h c ∈ t.place.toList) {p : Nat} (ep : SetTable.below t.place (way t.mask h K) = p) :
    p ≤ hs.length ∧ Tab (t.put (way t.mask h K)).1 (hs.take p ++ h :: hs.drop p) ∧ (t.put (way t.mask h K)).1.fill = hs.length + 1 := by
  have cut := below_cut T.ris (way t.mask h K)
  have pl : p ≤ t.place.toList.length := by rw [Array.length_toList, ← ep]; exact cut.1
  have ph : p ≤ hs.length := by rw [← T.len]; exact pl
  have pp := put_place t (way t.mask h K)
  rw [ep] at pp
  have old : ∀ {x : Nat}, x ∈ t.place.toList → x ∈ (t.put (way t.mask h K)).1.place.toList := fun {x} hx => by rw [pp]; exact mem_ins.2 (.inr hx)
  have sz : (t.put (way t.mask h K)).1.place.size = hs.length + 1 := by rw [← Array.length_toList, pp, len_ins _ pl, T.len]
  have dm := put_dm T.bare (way t.mask h K)
  refine ⟨ph, ⟨ris_insert T.ris fun z => g (List.mem_of_getElem? (by rw [Array.getElem?_toList]; exact z)), dm, by rw [len_ins _ ph]; exact sz, T.wide, fun x hx => ?_, fun i h' j' h1 h2 => ?_⟩, ?_⟩
  · rw [pp] at hx
    rcases mem_ins.1 hx with rfl | z
    · exact way_in
    · exact T.low x z
  · show ∃ k, way t.mask h' k = j' ∧ ∀ c, c < k → way t.mask h' c ∈ (t.put (way t.mask h K)).1.place.toList
    rw [tins_get hs ph] at h1
    rw [pp, tins_get _ pl] at h2
    split at h1
    · rename_i c
      rw [if_pos c] at h2
      obtain ⟨k, e, z⟩ := T.found i h' j' h1 h2
      exact ⟨k, e, fun c hc => old (z c hc)⟩
    · rename_i c
      rw [if_neg c] at h2
      split at h1
      · rename_i d
        rw [if_pos d] at h2
        cases h1
        cases h2
        exact ⟨K, rfl, fun c hc => old (f c hc)⟩
      · rename_i d
        rw [if_neg d] at h2
        obtain ⟨k, e, z⟩ := T.found (i - 1) h' j' h1 h2
        exact ⟨k, e, fun c hc => old (z c hc)⟩
  · show (t.put (way t.mask h K)).1.place.size + (t.put (way t.mask h K)).1.dummies.size = hs.length + 1
    rw [sz, dm]
    rfl

/-! ### a table laid anew -/
/-- a hash takes the first free slot of its way -/
theorem takes (hm : Wide m) {done : List Int} {ow : Array (Option Nat)} (W : Own m done ow) (l : done.length ≤ m) (h : Int) :
    ∃ K, SetTable.layClean.free m ow (SetTable.turns m) (SetTable.bits h % (m + 1)) (SetTable.bits h) = some (way m h K) ∧ oAt ow (way m h K) = none ∧ ∀ c, c < K → oAt ow (way m h c) ≠ none := by
  obtain ⟨ps, lp, hp⟩ := W.ps
  obtain ⟨j, hj, nj⟩ := st_missing ps (m + 1) (by omega)
  have ej : oAt ow j = none := Classical.byContradiction fun z => nj (hp j (by omega) z)
  obtain ⟨n, hn, rfl⟩ := starts hm h (Nat.le_of_lt_succ hj)
  have ew : way m h (off m (SetTable.bits h % (m + 1)) (SetTable.bits h) n) = runI m (SetTable.bits h) n := by
    show (nth m (runAt m (SetTable.bits h % (m + 1)) (SetTable.bits h)) (off m (SetTable.bits h % (m + 1)) (SetTable.bits h) n)).j = _
    rw [nth_off, itL_run]
    rfl
  obtain ⟨K, k1, k2, k3⟩ := st_least (p := fun k => oAt ow (way m h k) = none) (off m (SetTable.bits h % (m + 1)) (SetTable.bits h) n) (by rw [ew]; exact ej)
  refine ⟨K, free_spec m ow (SetTable.turns m) n _ _ K (by unfold SetTable.turns; omega) k1 (fun c hc => ?_) ?_, k2, k3⟩
  · exact Option.isNone_eq_false_iff.mpr (Option.isSome_iff_ne_none.mpr (k3 c hc))
  · exact Option.isNone_iff_eq_none.mpr k2
theorem Own.next (hm : Wide m) {done : List Int} {ow : Array (Option Nat)} (W : Own m done ow) (l : done.length ≤ m) (h : Int) :
    ∃ j, SetTable.layClean.free m ow (SetTable.turns m) (SetTable.bits h % (m + 1)) (SetTable.bits h) = some j ∧ Own m (done ++ [h]) (ow.setIfInBounds j (some done.length)) := by
  obtain ⟨K, e1, e2, e3⟩ := takes hm W l h
  have jm : way m h K ≤ m := way_in
  have js : way m h K < ow.size := by rw [W.sz]; omega
  have self := oAt_set_self (some done.length) js
  have ne : ∀ {i : Nat} {k : Nat}, oAt ow i = some k → i ≠ way m h K := fun {i k} hi z => by rw [z, e2] at hi; cases hi
  have full : ∀ {i : Nat}, oAt ow i ≠ none → oAt (ow.setIfInBounds (way m h K) (some done.length)) i ≠ none := fun {i} hi => by
    by_cases c : i = way m h K
    · rw [c, self]; simp
    · rw [oAt_set_ne _ c]; exact hi
  obtain ⟨ps, lp, hp⟩ := W.ps
  refine ⟨_, e1, by rw [Array.size_setIfInBounds]; exact W.sz, fun j k hj e => ?_, fun k hk => ?_, way m h K :: ps, by simp [lp], fun j hj e => ?_⟩
  · by_cases c : j = way m h K
    · rw [c, self] at e
      cases e
      exact ⟨h, K, by simp, c.symm, fun c hc => full (e3 c hc)⟩
    · rw [oAt_set_ne _ c] at e
      obtain ⟨h', K', a1, a2, a3⟩ := W.at_ j k hj e
      exact ⟨h', K', by rw [List.getElem?_append_left (List.getElem?_eq_some_iff.mp a1).1]; exact a1, a2, fun c hc => full (a3 c hc)⟩
  · rw [List.length_append, List.length_singleton] at hk
    by_cases c : k < done.length
    · obtain ⟨j, hj, e⟩ := W.all k c
      exact ⟨j, hj, by rw [oAt_set_ne _ (ne e)]; exact e⟩
    · have : k = done.length := by omega
      subst this
      exact ⟨_, jm, self⟩
  · by_cases c : j = way m h K
    · rw [c]; exact List.mem_cons_self ..
    · rw [oAt_set_ne _ c] at e
      exact List.mem_cons_of_mem _ (hp j hj e)
theorem lays (hm : Wide m) : ∀ (rest done : List Int) (ow : Array (Option Nat)), Own m done ow → done.length + rest.length ≤ m →
    ∃ ow', rest.foldl (L2.stepF m) (some (ow, done.length)) = some (ow', (done ++ rest).length) ∧ Own m (done ++ rest) ow'
  | [], done, ow, W, _ => ⟨ow, by simp, by simpa using W⟩
  | h :: rest, done, ow, W, l => by
    rw [List.length_cons] at l
    obtain ⟨j, e, W1⟩ := Own.next hm W (by omega) h
    obtain ⟨ow', e2, W2⟩ := lays hm rest (done ++ [h]) _ W1 (by simp; omega)
    refine ⟨ow', ?_, by simpa using W2⟩
    rw [List.foldl_cons, stepF_some e]
    simpa using e2
theorem laid_anew (t : SetTable) {hs : Array Int} {wanted : Nat} (hm : Wide m) (hw : SetTable.sizeAbove wanted = m + 1) (l : hs.size ≤ m) :
    ∃ t' order, t.relaid hs wanted = some (t', order) ∧ order.toList.Perm (List.range hs.size) ∧ Tab t' (order.toList.map fun i => hs.getD i 0) ∧ t'.mask = m ∧ t'.led = t.led ∧ t'.plain = t.plain := by
  obtain ⟨ow, e, W⟩ := lays hm hs.toList [] _ (Own.init m) (by simpa using l)
  rw [List.nil_append] at W
  have el : SetTable.layClean m hs = some ow := by
    rw [layClean_eq]
    have e' : hs.toList.foldl (L2.stepF m) (some (Array.replicate (m + 1) none, 0)) = some (ow, ([] ++ hs.toList).length) := e
    rw [e']
    rfl
  have er : t.relaid hs wanted = some (tabOf t m ow, ((liveOf m ow).map (·.2)).toArray) := by
    rw [relaid_eq, hw, Nat.add_sub_cancel, el]
    rfl
  obtain ⟨r1, r2⟩ := ris_live (fun j => ow.getD j none) (List.range (m + 1)) (by unfold Ris; exact List.pairwise_lt_range)
  have r1 : Ris ((liveOf m ow).map (·.1)) := r1
  have nd : ((liveOf m ow).map (·.1)).Nodup := List.Pairwise.imp (fun z => Nat.ne_of_lt z) r1
  have in1 : ∀ k, k < hs.size → k ∈ (liveOf m ow).map (·.2) := fun k hk => by
    obtain ⟨j, b1, b2⟩ := W.all k (by simpa using hk)
    exact List.mem_map.mpr ⟨(j, k), (mem_live W.sz).2 ⟨b1, b2⟩, rfl⟩
  have ll : (liveOf m ow).length = hs.size := by
    obtain ⟨ps, p1, p2⟩ := W.ps
    have a := nat_nodup_len ((liveOf m ow).map (·.1)) ps nd fun x hx => by
      obtain ⟨⟨y, k⟩, hq, rfl⟩ := List.mem_map.mp hx
      obtain ⟨b1, b2⟩ := (mem_live W.sz).1 hq
      exact p2 y b1 (by rw [b2]; simp)
    have b := nat_nodup_len (List.range hs.size) ((liveOf m ow).map (·.2)) List.nodup_range fun k hk => in1 k (List.mem_range.mp hk)
    simp only [List.length_map, List.length_range, p1, Array.length_toList] at a b
    omega
  refine ⟨_, _, er, perm_range _ _ (by simpa using ll) (by simpa using in1), ⟨r1, rfl, by simp [tabOf], hm, fun x hx => ?_, fun i h j h1 h2 => ?_⟩, rfl, rfl, rfl⟩
  · exact Nat.le_of_lt_succ (List.mem_range.mp (r2 x hx))
  · show ∃ k, way m h k = j ∧ ∀ c, c < k → way m h c ∈ (liveOf m ow).map (·.1)
    have h1' : (((liveOf m ow).map (·.2)).map fun i => hs.getD i 0)[i]? = some h := h1
    have h2' : ((liveOf m ow).map (·.1))[i]? = some j := h2
    rw [List.map_map, List.getElem?_map] at h1'
    rw [List.getElem?_map] at h2'
    obtain ⟨⟨y, k⟩, hq, rfl⟩ := Option.map_eq_some_iff.mp h2'
    rw [hq] at h1'
    have eh : hs.getD k 0 = h := Option.some.inj h1'
    obtain ⟨b1, b2⟩ := (mem_live W.sz).1 (List.mem_of_getElem? hq)
    obtain ⟨h0, K, a1, a2, a3⟩ := W.at_ y k b1 b2
    have e0 : hs.getD k 0 = h0 := by
      rw [Array.getD_eq_getD_getElem?, ← Array.getElem?_toList, a1]
      rfl
    rw [e0] at eh
    subst eh
    refine ⟨K, a2, fun c hc => ?_⟩
    obtain ⟨k2, z⟩ := Option.ne_none_iff_exists'.mp (a3 c hc)
    exact List.mem_map.mpr ⟨(_, k2), (mem_live W.sz).2 ⟨way_in, z⟩, rfl⟩
end NL.ST
set_option Elab.async false
set_option linter.all false
set_option maxRecDepth 100000
set_option maxHeartbeats 4000000
set_option autoImplicit false
/-! a set of tuples of whole numbers, up to 300 of them -/
namespace NL.ST
open PySem PySem.Spec PyProof.Rows L2
section
variable {P : Program} {w : World} {A : Around} {E : Value → Shared → Prop} {s : Shared}
structure SetW (P : Program) (w : World) (h : Heap) (a : Addr) (L : List (Addr × List Int)) (es : Array (Int × Value)) (ep : Nat) (t : SetTable) : Prop where
  ob : ∃ o, h.get? a = some o ∧ o.ExactSet ∧ o.data = .set es ep t
  rows : es.toList = rowsOf P w L
  tab : Tab t (L.map fun p => thash P w p.2)
  nd : (L.map (·.2)).Nodup
  tup : ∀ p ∈ L, IsT P w h p.2 p.1
  plain : t.plain = true
  led : w.params.followText "set-order" = true ∨ t.led = true
  room : L.length * 5 < t.mask * 3
variable {a : Addr} {L : List (Addr × List Int)} {es : Array (Int × Value)} {ep : Nat} {t : SetTable}
theorem rows_size (e : es.toList = rowsOf P w L) : es.size = L.length := by
  rw [← Array.length_toList, e, rowsOf, List.length_map]
theorem rows_at (e : es.toList = rowsOf P w L) {i : Nat} {p : Addr × List Int} (h : L[i]? = some p) : es[i]? = some (thash P w p.2, Value.ref p.1) := by
  rw [← Array.getElem?_toList, e, rowsOf, List.getElem?_map, h]
  rfl
theorem SetW.fits (R : SetW P w s.heap a L es ep t) : t.fits es.size = true := by
  have h1 := R.tab.many
  have h2 := R.room
  have h3 := rows_size R.rows
  rw [List.length_map] at h1
  simp only [SetTable.fits, SetTable.fill, R.tab.bare, Bool.and_eq_true, beq_iff_eq, decide_eq_true_eq]
  show t.place.size = es.size ∧ t.place.size + 0 ≤ t.mask
  omega
theorem nth_bare (m : Nat) : ∀ (n : Nat) (p : SetTable.Probe), p.dummy = none → (nth m p n).dummy = none
  | 0, _, h => h
  | n + 1, p, h => nth_bare m n (adv m p) (by unfold adv; split <;> exact h)
abbrev first0 (m : Nat) (h : Int) : SetTable.Probe := runAt m (SetTable.bits h % (m + 1)) (SetTable.bits h)
/-- the search, begun c steps along the way -/
theorem look (R : SetW P w s.heap a L es ep t) {x : Addr} {k : List Int} (hx : IsT P w s.heap k x) (hu : A.units < cLine) {K : Nat} (hK : K < 10 * SetTable.turns t.mask) (g : way t.mask (thash P w k) K ∉ t.place.toList)
    (f : ∀ c, c < K → way t.mask (thash P w k) c ∈ t.place.toList) {Q : SetFound → Shared → Prop} (yes : k ∈ L.map (·.2) → Q (.there none) s) (no : k ∉ L.map (·.2) → Q (.free (way t.mask (thash P w k) K) false) s) :
    ∀ (n c : Nat) (stand : Option SetTable.Probe), stand.getD (t.probeStart (thash P w k)) = nth t.mask (first0 t.mask (thash P w k)) c → c ≤ K → K < c + n →
      (∀ (i : Nat) p, L[i]? = some p → p.2 = k → ∃ d, c ≤ d ∧ d < K ∧ t.place.toList[i]? = some (way t.mask (thash P w k) d)) → wpAny (model P w) A (setSearchFrom a (.ref x) (thash P w k) true n stand) Q E s
  | 0, c, _, _, hc, hn, _ => by omega
  | n + 1, c, stand, st, hc, hn, cand => by
    obtain ⟨o, ho, hex, hd⟩ := R.ob
    rw [setSearchFrom_succ]
    refine wpAny_bind (wpAny_setState_of ho hd R.fits ?_)
    dsimp only
    refine wp_if_neg R.tab.odd ?_
    try refine wpAny_bind (wpAny_pure ?_)
    have on : ∀ q, nth t.mask (nth t.mask (first0 t.mask (thash P w k)) c) q = nth t.mask (first0 t.mask (thash P w k)) (c + q) := fun q => (nth_add t.mask c _ q).symm
    have onj : ∀ q, (nth t.mask (nth t.mask (first0 t.mask (thash P w k)) c) q).j = way t.mask (thash P w k) (c + q) := fun q => congrArg SetTable.Probe.j (on q)
    have hat : ∀ {i : Nat} {p : Addr × List Int}, L[i]? = some p → ((es[i]?.map (·.1)).getD 0) = thash P w p.2 := fun {i p} hp => by rw [rows_at R.rows hp]; rfl
    have spec := go_spec t R.tab.ris R.tab.bare (fun i => (es[i]?.map (·.1)).getD 0) (thash P w k) (10 * SetTable.turns t.mask) (K - c) (nth t.mask (first0 t.mask (thash P w k)) c) (nth_bare _ c _ rfl) (by omega)
      (fun q hq => by rw [onj]; exact f _ (by omega)) (by rw [onj, show c + (K - c) = K by omega]; exact g)
    rcases spec with ⟨q, i, hq, hi, hh, hno, hp⟩ | ⟨hno, hp⟩
    · rw [onj] at hi
      have hp' : t.probe (fun i => (es[i]?.map (·.1)).getD 0) (thash P w k) (stand.getD (t.probeStart (thash P w k))) = some (.candidate (way t.mask (thash P w k) (c + q)) i (nth t.mask (first0 t.mask (thash P w k)) (c + (q + 1)))) := by
        rw [st, ← onj, ← on]
        exact hp
      rw [hp']
      dsimp only
      have il : i < L.length := by
        have := (List.getElem?_eq_some_iff.mp hi).1
        rw [R.tab.len, List.length_map] at this
        exact this
      obtain ⟨p, ep1⟩ : ∃ p, L[i]? = some p := ⟨_, List.getElem?_eq_getElem il⟩
      have pm : p ∈ L := List.mem_of_getElem? ep1
      have rest : wpAny (model P w) A (searchRest a (.ref x) (thash P w k) true n es t (way t.mask (thash P w k) (c + q)) i (nth t.mask (first0 t.mask (thash P w k)) (c + (q + 1)))) Q E s := by
        unfold searchRest
        rw [rows_at R.rows ep1]
        dsimp only
        refine wpAny_bind (wpAny_holding (wpAny_eqBool_tuple hu (R.tup p pm) hx ?_))
        refine wpAny_bind (wpAny_setState_of ho hd R.fits ?_)
        dsimp only
        by_cases e : p.2 = k
        · exact wp_if_pos (by simp [e]) (wpAny_pure (yes (List.mem_map.mpr ⟨p, pm, e⟩)))
        · refine wp_if_neg (by simp [e]) ?_
          try refine wpAny_bind (wpAny_pure ?_)
          rw [sameMem]
          have sl : t.slot (way t.mask (thash P w k) (c + q)) = .live i := slot_live R.tab.ris hi
          simp only [if_true, sl, rows_at R.rows ep1]
          refine wpAny_bind (wpAny_isSame_ref_self (wpAny_bind (wpAny_pure ?_)))
          simp only [if_true]
          refine wp_if_neg (by simp [e]) ?_
          refine look R hx hu hK g f yes no n (c + (q + 1)) _ rfl (by omega) (by omega) fun i0 p0 h0 e0 => ?_
          obtain ⟨d, d1, d2, d3⟩ := cand i0 p0 h0 e0
          refine ⟨d, Classical.byContradiction fun z => ?_, d2, d3⟩
          by_cases y : d = c + q
          · subst y
            have s0 := slot_live R.tab.ris d3
            rw [sl] at s0
            injection s0 with s0
            subst s0
            rw [ep1] at h0
            cases h0
            exact e e0
          · exact hno (d - c) i0 (by omega) (by rw [onj, show c + (d - c) = d by omega]; exact d3) ((hat h0).trans (congrArg (thash P w) e0))
      by_cases hl : t.led = true
      · refine wp_if_neg (by simp [hl]) ?_
        try refine wpAny_bind (wpAny_pure ?_)
        exact rest
      · refine wp_if_pos (by simp [hl]) ?_
        refine wpAny_bind (seen_tup hx (fun y hy => ?_) ?_)
        · obtain ⟨e, he, rfl⟩ := List.mem_map.mp hy
          have he : e ∈ es.toList := by
            have : e ∈ es ∧ e.1 = thash P w k := by simpa using he
            simpa using this.1
          rw [R.rows] at he
          obtain ⟨p2, h2, rfl⟩ := List.mem_map.mp he
          exact ⟨p2.2, p2.1, rfl, R.tup p2 h2⟩
        · refine wp_if_neg (by decide) ?_
          try refine wpAny_bind (wpAny_pure ?_)
          exact rest
    · have hp' : t.probe (fun i => (es[i]?.map (·.1)).getD 0) (thash P w k) (stand.getD (t.probeStart (thash P w k))) = some (.empty (way t.mask (thash P w k) K) none) := by
        have ej := onj (K - c)
        rw [show c + (K - c) = K by omega] at ej
        rw [st, ← ej]
        exact hp
      rw [hp']
      dsimp only
      refine wpAny_pure (no fun z => ?_)
      obtain ⟨p0, h0, e0⟩ := List.mem_map.mp z
      obtain ⟨i0, h00⟩ := List.getElem?_of_mem h0
      obtain ⟨d, d1, d2, d3⟩ := cand i0 p0 h00 e0
      exact hno (d - c) i0 (by omega) (by rw [onj, show c + (d - c) = d by omega]; exact d3) ((hat h00).trans (congrArg (thash P w) e0))
theorem look0 (R : SetW P w s.heap a L es ep t) {x : Addr} {k : List Int} (hx : IsT P w s.heap k x) (hu : A.units < cLine) {Q : SetFound → Shared → Prop} (yes : k ∈ L.map (·.2) → Q (.there none) s)
    (no : ∀ K, k ∉ L.map (·.2) → way t.mask (thash P w k) K ∉ t.place.toList → (∀ c, c < K → way t.mask (thash P w k) c ∈ t.place.toList) → Q (.free (way t.mask (thash P w k) K) false) s) : wpAny (model P w) A (setSearch a (.ref x) (thash P w k) true) Q E s := by
  have rm := R.room
  obtain ⟨K, hK, g, f⟩ := R.tab.gap (by rw [List.length_map]; omega) (thash P w k)
  have hb : 10 * SetTable.turns t.mask ≤ 10000 := by
    unfold SetTable.turns
    rcases R.tab.wide with e | e | e | e <;> omega
  unfold setSearch
  refine look R hx hu hK g f yes (fun z => no K z g f) 100000 0 none rfl (Nat.zero_le _) (by omega) fun i p hp e => ?_
  have il : i < t.place.toList.length := by
    rw [R.tab.len, List.length_map]
    exact (List.getElem?_eq_some_iff.mp hp).1
  have hj := List.getElem?_eq_getElem il
  obtain ⟨d, hd, ed⟩ := R.tab.ahead g (by rw [List.getElem?_map, hp, ← e]; rfl) hj
  exact ⟨d, Nat.zero_le _, hd, by rw [hj, ed]⟩
/-- laid anew in a larger table -/
theorem relay {o : Obj} {m : Nat} (hm : Wide m) (ho : s.heap.get? a = some o) (hex : o.ExactSet) (hd : o.data = .set es ep t) (hr : es.toList = rowsOf P w L) (T : Tab t (L.map fun p => thash P w p.2)) (hl : L.length ≤ t.mask)
    (nd : (L.map (·.2)).Nodup) (tup : ∀ p ∈ L, IsT P w s.heap p.2 p.1) (pl : t.plain = true) (ld : w.params.followText "set-order" = true ∨ t.led = true) {wanted : Nat} (hw : SetTable.sizeAbove wanted = m + 1) (rm : L.length * 5 < m * 3)
    {Q : Unit → Shared → Prop} (hQ : ∀ h' L' es' ep' t', Heap.SameBut a s.heap h' → SetW P w h' a L' es' ep' t' → L'.Perm L → Q () { s with heap := h' }) : wpAny (model P w) A (setRelay a wanted) Q E s := by
  have sz := rows_size hr
  have m511 : m ≤ 511 := by rcases hm with e | e | e | e <;> omega
  have fit : t.fits es.size = true := by
    have h1 := T.many
    rw [List.length_map] at h1
    simp only [SetTable.fits, SetTable.fill, T.bare, Bool.and_eq_true, beq_iff_eq, decide_eq_true_eq]
    show t.place.size = es.size ∧ t.place.size + 0 ≤ t.mask
    omega
  obtain ⟨t', order, e, hp, T', em, el, epl⟩ := laid_anew t (hs := es.map (·.1)) hm hw (by rw [Array.size_map, sz]; omega)
  rw [Array.size_map, sz] at hp
  obtain ⟨L2, r1, r2, r3⟩ := order_rows L es order hr hp
  rw [← r3] at T'
  have s2 : (order.filterMap (es[·]?)).size = es.size := by rw [rows_size r1, r2.length_eq, sz]
  rw [setRelay_eq]
  refine wpAny_bind (wpAny_setState_of ho hd fit ?_)
  dsimp only
  refine wp_if_neg (by rw [hw, sizeLine_eq]; omega) ?_
  try refine wpAny_bind (wpAny_pure ?_)
  rw [e]
  dsimp only
  refine wpAny_bind ?_
  refine wp_if_neg (by rw [s2]; simp) ?_
  try refine wpAny_bind (wpAny_pure ?_)
  refine wpAny_pure ?_
  dsimp only
  refine wpAny_storeSet_of ho hd ?_ (by rw [s2, sz, sizeLine_eq]; omega)
  have sb : Heap.SameBut a s.heap (s.heap.update a (Obj.putSet (order.filterMap (es[·]?)) t')) := Heap.SameBut.update ..
  exact hQ _ L2 _ (ep + 1) t' sb ⟨⟨_, store_at ho hd, ⟨hex.1, hex.2.1, hex.2.2⟩, rfl⟩, r1, T', (r2.map (·.2)).nodup_iff.mpr nd, fun p hpm => isT_same (tup p (r2.mem_iff.mp hpm)) ho hd sb, by rw [epl]; exact pl, by rw [el]; exact ld, by rw [r2.length_eq, em]; exact rm⟩ r2
theorem grow_to {m n : Nat} (hm : Wide m) (h1 : n * 5 < m * 3) (h2 : m * 3 ≤ (n + 1) * 5) (hn : n < 300) : ∃ m', Wide m' ∧ SetTable.sizeAbove (SetTable.grown (n + 1)) = m' + 1 ∧ (n + 1) * 5 < m' * 3 ∧ n + 1 ≤ m := by
  rcases hm with e | e | e | e
  · obtain rfl : n = 4 := by omega
    exact ⟨31, .inr (.inl rfl), by decide +kernel, by omega, by omega⟩
  · obtain rfl : n = 18 := by omega
    exact ⟨127, .inr (.inr (.inl rfl)), by decide +kernel, by omega, by omega⟩
  · obtain rfl : n = 76 := by omega
    exact ⟨511, .inr (.inr (.inr rfl)), by decide +kernel, by omega, by omega⟩
  · omega
/-- one more is put into the set -/
theorem adds (R : SetW P w s.heap a L es ep t) {x : Addr} {k : List Int} (hx : IsT P w s.heap k x) (hu : A.units < cLine) (few : L.length < 300) {Q : Bool → Shared → Prop}
    (hQ : ∀ b h' L' es' ep' t', Heap.SameBut a s.heap h' → SetW P w h' a L' es' ep' t' → (k ∈ L.map (·.2) ∧ L' = L ∨ k ∉ L.map (·.2) ∧ L'.Perm ((x, k) :: L)) → Q b { s with heap := h' }) : wpAny (model P w) A (setAddHashed a (.ref x) (thash P w k)) Q E s := by
  obtain ⟨o, ho, hex, hd⟩ := R.ob
  have sz := rows_size R.rows
  have rm := R.room
  unfold setAddHashed
  refine wpAny_holding ?_
  rw [show (100000 : Nat) = 99999 + 1 from rfl, setAddHashedIn_succ]
  refine wpAny_bind (wpAny_setState_of ho hd R.fits ?_)
  dsimp only
  refine wp_if_neg (by simp [byScan, Value.scannable]) ?_
  try refine wpAny_bind (wpAny_pure ?_)
  refine wpAny_bind (look0 R hx hu (fun z => ?_) fun K z g f => ?_)
  · exact wpAny_pure (hQ false s.heap L es ep t (Heap.SameBut.refl a s.heap) R (.inl ⟨z, rfl⟩))
  · dsimp only
    refine wpAny_bind (wpAny_setState_of ho hd R.fits ?_)
    dsimp only
    obtain ⟨p, epp⟩ : ∃ p, SetTable.below t.place (way t.mask (thash P w k) K) = p := ⟨_, rfl⟩
    obtain ⟨q1, q2, q3⟩ := R.tab.add g f epp
    have q4 : (t.put (way t.mask (thash P w k) K)).2 = p := epp
    have q5 : (t.put (way t.mask (thash P w k) K)).1.mask = t.mask := rfl
    have q6 : w.params.followText "set-order" = true ∨ (t.put (way t.mask (thash P w k) K)).1.led = true := R.led
    have q7 : (t.put (way t.mask (thash P w k) K)).1.plain = true := R.plain
    have hin : (SetTable.insertAt es p (thash P w k, Value.ref x)).toList = rowsOf P w (L.take p ++ (x, k) :: L.drop p) := by rw [SetTable.toList_insertAt, rows_put, R.rows]
    have pm := L2.put_perm L p (x, k)
    have hhs : (L.take p ++ (x, k) :: L.drop p).map (fun p => thash P w p.2) = (L.map fun p => thash P w p.2).take p ++ thash P w k :: (L.map fun p => thash P w p.2).drop p := by
      rw [List.map_append, List.map_cons, List.map_take, List.map_drop]
    rw [← hhs] at q2
    rw [List.length_map] at q3
    generalize t.put (way t.mask (thash P w k) K) = pt at q2 q3 q4 q5 q6 q7 ⊢
    obtain ⟨t1, p'⟩ := pt
    dsimp only at q2 q3 q4 q5 q6 q7 ⊢
    subst q4
    first
      | (refine wpAny_bind ?_; refine wp_if_pos q7 ?_; refine hashBy_tup hx ?_)
      | refine wp_if_pos q7 (wpAny_bind (hashBy_tup hx ?_))
    simp only [if_true]
    generalize L.take p' ++ (x, k) :: L.drop p' = L1 at pm q2 hin
    generalize SetTable.insertAt es p' (thash P w k, Value.ref x) = es1 at hin ⊢
    have ll : L1.length = L.length + 1 := pm.length_eq
    have sz1 : es1.size = L.length + 1 := by rw [rows_size hin, ll]
    have nd1 : (L1.map (·.2)).Nodup := (pm.map (·.2)).nodup_iff.mpr (List.nodup_cons.mpr ⟨z, R.nd⟩)
    refine wpAny_bind (wpAny_storeSet_of ho hd ?_ (by rw [sz1, sizeLine_eq]; omega))
    have sb : Heap.SameBut a s.heap (s.heap.update a (Obj.putSet es1 t1)) := Heap.SameBut.update ..
    have ho1 := store_at (es' := es1) (t' := t1) ho hd
    generalize s.heap.update a (Obj.putSet es1 t1) = h1 at sb ho1 ⊢
    have tup1 : ∀ p ∈ L1, IsT P w h1 p.2 p.1 := fun p hp => by
      rcases List.mem_cons.mp (pm.mem_iff.mp hp) with rfl | hp
      · exact isT_same hx ho hd sb
      · exact isT_same (R.tup p hp) ho hd sb
    by_cases hf : t1.tooFull = true
    · first
        | (refine wpAny_bind ?_; refine wp_if_pos (by simp [hf]) ?_)
        | (refine wp_if_pos (by simp [hf]) ?_; refine wpAny_bind ?_)
      have full : t.mask * 3 ≤ (L.length + 1) * 5 := by
        have h := hf
        unfold SetTable.tooFull at h
        rw [decide_eq_true_eq, q3, q5] at h
        exact h
      obtain ⟨m', w1, w2, w3, w4⟩ := grow_to R.tab.wide rm full few
      rw [sz]
      refine relay (s := { s with heap := h1 }) w1 ho1 ⟨hex.1, hex.2.1, hex.2.2⟩ rfl hin q2 (by rw [ll, q5]; exact w4) nd1 tup1 q7 q6 w2 (by rw [ll]; exact w3) fun h2 L2 es2 ep2 t2 sb2 R2 pm2 => ?_
      exact wpAny_pure (hQ true h2 L2 es2 ep2 t2 (sb.trans sb2) R2 (.inr ⟨z, pm2.trans pm⟩))
    · first
        | refine wp_if_neg (by simp [hf]) ?_
        | (refine wpAny_bind ?_; refine wp_if_neg (by simp [hf]) ?_; refine wpAny_pure ?_)
      refine wpAny_pure (hQ true h1 L1 es1 (ep + 1) t1 sb ⟨⟨_, ho1, ⟨hex.1, hex.2.1, hex.2.2⟩, rfl⟩, hin, q2, nd1, tup1, q7, q6, ?_⟩ (.inr ⟨z, pm⟩))
      have h := hf
      unfold SetTable.tooFull at h
      rw [decide_eq_true_eq, q3] at h
      rw [ll]
      omega
theorem SetW.keep {h h' : Heap} (R : SetW P w h a L es ep t) (ha : ∀ o, h.get? a = some o → h'.get? a = some o) (ht : ∀ p ∈ L, IsT P w h' p.2 p.1) : SetW P w h' a L es ep t := by
  obtain ⟨o, ho, r⟩ := R.ob
  exact ⟨⟨o, ha o ho, r⟩, R.rows, R.tab, R.nd, ht, R.plain, R.led, R.room⟩
theorem fresh {h : Heap} (ho : h.get? a = some { cls := .type "set", dict := none, data := .set #[] 0 (.fresh 0 0 (!w.params.followText "set-order")) }) : SetW P w h a [] #[] 0 (.fresh 0 0 (!w.params.followText "set-order")) :=
  ⟨⟨_, ho, ⟨rfl, rfl, rfl⟩, rfl⟩, rfl, ⟨List.Pairwise.nil, rfl, rfl, .inl rfl, fun x hx => (by cases hx), fun i h j hi => (by simp at hi)⟩, List.nodup_nil, fun p hp => (by cases hp), rfl, by
    show _ ∨ (!w.params.followText "set-order") = true
    cases w.params.followText "set-order" <;> simp, by show 0 * 5 < 7 * 3; decide⟩
end
end NL.ST
set_option Elab.async false
set_option linter.all false
set_option maxRecDepth 100000
set_option maxHeartbeats 4000000
set_option autoImplicit false
/-! set(xs), sorted of it -/
namespace NL.ST
open PySem PySem.Spec PyProof.Rows L2
section
variable {P : Program} {w : World} {A : Around} {E : Value → Shared → Prop} {s : Shared}
/-- the set holds what the first i of ks are -/
def Holds (P : Program) (w : World) (h : Heap) (S : Addr) (ks : List (Addr × List Int)) (i : Nat) : Prop := ∃ L es ep t, SetW P w h S L es ep t ∧ Got ks i L
theorem fills {I : Addr} {fp wr : List Addr} {G : Array GenState → Array GenState → Prop} {n : Nat} {Pv : Nat → Value → Prop} {St : Nat → Shared → Prop} {R : Result → Shared → Prop}
    (W : WalksS P w A.in1 I fp wr G n Pv St) (S : Addr) (nS : S ∉ fp) (ks : List (Addr × List Int)) (en : ks.length = n) (few : ∀ L : List (Addr × List Int), (L.map (·.2)).Nodup → (∀ p ∈ L, p ∈ ks) → L.length < 300) (val : ∀ i v, Pv i v → ∃ p, ks[i]? = some p ∧ v = .ref p.1)
    (h0 : Heap) (tup : ∀ p ∈ ks, IsT P w h0 p.2 p.1) (S0 : h0.get? S = none) (w0 : ∀ b ∈ wr, h0.get? b = none) (hu : A.in1.units < cLine) :
    ∀ (j i : Nat) (s : Shared), i + j = n → St i s → (∀ b o, h0.get? b = some o → s.heap.get? b = some o) → Holds P w s.heap S ks i →
      (∀ s', Moved (S :: wr) G s s' → Holds P w s'.heap S ks n → (∀ b o, h0.get? b = some o → s'.heap.get? b = some o) → R (.ok (.ret .none)) s') → codeAny (model P w) A (.builtin "set.update.loop" ⟨[.ref S, .ref I], []⟩) R s := by
  have nw : S ∉ wr := fun z => nS (W.sub _ z)
  have wm : ∀ b ∈ wr, b ∈ S :: wr := fun b z => List.mem_cons_of_mem _ z
  have on : ∀ {s s' : Shared}, Moved wr G s s' → (∀ b o, h0.get? b = some o → s.heap.get? b = some o) → ∀ b o, h0.get? b = some o → s'.heap.get? b = some o := fun {s s'} mv k b o e =>
    mv.heap b o (fun z => by rw [w0 b z] at e; cases e) (k b o e)
  have stay : ∀ {s s' : Shared} {L es ep t} {i : Nat}, Moved wr G s s' → (∀ b o, h0.get? b = some o → s'.heap.get? b = some o) → SetW P w s.heap S L es ep t → Got ks i L → SetW P w s'.heap S L es ep t := fun {s s' L es ep t i} mv k R g =>
    R.keep (fun o e => mv.heap S o nw e) fun p hp => isT_keep (tup p (List.mem_of_mem_take (g.sub p hp))) k
  intro j
  induction j with
  | zero =>
    intro i s hi st k ⟨L, es, ep, t, hS, g⟩ hR
    obtain rfl : i = n := hi
    refine codeAny_builtin F.entry_set_update_loop ?_
    rw [Around.under_plainId F.plain_set_update_loop _]
    show wpAny _ A.in1 (pyNext (.ref I) >>= _) _ _ s
    refine wpAny_bind (W.done s _ _ st fun s' mv => ?_)
    show wpAny _ A.in1 (ret Value.none) _ _ s'
    exact wpAny_pure (hR s' (mv.mono wm) ⟨L, es, ep, t, stay mv (on mv k) hS g, g⟩ (on mv k))
  | succ j ih =>
    intro i s hi st k ⟨L, es, ep, t, hS, g⟩ hR
    refine codeAny_builtin F.entry_set_update_loop ?_
    rw [Around.under_plainId F.plain_set_update_loop _]
    show wpAny _ A.in1 (pyNext (.ref I) >>= _) _ _ s
    refine wpAny_bind (W.item i s _ _ (by omega) st fun v s' hP st' mv => ?_)
    obtain ⟨p, hp, rfl⟩ := val i v hP
    have k' := on mv k
    have hx := isT_keep (tup p (List.mem_of_getElem? hp)) k'
    have hS1 := stay mv k' hS g
    show wpAny _ A.in1 (holding [Value.ref p.1] (setAdd S (.ref p.1)) >>= _) _ _ s'
    refine wpAny_bind (wpAny_holding ?_)
    unfold setAdd
    refine wpAny_holding ?_
    refine wpAny_bind (wpAny_pyHash_tuple hu hx ?_)
    refine adds (s := { s' with toks := s'.toks + (p.2.length + 1) }) hS1 hx hu (few L hS1.nd fun p hp => List.mem_of_mem_take (g.sub p hp)) fun b h' L' es' ep' t' sb S2 c => ?_
    have g' : Got ks (i + 1) L' := by
      rcases c with ⟨c, rfl⟩ | ⟨c, pm⟩
      · exact g.same hp c
      · exact g.more hp pm
    have k2 : ∀ b o, h0.get? b = some o → h'.get? b = some o := fun b o e => (sb.2 b (fun z => by rw [z, S0] at e; cases e)).trans (k' b o e)
    refine wpAny_pure ⟨plainId_quiet F.plain_set_update_loop _, ih (i + 1) _ (by omega) (W.frame _ s' _ _ st' (Nat.le_add_right _ _) fun b hb o e => (sb.2 b (fun z => nS (by rw [← z]; exact hb))).trans e) k2 ⟨L', es', ep', t', S2, g'⟩ fun s2 mv2 hS2 k3 => ?_⟩
    exact hR s2 (Moved.trans W.gtrans ((mv.mono wm).then_heap (Nat.le_add_right _ _) fun b o hb e => (sb.2 b (fun z => hb (by rw [z]; exact List.mem_cons_self ..))).trans e) mv2) hS2 k3
abbrev newSet (w : World) : Obj := { cls := .type "set", dict := none, data := .set #[] 0 (.fresh 0 0 (!w.params.followText "set-order")) }
theorem none_above {h : Heap} {b : Addr} (z : h.objs.size ≤ b) : h.get? b = none := by
  cases q : h.get? b with
  | none => rfl
  | some o => exact absurd (Heap.lt_size q) (Nat.not_lt.mpr z)
set_option maxRecDepth 100000 in
/-- set(xs) -/
theorem makes {l : Addr} {items : Array Value} (ks : List (Addr × List Int)) {Q : Value → Shared → Prop} (hh : A.handled = none) (hl : s.heap.IsList l items) (hit : items.toList = ks.map fun p => Value.ref p.1)
    (tup : ∀ p ∈ ks, IsT P w s.heap p.2 p.1) (few : ∀ L : List (Addr × List Int), (L.map (·.2)).Nodup → (∀ p ∈ L, p ∈ ks) → L.length < 300) (hu : A.units + 3 < cLine)
    (h : ∀ (h' : Heap) (tk : Nat), Holds P w h' s.heap.objs.size ks ks.length → (∀ b o, s.heap.get? b = some o → h'.get? b = some o) → Q (.ref s.heap.objs.size) { s with heap := h', toks := tk }) : wpAny (model P w) A (call (.type "set") [.ref l]) Q E s := by
  have sz : items.size = ks.length := by rw [← Array.length_toList, hit, List.length_map]
  obtain ⟨c, tl, hmro⟩ := F.called_set.mro
  have hmade := F.called_set.made
  have hsub := F.called_set.sub
  refine wpAny_call (codeAny_of_tree ?_)
  show wpAny _ _ (callAny (.type "set") _) _ _ _
  refine wpAny_pure ⟨Code.quiet_builtin _ (by decide +kernel), codeAny_builtin F.entry_type_call ?_⟩
  rw [Around.under_plain (weight_type_call_type "set" [.ref l] []) rfl]
  have h1 := F.called_set.notType
  have h2 := F.called_set.canCreate
  have hct := F.typeCall_set_1 (.ref l)
  repeat (any_goals (first | assumption | wp_step))
  refine codeAny_mono (code_set_led1 (.ref l) (E := E) (Q₁ := fun obj s₁ => obj = .ref s.heap.objs.size ∧ s₁ = { s with heap := s.heap.push (newSet w) }) ⟨rfl, rfl⟩) fun r s₁ hr => ?_
  cases r with
  | error e => exact hr
  | ok fl =>
    cases fl with
    | ret obj =>
      obtain ⟨rfl, rfl⟩ := hr
      have hS : (s.heap.push (newSet w)).get? s.heap.objs.size = some (newSet w) := Heap.get?_push_size _ rfl
      have hT : Shared.TypeIs { s with heap := s.heap.push (newSet w) } (.ref s.heap.objs.size) "set" := ⟨_, hS, rfl⟩
      have hli := F.called_set.init.lookup
      have hbi := F.called_set.init.bind (.ref s.heap.objs.size)
      repeat (any_goals (first | assumption | wp_step))
      refine codeAny_mono (codeAny_call_builtin (R := wants (fun r s₂ => r = .none ∧ ∃ h' tk, s₂ = { s with heap := h', toks := tk } ∧ Holds P w h' s.heap.objs.size ks ks.length ∧ (∀ b o, s.heap.get? b = some o → h'.get? b = some o)) E)
        F.called_set.init.plain F.entry_set_init (check_set_init_1 hT ?_)) fun r₂ s₂ hr₂ => ?_
      · obtain ⟨⟨ocls, odict, odata, oslots⟩, hol, hcl, nl, hdl⟩ := hl
        simp only at hcl hdl
        subst hcl
        subst hdl
        have hol' : (s.heap.push (newSet w)).get? l = some { cls := .type "list", dict := odict, data := .seq items nl, slots := oslots } := Heap.get?_push_of_some _ hol
        have hsls := F.sub_list_set
        have hslf := F.sub_list_frozenset
        have hne : (Value.type "list" == Value.type "dict") = false := by decide
        have hl1 : (s.heap.push (newSet w)).IsList l items := ⟨_, hol', rfl, nl, rfl⟩
        unfold Builtin.«set.__init__» noKeywords Builtin.Frozenset.updateFrom
        generalize hPI : pyIter = PI
        wp_walk
        subst hPI
        refine wpAny_pyIter_list hl1 ?_
        refine wpAny_bind (wpAny_runValue ?_)
        have lS : l < s.heap.objs.size := Heap.lt_size hol
        have hh3 : A.in1.in1.in1.handled = none := by simp [hh]
        have neI : l ≠ (s.heap.push (newSet w)).objs.size := by rw [Heap.size_push]; exact Nat.ne_of_lt (Nat.lt_succ_of_lt lS)
        have nSf : s.heap.objs.size ∉ [(s.heap.push (newSet w)).objs.size, l] := by
          rw [Heap.size_push]
          simp only [List.mem_cons, List.not_mem_nil, or_false, not_or]
          exact ⟨Nat.ne_of_lt (Nat.lt_succ_self _), Nat.ne_of_gt lS⟩
        have val : ∀ (i : Nat) (v : Value), items[i]? = some v → ∃ p, ks[i]? = some p ∧ v = .ref p.1 := fun i v hv => by
          rw [← Array.getElem?_toList, hit, List.getElem?_map] at hv
          obtain ⟨p, e1, e2⟩ := Option.map_eq_some_iff.mp hv
          exact ⟨p, e1, e2.symm⟩
        refine fills ((Walks.list hh3 _ l neI items).toS) s.heap.objs.size nSf ks sz.symm few val s.heap tup (none_above (Nat.le_refl _)) (fun b hb => none_above (by rw [List.mem_singleton.mp hb, Heap.size_push]; exact Nat.le_succ _)) hu (items.size - 0) 0 _ (by omega)
          ⟨⟨_, Heap.get?_push_size _ rfl, rfl, rfl⟩, (hl1.push _)⟩ (fun b o e => Heap.get?_push_of_some _ (Heap.get?_push_of_some _ e)) ⟨[], #[], 0, _, fresh (Heap.get?_push_of_some _ hS), Got.zero ks⟩ fun s' mv hS' k => ?_
        obtain ⟨h', g2, d', tk', os'⟩ := s'
        obtain rfl : g2 = s.gens := mv.gens
        obtain rfl : d' = s.drawn := mv.drawn
        obtain rfl : os' = s.os := mv.os
        show wpAny _ _ _ _ _ _
        refine wpAny_pure ?_
        show wpAny _ _ (ret Value.none) _ _ _
        rw [sz] at hS'
        exact wpAny_pure ⟨rfl, h', tk', rfl, hS', k⟩
      · cases r₂ with
        | error e => exact hr₂
        | ok fl₂ =>
          cases fl₂ with
          | ret r =>
            obtain ⟨rfl, h', tk, rfl, hS', k⟩ := hr₂
            repeat (any_goals (first | assumption | wp_step))
            exact h _ _ hS' k
          | _ => exact hr₂.elim
    | _ => exact hr.elim
set_option maxRecDepth 100000 in
/-- set(xs), xs a tuple -/
theorem makesT {l : Addr} {items : Array Value} (ks : List (Addr × List Int)) {Q : Value → Shared → Prop} (hh : A.handled = none) (hl : s.heap.IsTuple l items) (hit : items.toList = ks.map fun p => Value.ref p.1)
    (tup : ∀ p ∈ ks, IsT P w s.heap p.2 p.1) (few : ∀ L : List (Addr × List Int), (L.map (·.2)).Nodup → (∀ p ∈ L, p ∈ ks) → L.length < 300) (hu : A.units + 3 < cLine)
    (h : ∀ (h' : Heap) (tk : Nat), Holds P w h' s.heap.objs.size ks ks.length → (∀ b o, s.heap.get? b = some o → h'.get? b = some o) → Q (.ref s.heap.objs.size) { s with heap := h', toks := tk }) : wpAny (model P w) A (call (.type "set") [.ref l]) Q E s := by
  have sz : items.size = ks.length := by rw [← Array.length_toList, hit, List.length_map]
  obtain ⟨c, tl, hmro⟩ := F.called_set.mro
  have hmade := F.called_set.made
  have hsub := F.called_set.sub
  refine wpAny_call (codeAny_of_tree ?_)
  show wpAny _ _ (callAny (.type "set") _) _ _ _
  refine wpAny_pure ⟨Code.quiet_builtin _ (by decide +kernel), codeAny_builtin F.entry_type_call ?_⟩
  rw [Around.under_plain (weight_type_call_type "set" [.ref l] []) rfl]
  have h1 := F.called_set.notType
  have h2 := F.called_set.canCreate
  have hct := F.typeCall_set_1 (.ref l)
  repeat (any_goals (first | assumption | wp_step))
  refine codeAny_mono (code_set_led1 (.ref l) (E := E) (Q₁ := fun obj s₁ => obj = .ref s.heap.objs.size ∧ s₁ = { s with heap := s.heap.push (newSet w) }) ⟨rfl, rfl⟩) fun r s₁ hr => ?_
  cases r with
  | error e => exact hr
  | ok fl =>
    cases fl with
    | ret obj =>
      obtain ⟨rfl, rfl⟩ := hr
      have hS : (s.heap.push (newSet w)).get? s.heap.objs.size = some (newSet w) := Heap.get?_push_size _ rfl
      have hT : Shared.TypeIs { s with heap := s.heap.push (newSet w) } (.ref s.heap.objs.size) "set" := ⟨_, hS, rfl⟩
      have hli := F.called_set.init.lookup
      have hbi := F.called_set.init.bind (.ref s.heap.objs.size)
      repeat (any_goals (first | assumption | wp_step))
      refine codeAny_mono (codeAny_call_builtin (R := wants (fun r s₂ => r = .none ∧ ∃ h' tk, s₂ = { s with heap := h', toks := tk } ∧ Holds P w h' s.heap.objs.size ks ks.length ∧ (∀ b o, s.heap.get? b = some o → h'.get? b = some o)) E)
        F.called_set.init.plain F.entry_set_init (check_set_init_1 hT ?_)) fun r₂ s₂ hr₂ => ?_
      · obtain ⟨⟨ocls, odict, odata, oslots⟩, hol, hcl, nl, hdl⟩ := hl
        simp only at hcl hdl
        subst hcl
        subst hdl
        have hol' : (s.heap.push (newSet w)).get? l = some { cls := .type "tuple", dict := odict, data := .seq items nl, slots := oslots } := Heap.get?_push_of_some _ hol
        have hsls := F.sub_tuple_set
        have hslf := F.sub_tuple_frozenset
        have hne : (Value.type "tuple" == Value.type "dict") = false := by decide
        have hl1 : (s.heap.push (newSet w)).IsTuple l items := ⟨_, hol', rfl, nl, rfl⟩
        unfold Builtin.«set.__init__» noKeywords Builtin.Frozenset.updateFrom
        generalize hPI : pyIter = PI
        wp_walk
        subst hPI
        refine wpAny_pyIter_tuple hl1 ?_
        refine wpAny_bind (wpAny_runValue ?_)
        have lS : l < s.heap.objs.size := Heap.lt_size hol
        have hh3 : A.in1.in1.in1.handled = none := by simp [hh]
        have neI : l ≠ (s.heap.push (newSet w)).objs.size := by rw [Heap.size_push]; exact Nat.ne_of_lt (Nat.lt_succ_of_lt lS)
        have nSf : s.heap.objs.size ∉ [(s.heap.push (newSet w)).objs.size, l] := by
          rw [Heap.size_push]
          simp only [List.mem_cons, List.not_mem_nil, or_false, not_or]
          exact ⟨Nat.ne_of_lt (Nat.lt_succ_self _), Nat.ne_of_gt lS⟩
        have val : ∀ (i : Nat) (v : Value), items[i]? = some v → ∃ p, ks[i]? = some p ∧ v = .ref p.1 := fun i v hv => by
          rw [← Array.getElem?_toList, hit, List.getElem?_map] at hv
          obtain ⟨p, e1, e2⟩ := Option.map_eq_some_iff.mp hv
          exact ⟨p, e1, e2.symm⟩
        refine fills ((Walks.tuple hh3 _ l neI items).toS) s.heap.objs.size nSf ks sz.symm few val s.heap tup (none_above (Nat.le_refl _)) (fun b hb => none_above (by rw [List.mem_singleton.mp hb, Heap.size_push]; exact Nat.le_succ _)) hu (items.size - 0) 0 _ (by omega)
          ⟨⟨_, Heap.get?_push_size _ rfl, rfl, rfl⟩, (hl1.push _)⟩ (fun b o e => Heap.get?_push_of_some _ (Heap.get?_push_of_some _ e)) ⟨[], #[], 0, _, fresh (Heap.get?_push_of_some _ hS), Got.zero ks⟩ fun s' mv hS' k => ?_
        obtain ⟨h', g2, d', tk', os'⟩ := s'
        obtain rfl : g2 = s.gens := mv.gens
        obtain rfl : d' = s.drawn := mv.drawn
        obtain rfl : os' = s.os := mv.os
        show wpAny _ _ _ _ _ _
        refine wpAny_pure ?_
        show wpAny _ _ (ret Value.none) _ _ _
        rw [sz] at hS'
        exact wpAny_pure ⟨rfl, h', tk', rfl, hS', k⟩
      · cases r₂ with
        | error e => exact hr₂
        | ok fl₂ =>
          cases fl₂ with
          | ret r =>
            obtain ⟨rfl, h', tk, rfl, hS', k⟩ := hr₂
            repeat (any_goals (first | assumption | wp_step))
            exact h _ _ hS' k
          | _ => exact hr₂.elim
    | _ => exact hr.elim
end
end NL.ST
set_option Elab.async false
set_option linter.all false
set_option maxRecDepth 100000
set_option maxHeartbeats 4000000
set_option autoImplicit false
/-! sorted(set(xs)), xs a list or a tuple of tuples of whole numbers -/
namespace NL
open PySem PySem.Spec PyProof.Rows L2 PySem.W PySem.SeqAt
/-- the tuple of k: its data, its value -/
def kD (k : List Int) : PyData := .tuple (k.map .int)
def kT (k : List Int) : Val := .tup (k.map .int)
theorem perm_map {α β : Type} {f : α → β} {out m : List β} (p : out.Perm m) : ∀ l : List α, l.map f = m → ∃ l' : List α, l'.Perm l ∧ out = l'.map f := by
  induction p with
  | nil => intro l e; exact ⟨[], by rw [List.map_eq_nil_iff.mp e], rfl⟩
  | cons x p ih =>
    intro l e
    obtain ⟨a, l0, rfl, rfl, e2⟩ := List.map_eq_cons_iff.mp e
    obtain ⟨l', p', rfl⟩ := ih l0 e2
    exact ⟨a :: l', p'.cons a, rfl⟩
  | swap x y l0 =>
    intro l e
    obtain ⟨a, l1, rfl, rfl, e2⟩ := List.map_eq_cons_iff.mp e
    obtain ⟨b, l2, rfl, rfl, rfl⟩ := List.map_eq_cons_iff.mp e2
    exact ⟨b :: a :: l2, .swap .., rfl⟩
  | trans p q ihp ihq =>
    intro l e
    obtain ⟨l1, p1, rfl⟩ := ihq l e
    obtain ⟨l2, p2, rfl⟩ := ihp l1 rfl
    exact ⟨l2, p2.trans p1, rfl⟩
theorem pd_ints : ∀ (n : Nat) (k : List Int), mapO (pd (n + 1)) (k.map .int) = some (k.map .int)
  | _, [] => rfl
  | n, i :: k => by
    rw [List.map_cons, mapO, pd_ints n k]
    rfl
theorem enc_kT (k : List Int) : pd 12 (kT k) = some (kD k) := by
  show (mapO (pd 11) (k.map .int)).map PyData.tuple = _
  rw [pd_ints 10]
  rfl
theorem toks_inj : ∀ {a b : List Int}, keyToksAll (a.map .int) = keyToksAll (b.map .int) → a = b
  | [], [], _ => rfl
  | [], _ :: _, e => by simp [keyToksAll] at e
  | _ :: _, [], e => by simp [keyToksAll] at e
  | x :: a, y :: b, e => by
    simp only [List.map_cons, keyToksAll, keyToks, List.cons_append, List.nil_append, List.cons.injEq, Sum.inl.injEq, true_and] at e
    rw [e.1, toks_inj e.2]
theorem kT_inj {k k' : List Int} (e : kT k = kT k') : k = k' := by
  have e2 := congrArg (fun v => pd 12 v) e
  simp only [enc_kT, Option.some.injEq, kD, PyData.tuple.injEq] at e2
  have : ∀ a b : List Int, a.map PyData.int = b.map PyData.int → a = b := by
    intro a
    induction a with
    | nil => intro b e; exact (List.map_eq_nil_iff.mp e.symm).symm
    | cons x a ih =>
      intro b e
      cases b with
      | nil => cases e
      | cons y b =>
        simp only [List.map_cons, List.cons.injEq, PyData.int.injEq] at e
        rw [e.1, ih b e.2]
  exact this _ _ e2
theorem tells_kT {ks : List (List Int)} : Tells (ks.map kT) := by
  intro v hv w hw e
  obtain ⟨k, _, rfl⟩ := List.mem_map.mp hv
  obtain ⟨k', _, rfl⟩ := List.mem_map.mp hw
  rw [enc_of (enc_kT k), enc_of (enc_kT k')] at e
  rw [toks_inj (a := k) (b := k') (by simpa [keyToks, kD] using e)]
theorem alike_ints : ∀ {a b : List Int}, a.length = b.length → alikeAll (a.map .int) (b.map .int) = true
  | [], [], _ => rfl
  | x :: a, y :: b, h => by
    rw [List.map_cons, List.map_cons, alikeAll, alike_ints (by simpa using h)]
    rfl
  | [], _ :: _, h => by cases h
  | _ :: _, [], h => by cases h
/-- each once -/
def once : List (List Int) → List (List Int)
  | [] => []
  | k :: ks => if k ∈ ks then once ks else k :: once ks
theorem once_mem : ∀ {ks : List (List Int)} {k : List Int}, k ∈ once ks ↔ k ∈ ks
  | [], _ => Iff.rfl
  | a :: ks, k => by
    unfold once
    split
    · rename_i c
      rw [once_mem, List.mem_cons]
      exact ⟨.inr, fun z => z.elim (fun e => e ▸ c) id⟩
    · rw [List.mem_cons, List.mem_cons, once_mem]
theorem once_nd : ∀ (ks : List (List Int)), (once ks).Nodup
  | [] => List.nodup_nil
  | a :: ks => by
    unfold once
    split
    · exact once_nd ks
    · rename_i c
      exact List.nodup_cons.mpr ⟨fun z => c (once_mem.mp z), once_nd ks⟩
theorem once_most : ∀ {l ks : List (List Int)}, l.Nodup → (∀ k ∈ l, k ∈ ks) → l.length ≤ ks.length
  | [], _, _, _ => Nat.zero_le _
  | a :: l, ks, nd, h => by
    obtain ⟨n1, n2⟩ := List.nodup_cons.mp nd
    have ma := h a (List.mem_cons_self ..)
    have := once_most (l := l) (ks := ks.erase a) n2 fun k hk => (List.mem_erase_of_ne (fun e => n1 (by rw [← e]; exact hk))).2 (h k (List.mem_cons_of_mem _ hk))
    rw [List.length_erase_of_mem ma] at this
    have := List.length_pos_of_mem ma
    rw [List.length_cons]
    omega
/-- what sorted(set(..)) gives -/
noncomputable def ssT (ks : List (List Int)) : List Val := sortVs ((once ks).map kT)
theorem ssT_of {ks l : List (List Int)} (nd : l.Nodup) (h : ∀ k, k ∈ l ↔ k ∈ ks) : sortVs (l.map kT) = ssT ks := by
  have p : l.Perm (once ks) := (List.perm_ext_iff_of_nodup nd (once_nd ks)).mpr fun k => by rw [h k, once_mem]
  exact srt_perm (p.map kT) tells_kT
/-! the call -/
theorem vd_k {H : Hp} {a : Addr} {k : List Int} (e : H a = some (.tup (k.map V.int))) : VD H (.ref a) (kD k) := by
  refine .tup e ?_
  have : ∀ k : List Int, VDs H (k.map V.int) (k.map PyData.int) := by
    intro k
    induction k with
    | nil => exact .nil
    | cons i k ih => exact .cons (.int i) ih
  exact this k
theorem depth_k (k : List Int) : (kD k).depth ≤ 40 := by
  have : PyData.depthAll (k.map .int) ≤ 1 := depth_all fun d hd => by
    obtain ⟨i, _, rfl⟩ := List.mem_map.mp hd
    simp [PyData.depth]
  simp only [kD, PyData.depth]
  omega
section
variable {X : Cx} {pins : List (Addr × Obj)} {σ : L2.St} {H : Hp} {s : Shared} {Q : VK} {a : Addr} {L : List (Addr × List Int)} {es : Array (Int × Value)} {ep : Nat} {t : SetTable}
theorem sorts_set (hc : X.calm = true) (hu : X.A.units + 64 < cLine) (I : Inv X pins σ H s) (R : ST.SetW X.prog X.w s.heap a L es ep t) {d : Nat} (d1 : 1 ≤ d) (hL : ∀ p ∈ L, H p.1 = some (.tup (p.2.map V.int)) ∧ p.2.length = d)
    (q : ∀ (ps : List (Addr × List Int)) p, ps.Perm L → H p = none → Q (.ref p) (upd H p (.lst (((ps.map fun p => ((V.ref p.1, kD p.2) : VP)).mergeSort (dataLe false (·.2))).map (·.1))))) :
    wpAny (model X.prog X.w) X.A (call (.builtin "sorted") [.ref a]) (EP X pins σ Q) X.xe s := by
  obtain ⟨o, ho, hex, hd⟩ := R.ob
  have sz := ST.rows_size R.rows
  have few : L.length ≤ 310 := by
    have := R.room
    rcases R.tab.wide with e | e | e | e <;> omega
  refine Calls.call_function_entry PyProof.Rows.kind_sorted PyProof.Rows.plain_sorted PyProof.Rows.entry_sorted (PyProof.Rows.args_sorted1 _) ?_
  unfold Builtin.«sorted»
  refine wpAny_bind (m := checkCount "sorted" 1 1 _) (wpAny_pure ?_)
  refine wpAny_bind (collect_set (A := X.A.in1) (I.ok.hd hc) ⟨o, ho, hex.1, hd⟩ R.fits (by unfold scanBound; omega) R.tab.ris R.led fun s1 vs k1 hz g1 o1 pm => ?_)
  have er : es.toList.map (·.2) = L.map fun p => Value.ref p.1 := by
    rw [R.rows, L2.rowsOf, List.map_map]
    rfl
  rw [er] at pm
  obtain ⟨ps, pp, rfl⟩ := perm_map pm L rfl
  have hok1 : HOk X.prog X.w H s1.heap := (I.kept (t' := s.toks) k1).hok
  have lb : ps.length = L.length := pp.length_eq
  have inL : ∀ p ∈ ps, H p.1 = some (.tup (p.2.map V.int)) ∧ p.2.length = d := fun p hp => hL p (pp.mem_iff.mp hp)
  generalize ebs : (ps.map fun p => ((V.ref p.1, kD p.2) : VP)) = bs
  have vals : Vals (bs.map (·.1)) (ps.map fun p => Value.ref p.1) := by
    rw [← ebs, List.map_map]
    exact vals_of_refs ps
  have vd : ∀ b ∈ bs, VD H b.1 b.2 ∧ b.2.depth ≤ 40 := fun b hb => by
    rw [← ebs] at hb
    obtain ⟨p, hp, rfl⟩ := List.mem_map.mp hb
    exact ⟨vd_k (inL p hp).1, depth_k _⟩
  have al : AllAlike (bs.map (·.2)) := fun x hx y hy => by
    rw [← ebs, List.map_map] at hx hy
    obtain ⟨p, hp, rfl⟩ := List.mem_map.mp hx
    obtain ⟨r, hr, rfl⟩ := List.mem_map.mp hy
    show alike (.tuple _) (.tuple _) = true
    rw [alike]
    exact alike_ints ((inL p hp).2.trans (inL r hr).2.symm)
  have so : Sortable (bs.map (·.2)) := .inl fun x hx => by
    rw [← ebs, List.map_map] at hx
    obtain ⟨p, hp, rfl⟩ := List.mem_map.mp hx
    have := (inL p hp).2
    cases e : p.2 with
    | nil => rw [e, List.length_nil] at this; omega
    | cons i k => exact ⟨.int i, k.map .int, by simp [kD, e]⟩
  have lv : (ps.map fun p => Value.ref p.1).length ≤ sizeLine := by rw [List.length_map, lb, sizeLine_eq]; omega
  generalize (ps.map fun p => Value.ref p.1) = vs at vals lv ⊢
  refine wpAny_bind (wpAny_newList ?_ lv)
  have hoL : (s1.heap.push (seqObj "list" vs.toArray 0)).get? s1.heap.objs.size = some (seqObj "list" vs.toArray 0) := Heap.get?_push_size _ rfl
  have rd : EachIs (fun v b => ∃ as, Reads (sortingHeap (s1.heap.push (seqObj "list" vs.toArray 0)) s1.heap.objs.size vs) v b.2 as) vs bs := by
    refine NL.each_of vals fun b hb u hu' => ?_
    obtain ⟨as, rd⟩ := NL.reads_vd hok1 (vd b hb).1 hu'
    refine ⟨as, PyProof.Rows.Reads.keeps (fun c oc ec => ?_) rd⟩
    exact sortingHeap_old (Nat.ne_of_lt (Heap.lt_size ec)) (Heap.get?_push_of_some _ ec)
  have hu2 : ∀ b, b ∈ bs → X.A.in1.in1.units + b.2.depth < cLine := fun b hb => by
    have := (vd b hb).2
    show X.A.units + 1 + 1 + b.2.depth < cLine
    omega
  refine wpAny_bind (wpAny_holding (wpAny_call_entry PyProof.Rows.slot_list_sort ⟨_, hoL, rfl⟩ PyProof.Rows.entry_list_sort
    (list_sort_vals (κ := dataKind (sortingHeap (s1.heap.push (seqObj "list" vs.toArray 0)) s1.heap.objs.size vs) (bs.map fun b : VP => b.2)) (s := { s1 with heap := s1.heap.push (seqObj "list" vs.toArray 0) }) hoL
      (SortsAt.data (s := { s1 with heap := sortingHeap (s1.heap.push (seqObj "list" vs.toArray 0)) s1.heap.objs.size vs }) (each_map (R := fun v d => ∃ as, Reads (sortingHeap (s1.heap.push (seqObj "list" vs.toArray 0)) s1.heap.objs.size vs) v d as) (fun b : VP => b.2) rd) al so (bound_map hu2)) lv ⟨_, rfl, ?_⟩)
    (PyProof.Rows.args_list_sort _)))
  have eo := sortVals_data (R := fun u b => RelV b.1 u) (enc := fun b : VP => b.2) false (NL.each_of vals fun b _ u z => z) rd al
  generalize sortVals (dataKind (sortingHeap (s1.heap.push (seqObj "list" vs.toArray 0)) s1.heap.objs.size vs) (bs.map fun b : VP => b.2)) false vs vs = out at eo ⊢
  obtain ⟨e', he'⟩ := PyProof.Rows.sortedHeap_at (vs := vs) (out := out.toArray) hoL
  have hlen : ((bs.mergeSort (dataLe false (·.2))).map (·.1) : List V).length ≤ sizeLine := by rw [List.length_map, List.length_mergeSort, ← ebs, List.length_map, lb, sizeLine_eq]; omega
  have old : ∀ b o, s.heap.get? b = some o → (PyProof.Rows.sortedHeap (s1.heap.push (seqObj "list" vs.toArray 0)) s1.heap.objs.size vs out.toArray).get? b = some o := fun b u e => by
    have e := k1 b u e
    have hb := Heap.lt_size e
    rw [PyProof.Rows.sortedHeap_old (Nat.ne_of_lt hb) (by rw [size_push']; exact Nat.lt_succ_of_lt hb)]
    exact Heap.get?_push_of_some _ e
  have hn : H s1.heap.objs.size = none := I.hok.fresh hz
  have J : Inv X pins σ (upd H s1.heap.objs.size (.lst ((bs.mergeSort (dataLe false (·.2))).map (·.1)))) { s1 with heap := PyProof.Rows.sortedHeap (s1.heap.push (seqObj "list" vs.toArray 0)) s1.heap.objs.size vs out.toArray } :=
    I.call' (ch := []) o1 (Un.laid old hz hn) (I.hok.laid old hz ⟨hlen, out, e', NL.vals_each eo, by simpa using he'⟩) (by show AllBare s1.gens; rw [g1]; exact I.bare) (fun _ z => nomatch z)
  refine wpAny_pure ⟨_, rfl, .ref s1.heap.objs.size, _, J, rfl, ?_⟩
  have := q ps _ pp hn
  rw [ebs] at this
  exact this
end
end NL
set_option Elab.async false
set_option linter.all false
set_option maxRecDepth 100000
set_option maxHeartbeats 4000000
set_option autoImplicit false
namespace NL
open PySem PySem.Spec PyProof.Rows L2 PySem.W PySem.SeqAt
def asKs : Val → Option (List Int)
  | .tup vs => mapO asInt vs
  | _ => none
variable [HasK]
open Classical in
/-- sorted(set(xs)) -/
noncomputable def mSST (m : ME) : ME := fun s h => (m s h).bind fun p => (asQ p.2 p.1).bind fun xs => (mapO asKs xs).bind fun ks => if (once ks).length < 300 ∧ ∃ d, 1 ≤ d ∧ ∀ k ∈ ks, k.length = d then some (.o (ssT ks), p.2) else none
omit [HasK] in
theorem asKs_kT {v : Val} {k : List Int} (e : asKs v = some k) : v = kT k := by
  unfold asKs at e
  split at e
  · rw [mapO_int e]
    rfl
  · cases e
theorem vr_kT {c : List Addr} {H : Hp} {k : List Int} {x : V} (q : VR c H (kT k) x) : ∃ a, x = .ref a ∧ H a = some (.tup (k.map V.int)) := by
  unfold kT VR at q
  obtain ⟨a, xs, rfl, e, r⟩ := q
  rw [r.ints] at e
  exact ⟨a, rfl, e⟩
theorem kT_vr {c : List Addr} {H : Hp} {k : List Int} {a : Addr} (e : H a = some (.tup (k.map V.int))) : VR c H (kT k) (.ref a) := by
  unfold kT VR
  exact ⟨a, _, rfl, e, VRs.of_ints k⟩
theorem vrs_ks {c : List Addr} {H : Hp} : ∀ {xs : List Val} {ks : List (List Int)} {us : List V}, mapO asKs xs = some ks → VRs c H xs us →
    ∃ kp : List (Addr × List Int), kp.map (·.2) = ks ∧ us = kp.map (fun p => V.ref p.1) ∧ ∀ p ∈ kp, H p.1 = some (.tup (p.2.map V.int))
  | [], ks, us, e, q => by
    simp only [mapO, Option.some.injEq] at e
    unfold VRs at q
    subst e
    subst q
    exact ⟨[], rfl, rfl, fun p hp => by cases hp⟩
  | x :: xs, ks, us, e, q => by
    simp only [mapO, Option.bind_eq_some_iff, Option.some.injEq] at e
    obtain ⟨k, e1, ks', e2, rfl⟩ := e
    unfold VRs at q
    obtain ⟨y, ys, rfl, q1, q2⟩ := q
    rw [asKs_kT e1] at q1
    obtain ⟨a, rfl, ea⟩ := vr_kT q1
    obtain ⟨kp, r1, r2, r3⟩ := vrs_ks e2 q2
    refine ⟨(a, k) :: kp, by rw [List.map_cons, r1], by rw [List.map_cons, r2], fun p hp => ?_⟩
    rcases List.mem_cons.mp hp with rfl | hp
    · exact ea
    · exact r3 p hp
/-- the sorted references, as values -/
theorem sorted_vr {c : List Addr} {H : Hp} {ks : List (List Int)} {ps : List (Addr × List Int)} (nd : (ps.map (·.2)).Nodup) (hm : ∀ k, k ∈ ps.map (·.2) ↔ k ∈ ks) (hp : ∀ p ∈ ps, H p.1 = some (.tup (p.2.map V.int))) :
    VRs c H (ssT ks) (((ps.map fun p => ((V.ref p.1, kD p.2) : VP)).mergeSort (dataLe false (·.2))).map (·.1)) := by
  have e1 : ssT ks = ((ps.map fun p => ((kT p.2, V.ref p.1) : Val × V)).mergeSort (fun a b => dataLe false enc a.1 b.1)).map (·.1) := by
    rw [← ssT_of nd hm]
    unfold sortVs
    rw [List.map_mergeSort (s := dataLe false enc) (fun a _ b _ => rfl), List.map_map, List.map_map]
    rfl
  have e2 : ((ps.map fun p => ((V.ref p.1, kD p.2) : VP)).mergeSort (dataLe false (·.2))).map (·.1) = ((ps.map fun p => ((kT p.2, V.ref p.1) : Val × V)).mergeSort (fun a b => dataLe false enc a.1 b.1)).map (·.2) := by
    have e3 : (ps.map fun p => ((V.ref p.1, kD p.2) : VP)) = (ps.map fun p => ((kT p.2, V.ref p.1) : Val × V)).map fun t => ((t.2, enc t.1) : VP) := by
      rw [List.map_map]
      exact List.map_congr_left fun p _ => by simp only [Function.comp, enc_of (enc_kT p.2)]
    rw [e3, ← List.map_mergeSort (r := fun a b => dataLe false enc a.1 b.1) (fun a _ b _ => rfl), List.map_map]
    rfl
  rw [e1, e2]
  refine vrs_zip fun t ht => ?_
  have mt := (List.mergeSort_perm _ _).mem_iff.mp ht
  obtain ⟨p, hpm, rfl⟩ := List.mem_map.mp mt
  exact kT_vr (hp p hpm)
theorem se_ssT {X : Cx} {a : Expr} {m : ME} {p p2 q pos : Pos} (hc : X.calm = true) (hu : X.A.units + 64 < cLine) (hm : X.mg "sorted" = none) (hm2 : X.mg "set" = none) (ha : SE X a m) (hg : Gl X "sorted" := by rfl) (hg2 : Gl X "set" := by rfl)
    (na : starEach [a] X.env = (false, eval a X.env) :: starEach [] X.env := by rfl) : SE X (.Call (.Name "sorted" p) [.Call (.Name "set" p2) [a] [] q] [] pos) (mSST m) := by
  refine ⟨fun pins s σ H Q I h => ?_⟩
  obtain ⟨c, ow, σa, hh, r, h', k, e, f⟩ := h
  simp only [mSST, Option.bind_eq_some_iff] at e
  obtain ⟨⟨r1, h1⟩, e1, xs, e2, ks, e3, e4⟩ := e
  split at e4
  · rename_i hz
    obtain ⟨few, d, d1, hd⟩ := hz
    simp only [Option.some.injEq, Prod.mk.injEq] at e4
    obtain ⟨rfl, rfl⟩ := e4
    refine Call_ (ld_blt I hg hm (by decide +kernel : bootBuiltins "sorted" = some (.builtin "sorted")) ?_)
    refine callWith_builtin1 (args_cons ?_ rfl) rfl rfl
    refine Call_ (ld_blt I hg2 hm2 boot_set ?_)
    refine callWith_type1 (args_cons (thn (ha.run pins s σ H (fun x H1 => ∃ c1 a, ∃ kp : List (Addr × List Int), Ext c c1 H H1 ∧ HR c1 h1 H1 ∧ x = .ref a ∧ kp.map (·.2) = ks ∧ (∀ p ∈ kp, H1 p.1 = some (.tup (p.2.map V.int))) ∧ (SqL X.K H1 a (kp.map fun p => V.ref p.1) ∨ SqT X.K H1 a (kp.map fun p => V.ref p.1))) I ⟨c, ow, σa, hh, r1, h1, k, e1, fun c1 H1 x E1 K1 R1 => ?_⟩)
      fun v s1 ⟨x, H1, I1, r1, c1, a, kp, E1, K1, ex, ek, et, hq⟩ => args_nil ?_) na) na rfl
    · obtain ⟨a, us, ex, t1, v1⟩ := asQ_rr (K := X.K) K1 e2 R1
      obtain ⟨kp, k1, k2, k3⟩ := vrs_ks e3 v1
      subst k2
      exact ⟨c1, a, kp, E1, K1, ex, k1, k3, t1⟩
    · subst ex
      cases r1
      have lk : ∀ L : List (Addr × List Int), (L.map (·.2)).Nodup → (∀ p ∈ L, p ∈ kp) → L.length < 300 := fun L nd hL => by
        have := once_most (ks := once ks) nd fun k hk => by
          obtain ⟨p, hp, rfl⟩ := List.mem_map.mp hk
          rw [once_mem, ← ek]
          exact List.mem_map_of_mem (hL p hp)
        rw [List.length_map] at this
        omega
      have tup : ∀ p ∈ kp, IsT X.prog X.w s1.heap p.2 p.1 := fun p hp => I1.isT (.inl (.inl (et p hp)))
      have fin : ∀ (h2 : Heap) (tk : Nat), ST.Holds X.prog X.w h2 s1.heap.objs.size kp kp.length → (∀ b o, s1.heap.get? b = some o → h2.get? b = some o) →
          wpAny (model X.prog X.w) X.A (call (.builtin "sorted") [.ref s1.heap.objs.size]) (EP X pins σ Q) X.xe { s1 with heap := h2, toks := tk } := fun h2 tk ⟨L, es, ep, t, R, g⟩ hk => by
        have I2 : Inv X pins σ H1 { s1 with heap := h2, toks := tk } := I1.kept hk
        have sub : ∀ p ∈ L, p ∈ kp := fun p hp => List.mem_of_mem_take (g.sub p hp)
        refine sorts_set hc hu I2 R d1 (fun p hp => ⟨et p (sub p hp), hd p.2 (by rw [← ek]; exact List.mem_map_of_mem (sub p hp))⟩) fun ps p pp hp => ?_
        refine f c1 _ _ (E1.trans (Ext.alloc hp)) (K1.alloc hp) (RR.early E1 (RR.newLst K1 hp (sorted_vr (((pp.map (·.2)).nodup_iff).mpr R.nd) (fun k => ?_) fun p' hp' => et p' (sub p' (pp.mem_iff.mp hp')))))
        rw [(pp.map (·.2)).mem_iff, ← ek]
        refine ⟨fun z => ?_, fun z => ?_⟩
        · obtain ⟨p', h1, rfl⟩ := List.mem_map.mp z
          exact List.mem_map_of_mem (sub p' h1)
        · obtain ⟨p', h1, rfl⟩ := List.mem_map.mp z
          exact g.all p' (by rw [List.take_length]; exact h1)
      rcases hq with hq | hq
      · obtain ⟨its, rv, pl, hz2⟩ := I1.list hq
        exact ST.makes kp (I1.ok.hd hc) pl.isList (by simpa using refs_of_vals rv) tup lk (by omega) fun h2 tk R hk => args_nil (fin h2 tk R hk)
      · obtain ⟨its, rv, pt, hz2⟩ := I1.tuple hq
        exact ST.makesT kp (I1.ok.hd hc) (show s1.heap.IsTuple a its.toArray from pt) (by simpa using refs_of_vals rv) tup lk (by omega) fun h2 tk R hk => args_nil (fin h2 tk R hk)
  · cases e4
omit [HasK] in
theorem i_ssT {m : ME} {s : Sl} {h : Hh} {ks : List (List Int)} {d : Nat} {Q : R → Hh → Prop} (q : wE m s h fun r h1 => asQ h1 r = some (ks.map kT) ∧ (once ks).length < 300 ∧ 1 ≤ d ∧ (∀ k ∈ ks, k.length = d) ∧ Q (.o (ssT ks)) h1) : wE (mSST m) s h Q := by
  obtain ⟨r, h1, e1, e2, l, d1, hd, q⟩ := q
  have e3 : mapO asKs (ks.map kT) = some ks := by
    clear e2 l hd q
    induction ks with
    | nil => rfl
    | cons k ks ih =>
      rw [List.map_cons, mapO, ih]
      simp only [asKs, kT, mapO_int_map, Option.bind_some]
  exact ⟨_, _, by unfold mSST; rw [e1]; simp only [Option.bind_some, e2, e3]; rw [if_pos ⟨l, d, d1, hd⟩], q⟩
/-! a list is what sorted(set(..)) gives just where it rises -/
def Rises (ks : List (List Int)) : Prop := ks.Pairwise fun a b => dataLt (enc (kT a)) (enc (kT b)) = true
omit [HasK] in
theorem ssT_rises {ks : List (List Int)} : ssT ks = ks.map kT ↔ Rises ks := by
  have irr : ∀ v : Val, dataLt (enc v) (enc v) = false := fun v => (listOrd itemOrd).irrefl _
  constructor
  · intro e
    have so := sort_pairwise leT ((once ks).map kT)
    have e' : ((once ks).map kT).mergeSort (dataLe false enc) = ks.map kT := e
    rw [e', List.pairwise_map] at so
    have nd : ks.Nodup := by
      have p := List.mergeSort_perm ((once ks).map kT) (dataLe false enc)
      rw [e'] at p
      obtain ⟨l, p', e2⟩ := perm_map p (once ks) rfl
      have : ks = l := by
        have inj : ∀ a b : List (List Int), a.map kT = b.map kT → a = b := by
          intro a
          induction a with
          | nil => intro b e; exact (List.map_eq_nil_iff.mp e.symm).symm
          | cons x a ih =>
            intro b e
            cases b with
            | nil => cases e
            | cons y b =>
              simp only [List.map_cons, List.cons.injEq] at e
              rw [kT_inj e.1, ih b e.2]
        exact inj _ _ e2
      rw [this]
      exact p'.nodup_iff.mpr (once_nd ks)
    refine (so.and nd).imp fun {a b} z => ?_
    obtain ⟨z1, z2⟩ := z
    rw [le_lt] at z1
    cases c : dataLt (enc (kT a)) (enc (kT b)) with
    | true => rfl
    | false =>
      refine absurd (kT_inj ((tells_kT (ks := [a, b])).same (by simp) (by simp) c ?_)) z2
      simpa using z1
  · intro r
    have nd : ks.Nodup := r.imp fun {a b} z e => by
      subst e
      rw [irr] at z
      cases z
    rw [← ssT_of nd fun k => Iff.rfl]
    unfold sortVs
    refine List.Perm.eq_of_pairwise (le := fun a b => dataLe false enc a b = true) (fun a b ha hb h1 h2 => ?_) (sort_pairwise leT _) ?_ (List.mergeSort_perm _ _)
    · have ma := (List.mergeSort_perm _ _).mem_iff.mp ha
      rw [le_lt] at h1 h2
      exact tells_kT.same ma hb (by simpa using h2) (by simpa using h1)
    · rw [List.pairwise_map]
      refine r.imp fun {a b} z => ?_
      rw [le_lt]
      cases c : dataLt (enc (kT b)) (enc (kT a)) with
      | false => rfl
      | true =>
        have := (listOrd itemOrd).trans _ _ _ z c
        exact absurd this (by rw [(listOrd itemOrd).irrefl]; decide)
end NL
set_option Elab.async false
set_option linter.all false
set_option maxRecDepth 100000
set_option maxHeartbeats 4000000
set_option autoImplicit false
namespace NL
open PySem PySem.Spec PyProof.Rows L2 RZ PySem.W PySem.SeqAt
section
variable {s : Sl} {h : Hh} {Q : QE} {QS : Fl → Sl → Hh → Prop} {T : Tg} {t : MT} {e m mo mk mv : ME} {W : List Nat} {i : Nat}
/-- a list that can be walked -/
def LsR (h : Hh) (r : R) (xs : List Val) : Prop := r = .v (.tup xs) ∨ r = .l xs ∨ r = .o xs ∨ ∃ q, r = .v (.ref q) ∧ h[q]? = some (.lst xs)
theorem LsR.tup {xs : List Val} : LsR h (.v (.tup xs)) xs := .inl rfl
theorem LsR.l {xs : List Val} : LsR h (.l xs) xs := .inr (.inl rfl)
theorem LsR.o {xs : List Val} : LsR h (.o xs) xs := .inr (.inr (.inl rfl))
theorem LsR.ref {q : Nat} {xs : List Val} (e : h[q]? = some (.lst xs)) : LsR h (.v (.ref q)) xs := .inr (.inr (.inr ⟨q, rfl, e⟩))
theorem iE_of {r : R} {xs : List Val} {h1 : Hh} (hm : m s h = some (r, h1)) (l : LsR h1 r xs) : ∃ chk, iE m s h = some (xs, chk, h1) ∧ chk h1 := by
  unfold iE
  rcases l with rfl | rfl | rfl | ⟨q, rfl, e⟩
  · exact ⟨_, by simp only [hm, Option.bind_some]; rfl, trivial⟩
  · exact ⟨_, by simp only [hm, Option.bind_some]; rfl, trivial⟩
  · exact ⟨_, by simp only [hm, Option.bind_some]; rfl, trivial⟩
  · exact ⟨_, by simp only [hm, Option.bind_some, e]; rfl, e⟩
/-- a comprehension over such a list that changes nothing -/
theorem i_lcA {α : Type} {g f : α → Val} {p : α → Bool} {xs : List α} (hl : xs.length ≤ 100000)
    (q : wE m s h fun r h1 => LsR h1 r (xs.map g) ∧ (∀ x ∈ xs, ∃ s1, asg T (g x) (wipeA s W) = some s1 ∧ t s1 h1 = some (p x, h1) ∧ (p x = true → e s1 h1 = some (.v (f x), h1))) ∧ Q (.o ((xs.filter p).map f)) h1) : wE (mLc W (iE m) T t e) s h Q := by
  obtain ⟨r, h1, e1, l, hs, c⟩ := q
  obtain ⟨chk, e2, c2⟩ := iE_of e1 l
  refine ⟨.o ((xs.filter p).map f), h1, ?_, c⟩
  unfold mLc
  simp only [e2, Option.bind_some]
  rw [lc_pureA (g := g) (f := f) (p := p) c2 xs [] (by simpa using hl) hs]
  simp only [Option.map_some, List.nil_append]
/-- .. without a condition -/
theorem i_lcY {α : Type} {g f : α → Val} {xs : List α} (hl : xs.length ≤ 100000)
    (q : wE m s h fun r h1 => LsR h1 r (xs.map g) ∧ (∀ x ∈ xs, ∃ s1, asg T (g x) (wipeA s W) = some s1 ∧ e s1 h1 = some (.v (f x), h1)) ∧ Q (.o (xs.map f)) h1) : wE (mLc W (iE m) T tYe e) s h Q := by
  obtain ⟨r, h1, e1, l, hs, c⟩ := q
  refine i_lcA (g := g) (f := f) (p := fun _ => true) hl ⟨r, h1, e1, l, fun x hx => ?_, ?_⟩
  · obtain ⟨s1, a, b⟩ := hs x hx
    exact ⟨s1, a, rfl, fun _ => b⟩
  · rw [List.filter_eq_self.mpr (fun _ _ => rfl)]
    exact c
/-- lists of the heap that are made longer -/
theorem i_extR {q : Nat} (e1 : s[i]? = some (some (.v (.ref q)))) (e2 : isLs h q = true) (c : wE m s h fun r h1 => ∃ ys xs, asW h1 r = some ys ∧ h1[q]? = some (.lst xs) ∧ xs.length + ys.length ≤ 1000000 ∧ QS .nx s (h1.set q (.lst (xs ++ ys)))) : wS (sExt i m) s h QS := by
  obtain ⟨r, h1, e3, ys, xs, e4, e5, hl, c⟩ := c
  exact ⟨_, _, _, by simp only [sExt, e1, e2, if_true, e3, e4, e5, Option.bind_some]; rw [if_pos hl], c⟩
theorem i_appR {q : Nat} (e1 : s[i]? = some (some (.v (.ref q)))) (e2 : isLs h q = true) (c : wE m s h fun r h1 => ∃ y xs, r = .v y ∧ h1[q]? = some (.lst xs) ∧ xs.length < 1000000 ∧ QS .nx s (h1.set q (.lst (xs ++ [y])))) : wS (sApp i m) s h QS := by
  obtain ⟨r, h1, e3, y, xs, rfl, e5, hl, c⟩ := c
  exact ⟨_, _, _, by simp only [sApp, e1, e2, if_true, e3, e5, Option.bind_some]; rw [if_pos hl], c⟩
/-- the parts of a list of the heap, as data -/
theorem dat_ref {q : Nat} {xs : List Val} {ds : List PyData} (e : h[q]? = some (.lst xs)) (d : mapO (datV h 19) xs = some ds) : dat h (.v (.ref q)) = some (.list ds) := by
  show datV h 20 (.ref q) = _
  unfold datV
  rw [e]
  dsimp only
  rw [d]
  rfl
theorem inR_eq {p : Nat} {i : Int} {ns : List Int} {neg : Bool} (e : h[p]? = some (.lst (ns.map .int))) : fIn neg (.v (.int i)) (.v (.ref p)) h = some (.v (.bl (ns.contains i != neg)), h) := by
  have e1 : dat h (.v (.int i)) = some (.int i) := rfl
  simp only [fIn, e1, dat_ref e (mapO_datI ns), Option.bind_some, NL.any_ints]
theorem i_inIR {p : Nat} {i : Int} {ns : List Int} (e : h[p]? = some (.lst (ns.map .int))) (q : Q (.v (.bl (ns.contains i))) h) : wV (fIn false (.v (.int i)) (.v (.ref p)) h) Q := ⟨_, _, inR_eq e, by simpa using q⟩
theorem i_ninIR {p : Nat} {i : Int} {ns : List Int} (e : h[p]? = some (.lst (ns.map .int))) (q : Q (.v (.bl (!ns.contains i))) h) : wV (fIn true (.v (.int i)) (.v (.ref p)) h) Q := ⟨_, _, inR_eq e, by simpa using q⟩
theorem inO_eq {i : Int} {ns : List Int} {neg : Bool} : fIn neg (.v (.int i)) (.o (ns.map .int)) h = some (.v (.bl (ns.contains i != neg)), h) := by
  have e1 : dat h (.v (.int i)) = some (.int i) := rfl
  have e2 : dat h (.o (ns.map .int)) = some (.list (ns.map .int)) := by simp only [dat, mapO_datI, Option.map_some]
  simp only [fIn, e1, e2, Option.bind_some, NL.any_ints]
theorem i_inIO {i : Int} {ns : List Int} (q : Q (.v (.bl (ns.contains i))) h) : wV (fIn false (.v (.int i)) (.o (ns.map .int)) h) Q := ⟨_, _, inO_eq, by simpa using q⟩
theorem i_ninIO {i : Int} {ns : List Int} (q : Q (.v (.bl (!ns.contains i))) h) : wV (fIn true (.v (.int i)) (.o (ns.map .int)) h) Q := ⟨_, _, inO_eq, by simpa using q⟩
/-! rows of whole numbers -/
theorem datV_intsX : ∀ (n : Nat) (k : List Int), mapO (datV h n) (k.map .int) = some (k.map .int)
  | _, [] => rfl
  | n, i :: k => by
    rw [List.map_cons, mapO, datV_intsX n k]
    cases n <;> rfl
theorem dat_kTX (n : Nat) (k : List Int) : datV h (n + 1) (kT k) = some (kD k) := by
  show (mapO (datV h n) (k.map .int)).map PyData.tuple = _
  rw [datV_intsX]
  rfl
theorem dat_ksX (n : Nat) : ∀ ks : List (List Int), mapO (datV h (n + 1)) (ks.map kT) = some (ks.map kD)
  | [] => rfl
  | k :: ks => by
    rw [List.map_cons, mapO, dat_kTX, dat_ksX n ks]
    rfl
theorem eqv_intsX : ∀ {a b : List Int}, PyData.eqvAll (a.map .int) (b.map .int) = decide (a = b)
  | [], [] => by simp [PyData.eqvAll]
  | x :: a, y :: b => by
    have ih := eqv_intsX (a := a) (b := b)
    simp only [List.map_cons, PyData.eqvAll, ih, PyData.eqv, List.cons.injEq]
    by_cases h1 : x = y <;> by_cases h2 : a = b <;> simp [h1, h2]
  | [], _ :: _ => by simp [PyData.eqvAll]
  | _ :: _, [] => by simp [PyData.eqvAll]
theorem eqv_kX {x y : List Int} : PyData.eqv (kD x) (kD y) = decide (x = y) := by simp only [kD, PyData.eqv, eqv_intsX]
theorem eqv_ksX : ∀ {a b : List (List Int)}, PyData.eqvAll (a.map kD) (b.map kD) = decide (a = b)
  | [], [] => by simp [PyData.eqvAll]
  | x :: a, y :: b => by
    have ih := eqv_ksX (a := a) (b := b)
    simp only [List.map_cons, PyData.eqvAll, ih, eqv_kX, List.cons.injEq]
    by_cases h1 : x = y <;> by_cases h2 : a = b <;> simp [h1, h2]
  | [], _ :: _ => by simp [PyData.eqvAll]
  | _ :: _, [] => by simp [PyData.eqvAll]
theorem any_ksX {k : List Int} : ∀ {ks : List (List Int)}, ((ks.map kD).any fun z => PyData.eqv z (kD k)) = ks.contains k
  | [] => rfl
  | x :: ks => by
    rw [List.map_cons, List.any_cons, any_ksX, eqv_kX, List.contains_cons]
    congr 1
    rw [Bool.eq_iff_iff, decide_eq_true_eq, beq_iff_eq]
    exact ⟨fun z => z.symm, fun z => z.symm⟩
theorem inKR_eq {p : Nat} {k : List Int} {ks : List (List Int)} {neg : Bool} (e : h[p]? = some (.lst (ks.map kT))) : fIn neg (.v (kT k)) (.v (.ref p)) h = some (.v (.bl (ks.contains k != neg)), h) := by
  have e1 : dat h (.v (kT k)) = some (kD k) := dat_kTX 19 k
  simp only [fIn, e1, dat_ref e (dat_ksX 18 ks), Option.bind_some, any_ksX]
end
end NL
namespace NL
open PySem PySem.Spec PyProof.Rows L2 RZ PySem.W PySem.SeqAt
section
variable {h : Hh} {Q : QE}
theorem LsR.bor {r : R} {xs : List Val} (l : LsR h r xs) : LsR h (bor r) xs := by
  rcases l with rfl | rfl | rfl | ⟨q, rfl, e⟩
  · exact .tup
  · exact .l
  · exact .l
  · exact .ref e
theorem inA_eq {r : R} {i : Int} {ns : List Int} {neg : Bool} (l : LsR h r (ns.map .int)) : fIn neg (.v (.int i)) r h = some (.v (.bl (ns.contains i != neg)), h) := by
  rcases l with rfl | rfl | rfl | ⟨q, rfl, e⟩
  · exact inI_eq
  · exact inIL_eq
  · exact inO_eq
  · exact inR_eq e
theorem i_inA {r : R} {i : Int} {ns : List Int} (l : LsR h r (ns.map .int)) (q : Q (.v (.bl (ns.contains i))) h) : wV (fIn false (.v (.int i)) r h) Q := ⟨_, _, inA_eq l, by simpa using q⟩
theorem i_ninA {r : R} {i : Int} {ns : List Int} (l : LsR h r (ns.map .int)) (q : Q (.v (.bl (!ns.contains i))) h) : wV (fIn true (.v (.int i)) r h) Q := ⟨_, _, inA_eq l, by simpa using q⟩
theorem asW_of {r : R} {xs : List Val} (l : LsR h r xs) (nt : ∀ ys, r ≠ .v (.tup ys)) : asW h r = some xs := by
  rcases l with rfl | rfl | rfl | ⟨q, rfl, e⟩
  · exact absurd rfl (nt _)
  · rfl
  · rfl
  · simp [asW, asL, e]
theorem i_plusA {r r' : R} {xs ys : List Val} (l : LsR h r xs) (nt : ∀ ys, r ≠ .v (.tup ys)) (l' : LsR h r' ys) (nt' : ∀ ys, r' ≠ .v (.tup ys)) (hl : xs.length + ys.length ≤ 1000000) (q : Q (.o (xs ++ ys)) h) : wV (fPlus r r' h) Q := by
  refine ⟨_, _, ?_, q⟩
  have a := asW_of l nt
  have b := asW_of l' nt'
  unfold fPlus
  split
  · simp [asW, asL] at a
  · exact absurd rfl (nt _)
  · simp only [a, b, Option.bind_some]
    rw [if_pos hl]
theorem i_varR {s : Sl} {k : Nat} {r : R} (e : s[k]? = some (some r)) (q : Q (bor r) h) : wE (mVar k) s h Q := ⟨_, _, by simp only [mVar, e], q⟩
end
end NL
namespace NL
open PySem PySem.Spec PyProof.Rows L2 RZ PySem.W PySem.SeqAt
section
variable {s : Sl} {h : Hh} {Q : QE} {QS : Fl → Sl → Hh → Prop} {T : Tg} {t : MT} {e m : ME} {W : List Nat}
theorem i_sortedR {q : Nat} {ns : List Int} (eq : h[q]? = some (.lst (ns.map .int))) (c : Q (.o ((isort ns).map .int)) h) : wV (fSorted [.v (.ref q)] h) Q := ⟨_, _, by simp only [fSorted, asL, eq, Option.bind_some, mapO_int_map, Option.map_some], c⟩
theorem i_lenR {q : Nat} {xs : List Val} (eq : h[q]? = some (.lst xs)) (c : Q (.v (.int xs.length)) h) : wV (fLen [.v (.ref q)] h) Q := ⟨_, _, by simp only [fLen, asQ, asL, eq, Option.map_some], c⟩
theorem numd_ints (gs : List Int) : numd (gs.map .int) = (rangeI (gs.length : Nat)).map fun d => .tup [.int d, .int ((gs[d.toNat]?).getD 0)] := by
  refine List.ext_getElem? fun i => ?_
  unfold rangeI
  rw [Int.toNat_natCast, List.map_map, List.getElem?_map]
  by_cases hi : i < gs.length
  · rw [numd_get (v := .int gs[i]) (by rw [List.getElem?_map, List.getElem?_eq_getElem hi]; rfl), List.getElem?_range hi]
    simp only [Option.map_some, Function.comp, Int.toNat_natCast, List.getElem?_eq_getElem hi, Option.getD_some]
  · rw [List.getElem?_eq_none (by rw [numd_len, List.length_map]; omega), List.getElem?_eq_none (by rw [List.length_range]; omega)]
    rfl
/-- a comprehension over enumerate of whole numbers -/
theorem i_lcEnI {gs : List Int} {p : Int → Bool} {f : Int → Val} (hl : gs.length ≤ 100000) (q : wE m s h fun r h1 => r = .v (.tup (gs.map .int)) ∧ (∀ (j : Nat) x, gs[j]? = some x → ∃ s1, asg T (.tup [.int (j : Nat), .int x]) (wipeA s W) = some s1 ∧ t s1 h1 = some (p j, h1) ∧ (p j = true → e s1 h1 = some (.v (f j), h1))) ∧ Q (.o (((rangeI (gs.length : Nat)).filter p).map f)) h1) : wE (mLc W (iEn m) T t e) s h Q := by
  obtain ⟨r, h1, e1, rfl, hs, c⟩ := q
  refine ⟨.o (((rangeI (gs.length : Nat)).filter p).map f), h1, ?_, c⟩
  unfold mLc iEn
  simp only [e1, Option.bind_some, numd_ints]
  rw [lc_pureA (chk := fun _ => True) (f := f) (p := p) trivial (rangeI (gs.length : Nat)) [] (by rw [rangeI_len]; simp; omega) ?_]
  · simp only [Option.map_some, List.nil_append]
  · intro d hd
    obtain ⟨d0, d1⟩ := mem_rangeI.mp hd
    obtain ⟨j, rfl⟩ := Int.eq_ofNat_of_zero_le d0
    have hj : j < gs.length := by omega
    have := hs j gs[j] (List.getElem?_eq_getElem hj)
    rw [Int.toNat_natCast, List.getElem?_eq_getElem hj, Option.getD_some]
    exact this
theorem i_neK {k k' : List Int} (q : Q (.v (.bl (!decide (k = k')))) h) : wV (fEq true (.v (kT k)) (.v (kT k')) h) Q := by
  refine ⟨_, _, ?_, q⟩
  have e1 : dat h (.v (kT k)) = some (kD k) := dat_kTX 19 k
  have e2 : dat h (.v (kT k')) = some (kD k') := dat_kTX 19 k'
  simp only [fEq, e1, e2, Option.bind_some, eqv_kX]
  cases decide (k = k') <;> rfl
/-- a comprehension over an own list (read), by an invariant -/
theorem i_lcInv {items : List Val} (hl : items.length ≤ 100000) (q : wE m s h fun r h1 => (r = .v (.tup items) ∨ r = .l items ∨ r = .o items) ∧ ∃ I : Nat → List Val → Hh → Prop, I 0 [] h1 ∧ (∀ i v acc h, items[i]? = some v → acc.length ≤ i → I i acc h → ∃ s1, asg T v (wipeA s W) = some s1 ∧ wT t s1 h fun c h1 => if c = true then wE e s1 h1 fun r h2 => isV r fun y => I (i + 1) (acc ++ [y]) h2 else I (i + 1) acc h1) ∧ ∀ acc h, acc.length ≤ items.length → I items.length acc h → Q (.o acc) h) : wE (mLc W (iE m) T t e) s h Q := by
  obtain ⟨r, h1, e1, er, I, i0, hs, hd⟩ := q
  refine i_lcT ⟨r, h1, e1, items, er, ?_⟩
  exact lc_inv hl I i0 hs hd
end
end NL
set_option Elab.async false
set_option linter.all false
set_option maxRecDepth 100000
set_option maxHeartbeats 4000000
set_option autoImplicit false
namespace NL
open PySem PySem.Spec PyProof.Rows L2 RZ PySem.W PySem.SeqAt
theorem mapM_same {f g : Val → Option PyData} : ∀ {vs : List Val}, (∀ v ∈ vs, f v = g v) → vs.mapM f = vs.mapM g
  | [], _ => rfl
  | v :: vs, e => by
    rw [List.mapM_cons, List.mapM_cons, e v (List.mem_cons_self ..), mapM_same fun x hx => e x (List.mem_cons_of_mem _ hx)]
theorem Th.pd_same {h h' : Hh} {p : Nat} (g : ∀ q o, q ≠ p → h[q]? = some o → h'[q]? = some o) : ∀ (n k : Nat) (v : Val), Th h p n k v → ∀ m, pdat h' m v = pdat h m v
  | n, k, .int i, _, m => by cases m <;> rfl
  | n, k, .bl i, _, m => by cases m <;> rfl
  | n, k, .non, _, m => by cases m <;> rfl
  | n, k, .str i, _, m => by cases m <;> rfl
  | n, k, .ty i, _, m => by cases m <;> rfl
  | n + 1, k, .tup vs, ⟨j, a, _⟩, m => by
    cases m with
    | zero => rfl
    | succ m => simp only [pdat, mapM_same fun v hv => Th.pd_same g n j v (a v hv) m]
  | n + 1, k, .ref q, ⟨ne, xs, j, e, a, _⟩, m => by
    cases m with
    | zero => rfl
    | succ m => simp only [pdat, e, g q _ ne e, mapM_same fun v hv => Th.pd_same g n j v (a v hv) m]
  | 0, k, .tup vs, t, _ => by simp [Th] at t
  | 0, k, .ref q, t, _ => by simp [Th] at t
/-- its text, in every later heap -/
theorem Th.str_gr {h : Hh} {p n k : Nat} {v : Val} (t : Th h p n k v) (hn : n < 40) (hk : k ≤ 16000000) : ∃ x, PyData.strOk x = true ∧ ∀ h' : Hh, (∀ q o, q ≠ p → h[q]? = some o → h'[q]? = some o) → fStr [.v v] h' = some (.v (.str x), h') := by
  obtain ⟨x, ex, ox⟩ := t.str hn hk
  refine ⟨x, ox, fun h' g => ?_⟩
  simp only [fStr, datR] at ex ⊢
  rw [Th.pd_same g n k v t 40]
  simp only [Option.bind_eq_some_iff] at ex ⊢
  obtain ⟨d, e1, e2⟩ := ex
  refine ⟨d, e1, ?_⟩
  split at e2
  · rename_i f
    rw [if_pos f]
    simp only [Option.some.injEq, Prod.mk.injEq] at e2 ⊢
    exact ⟨e2.1, trivial⟩
  · cases e2
end NL
set_option Elab.async false
set_option linter.all false
set_option maxRecDepth 100000
set_option maxHeartbeats 4000000
set_option autoImplicit false
namespace NL
open PySem PySem.Spec PyProof.Rows L2 RZ PySem.W PySem.SeqAt
section
variable {h : Hh} {Q : QE} {s : Sl}
theorem srt_ks {ks : List (List Int)} {d : Nat} (d1 : 1 ≤ d) (hk : ∀ k ∈ ks, k.length = d) : Srt (ks.map kT) := by
  have ee : ∀ k, enc (kT k) = kD k := fun k => enc_of (enc_kT k)
  have em : (ks.map kT).map enc = ks.map kD := by
    rw [List.map_map]
    exact List.map_congr_left fun k _ => ee k
  have al : ∀ k ∈ ks, ∀ k' ∈ ks, alike (kD k) (kD k') = true := fun k hk1 k' hk2 => by
    show alike (.tuple _) (.tuple _) = true
    rw [alike]
    exact alike_ints ((hk k hk1).trans (hk k' hk2).symm)
  refine ⟨fun v hv => ?_, ?_, ?_, ?_, ?_⟩
  · obtain ⟨k, _, rfl⟩ := List.mem_map.mp hv
    exact ⟨_, enc_kT k⟩
  · rw [em]
    intro x hx y hy
    obtain ⟨k, hk1, rfl⟩ := List.mem_map.mp hx
    obtain ⟨k', hk2, rfl⟩ := List.mem_map.mp hy
    exact al k hk1 k' hk2
  · rw [em]
    refine .inl fun x hx => ?_
    obtain ⟨k, hk1, rfl⟩ := List.mem_map.mp hx
    have := hk k hk1
    cases k with
    | nil => simp at this; omega
    | cons i k => exact ⟨.int i, k.map .int, by simp [kD]⟩
  · rw [em]
    intro x hx y hy
    obtain ⟨k, hk1, rfl⟩ := List.mem_map.mp hx
    obtain ⟨k', hk2, rfl⟩ := List.mem_map.mp hy
    exact al k hk1 k' hk2
  · rw [em]
    intro x hx z
    obtain ⟨k, hk1, rfl⟩ := List.mem_map.mp hx
    cases z
theorem asL_of {r : R} {xs : List Val} (l : LsR h r xs) (nt : ∀ ys, r ≠ .v (.tup ys)) : asL h r = some xs := by
  rcases l with rfl | rfl | rfl | ⟨q, rfl, e⟩
  · exact absurd rfl (nt _)
  · rfl
  · rfl
  · simp [asL, e]
/-- sorted of rows of whole numbers -/
theorem i_sortK {r : R} {ks : List (List Int)} {d : Nat} (l : LsR h r (ks.map kT)) (nt : ∀ ys, r ≠ .v (.tup ys)) (d1 : 1 ≤ d) (hk : ∀ k ∈ ks, k.length = d) (q : ∀ ks' : List (List Int), ks'.Perm ks → Q (.o (ks'.map kT)) h) : wV (fSortD [r] h) Q := by
  refine i_sortD (asL_of l nt) (srt_ks d1 hk) ?_
  obtain ⟨ks', p, e⟩ := perm_map (List.mergeSort_perm (ks.map kT) (dataLe false enc)) ks rfl
  have e' : sortVs (ks.map kT) = ks'.map kT := e
  rw [e']
  exact q ks' p
theorem i_slA {r : R} {xs : List Val} {lo hi : Option Int} (l : LsR h r xs) (nt : ∀ ys, r ≠ .v (.tup ys)) (q : Q (.o (cut xs lo hi)) h) : wV (slV r lo hi h) Q := by
  refine ⟨_, _, ?_, q⟩
  unfold slV
  split
  · exact absurd rfl (nt _)
  · rw [asL_of l nt]
    rfl
theorem cut_mapX {α β : Type} {f : α → β} {xs : List α} {lo hi : Option Int} : cut (xs.map f) lo hi = (cut xs lo hi).map f := by
  unfold cut
  rw [List.length_map, List.map_take, List.map_drop]
theorem cut_lenX {α : Type} {xs : List α} {lo hi : Option Int} : (cut xs lo hi).length ≤ xs.length := by
  unfold cut
  rw [List.length_take, List.length_drop]
  omega
theorem cut_memX {α : Type} {xs : List α} {lo hi : Option Int} {x : α} (h : x ∈ cut xs lo hi) : x ∈ xs := by
  unfold cut at h
  exact List.mem_of_mem_drop (List.mem_of_mem_take h)
theorem i_eqRK {q : Nat} {ks : List (List Int)} (e : h[q]? = some (.lst (ks.map kT))) (c : Q (.v (.bl ks.isEmpty)) h) : wV (fEq false (.v (.ref q)) (.o []) h) Q := by
  refine ⟨_, _, ?_, c⟩
  have e2 : dat h (.o []) = some (.list []) := rfl
  simp only [fEq, dat_ref e (dat_ksX 18 ks), e2, Option.bind_some]
  cases ks with
  | nil => rfl
  | cons k ks => rfl
theorem wT_mono {t : MT} {Q Q' : Bool → Hh → Prop} (e : wT t s h Q) (f : ∀ b h', Q b h' → Q' b h') : wT t s h Q' := by
  obtain ⟨b, h1, e1, q⟩ := e
  exact ⟨b, h1, e1, f b h1 q⟩
theorem nt_l {xs : List Val} : ∀ ys, R.l xs ≠ .v (.tup ys) := fun _ z => by cases z
theorem nt_o {xs : List Val} : ∀ ys, R.o xs ≠ .v (.tup ys) := fun _ z => by cases z
theorem nt_r {q : Nat} : ∀ ys, R.v (.ref q) ≠ .v (.tup ys) := fun _ z => by cases z
end
end NL
set_option Elab.async false
set_option linter.all false
set_option maxRecDepth 100000
set_option maxHeartbeats 4000000
namespace K56
open PySem PySem.Spec PyProof.Rows L2 NL
noncomputable def b_is_number : MS := (sRet (mAn (mB fIsi (aCons (mVar 0) (aCons (mC (.ty .int)) aNil))) (mNo (mB fIsi (aCons (mVar 0) (aCons (mC (.ty .bl)) aNil))))))
noncomputable def m_is_number : FM := mDef 1 1 b_is_number
noncomputable def b_is_number_below : MS := (sRet (mAn (mCall m_is_number (aCons (mVar 0) aNil)) (mChain (fun i j => decide (i ≤ j)) (fun i j => decide (i < j)) (mC (.int 0)) (mVar 0) (mVar 1))))
noncomputable def m_is_number_below : FM := mDef 2 2 b_is_number_below
noncomputable def b_is_tuple_of : MS := (sRet (mAn (mB fIsi (aCons (mVar 0) (aCons (mC (.ty .tup)) aNil))) (m2 (fEq false) (mB fLen (aCons (mVar 0) aNil)) (mVar 1))))
noncomputable def m_is_tuple_of : FM := mDef 2 2 b_is_tuple_of
noncomputable def b_is_rising : MS := (sRet (mB fAll (aCons (mLc [1, 2] (iZq (mVar 0) (mSl (mVar 0) (oSome (mC (.int 1))) oNone)) (.tp [1, 2]) tYe (m2 fLt (mVar 1) (mVar 2))) aNil)))
noncomputable def m_is_rising : FM := mDef 3 1 b_is_rising
noncomputable def b_are_groups : MS := (sRet (mAn (mB fIsi (aCons (mVar 0) (aCons (mC (.ty .tup)) aNil))) (mB fAll (aCons (mLc [1] (iE (mVar 0)) (.nm 1) tYe (mCall m_is_number_below (aCons (mVar 1) (aCons (mC (.int 8)) aNil)))) aNil))))
noncomputable def m_are_groups : FM := mDef 2 1 b_are_groups
noncomputable def b_are_houses : MS := (sRet (mAn (mB fIsi (aCons (mVar 0) (aCons (mC (.ty .tup)) aNil))) (mAn (m2 fGt (mB fLen (aCons (mVar 0) aNil)) (mC (.int 0))) (mB fAll (aCons (mLc [1] (iE (mVar 0)) (.nm 1) tYe (mCall m_are_groups (aCons (mVar 1) aNil))) aNil)))))
noncomputable def m_are_houses : FM := mDef 2 1 b_are_houses
noncomputable def b_is_line : MS := (sSeq (sIf (tNo (mTru (mCall m_is_tuple_of (aCons (mVar 0) (aCons (mC (.int 5)) aNil))))) (sRet (mC (.bl false))) sNil)
      (sSeq (sUnp (.tp [2, 3, 4, 5, 6]) (mVar 0))
      (sSeq (sIf (tOo (tNo (mTru (mCall m_is_number_below (aCons (mVar 2) (aCons (mVar 1) aNil))))) (tOo (tNo (mTru (mCall m_is_number_below (aCons (mVar 3) (aCons (mVar 1) aNil))))) (mTst (m2 fGe (mVar 2) (mVar 3))))) (sRet (mC (.bl false))) sNil)
      (sSeq (sIf (tOo (tNo (mTru (mCall m_is_number (aCons (mVar 4) aNil)))) (mTst (m2 fLt (mVar 4) (mC (.int 1))))) (sRet (mC (.bl false))) sNil)
      (sSeq (sIf (tOo (tNo (mTru (mCall m_are_groups (aCons (mVar 5) aNil)))) (tOo (mTst (m2 (fEq false) (mB fLen (aCons (mVar 5) aNil)) (mC (.int 0)))) (tNo (mTru (mCall m_is_rising (aCons (mVar 5) aNil)))))) (sRet (mC (.bl false))) sNil)
      (sRet (mAn (mCall m_is_number (aCons (mVar 6) aNil)) (mChain (fun i j => decide (i ≤ j)) (fun i j => decide (i ≤ j)) (mC (.int 1)) (mVar 6) (mC (.int 4))))))))))
noncomputable def m_is_line : FM := mDef 7 2 b_is_line
noncomputable def b_is_weaving : MS := (sSeq (sIf (tNo (mTru (mCall m_is_tuple_of (aCons (mVar 0) (aCons (mC (.int 2)) aNil))))) (sRet (mC (.bl false))) sNil)
      (sSeq (sUnp (.tp [1, 2]) (mVar 0))
      (sSeq (sIf (tOo (tNo (mTru (mCall m_are_houses (aCons (mVar 1) aNil)))) (tNo (mTru (mB fIsi (aCons (mVar 2) (aCons (mC (.ty .tup)) aNil)))))) (sRet (mC (.bl false))) sNil)
      (sRet (mB fAll (aCons (mLc [3] (iE (mVar 2)) (.nm 3) tYe (mCall m_is_line (aCons (mVar 3) (aCons (mB fLen (aCons (mVar 1) aNil)) aNil)))) aNil))))))
noncomputable def m_is_weaving : FM := mDef 4 1 b_is_weaving
noncomputable def b_spaced : MS := (sRet (mJoin (mC (.str " ")) (mLst (aCons (mVar 0) (aStar (mLc [2] (iE (mVar 1)) (.nm 2) tYe (mB fStrI (aCons (mVar 2) aNil))) aNil)))))
noncomputable def m_spaced : FM := mDef 3 2 b_spaced
noncomputable def b_weaving_text : MS := (sSeq (sUnp (.tp [1, 2]) (mVar 0))
      (sSeq (sSet 4 (mLc [3] (iE (mVar 1)) (.nm 3) tYe (mCall m_spaced (aCons (mC (.str "house")) (aCons (mVar 3) aNil)))))
      (sSeq (sFor (jV 2) (.tp [5, 6, 7, 3, 8]) (sApp 4 (mCall m_spaced (aCons (mC (.str "line")) (aCons (mTup (aCons (mVar 5) (aCons (mVar 6) (aCons (mVar 7) (aCons (mVar 8) (aStar (mVar 3) aNil)))))) aNil)))))
      (sRet (mJoin (mC (.str "\n")) (mVar 4))))))
noncomputable def m_weaving_text : FM := mDef 9 1 b_weaving_text
noncomputable def b_number_from : MS := (sSeq (sIf (tOo (mTst (m2 fGt (mB fLenS (aCons (mVar 0) aNil)) (mC (.int 4)))) (tOo (tNo (mTru (mTxB Txt.isascii (mVar 0)))) (tNo (mTru (mTxB Txt.isdigit (mVar 0)))))) (sRet (mC .non)) sNil)
      (sSeq (sSet 1 (mB fIntS (aCons (mVar 0) aNil)))
      (sRet (mIf (mTst (m2 (fEq false) (mB fStrI (aCons (mVar 1) aNil)) (mVar 0))) (mVar 1) (mC .non)))))
noncomputable def m_number_from : FM := mDef 2 1 b_number_from
noncomputable def b_line_of : MS := (sSeq (sIf (mTst (m2 fLt (mB fLen (aCons (mVar 0) aNil)) (mC (.int 4)))) (sRet (mC .non)) sNil)
      (sSeq (sUnpS [1, 2, 3, 4] 5 (mVar 0))
      (sRet (mTup (aCons (mVar 1) (aCons (mVar 2) (aCons (mVar 3) (aCons (mB fTuple (aCons (mVar 5) aNil)) (aCons (mVar 4) aNil)))))))))
noncomputable def m_line_of : FM := mDef 6 1 b_line_of
noncomputable def b_put_row : MS := (sSeq (sSet 4 (mLc [3] (iE (mSl (mVar 2) (oSome (mC (.int 1))) oNone)) (.nm 3) tYe (mCall m_number_from (aCons (mVar 3) aNil))))
      (sSeq (sIf (tAn (mTst (m2 (fEq false) (m2 fIx (mVar 2) (mC (.int 0))) (mC (.str "house")))) (tAn (tNo (mTru (mVar 1))) (mTru (mCall m_are_groups (aCons (mB fTuple (aCons (mVar 4) aNil)) aNil))))) (sSeq (sApp 0 (mB fTuple (aCons (mVar 4) aNil)))
      (sRet (mC (.bl true)))) sNil)
      (sSeq (sIf (tAn (mTst (m2 (fEq false) (m2 fIx (mVar 2) (mC (.int 0))) (mC (.str "line")))) (mTru (mCall m_is_line (aCons (mCall m_line_of (aCons (mVar 4) aNil)) (aCons (mB fLen (aCons (mVar 0) aNil)) aNil))))) (sSeq (sApp 1 (mCall m_line_of (aCons (mVar 4) aNil)))
      (sRet (mC (.bl true)))) sNil)
      (sRet (mC (.bl false))))))
noncomputable def m_put_row : FM := mDef 5 3 b_put_row
noncomputable def b_weaving_from : MS := (sSeq (sSet 1 (mAl (mLst aNil)))
      (sSeq (sSet 2 (mAl (mLst aNil)))
      (sSeq (sSet 3 (mSplit (mVar 0) (mC (.str "\n"))))
      (sSeq (sFor (jI (iR1 (mB fLen (aCons (mVar 3) aNil)))) (.nm 4) (sIf (tNo (mTru (mCall m_put_row (aCons (mVar 1) (aCons (mVar 2) (aCons (mSplit (m2 fIx (mVar 3) (mVar 4)) (mC (.str " "))) aNil)))))) sNever sNil))
      (sRet (mTup (aCons (mB fTuple (aCons (mVar 1) aNil)) (aCons (mB fTuple (aCons (mVar 2) aNil)) aNil))))))))
noncomputable def m_weaving_from : FM := mDef 5 1 b_weaving_from
noncomputable def b_law_box : MS := (sSeq (sSet 2 (mIf (mTst (m2 fLt (mVar 1) (mB fLenZ (aCons (mVar 0) aNil)))) (m2 fIxZ (mVar 0) (mVar 1)) (mC (.int 0))))
      (sSeq (sSet 3 (mIf (mTst (m2 fGe (mB fAbs (aCons (mVar 2) aNil)) (m2 fPow (mC (.int 10)) (mC (.int 18))))) (mB fAbs (aCons (mVar 2) aNil)) (mC (.int 0))))
      (sRet (mLst (aCons (mVar 3) (aCons (m2 fPlus (mVar 2) (m2 fTimes (mC (.int 999983)) (mVar 1))) (aCons (mC (.int 0)) aNil)))))))
noncomputable def m_law_box : FM := mDef 4 2 b_law_box
noncomputable def b_law_take : MS := (sSeq (sPut (mVar 0) (mC (.int 2)) (m2 fPlus (m2 fIx (mVar 0) (mC (.int 2))) (mC (.int 1))))
      (sSeq (sIf (mTst (m2 fGt (m2 fIx (mVar 0) (mC (.int 0))) (mC (.int 0)))) (sSeq (sSet 2 (m2 fMod (m2 fIx (mVar 0) (mC (.int 0))) (mVar 1)))
      (sSeq (sPut (mVar 0) (mC (.int 0)) (m2 fDiv (m2 fIx (mVar 0) (mC (.int 0))) (mVar 1)))
      (sRet (mVar 2)))) sNil)
      (sSeq (sSet 3 (m2 fIx (mLst (aCons (mC (.int 2147483647)) (aCons (mC (.int 2147483629)) (aCons (mC (.int 2147483587)) (aCons (mC (.int 2147483579)) (aCons (mC (.int 2147483563)) (aCons (mC (.int 2147483549)) (aCons (mC (.int 2147483543)) aNil)))))))) (m2 fMod (m2 fIx (mVar 0) (mC (.int 2))) (mC (.int 7)))))
      (sSeq (sSet 4 (m2 fMod (m2 fTimes (m2 fPlus (m2 fPlus (m2 fMod (m2 fIx (mVar 0) (mC (.int 1))) (mVar 3)) (m2 fTimes (m2 fTimes (m2 fIx (mVar 0) (mC (.int 2))) (m2 fIx (mVar 0) (mC (.int 2)))) (mC (.int 7919)))) (mC (.int 11))) (mC (.int 48271))) (mVar 3)))
      (sSeq (sSet 4 (m2 fMod (m2 fTimes (m2 fMod (m2 fPow (mVar 4) (mC (.int 3))) (mVar 3)) (m2 fPlus (mC (.int 39373)) (m2 fIx (mVar 0) (mC (.int 2))))) (mC (.int 1999999973))))
      (sRet (m2 fMod (m2 fDiv (mVar 4) (mC (.int 64))) (mVar 1))))))))
noncomputable def m_law_take : FM := mDef 5 2 b_law_take
noncomputable def b_law_some_groups : MS := (sSeq (sParV [2, 3] (aCons (mCall m_law_take (aCons (mVar 0) (aCons (mC (.int 4)) aNil))) (aCons (m2 fIx (mVar 1) (mCall m_law_take (aCons (mVar 0) (aCons (mB fLen (aCons (mVar 1) aNil)) aNil)))) aNil)))
      (sSeq (sIf (mTst (m2 fLt (mVar 2) (mC (.int 2)))) (sRet (mB fTuple (aCons (mSS (mVar 1)) aNil))) sNil)
      (sSeq (sIf (mTst (m2 (fEq false) (mVar 2) (mC (.int 2)))) (sRet (mTup (aCons (mVar 3) aNil))) sNil)
      (sRet (mB fTuple (aCons (mSS (m2 fPlus (mLst (aCons (mVar 3) aNil)) (mLc [4] (iR1 (mC (.int 8))) (.nm 4) (mTst (m2 (fEq false) (mCall m_law_take (aCons (mVar 0) (aCons (mC (.int 3)) aNil))) (mC (.int 0)))) (mVar 4)))) aNil))))))
noncomputable def m_law_some_groups : FM := mDef 5 2 b_law_some_groups
noncomputable def b_law_line : MS := (sSeq (sSet 3 (mCall m_law_take (aCons (mVar 0) (aCons (m2 fSub (mVar 1) (mC (.int 1))) aNil))))
      (sSeq (sSet 4 (m2 fPlus (m2 fPlus (mVar 3) (mC (.int 1))) (mCall m_law_take (aCons (mVar 0) (aCons (m2 fSub (m2 fSub (mVar 1) (mC (.int 1))) (mVar 3)) aNil)))))
      (sSeq (sSet 5 (m2 fPlus (mC (.int 1)) (mCall m_law_take (aCons (mVar 0) (aCons (m2 fIx (mLst (aCons (mC (.int 1)) (aCons (mC (.int 3)) (aCons (mC (.int 3)) (aCons (mC (.int 99)) aNil))))) (mCall m_law_take (aCons (mVar 0) (aCons (mC (.int 4)) aNil)))) aNil)))))
      (sSeq (sSet 6 (m2 fPlus (mC (.int 1)) (mCall m_law_take (aCons (mVar 0) (aCons (m2 fIx (mLst (aCons (mC (.int 1)) (aCons (mC (.int 1)) (aCons (mC (.int 2)) (aCons (mC (.int 4)) aNil))))) (mCall m_law_take (aCons (mVar 0) (aCons (mC (.int 4)) aNil)))) aNil)))))
      (sRet (mTup (aCons (mVar 3) (aCons (mVar 4) (aCons (mVar 5) (aCons (mCall m_law_some_groups (aCons (mVar 0) (aCons (mVar 2) aNil))) (aCons (mVar 6) aNil)))))))))))
noncomputable def m_law_line : FM := mDef 7 3 b_law_line
noncomputable def b_law_weaving : MS := (sSeq (sSet 1 (mB fInt (aCons (m2 (fEq false) (mCall m_law_take (aCons (mVar 0) (aCons (mC (.int 8)) aNil))) (mC (.int 0))) aNil)))
      (sSeq (sSet 2 (m2 fPlus (mC (.int 1)) (mCall m_law_take (aCons (mVar 0) (aCons (m2 fIx (mLst (aCons (mC (.int 6)) (aCons (mC (.int 12)) aNil))) (mVar 1)) aNil)))))
      (sSeq (sSet 4 (mLc [3] (iR1 (m2 fPlus (mC (.int 1)) (mCall m_law_take (aCons (mVar 0) (aCons (mC (.int 3)) aNil))))) (.nm 3) tYe (mCall m_law_take (aCons (mVar 0) (aCons (mC (.int 8)) aNil)))))
      (sSeq (sSet 5 (mLst aNil))
      (sSeq (sFor (jI (iR1 (mVar 2))) (.nm 6) (sSeq (sSet 7 (mCall m_law_take (aCons (mVar 0) (aCons (m2 fIx (mLst (aCons (mC (.int 4)) (aCons (mC (.int 7)) aNil))) (mVar 1)) aNil))))
      (sApp 5 (mB fTuple (aCons (mLc [8] (iR1 (mVar 7)) (.nm 8) tYe (m2 fIx (mVar 4) (mCall m_law_take (aCons (mVar 0) (aCons (mB fLen (aCons (mVar 4) aNil)) aNil))))) aNil)))))
      (sSeq (sSet 10 (mLc [9] (iR1 (m2 fTimes (mCall m_law_take (aCons (mVar 0) (aCons (m2 fIx (mLst (aCons (mC (.int 11)) (aCons (mC (.int 21)) aNil))) (mVar 1)) aNil))) (mB fInt (aCons (m2 fGt (mVar 2) (mC (.int 1))) aNil)))) (.nm 9) tYe (mCall m_law_line (aCons (mVar 0) (aCons (mVar 2) (aCons (mVar 4) aNil))))))
      (sRet (mTup (aCons (mB fTuple (aCons (mVar 5) aNil)) (aCons (mB fTuple (aCons (mVar 10) aNil)) aNil))))))))))
noncomputable def m_law_weaving : FM := mDef 11 1 b_law_weaving
noncomputable def b_law_rows_written : MS := (sSeq (sSet 3 (mLc [1] (iE (m2 fIx (mVar 0) (mC (.int 0)))) (.nm 1) tYe (mJoin (mC (.str " ")) (m2 fPlus (mLst (aCons (mC (.str "house")) aNil)) (mLc [2] (iE (mVar 1)) (.nm 2) tYe (mB fStrI (aCons (mVar 2) aNil)))))))
      (sSeq (sFor (jE (m2 fIx (mVar 0) (mC (.int 1)))) (.tp [4, 5, 6, 7, 8]) (sSeq (sSet 10 (m2 fPlus (mLst (aCons (mC (.str "line")) aNil)) (mLc [9] (iE (mTup (aCons (mVar 4) (aCons (mVar 5) (aCons (mVar 6) (aCons (mVar 8) aNil)))))) (.nm 9) tYe (mB fStrI (aCons (mVar 9) aNil)))))
      (sApp 3 (mJoin (mC (.str " ")) (m2 fPlus (mVar 10) (mLc [2] (iE (mVar 7)) (.nm 2) tYe (mB fStrI (aCons (mVar 2) aNil))))))))
      (sRetO 3)))
noncomputable def m_law_rows_written : FM := mDef 11 1 b_law_rows_written
noncomputable def b_law_same (self_ : FM) : MS := (sSeq (sIf (mTru (mB fIsiT (aCons (mVar 1) (aCons (mTup (aCons (mC (.ty .lst)) (aCons (mC (.ty .tup)) aNil))) aNil)))) (sSeq (sIf (tOo (mTst (m2 (fEq true) (mB fIsi (aCons (mVar 0) (aCons (mC (.ty .lst)) aNil))) (mB fIsi (aCons (mVar 1) (aCons (mC (.ty .lst)) aNil))))) (mTst (m2 (fEq true) (mB fIsi (aCons (mVar 0) (aCons (mC (.ty .tup)) aNil))) (mB fIsi (aCons (mVar 1) (aCons (mC (.ty .tup)) aNil)))))) (sRet (mC (.bl false))) sNil)
      (sRet (mAn (m2 (fEq false) (mB fLen (aCons (mVar 0) aNil)) (mB fLen (aCons (mVar 1) aNil))) (mB fAll (aCons (mLc [2, 3] (iZq (mVar 0) (mVar 1)) (.tp [2, 3]) tYe (mCall self_ (aCons (mVar 2) (aCons (mVar 3) aNil)))) aNil))))) sNil)
      (sSeq (sIf (tOo (mTst (m2 (fIs false) (mVar 1) (mC .non))) (mTru (mB fIsiT (aCons (mVar 1) (aCons (mTup (aCons (mC (.ty .str)) (aCons (mC (.ty .bl)) aNil))) aNil))))) (sRet (mAn (m2 (fEq false) (mVar 0) (mVar 1)) (mAn (m2 (fEq false) (mB fIsi (aCons (mVar 0) (aCons (mC (.ty .bl)) aNil))) (mB fIsi (aCons (mVar 1) (aCons (mC (.ty .bl)) aNil)))) (m2 (fEq false) (m2 (fIs false) (mVar 0) (mC .non)) (m2 (fIs false) (mVar 1) (mC .non)))))) sNil)
      (sRet (mAn (mB fIsi (aCons (mVar 0) (aCons (mC (.ty .int)) aNil))) (mAn (mNo (mB fIsi (aCons (mVar 0) (aCons (mC (.ty .bl)) aNil)))) (m2 (fEq false) (mVar 0) (mVar 1)))))))
noncomputable def r_law_same : Nat → FM
  | 0 => fun _ _ => none
  | n + 1 => mDef 4 2 (b_law_same (r_law_same n))
noncomputable def m_law_same : FM := r_law_same 8
noncomputable def b_law_beyond : MS := (sSeq (sUnp (.tp [1, 2]) (mTup (aCons (m2 fPlus (mC (.int 13)) (mCall m_law_take (aCons (mVar 0) (aCons (mC (.int 18)) aNil)))) (aCons (mCall m_law_take (aCons (mVar 0) (aCons (mC (.int 8)) aNil))) aNil))))
      (sSeq (sSet 4 (mLc [3] (iR1 (mVar 1)) (.nm 3) tYe (m2 fTimesT (mTup (aCons (mVar 2) aNil)) (mCall m_law_take (aCons (mVar 0) (aCons (mC (.int 11)) aNil))))))
      (sSeq (sSet 5 (mLst aNil))
      (sSeq (sFor (jI (iR2 (mC (.int 1)) (mVar 1))) (.nm 3) (sSeq (sSet 6 (mCall m_law_take (aCons (mVar 0) (aCons (mVar 3) aNil))))
      (sApp 5 (mTup (aCons (mVar 6) (aCons (mVar 3) (aCons (m2 fPlus (mC (.int 100)) (mCall m_law_take (aCons (mVar 0) (aCons (mC (.int 9900)) aNil)))) (aCons (mTup (aCons (mVar 2) aNil)) (aCons (m2 fPlus (mC (.int 1)) (mCall m_law_take (aCons (mVar 0) (aCons (mC (.int 4)) aNil)))) aNil)))))))))
      (sRet (mTup (aCons (mB fTuple (aCons (mVar 4) aNil)) (aCons (mB fTuple (aCons (mVar 5) aNil)) aNil))))))))
noncomputable def m_law_beyond : FM := mDef 7 1 b_law_beyond
noncomputable def b_law : MS := (sSeq (sFor (jI (iR1 (m2 fPlus (mC (.int 1)) (mB fMin2 (aCons (mC (.int 10)) (aCons (mB fLenZ (aCons (mVar 0) aNil)) aNil)))))) (.nm 1) (sSeq (sSet 2 (mAl (mCall m_law_box (aCons (mVar 0) (aCons (mVar 1) aNil)))))
      (sFor (jE (mTup (aCons (mCall m_law_weaving (aCons (mVar 2) aNil)) (aCons (mCall m_law_beyond (aCons (mVar 2) aNil)) aNil)))) (.nm 3) (sSeq (sSet 4 (mJoin (mC (.str "\n")) (mCall m_law_rows_written (aCons (mVar 3) aNil))))
      (sFor (jI (iR1 (mC (.int 2)))) (.nm 5) (sSeq (sSet 6 (mCall m_weaving_from (aCons (mVar 4) aNil)))
      (sIf (tOo (tNo (mTru (mCall m_law_same (aCons (mVar 6) (aCons (mVar 3) aNil))))) (tOo (mTst (m2 (fIs true) (mCall m_is_weaving (aCons (mVar 6) aNil)) (mC (.bl true)))) (mTst (m2 (fEq true) (mCall m_weaving_text (aCons (mVar 6) aNil)) (mVar 4))))) (sRet (mC (.bl false))) sNil)))))))
      (sRet (mC (.bl true))))
noncomputable def m_law : FM := mDef 7 1 b_law
def topS (i : Nat) : Stmt := PySem.Challenge.pw_namelines_k56_weavings_read.main.body.getD i (.Pass ⟨0, 0, 0, 0⟩)
abbrev s_is_number : Stmt := topS 4
abbrev N_is_number : List Str := ["thing"]
theorem sc_is_number : FnScope N_is_number ["thing"] (defScope s_is_number) := ⟨rfl, rfl, rfl, by decide +kernel, rfl, by decide +kernel, by decide +kernel⟩
abbrev s_is_number_below : Stmt := topS 5
abbrev N_is_number_below : List Str := ["thing", "bound"]
theorem sc_is_number_below : FnScope N_is_number_below ["thing", "bound"] (defScope s_is_number_below) := ⟨rfl, rfl, rfl, by decide +kernel, rfl, by decide +kernel, by decide +kernel⟩
abbrev s_is_tuple_of : Stmt := topS 6
abbrev N_is_tuple_of : List Str := ["thing", "many"]
theorem sc_is_tuple_of : FnScope N_is_tuple_of ["thing", "many"] (defScope s_is_tuple_of) := ⟨rfl, rfl, rfl, by decide +kernel, rfl, by decide +kernel, by decide +kernel⟩
abbrev s_is_rising : Stmt := topS 7
abbrev N_is_rising : List Str := ["things", "low", "high"]
theorem sc_is_rising : FnScope N_is_rising ["things"] (defScope s_is_rising) := ⟨rfl, rfl, rfl, by decide +kernel, rfl, by decide +kernel, by decide +kernel⟩
abbrev s_are_groups : Stmt := topS 11
abbrev N_are_groups : List Str := ["thing", "part"]
theorem sc_are_groups : FnScope N_are_groups ["thing"] (defScope s_are_groups) := ⟨rfl, rfl, rfl, by decide +kernel, rfl, by decide +kernel, by decide +kernel⟩
abbrev s_are_houses : Stmt := topS 12
abbrev N_are_houses : List Str := ["thing", "house"]
theorem sc_are_houses : FnScope N_are_houses ["thing"] (defScope s_are_houses) := ⟨rfl, rfl, rfl, by decide +kernel, rfl, by decide +kernel, by decide +kernel⟩
abbrev s_is_line : Stmt := topS 13
abbrev N_is_line : List Str := ["thing", "many_houses", "one", "other", "cost", "groups", "strands"]
theorem sc_is_line : FnScope N_is_line ["thing", "many_houses"] (defScope s_is_line) := ⟨rfl, rfl, rfl, by decide +kernel, rfl, by decide +kernel, by decide +kernel⟩
abbrev s_is_weaving : Stmt := topS 14
abbrev N_is_weaving : List Str := ["thing", "houses", "lines", "line"]
theorem sc_is_weaving : FnScope N_is_weaving ["thing"] (defScope s_is_weaving) := ⟨rfl, rfl, rfl, by decide +kernel, rfl, by decide +kernel, by decide +kernel⟩
abbrev s_spaced : Stmt := topS 17
abbrev N_spaced : List Str := ["word", "numbers", "number"]
theorem sc_spaced : FnScope N_spaced ["word", "numbers"] (defScope s_spaced) := ⟨rfl, rfl, rfl, by decide +kernel, rfl, by decide +kernel, by decide +kernel⟩
abbrev s_weaving_text : Stmt := topS 18
abbrev N_weaving_text : List Str := ["weaving", "houses", "lines", "groups", "rows", "one", "other", "cost", "strands"]
theorem sc_weaving_text : FnScope N_weaving_text ["weaving"] (defScope s_weaving_text) := ⟨rfl, rfl, rfl, by decide +kernel, rfl, by decide +kernel, by decide +kernel⟩
abbrev s_number_from : Stmt := topS 19
abbrev N_number_from : List Str := ["word", "number"]
theorem sc_number_from : FnScope N_number_from ["word"] (defScope s_number_from) := ⟨rfl, rfl, rfl, by decide +kernel, rfl, by decide +kernel, by decide +kernel⟩
abbrev s_line_of : Stmt := topS 20
abbrev N_line_of : List Str := ["numbers", "one", "other", "cost", "strands", "groups"]
theorem sc_line_of : FnScope N_line_of ["numbers"] (defScope s_line_of) := ⟨rfl, rfl, rfl, by decide +kernel, rfl, by decide +kernel, by decide +kernel⟩
abbrev s_put_row : Stmt := topS 21
abbrev N_put_row : List Str := ["houses", "lines", "words", "word", "numbers"]
theorem sc_put_row : FnScope N_put_row ["houses", "lines", "words"] (defScope s_put_row) := ⟨rfl, rfl, rfl, by decide +kernel, rfl, by decide +kernel, by decide +kernel⟩
abbrev s_weaving_from : Stmt := topS 22
abbrev N_weaving_from : List Str := ["text", "houses", "lines", "rows", "at"]
theorem sc_weaving_from : FnScope N_weaving_from ["text"] (defScope s_weaving_from) := ⟨rfl, rfl, rfl, by decide +kernel, rfl, by decide +kernel, by decide +kernel⟩
abbrev s__law_box : Stmt := topS 24
abbrev N__law_box : List Str := ["_law_script", "_law_k", "_law_cell", "_law_great"]
theorem sc__law_box : FnScope N__law_box ["_law_script", "_law_k"] (defScope s__law_box) := ⟨rfl, rfl, rfl, by decide +kernel, rfl, by decide +kernel, by decide +kernel⟩
abbrev s__law_take : Stmt := topS 25
abbrev N__law_take : List Str := ["_law_box_here", "_law_many", "_law_digit", "_law_prime", "_law_mixed"]
theorem sc__law_take : FnScope N__law_take ["_law_box_here", "_law_many"] (defScope s__law_take) := ⟨rfl, rfl, rfl, by decide +kernel, rfl, by decide +kernel, by decide +kernel⟩
abbrev s__law_some_groups : Stmt := topS 26
abbrev N__law_some_groups : List Str := ["_law_box_here", "_law_some", "_law_way", "_law_first", "_law_group"]
theorem sc__law_some_groups : FnScope N__law_some_groups ["_law_box_here", "_law_some"] (defScope s__law_some_groups) := ⟨rfl, rfl, rfl, by decide +kernel, rfl, by decide +kernel, by decide +kernel⟩
abbrev s__law_line : Stmt := topS 27
abbrev N__law_line : List Str := ["_law_box_here", "_law_many", "_law_some", "_law_one", "_law_other", "_law_cost", "_law_strands"]
theorem sc__law_line : FnScope N__law_line ["_law_box_here", "_law_many", "_law_some"] (defScope s__law_line) := ⟨rfl, rfl, rfl, by decide +kernel, rfl, by decide +kernel, by decide +kernel⟩
abbrev s__law_weaving : Stmt := topS 28
abbrev N__law_weaving : List Str := ["_law_box_here", "_law_great", "_law_many", "_law_k", "_law_some", "_law_houses", "_law_house", "_law_doors", "_law_door", "_law_line_here", "_law_lines"]
theorem sc__law_weaving : FnScope N__law_weaving ["_law_box_here"] (defScope s__law_weaving) := ⟨rfl, rfl, rfl, by decide +kernel, rfl, by decide +kernel, by decide +kernel⟩
abbrev s__law_rows_written : Stmt := topS 29
abbrev N__law_rows_written : List Str := ["_law_weaving_here", "_law_doors", "_law_group", "_law_found", "_law_one", "_law_other", "_law_cost", "_law_groups", "_law_strands", "_law_number", "_law_words"]
theorem sc__law_rows_written : FnScope N__law_rows_written ["_law_weaving_here"] (defScope s__law_rows_written) := ⟨rfl, rfl, rfl, by decide +kernel, rfl, by decide +kernel, by decide +kernel⟩
abbrev s__law_same : Stmt := topS 30
abbrev N__law_same : List Str := ["_law_found", "_law_due", "_law_one", "_law_other"]
theorem sc__law_same : FnScope N__law_same ["_law_found", "_law_due"] (defScope s__law_same) := ⟨rfl, rfl, rfl, by decide +kernel, rfl, by decide +kernel, by decide +kernel⟩
abbrev s__law_beyond : Stmt := topS 31
abbrev N__law_beyond : List Str := ["_law_box_here", "_law_many", "_law_group", "_law_house", "_law_houses", "_law_lines", "_law_other"]
theorem sc__law_beyond : FnScope N__law_beyond ["_law_box_here"] (defScope s__law_beyond) := ⟨rfl, rfl, rfl, by decide +kernel, rfl, by decide +kernel, by decide +kernel⟩
abbrev s_law : Stmt := topS 32
abbrev N_law : List Str := ["_law_script", "_law_k", "_law_box_here", "_law_weaving_here", "_law_text", "_law_turn", "_law_found"]
theorem sc_law : FnScope N_law ["_law_script"] (defScope s_law) := ⟨rfl, rfl, rfl, by decide +kernel, rfl, by decide +kernel, by decide +kernel⟩
section
variable [HasK] {P : Program} {w : World} {K : PySem.W.Frag} {mg : Str → Option Value} {base : Heap} {f : Addr} {fd : FuncData}
theorem fn_is_number (F : FnP K "is_number" s_is_number f fd) (g : mg "is_number" = some (.ref f)) (g_int : mg "int" = none) (g_isinstance : mg "isinstance" = none) (g_bool : mg "bool" = none) : FnOk P w K mg base CX0 1 f fd ["thing"] (spM 1 m_is_number) := fnD_ok (k := 0) F sc_is_number fun cdv A outer s H E hr =>
    (ss_one (ss_ret (se_and (se_B call_isi v_isi g_isinstance (sa_cons (se_var 0) (sa_cons (se_ty .int g_int) sa_nil))) (se_one (se_not (se_B call_isi v_isi g_isinstance (sa_cons (se_var 0) (sa_cons (se_ty .bl g_bool) sa_nil))))))))
theorem ok_is_number (F : FnP K "is_number" s_is_number f fd) (g : mg "is_number" = some (.ref f)) (g_int : mg "int" = none) (g_isinstance : mg "isinstance" = none) (g_bool : mg "bool" = none) : Cal P w K mg base "is_number" ["thing"] 1 m_is_number := cal_mk F g (FunD.bindsN F fun _ _ _ _ _ _ us hl => match us, hl with | [_], _ => rfl) (fn_is_number F g g_int g_isinstance g_bool)
theorem fn_is_number_below (F : FnP K "is_number_below" s_is_number_below f fd) (g : mg "is_number_below" = some (.ref f)) (C_is_number : Cal P w K mg base "is_number" ["thing"] 1 m_is_number) : FnOk P w K mg base CX0 2 f fd ["thing", "bound"] (spM 2 m_is_number_below) := fnD_ok (k := 1) F sc_is_number_below fun cdv A outer s H E hr =>
    (ss_one (ss_ret (se_and (se_callC C_is_number hr (sa_cons (se_var 0) sa_nil) (len_cons len_nil)) (se_one (se_chain (f := (fun i j => decide (i ≤ j))) (g := (fun i j => decide (i < j))) op_le op_lt se_int (se_var 0) (se_var 1))))))
theorem ok_is_number_below (F : FnP K "is_number_below" s_is_number_below f fd) (g : mg "is_number_below" = some (.ref f)) (C_is_number : Cal P w K mg base "is_number" ["thing"] 1 m_is_number) : Cal P w K mg base "is_number_below" ["thing", "bound"] 2 m_is_number_below := cal_mk F g (FunD.bindsN F fun _ _ _ _ _ _ us hl => match us, hl with | [_, _], _ => rfl) (fn_is_number_below F g C_is_number)
theorem fn_is_tuple_of (F : FnP K "is_tuple_of" s_is_tuple_of f fd) (g : mg "is_tuple_of" = some (.ref f)) (g_tuple : mg "tuple" = none) (g_isinstance : mg "isinstance" = none) (g_len : mg "len" = none) : FnOk P w K mg base CX0 1 f fd ["thing", "many"] (spM 2 m_is_tuple_of) := fnD_ok (k := 0) F sc_is_tuple_of fun cdv A outer s H E hr =>
    (ss_one (ss_ret (se_and (se_B call_isi v_isi g_isinstance (sa_cons (se_var 0) (sa_cons (se_ty .tup g_tuple) sa_nil))) (se_one (se_eq (u64 hr) (se_B call_len_seq v_len g_len (sa_cons (se_var 0) sa_nil)) (se_var 1))))))
theorem ok_is_tuple_of (F : FnP K "is_tuple_of" s_is_tuple_of f fd) (g : mg "is_tuple_of" = some (.ref f)) (g_tuple : mg "tuple" = none) (g_isinstance : mg "isinstance" = none) (g_len : mg "len" = none) : Cal P w K mg base "is_tuple_of" ["thing", "many"] 1 m_is_tuple_of := cal_mk F g (FunD.bindsN F fun _ _ _ _ _ _ us hl => match us, hl with | [_, _], _ => rfl) (fn_is_tuple_of F g g_tuple g_isinstance g_len)
theorem fn_is_rising (F : FnP K "is_rising" s_is_rising f fd) (g : mg "is_rising" = some (.ref f)) (g_zip : mg "zip" = none) (g_all : mg "all" = none) : FnOk P w K mg base CX0 1 f fd ["things"] (spM 1 m_is_rising) := fnD_ok (k := 0) F sc_is_rising fun cdv A outer s H E hr =>
    (ss_one (ss_ret (se_B (cr_all rfl) v_all g_all (sa_cons (se_lc [("low", 1), ("high", 2)] rfl sc_is_rising.nd (si_zipQ g_zip (se_var 0) (se_slice (se_var 0) (so_some se_int) so_none)) (blkOk_by (N := N_is_rising) (sc := defScope s_is_rising) (by decide +kernel)) (fun _ _ _ _ _ => (pg_tup rfl (pgs_cons (pg_name (i := 1) sc_is_rising.nd rfl (by first | exact Or.inl rfl | exact Or.inr rfl)) (pgs_cons (pg_name (i := 2) sc_is_rising.nd rfl (by first | exact Or.inl rfl | exact Or.inr rfl)) pgs_nil)))) (fun _ _ _ _ _ => (se_lt (se_var 1) (se_var 2)))) sa_nil))))
theorem ok_is_rising (F : FnP K "is_rising" s_is_rising f fd) (g : mg "is_rising" = some (.ref f)) (g_zip : mg "zip" = none) (g_all : mg "all" = none) : Cal P w K mg base "is_rising" ["things"] 1 m_is_rising := cal_mk F g (FunD.bindsN F fun _ _ _ _ _ _ us hl => match us, hl with | [_], _ => rfl) (fn_is_rising F g g_zip g_all)
theorem fn_are_groups (F : FnP K "are_groups" s_are_groups f fd) (g : mg "are_groups" = some (.ref f)) (g_tuple : mg "tuple" = none) (g_isinstance : mg "isinstance" = none) (g_all : mg "all" = none) {t_GROUPS : Tok} (c_GROUPS : mg "GROUPS" = some (.int 8 t_GROUPS)) (C_is_number_below : Cal P w K mg base "is_number_below" ["thing", "bound"] 2 m_is_number_below) : FnOk P w K mg base CX0 3 f fd ["thing"] (spM 1 m_are_groups) := fnD_ok (k := 2) F sc_are_groups fun cdv A outer s H E hr =>
    (ss_one (ss_ret (se_and (se_B call_isi v_isi g_isinstance (sa_cons (se_var 0) (sa_cons (se_ty .tup g_tuple) sa_nil))) (se_one (se_B (cr_all rfl) v_all g_all (sa_cons (se_lc [("part", 1)] rfl sc_are_groups.nd (si_e (se_var 0)) (blkOk_by (N := N_are_groups) (sc := defScope s_are_groups) (by decide +kernel)) (fun _ _ _ _ _ => (pg_name (i := 1) sc_are_groups.nd rfl (by first | exact Or.inl rfl | exact Or.inr rfl))) (fun _ _ _ _ _ => (se_callC C_is_number_below hr (sa_cons (se_var 1) (sa_cons (se_glob c_GROUPS) sa_nil)) (len_cons (len_cons len_nil))))) sa_nil))))))
theorem ok_are_groups (F : FnP K "are_groups" s_are_groups f fd) (g : mg "are_groups" = some (.ref f)) (g_tuple : mg "tuple" = none) (g_isinstance : mg "isinstance" = none) (g_all : mg "all" = none) {t_GROUPS : Tok} (c_GROUPS : mg "GROUPS" = some (.int 8 t_GROUPS)) (C_is_number_below : Cal P w K mg base "is_number_below" ["thing", "bound"] 2 m_is_number_below) : Cal P w K mg base "are_groups" ["thing"] 3 m_are_groups := cal_mk F g (FunD.bindsN F fun _ _ _ _ _ _ us hl => match us, hl with | [_], _ => rfl) (fn_are_groups F g g_tuple g_isinstance g_all c_GROUPS C_is_number_below)
theorem fn_are_houses (F : FnP K "are_houses" s_are_houses f fd) (g : mg "are_houses" = some (.ref f)) (g_tuple : mg "tuple" = none) (g_isinstance : mg "isinstance" = none) (g_len : mg "len" = none) (g_all : mg "all" = none) (C_are_groups : Cal P w K mg base "are_groups" ["thing"] 3 m_are_groups) : FnOk P w K mg base CX0 4 f fd ["thing"] (spM 1 m_are_houses) := fnD_ok (k := 3) F sc_are_houses fun cdv A outer s H E hr =>
    (ss_one (ss_ret (se_and (se_B call_isi v_isi g_isinstance (sa_cons (se_var 0) (sa_cons (se_ty .tup g_tuple) sa_nil))) (se_and (se_gt (se_B call_len_seq v_len g_len (sa_cons (se_var 0) sa_nil)) se_int) (se_one (se_B (cr_all rfl) v_all g_all (sa_cons (se_lc [("house", 1)] rfl sc_are_houses.nd (si_e (se_var 0)) (blkOk_by (N := N_are_houses) (sc := defScope s_are_houses) (by decide +kernel)) (fun _ _ _ _ _ => (pg_name (i := 1) sc_are_houses.nd rfl (by first | exact Or.inl rfl | exact Or.inr rfl))) (fun _ _ _ _ _ => (se_callC C_are_groups hr (sa_cons (se_var 1) sa_nil) (len_cons len_nil)))) sa_nil)))))))
theorem ok_are_houses (F : FnP K "are_houses" s_are_houses f fd) (g : mg "are_houses" = some (.ref f)) (g_tuple : mg "tuple" = none) (g_isinstance : mg "isinstance" = none) (g_len : mg "len" = none) (g_all : mg "all" = none) (C_are_groups : Cal P w K mg base "are_groups" ["thing"] 3 m_are_groups) : Cal P w K mg base "are_houses" ["thing"] 4 m_are_houses := cal_mk F g (FunD.bindsN F fun _ _ _ _ _ _ us hl => match us, hl with | [_], _ => rfl) (fn_are_houses F g g_tuple g_isinstance g_len g_all C_are_groups)
theorem fn_is_line (F : FnP K "is_line" s_is_line f fd) (g : mg "is_line" = some (.ref f)) (g_len : mg "len" = none) {t_MOST_STRANDS : Tok} (c_MOST_STRANDS : mg "MOST_STRANDS" = some (.int 4 t_MOST_STRANDS)) (C_is_tuple_of : Cal P w K mg base "is_tuple_of" ["thing", "many"] 1 m_is_tuple_of) (C_is_number : Cal P w K mg base "is_number" ["thing"] 1 m_is_number) (C_is_number_below : Cal P w K mg base "is_number_below" ["thing", "bound"] 2 m_is_number_below) (C_are_groups : Cal P w K mg base "are_groups" ["thing"] 3 m_are_groups) (C_is_rising : Cal P w K mg base "is_rising" ["things"] 1 m_is_rising) : FnOk P w K mg base CX0 4 f fd ["thing", "many_houses"] (spM 2 m_is_line) := fnD_ok (k := 3) F sc_is_line fun cdv A outer s H E hr =>
    (ss_cons (ss_if (st_not (st_tru (se_callC C_is_tuple_of hr (sa_cons (se_var 0) (sa_cons se_int sa_nil)) (len_cons (len_cons len_nil))))) (ss_one (ss_ret se_bl)) ss_nil)
      (ss_cons (ss_unp (T := (.tp [2, 3, 4, 5, 6])) (se_var 0) (pg_tup rfl (pgs_cons (pg_name (i := 2) sc_is_line.nd rfl (by first | exact Or.inl rfl | exact Or.inr rfl)) (pgs_cons (pg_name (i := 3) sc_is_line.nd rfl (by first | exact Or.inl rfl | exact Or.inr rfl)) (pgs_cons (pg_name (i := 4) sc_is_line.nd rfl (by first | exact Or.inl rfl | exact Or.inr rfl)) (pgs_cons (pg_name (i := 5) sc_is_line.nd rfl (by first | exact Or.inl rfl | exact Or.inr rfl)) (pgs_cons (pg_name (i := 6) sc_is_line.nd rfl (by first | exact Or.inl rfl | exact Or.inr rfl)) pgs_nil)))))))
      (ss_cons (ss_if (st_w (sw_or (st_not (st_tru (se_callC C_is_number_below hr (sa_cons (se_var 2) (sa_cons (se_var 1) sa_nil)) (len_cons (len_cons len_nil))))) (sw_or (st_not (st_tru (se_callC C_is_number_below hr (sa_cons (se_var 3) (sa_cons (se_var 1) sa_nil)) (len_cons (len_cons len_nil))))) (sw_or1 (st_ge (se_var 2) (se_var 3)))))) (ss_one (ss_ret se_bl)) ss_nil)
      (ss_cons (ss_if (st_w (sw_or (st_not (st_tru (se_callC C_is_number hr (sa_cons (se_var 4) sa_nil) (len_cons len_nil)))) (sw_or1 (st_lt (se_var 4) se_int)))) (ss_one (ss_ret se_bl)) ss_nil)
      (ss_cons (ss_if (st_w (sw_or (st_not (st_tru (se_callC C_are_groups hr (sa_cons (se_var 5) sa_nil) (len_cons len_nil)))) (sw_or (st_eq (u64 hr) (se_B call_len_seq v_len g_len (sa_cons (se_var 5) sa_nil)) se_int) (sw_or1 (st_not (st_tru (se_callC C_is_rising hr (sa_cons (se_var 5) sa_nil) (len_cons len_nil)))))))) (ss_one (ss_ret se_bl)) ss_nil)
      (ss_one (ss_ret (se_and (se_callC C_is_number hr (sa_cons (se_var 6) sa_nil) (len_cons len_nil)) (se_one (se_chain (f := (fun i j => decide (i ≤ j))) (g := (fun i j => decide (i ≤ j))) op_le op_le se_int (se_var 6) (se_glob c_MOST_STRANDS)))))))))))
theorem ok_is_line (F : FnP K "is_line" s_is_line f fd) (g : mg "is_line" = some (.ref f)) (g_len : mg "len" = none) {t_MOST_STRANDS : Tok} (c_MOST_STRANDS : mg "MOST_STRANDS" = some (.int 4 t_MOST_STRANDS)) (C_is_tuple_of : Cal P w K mg base "is_tuple_of" ["thing", "many"] 1 m_is_tuple_of) (C_is_number : Cal P w K mg base "is_number" ["thing"] 1 m_is_number) (C_is_number_below : Cal P w K mg base "is_number_below" ["thing", "bound"] 2 m_is_number_below) (C_are_groups : Cal P w K mg base "are_groups" ["thing"] 3 m_are_groups) (C_is_rising : Cal P w K mg base "is_rising" ["things"] 1 m_is_rising) : Cal P w K mg base "is_line" ["thing", "many_houses"] 4 m_is_line := cal_mk F g (FunD.bindsN F fun _ _ _ _ _ _ us hl => match us, hl with | [_, _], _ => rfl) (fn_is_line F g g_len c_MOST_STRANDS C_is_tuple_of C_is_number C_is_number_below C_are_groups C_is_rising)
theorem fn_is_weaving (F : FnP K "is_weaving" s_is_weaving f fd) (g : mg "is_weaving" = some (.ref f)) (g_tuple : mg "tuple" = none) (g_isinstance : mg "isinstance" = none) (g_len : mg "len" = none) (g_all : mg "all" = none) (C_is_tuple_of : Cal P w K mg base "is_tuple_of" ["thing", "many"] 1 m_is_tuple_of) (C_are_houses : Cal P w K mg base "are_houses" ["thing"] 4 m_are_houses) (C_is_line : Cal P w K mg base "is_line" ["thing", "many_houses"] 4 m_is_line) : FnOk P w K mg base CX0 5 f fd ["thing"] (spM 1 m_is_weaving) := fnD_ok (k := 4) F sc_is_weaving fun cdv A outer s H E hr =>
    (ss_cons (ss_if (st_not (st_tru (se_callC C_is_tuple_of hr (sa_cons (se_var 0) (sa_cons se_int sa_nil)) (len_cons (len_cons len_nil))))) (ss_one (ss_ret se_bl)) ss_nil)
      (ss_cons (ss_unp (T := (.tp [1, 2])) (se_var 0) (pg_tup rfl (pgs_cons (pg_name (i := 1) sc_is_weaving.nd rfl (by first | exact Or.inl rfl | exact Or.inr rfl)) (pgs_cons (pg_name (i := 2) sc_is_weaving.nd rfl (by first | exact Or.inl rfl | exact Or.inr rfl)) pgs_nil))))
      (ss_cons (ss_if (st_w (sw_or (st_not (st_tru (se_callC C_are_houses hr (sa_cons (se_var 1) sa_nil) (len_cons len_nil)))) (sw_or1 (st_not (st_tru (se_B call_isi v_isi g_isinstance (sa_cons (se_var 2) (sa_cons (se_ty .tup g_tuple) sa_nil)))))))) (ss_one (ss_ret se_bl)) ss_nil)
      (ss_one (ss_ret (se_B (cr_all rfl) v_all g_all (sa_cons (se_lc [("line", 3)] rfl sc_is_weaving.nd (si_e (se_var 2)) (blkOk_by (N := N_is_weaving) (sc := defScope s_is_weaving) (by decide +kernel)) (fun _ _ _ _ _ => (pg_name (i := 3) sc_is_weaving.nd rfl (by first | exact Or.inl rfl | exact Or.inr rfl))) (fun _ _ _ _ _ => (se_callC C_is_line hr (sa_cons (se_var 3) (sa_cons (se_B call_len_seq v_len g_len (sa_cons (se_var 1) sa_nil)) sa_nil)) (len_cons (len_cons len_nil))))) sa_nil)))))))
theorem ok_is_weaving (F : FnP K "is_weaving" s_is_weaving f fd) (g : mg "is_weaving" = some (.ref f)) (g_tuple : mg "tuple" = none) (g_isinstance : mg "isinstance" = none) (g_len : mg "len" = none) (g_all : mg "all" = none) (C_is_tuple_of : Cal P w K mg base "is_tuple_of" ["thing", "many"] 1 m_is_tuple_of) (C_are_houses : Cal P w K mg base "are_houses" ["thing"] 4 m_are_houses) (C_is_line : Cal P w K mg base "is_line" ["thing", "many_houses"] 4 m_is_line) : Cal P w K mg base "is_weaving" ["thing"] 5 m_is_weaving := cal_mk F g (FunD.bindsN F fun _ _ _ _ _ _ us hl => match us, hl with | [_], _ => rfl) (fn_is_weaving F g g_tuple g_isinstance g_len g_all C_is_tuple_of C_are_houses C_is_line)
theorem fn_spaced (F : FnP K "spaced" s_spaced f fd) (g : mg "spaced" = some (.ref f)) (g_str : mg "str" = none) : FnOk P w K mg base CX0 1 f fd ["word", "numbers"] (spM 2 m_spaced) := fnD_ok (k := 0) F sc_spaced fun cdv A outer s H E hr =>
    (ss_one (ss_ret (se_join se_str (se_lst (sa_cons (se_var 0) (sa_star (se_lc [("number", 2)] rfl sc_spaced.nd (si_e (se_var 1)) (blkOk_by (N := N_spaced) (sc := defScope s_spaced) (by decide +kernel)) (fun _ _ _ _ _ => (pg_name (i := 2) sc_spaced.nd rfl (by first | exact Or.inl rfl | exact Or.inr rfl))) (fun _ _ _ _ _ => (se_Ty call_str_int v_strI g_str (sa_cons (se_var 2) sa_nil)))) sa_nil))))))
theorem ok_spaced (F : FnP K "spaced" s_spaced f fd) (g : mg "spaced" = some (.ref f)) (g_str : mg "str" = none) : Cal P w K mg base "spaced" ["word", "numbers"] 1 m_spaced := cal_mk F g (FunD.bindsN F fun _ _ _ _ _ _ us hl => match us, hl with | [_, _], _ => rfl) (fn_spaced F g g_str)
theorem fn_weaving_text (F : FnP K "weaving_text" s_weaving_text f fd) (g : mg "weaving_text" = some (.ref f)) (C_spaced : Cal P w K mg base "spaced" ["word", "numbers"] 1 m_spaced) : FnOk P w K mg base CX0 2 f fd ["weaving"] (spM 1 m_weaving_text) := fnD_ok (k := 1) F sc_weaving_text fun cdv A outer s H E hr =>
    (ss_cons (ss_unp (T := (.tp [1, 2])) (se_var 0) (pg_tup rfl (pgs_cons (pg_name (i := 1) sc_weaving_text.nd rfl (by first | exact Or.inl rfl | exact Or.inr rfl)) (pgs_cons (pg_name (i := 2) sc_weaving_text.nd rfl (by first | exact Or.inl rfl | exact Or.inr rfl)) pgs_nil))))
      (ss_cons (ss_lc 4 [("groups", 3)] rfl sc_weaving_text.nd rfl (sw_true rfl rfl rfl (by decide +kernel)) (si_e (se_var 1)) (blkOk_by (N := N_weaving_text) (sc := defScope s_weaving_text) (by decide +kernel)) (fun _ _ _ _ _ => (pg_name (i := 3) sc_weaving_text.nd rfl (by first | exact Or.inl rfl | exact Or.inr rfl))) (fun _ _ _ _ _ => (se_callC C_spaced hr (sa_cons se_str (sa_cons (se_var 3) sa_nil)) (len_cons (len_cons len_nil)))))
      (ss_cons (ss_for rfl PassesOwn.never (sj_v 2) (pg_tup rfl (pgs_cons (pg_name (i := 5) sc_weaving_text.nd rfl (by first | exact Or.inl rfl | exact Or.inr rfl)) (pgs_cons (pg_name (i := 6) sc_weaving_text.nd rfl (by first | exact Or.inl rfl | exact Or.inr rfl)) (pgs_cons (pg_name (i := 7) sc_weaving_text.nd rfl (by first | exact Or.inl rfl | exact Or.inr rfl)) (pgs_cons (pg_name (i := 3) sc_weaving_text.nd rfl (by first | exact Or.inl rfl | exact Or.inr rfl)) (pgs_cons (pg_name (i := 8) sc_weaving_text.nd rfl (by first | exact Or.inl rfl | exact Or.inr rfl)) pgs_nil)))))) (ss_one (ss_append 4 (se_callC C_spaced hr (sa_cons se_str (sa_cons (se_tup (sa_cons (se_var 5) (sa_cons (se_var 6) (sa_cons (se_var 7) (sa_cons (se_var 8) (sa_star (se_var 3) sa_nil)))))) sa_nil)) (len_cons (len_cons len_nil))))))
      (ss_one (ss_ret (se_join se_str (se_var 4)))))))
theorem ok_weaving_text (F : FnP K "weaving_text" s_weaving_text f fd) (g : mg "weaving_text" = some (.ref f)) (C_spaced : Cal P w K mg base "spaced" ["word", "numbers"] 1 m_spaced) : Cal P w K mg base "weaving_text" ["weaving"] 2 m_weaving_text := cal_mk F g (FunD.bindsN F fun _ _ _ _ _ _ us hl => match us, hl with | [_], _ => rfl) (fn_weaving_text F g C_spaced)
theorem fn_number_from (F : FnP K "number_from" s_number_from f fd) (g : mg "number_from" = some (.ref f)) (g_len : mg "len" = none) (g_int : mg "int" = none) (g_str : mg "str" = none) {t_MOST_FIGURES : Tok} (c_MOST_FIGURES : mg "MOST_FIGURES" = some (.int 4 t_MOST_FIGURES)) : FnOk P w K mg base CX0 1 f fd ["word"] (spM 1 m_number_from) := fnD_ok (k := 0) F sc_number_from fun cdv A outer s H E hr =>
    (ss_cons (ss_if (st_w (sw_or (st_gt (se_B call_len_str v_lenS g_len (sa_cons (se_var 0) sa_nil)) (se_glob c_MOST_FIGURES)) (sw_or (st_not (st_tru (se_ascii (se_var 0)))) (sw_or1 (st_not (st_tru (se_digit (se_var 0)))))))) (ss_one (ss_ret se_non)) ss_nil)
      (ss_cons (ss_set 1 sc_number_from.nd (se_Ty call_int_str v_intS g_int (sa_cons (se_var 0) sa_nil)))
      (ss_one (ss_ret (se_if (st_eq (u64 hr) (se_Ty call_str_int v_strI g_str (sa_cons (se_var 1) sa_nil)) (se_var 0)) (se_var 1) se_non)))))
theorem ok_number_from (F : FnP K "number_from" s_number_from f fd) (g : mg "number_from" = some (.ref f)) (g_len : mg "len" = none) (g_int : mg "int" = none) (g_str : mg "str" = none) {t_MOST_FIGURES : Tok} (c_MOST_FIGURES : mg "MOST_FIGURES" = some (.int 4 t_MOST_FIGURES)) : Cal P w K mg base "number_from" ["word"] 1 m_number_from := cal_mk F g (FunD.bindsN F fun _ _ _ _ _ _ us hl => match us, hl with | [_], _ => rfl) (fn_number_from F g g_len g_int g_str c_MOST_FIGURES)
theorem fn_line_of (F : FnP K "line_of" s_line_of f fd) (g : mg "line_of" = some (.ref f)) (g_len : mg "len" = none) (g_tuple : mg "tuple" = none) : FnOk P w K mg base CX0 1 f fd ["numbers"] (spM 1 m_line_of) := fnD_ok (k := 0) F sc_line_of fun cdv A outer s H E hr =>
    (ss_cons (ss_if (st_lt (se_B call_len_seq v_len g_len (sa_cons (se_var 0) sa_nil)) se_int) (ss_one (ss_ret se_non)) ss_nil)
      (ss_cons (ss_unpS (is := [1, 2, 3, 4]) (j := 5) (se_var 0) (pg_starL rfl (pgs_cons (pg_name (i := 1) sc_line_of.nd rfl (by first | exact Or.inl rfl | exact Or.inr rfl)) (pgs_cons (pg_name (i := 2) sc_line_of.nd rfl (by first | exact Or.inl rfl | exact Or.inr rfl)) (pgs_cons (pg_name (i := 3) sc_line_of.nd rfl (by first | exact Or.inl rfl | exact Or.inr rfl)) (pgs_cons (pg_name (i := 4) sc_line_of.nd rfl (by first | exact Or.inl rfl | exact Or.inr rfl)) (pgs_consS (pg_name (i := 5) sc_line_of.nd rfl (by first | exact Or.inl rfl | exact Or.inr rfl)) pgs_nil)))))))
      (ss_one (ss_ret (se_tup (sa_cons (se_var 1) (sa_cons (se_var 2) (sa_cons (se_var 3) (sa_cons (se_Ty call_tuple_of v_tuple g_tuple (sa_cons (se_var 5) sa_nil)) (sa_cons (se_var 4) sa_nil))))))))))
theorem ok_line_of (F : FnP K "line_of" s_line_of f fd) (g : mg "line_of" = some (.ref f)) (g_len : mg "len" = none) (g_tuple : mg "tuple" = none) : Cal P w K mg base "line_of" ["numbers"] 1 m_line_of := cal_mk F g (FunD.bindsN F fun _ _ _ _ _ _ us hl => match us, hl with | [_], _ => rfl) (fn_line_of F g g_len g_tuple)
theorem fn_put_row (F : FnP K "put_row" s_put_row f fd) (g : mg "put_row" = some (.ref f)) (g_tuple : mg "tuple" = none) (g_len : mg "len" = none) (C_number_from : Cal P w K mg base "number_from" ["word"] 1 m_number_from) (C_are_groups : Cal P w K mg base "are_groups" ["thing"] 3 m_are_groups) (C_is_line : Cal P w K mg base "is_line" ["thing", "many_houses"] 4 m_is_line) (C_line_of : Cal P w K mg base "line_of" ["numbers"] 1 m_line_of) : FnOk P w K mg base CX0 5 f fd ["houses", "lines", "words"] (spM 3 m_put_row) := fnD_ok (k := 4) F sc_put_row fun cdv A outer s H E hr =>
    (ss_cons (ss_lc 4 [("word", 3)] rfl sc_put_row.nd rfl (sw_true rfl rfl rfl (by decide +kernel)) (si_e (se_slice (se_var 2) (so_some se_int) so_none)) (blkOk_by (N := N_put_row) (sc := defScope s_put_row) (by decide +kernel)) (fun _ _ _ _ _ => (pg_name (i := 3) sc_put_row.nd rfl (by first | exact Or.inl rfl | exact Or.inr rfl))) (fun _ _ _ _ _ => (se_callC C_number_from hr (sa_cons (se_var 3) sa_nil) (len_cons len_nil))))
      (ss_cons (ss_if (st_w (sw_and (st_eq (u64 hr) (se_item (se_var 2) se_int) se_str) (sw_and (st_not (st_tru (se_var 1))) (sw_and1 (st_tru (se_callC C_are_groups hr (sa_cons (se_Ty call_tuple_of v_tuple g_tuple (sa_cons (se_var 4) sa_nil)) sa_nil) (len_cons len_nil))))))) (ss_cons (ss_append 0 (se_Ty call_tuple_of v_tuple g_tuple (sa_cons (se_var 4) sa_nil)))
      (ss_one (ss_ret se_bl))) ss_nil)
      (ss_cons (ss_if (st_w (sw_and (st_eq (u64 hr) (se_item (se_var 2) se_int) se_str) (sw_and1 (st_tru (se_callC C_is_line hr (sa_cons (se_callC C_line_of hr (sa_cons (se_var 4) sa_nil) (len_cons len_nil)) (sa_cons (se_B call_len_seq v_len g_len (sa_cons (se_var 0) sa_nil)) sa_nil)) (len_cons (len_cons len_nil))))))) (ss_cons (ss_append 1 (se_callC C_line_of hr (sa_cons (se_var 4) sa_nil) (len_cons len_nil)))
      (ss_one (ss_ret se_bl))) ss_nil)
      (ss_one (ss_ret se_bl)))))
theorem ok_put_row (F : FnP K "put_row" s_put_row f fd) (g : mg "put_row" = some (.ref f)) (g_tuple : mg "tuple" = none) (g_len : mg "len" = none) (C_number_from : Cal P w K mg base "number_from" ["word"] 1 m_number_from) (C_are_groups : Cal P w K mg base "are_groups" ["thing"] 3 m_are_groups) (C_is_line : Cal P w K mg base "is_line" ["thing", "many_houses"] 4 m_is_line) (C_line_of : Cal P w K mg base "line_of" ["numbers"] 1 m_line_of) : Cal P w K mg base "put_row" ["houses", "lines", "words"] 5 m_put_row := cal_mk F g (FunD.bindsN F fun _ _ _ _ _ _ us hl => match us, hl with | [_, _, _], _ => rfl) (fn_put_row F g g_tuple g_len C_number_from C_are_groups C_is_line C_line_of)
theorem fn_weaving_from (F : FnP K "weaving_from" s_weaving_from f fd) (g : mg "weaving_from" = some (.ref f)) (g_len : mg "len" = none) (g_range : mg "range" = none) (g_tuple : mg "tuple" = none) (C_put_row : Cal P w K mg base "put_row" ["houses", "lines", "words"] 5 m_put_row) : FnOk P w K mg base CX0 6 f fd ["text"] (spM 1 m_weaving_from) := fnD_ok (k := 5) F sc_weaving_from fun cdv A outer s H E hr =>
    (ss_cons (ss_set 1 sc_weaving_from.nd (se_al (se_lst sa_nil)))
      (ss_cons (ss_set 2 sc_weaving_from.nd (se_al (se_lst sa_nil)))
      (ss_cons (ss_set 3 sc_weaving_from.nd (se_split (se_var 0) se_str))
      (ss_cons (ss_for rfl PassesOwn.never (sj_range1 g_range (se_B call_len_seq v_len g_len (sa_cons (se_var 3) sa_nil))) (pg_name (i := 4) sc_weaving_from.nd rfl (by first | exact Or.inl rfl | exact Or.inr rfl)) (ss_one (ss_if (st_not (st_tru (se_callC C_put_row hr (sa_cons (se_var 1) (sa_cons (se_var 2) (sa_cons (se_split (se_item (se_var 3) (se_var 4)) se_str) sa_nil))) (len_cons (len_cons (len_cons len_nil)))))) (ss_one ss_never) ss_nil)))
      (ss_one (ss_ret (se_tup (sa_cons (se_Ty call_tuple_of v_tuple g_tuple (sa_cons (se_var 1) sa_nil)) (sa_cons (se_Ty call_tuple_of v_tuple g_tuple (sa_cons (se_var 2) sa_nil)) sa_nil)))))))))
theorem ok_weaving_from (F : FnP K "weaving_from" s_weaving_from f fd) (g : mg "weaving_from" = some (.ref f)) (g_len : mg "len" = none) (g_range : mg "range" = none) (g_tuple : mg "tuple" = none) (C_put_row : Cal P w K mg base "put_row" ["houses", "lines", "words"] 5 m_put_row) : Cal P w K mg base "weaving_from" ["text"] 6 m_weaving_from := cal_mk F g (FunD.bindsN F fun _ _ _ _ _ _ us hl => match us, hl with | [_], _ => rfl) (fn_weaving_from F g g_len g_range g_tuple C_put_row)
theorem fn__law_box (F : FnP K "_law_box" s__law_box f fd) (g : mg "_law_box" = some (.ref f)) (hK : K = HasK.K) (g_len : mg "len" = none) (g_abs : mg "abs" = none) : FnOk P w K mg base CX0 1 f fd ["_law_script", "_law_k"] (spM 2 m_law_box) := fnD_ok (k := 0) F sc__law_box fun cdv A outer s H E hr =>
    (ss_cons (ss_set 2 sc__law_box.nd (se_if (st_lt (se_var 1) (se_B (call_lenZ hK) v_lenZ g_len (sa_cons (se_var 0) sa_nil))) (se_itemZ hK (se_var 0) (se_var 1)) se_int))
      (ss_cons (ss_set 3 sc__law_box.nd (se_if (st_ge (se_B call_abs v_abs g_abs (sa_cons (se_var 2) sa_nil)) (se_pow se_int se_int)) (se_B call_abs v_abs g_abs (sa_cons (se_var 2) sa_nil)) se_int))
      (ss_one (ss_ret (se_lst (sa_cons (se_var 3) (sa_cons (se_add (se_var 2) (se_mul se_int (se_var 1))) (sa_cons se_int sa_nil))))))))
theorem ok__law_box (F : FnP K "_law_box" s__law_box f fd) (g : mg "_law_box" = some (.ref f)) (hK : K = HasK.K) (g_len : mg "len" = none) (g_abs : mg "abs" = none) : Cal P w K mg base "_law_box" ["_law_script", "_law_k"] 1 m_law_box := cal_mk F g (FunD.bindsN F fun _ _ _ _ _ _ us hl => match us, hl with | [_, _], _ => rfl) (fn__law_box F g hK g_len g_abs)
theorem fn__law_take (F : FnP K "_law_take" s__law_take f fd) (g : mg "_law_take" = some (.ref f)) : FnOk P w K mg base CX0 1 f fd ["_law_box_here", "_law_many"] (spM 2 m_law_take) := fnD_ok (k := 0) F sc__law_take fun cdv A outer s H E hr =>
    (ss_cons (ss_put (se_add (se_item (se_var 0) se_int) se_int) (se_var 0) se_int)
      (ss_cons (ss_if (st_gt (se_item (se_var 0) se_int) se_int) (ss_cons (ss_set 2 sc__law_take.nd (se_mod (se_item (se_var 0) se_int) (se_var 1)))
      (ss_cons (ss_put (se_div (se_item (se_var 0) se_int) (se_var 1)) (se_var 0) se_int)
      (ss_one (ss_ret (se_var 2))))) ss_nil)
      (ss_cons (ss_set 3 sc__law_take.nd (se_item (se_lst (sa_cons se_int (sa_cons se_int (sa_cons se_int (sa_cons se_int (sa_cons se_int (sa_cons se_int (sa_cons se_int sa_nil)))))))) (se_mod (se_item (se_var 0) se_int) se_int)))
      (ss_cons (ss_set 4 sc__law_take.nd (se_mod (se_mul (se_add (se_add (se_mod (se_item (se_var 0) se_int) (se_var 3)) (se_mul (se_mul (se_item (se_var 0) se_int) (se_item (se_var 0) se_int)) se_int)) se_int) se_int) (se_var 3)))
      (ss_cons (ss_set 4 sc__law_take.nd (se_mod (se_mul (se_mod (se_pow (se_var 4) se_int) (se_var 3)) (se_add se_int (se_item (se_var 0) se_int))) se_int))
      (ss_one (ss_ret (se_mod (se_div (se_var 4) se_int) (se_var 1)))))))))
theorem ok__law_take (F : FnP K "_law_take" s__law_take f fd) (g : mg "_law_take" = some (.ref f)) : Cal P w K mg base "_law_take" ["_law_box_here", "_law_many"] 1 m_law_take := cal_mk F g (FunD.bindsN F fun _ _ _ _ _ _ us hl => match us, hl with | [_, _], _ => rfl) (fn__law_take F g)
theorem fn__law_some_groups (F : FnP K "_law_some_groups" s__law_some_groups f fd) (g : mg "_law_some_groups" = some (.ref f)) (g_len : mg "len" = none) (g_sorted : mg "sorted" = none) (g_set : mg "set" = none) (g_tuple : mg "tuple" = none) (g_range : mg "range" = none) (C__law_take : Cal P w K mg base "_law_take" ["_law_box_here", "_law_many"] 1 m_law_take) : FnOk P w K mg base CX0 2 f fd ["_law_box_here", "_law_some"] (spM 2 m_law_some_groups) := fnD_ok (k := 1) F sc__law_some_groups fun cdv A outer s H E hr =>
    (ss_cons (ss_par2 2 3 rfl sc__law_some_groups.nd rfl rfl (sa_cons (se_callC C__law_take hr (sa_cons (se_var 0) (sa_cons se_int sa_nil)) (len_cons (len_cons len_nil))) (sa_cons (se_item (se_var 1) (se_callC C__law_take hr (sa_cons (se_var 0) (sa_cons (se_B call_len_seq v_len g_len (sa_cons (se_var 1) sa_nil)) sa_nil)) (len_cons (len_cons len_nil)))) sa_nil)) (by rfl))
      (ss_cons (ss_if (st_lt (se_var 2) se_int) (ss_one (ss_ret (se_Ty call_tuple_of v_tuple g_tuple (sa_cons (se_sset rfl g_sorted g_set (se_var 1)) sa_nil)))) ss_nil)
      (ss_cons (ss_if (st_eq (u64 hr) (se_var 2) se_int) (ss_one (ss_ret (se_tup (sa_cons (se_var 3) sa_nil)))) ss_nil)
      (ss_one (ss_ret (se_Ty call_tuple_of v_tuple g_tuple (sa_cons (se_sset rfl g_sorted g_set (se_add (se_lst (sa_cons (se_var 3) sa_nil)) (se_lcIf [("_law_group", 4)] rfl sc__law_some_groups.nd (si_range1 g_range se_int) (blkOk_by (N := N__law_some_groups) (sc := defScope s__law_some_groups) (by decide +kernel)) (fun _ _ _ _ _ => (pg_name (i := 4) sc__law_some_groups.nd rfl (by first | exact Or.inl rfl | exact Or.inr rfl))) (fun _ _ _ _ _ => (st_eq (u64 hr) (se_callC C__law_take hr (sa_cons (se_var 0) (sa_cons se_int sa_nil)) (len_cons (len_cons len_nil))) se_int)) (fun _ _ _ _ _ => (se_var 4))))) sa_nil)))))))
theorem ok__law_some_groups (F : FnP K "_law_some_groups" s__law_some_groups f fd) (g : mg "_law_some_groups" = some (.ref f)) (g_len : mg "len" = none) (g_sorted : mg "sorted" = none) (g_set : mg "set" = none) (g_tuple : mg "tuple" = none) (g_range : mg "range" = none) (C__law_take : Cal P w K mg base "_law_take" ["_law_box_here", "_law_many"] 1 m_law_take) : Cal P w K mg base "_law_some_groups" ["_law_box_here", "_law_some"] 2 m_law_some_groups := cal_mk F g (FunD.bindsN F fun _ _ _ _ _ _ us hl => match us, hl with | [_, _], _ => rfl) (fn__law_some_groups F g g_len g_sorted g_set g_tuple g_range C__law_take)
theorem fn__law_line (F : FnP K "_law_line" s__law_line f fd) (g : mg "_law_line" = some (.ref f)) (C__law_take : Cal P w K mg base "_law_take" ["_law_box_here", "_law_many"] 1 m_law_take) (C__law_some_groups : Cal P w K mg base "_law_some_groups" ["_law_box_here", "_law_some"] 2 m_law_some_groups) : FnOk P w K mg base CX0 3 f fd ["_law_box_here", "_law_many", "_law_some"] (spM 3 m_law_line) := fnD_ok (k := 2) F sc__law_line fun cdv A outer s H E hr =>
    (ss_cons (ss_set 3 sc__law_line.nd (se_callC C__law_take hr (sa_cons (se_var 0) (sa_cons (se_sub (se_var 1) se_int) sa_nil)) (len_cons (len_cons len_nil))))
      (ss_cons (ss_set 4 sc__law_line.nd (se_add (se_add (se_var 3) se_int) (se_callC C__law_take hr (sa_cons (se_var 0) (sa_cons (se_sub (se_sub (se_var 1) se_int) (se_var 3)) sa_nil)) (len_cons (len_cons len_nil)))))
      (ss_cons (ss_set 5 sc__law_line.nd (se_add se_int (se_callC C__law_take hr (sa_cons (se_var 0) (sa_cons (se_item (se_lst (sa_cons se_int (sa_cons se_int (sa_cons se_int (sa_cons se_int sa_nil))))) (se_callC C__law_take hr (sa_cons (se_var 0) (sa_cons se_int sa_nil)) (len_cons (len_cons len_nil)))) sa_nil)) (len_cons (len_cons len_nil)))))
      (ss_cons (ss_set 6 sc__law_line.nd (se_add se_int (se_callC C__law_take hr (sa_cons (se_var 0) (sa_cons (se_item (se_lst (sa_cons se_int (sa_cons se_int (sa_cons se_int (sa_cons se_int sa_nil))))) (se_callC C__law_take hr (sa_cons (se_var 0) (sa_cons se_int sa_nil)) (len_cons (len_cons len_nil)))) sa_nil)) (len_cons (len_cons len_nil)))))
      (ss_one (ss_ret (se_tup (sa_cons (se_var 3) (sa_cons (se_var 4) (sa_cons (se_var 5) (sa_cons (se_callC C__law_some_groups hr (sa_cons (se_var 0) (sa_cons (se_var 2) sa_nil)) (len_cons (len_cons len_nil))) (sa_cons (se_var 6) sa_nil))))))))))))
theorem ok__law_line (F : FnP K "_law_line" s__law_line f fd) (g : mg "_law_line" = some (.ref f)) (C__law_take : Cal P w K mg base "_law_take" ["_law_box_here", "_law_many"] 1 m_law_take) (C__law_some_groups : Cal P w K mg base "_law_some_groups" ["_law_box_here", "_law_some"] 2 m_law_some_groups) : Cal P w K mg base "_law_line" ["_law_box_here", "_law_many", "_law_some"] 3 m_law_line := cal_mk F g (FunD.bindsN F fun _ _ _ _ _ _ us hl => match us, hl with | [_, _, _], _ => rfl) (fn__law_line F g C__law_take C__law_some_groups)
theorem fn__law_weaving (F : FnP K "_law_weaving" s__law_weaving f fd) (g : mg "_law_weaving" = some (.ref f)) (g_int : mg "int" = none) (g_range : mg "range" = none) (g_len : mg "len" = none) (g_tuple : mg "tuple" = none) (C__law_take : Cal P w K mg base "_law_take" ["_law_box_here", "_law_many"] 1 m_law_take) (C__law_line : Cal P w K mg base "_law_line" ["_law_box_here", "_law_many", "_law_some"] 3 m_law_line) : FnOk P w K mg base CX0 4 f fd ["_law_box_here"] (spM 1 m_law_weaving) := fnD_ok (k := 3) F sc__law_weaving fun cdv A outer s H E hr =>
    (ss_cons (ss_set 1 sc__law_weaving.nd (se_Ty call_int1 v_int g_int (sa_cons (se_eq (u64 hr) (se_callC C__law_take hr (sa_cons (se_var 0) (sa_cons se_int sa_nil)) (len_cons (len_cons len_nil))) se_int) sa_nil)))
      (ss_cons (ss_set 2 sc__law_weaving.nd (se_add se_int (se_callC C__law_take hr (sa_cons (se_var 0) (sa_cons (se_item (se_lst (sa_cons se_int (sa_cons se_int sa_nil))) (se_var 1)) sa_nil)) (len_cons (len_cons len_nil)))))
      (ss_cons (ss_set 4 sc__law_weaving.nd (se_lc [("_law_k", 3)] rfl sc__law_weaving.nd (si_range1 g_range (se_add se_int (se_callC C__law_take hr (sa_cons (se_var 0) (sa_cons se_int sa_nil)) (len_cons (len_cons len_nil))))) (blkOk_by (N := N__law_weaving) (sc := defScope s__law_weaving) (by decide +kernel)) (fun _ _ _ _ _ => (pg_name (i := 3) sc__law_weaving.nd rfl (by first | exact Or.inl rfl | exact Or.inr rfl))) (fun _ _ _ _ _ => (se_callC C__law_take hr (sa_cons (se_var 0) (sa_cons se_int sa_nil)) (len_cons (len_cons len_nil))))))
      (ss_cons (ss_set 5 sc__law_weaving.nd (se_lst sa_nil))
      (ss_cons (ss_for rfl PassesOwn.never (sj_range1 g_range (se_var 2)) (pg_name (i := 6) sc__law_weaving.nd rfl (by first | exact Or.inl rfl | exact Or.inr rfl)) (ss_cons (ss_set 7 sc__law_weaving.nd (se_callC C__law_take hr (sa_cons (se_var 0) (sa_cons (se_item (se_lst (sa_cons se_int (sa_cons se_int sa_nil))) (se_var 1)) sa_nil)) (len_cons (len_cons len_nil))))
      (ss_one (ss_append 5 (se_Ty call_tuple_of v_tuple g_tuple (sa_cons (se_lc [("_law_door", 8)] rfl sc__law_weaving.nd (si_range1 g_range (se_var 7)) (blkOk_by (N := N__law_weaving) (sc := defScope s__law_weaving) (by decide +kernel)) (fun _ _ _ _ _ => (pg_name (i := 8) sc__law_weaving.nd rfl (by first | exact Or.inl rfl | exact Or.inr rfl))) (fun _ _ _ _ _ => (se_item (se_var 4) (se_callC C__law_take hr (sa_cons (se_var 0) (sa_cons (se_B call_len_seq v_len g_len (sa_cons (se_var 4) sa_nil)) sa_nil)) (len_cons (len_cons len_nil)))))) sa_nil))))))
      (ss_cons (ss_lc 10 [("_law_line_here", 9)] rfl sc__law_weaving.nd rfl (sw_true rfl rfl rfl (by decide +kernel)) (si_range1 g_range (se_mul (se_callC C__law_take hr (sa_cons (se_var 0) (sa_cons (se_item (se_lst (sa_cons se_int (sa_cons se_int sa_nil))) (se_var 1)) sa_nil)) (len_cons (len_cons len_nil))) (se_Ty call_int1 v_int g_int (sa_cons (se_gt (se_var 2) se_int) sa_nil)))) (blkOk_by (N := N__law_weaving) (sc := defScope s__law_weaving) (by decide +kernel)) (fun _ _ _ _ _ => (pg_name (i := 9) sc__law_weaving.nd rfl (by first | exact Or.inl rfl | exact Or.inr rfl))) (fun _ _ _ _ _ => (se_callC C__law_line hr (sa_cons (se_var 0) (sa_cons (se_var 2) (sa_cons (se_var 4) sa_nil))) (len_cons (len_cons (len_cons len_nil))))))
      (ss_one (ss_ret (se_tup (sa_cons (se_Ty call_tuple_of v_tuple g_tuple (sa_cons (se_var 5) sa_nil)) (sa_cons (se_Ty call_tuple_of v_tuple g_tuple (sa_cons (se_var 10) sa_nil)) sa_nil)))))))))))
theorem ok__law_weaving (F : FnP K "_law_weaving" s__law_weaving f fd) (g : mg "_law_weaving" = some (.ref f)) (g_int : mg "int" = none) (g_range : mg "range" = none) (g_len : mg "len" = none) (g_tuple : mg "tuple" = none) (C__law_take : Cal P w K mg base "_law_take" ["_law_box_here", "_law_many"] 1 m_law_take) (C__law_line : Cal P w K mg base "_law_line" ["_law_box_here", "_law_many", "_law_some"] 3 m_law_line) : Cal P w K mg base "_law_weaving" ["_law_box_here"] 4 m_law_weaving := cal_mk F g (FunD.bindsN F fun _ _ _ _ _ _ us hl => match us, hl with | [_], _ => rfl) (fn__law_weaving F g g_int g_range g_len g_tuple C__law_take C__law_line)
theorem fn__law_rows_written (F : FnP K "_law_rows_written" s__law_rows_written f fd) (g : mg "_law_rows_written" = some (.ref f)) (g_str : mg "str" = none) : FnOk P w K mg base CX0 1 f fd ["_law_weaving_here"] (spM 1 m_law_rows_written) := fnD_ok (k := 0) F sc__law_rows_written fun cdv A outer s H E hr =>
    (ss_cons (ss_lc 3 [("_law_doors", 1)] rfl sc__law_rows_written.nd rfl (sw_true rfl rfl rfl (by decide +kernel)) (si_e (se_item (se_var 0) se_int)) (blkOk_by (N := N__law_rows_written) (sc := defScope s__law_rows_written) (by decide +kernel)) (fun _ _ _ _ _ => (pg_name (i := 1) sc__law_rows_written.nd rfl (by first | exact Or.inl rfl | exact Or.inr rfl))) (fun _ _ _ _ _ => (se_join se_str (se_add (se_lst (sa_cons se_str sa_nil)) (se_lc [("_law_group", 2)] rfl sc__law_rows_written.nd (si_e (se_var 1)) (blkOk_by (N := N__law_rows_written) (by first | rfl | kernel_rfl)) (fun _ _ _ _ _ => (pg_name (i := 2) sc__law_rows_written.nd rfl (by first | exact Or.inl rfl | exact Or.inr rfl))) (fun _ _ _ _ _ => (se_Ty call_str_int v_strI g_str (sa_cons (se_var 2) sa_nil))))))))
      (ss_cons (ss_for rfl PassesOwn.never (sj_e (se_item (se_var 0) se_int)) (pg_tup rfl (pgs_cons (pg_name (i := 4) sc__law_rows_written.nd rfl (by first | exact Or.inl rfl | exact Or.inr rfl)) (pgs_cons (pg_name (i := 5) sc__law_rows_written.nd rfl (by first | exact Or.inl rfl | exact Or.inr rfl)) (pgs_cons (pg_name (i := 6) sc__law_rows_written.nd rfl (by first | exact Or.inl rfl | exact Or.inr rfl)) (pgs_cons (pg_name (i := 7) sc__law_rows_written.nd rfl (by first | exact Or.inl rfl | exact Or.inr rfl)) (pgs_cons (pg_name (i := 8) sc__law_rows_written.nd rfl (by first | exact Or.inl rfl | exact Or.inr rfl)) pgs_nil)))))) (ss_cons (ss_set 10 sc__law_rows_written.nd (se_add (se_lst (sa_cons se_str sa_nil)) (se_lc [("_law_number", 9)] rfl sc__law_rows_written.nd (si_e (se_tup (sa_cons (se_var 4) (sa_cons (se_var 5) (sa_cons (se_var 6) (sa_cons (se_var 8) sa_nil)))))) (blkOk_by (N := N__law_rows_written) (sc := defScope s__law_rows_written) (by decide +kernel)) (fun _ _ _ _ _ => (pg_name (i := 9) sc__law_rows_written.nd rfl (by first | exact Or.inl rfl | exact Or.inr rfl))) (fun _ _ _ _ _ => (se_Ty call_str_int v_strI g_str (sa_cons (se_var 9) sa_nil))))))
      (ss_one (ss_append 3 (se_join se_str (se_add (se_var 10) (se_lc [("_law_group", 2)] rfl sc__law_rows_written.nd (si_e (se_var 7)) (blkOk_by (N := N__law_rows_written) (sc := defScope s__law_rows_written) (by decide +kernel)) (fun _ _ _ _ _ => (pg_name (i := 2) sc__law_rows_written.nd rfl (by first | exact Or.inl rfl | exact Or.inr rfl))) (fun _ _ _ _ _ => (se_Ty call_str_int v_strI g_str (sa_cons (se_var 2) sa_nil))))))))))
      (ss_one (ss_retO 3))))
theorem ok__law_rows_written (F : FnP K "_law_rows_written" s__law_rows_written f fd) (g : mg "_law_rows_written" = some (.ref f)) (g_str : mg "str" = none) : Cal P w K mg base "_law_rows_written" ["_law_weaving_here"] 1 m_law_rows_written := cal_mk F g (FunD.bindsN F fun _ _ _ _ _ _ us hl => match us, hl with | [_], _ => rfl) (fn__law_rows_written F g g_str)
theorem fn__law_same (F : FnP K "_law_same" s__law_same f fd) (g : mg "_law_same" = some (.ref f)) (g_list : mg "list" = none) (g_tuple : mg "tuple" = none) (g_isinstance : mg "isinstance" = none) (g_len : mg "len" = none) (g_zip : mg "zip" = none) (g_all : mg "all" = none) (g_str : mg "str" = none) (g_bool : mg "bool" = none) (g_int : mg "int" = none) : ∀ n, FnOk P w K mg base CX0 (0 + n) f fd ["_law_found", "_law_due"] (spM 2 (r_law_same n))
  | 0 => fn_none (np := 2)
  | n + 1 => fnD_ok (k := 0 + n) F sc__law_same fun cdv A outer s H E hr =>
    have C_self := cal_mk F g (FunD.bindsN F fun _ _ _ _ _ _ us hl => match us, hl with | [_, _], _ => rfl) (fn__law_same F g g_list g_tuple g_isinstance g_len g_zip g_all g_str g_bool g_int n)
    (ss_cons (ss_if (st_tru (se_B call_isiT v_isiT g_isinstance (sa_cons (se_var 1) (sa_cons (se_tup (sa_cons (se_ty .lst g_list) (sa_cons (se_ty .tup g_tuple) sa_nil))) sa_nil)))) (ss_cons (ss_if (st_w (sw_or (st_ne (u64 hr) (se_B call_isi v_isi g_isinstance (sa_cons (se_var 0) (sa_cons (se_ty .lst g_list) sa_nil))) (se_B call_isi v_isi g_isinstance (sa_cons (se_var 1) (sa_cons (se_ty .lst g_list) sa_nil)))) (sw_or1 (st_ne (u64 hr) (se_B call_isi v_isi g_isinstance (sa_cons (se_var 0) (sa_cons (se_ty .tup g_tuple) sa_nil))) (se_B call_isi v_isi g_isinstance (sa_cons (se_var 1) (sa_cons (se_ty .tup g_tuple) sa_nil))))))) (ss_one (ss_ret se_bl)) ss_nil)
      (ss_one (ss_ret (se_and (se_eq (u64 hr) (se_B call_len_seq v_len g_len (sa_cons (se_var 0) sa_nil)) (se_B call_len_seq v_len g_len (sa_cons (se_var 1) sa_nil))) (se_one (se_B (cr_all rfl) v_all g_all (sa_cons (se_lc [("_law_one", 2), ("_law_other", 3)] rfl sc__law_same.nd (si_zipQ g_zip (se_var 0) (se_var 1)) (blkOk_by (N := N__law_same) (sc := defScope s__law_same) (by decide +kernel)) (fun _ _ _ _ _ => (pg_tup rfl (pgs_cons (pg_name (i := 2) sc__law_same.nd rfl (by first | exact Or.inl rfl | exact Or.inr rfl)) (pgs_cons (pg_name (i := 3) sc__law_same.nd rfl (by first | exact Or.inl rfl | exact Or.inr rfl)) pgs_nil)))) (fun _ _ _ _ _ => (se_callC C_self hr (sa_cons (se_var 2) (sa_cons (se_var 3) sa_nil)) (len_cons (len_cons len_nil)) (by omega)))) sa_nil))))))) ss_nil)
      (ss_cons (ss_if (st_w (sw_or (st_is (se_var 1) se_non) (sw_or1 (st_tru (se_B call_isiT v_isiT g_isinstance (sa_cons (se_var 1) (sa_cons (se_tup (sa_cons (se_ty .str g_str) (sa_cons (se_ty .bl g_bool) sa_nil))) sa_nil))))))) (ss_one (ss_ret (se_and (se_eq (u64 hr) (se_var 0) (se_var 1)) (se_and (se_eq (u64 hr) (se_B call_isi v_isi g_isinstance (sa_cons (se_var 0) (sa_cons (se_ty .bl g_bool) sa_nil))) (se_B call_isi v_isi g_isinstance (sa_cons (se_var 1) (sa_cons (se_ty .bl g_bool) sa_nil)))) (se_one (se_eq (u64 hr) (se_is (se_var 0) se_non) (se_is (se_var 1) se_non))))))) ss_nil)
      (ss_one (ss_ret (se_and (se_B call_isi v_isi g_isinstance (sa_cons (se_var 0) (sa_cons (se_ty .int g_int) sa_nil))) (se_and (se_not (se_B call_isi v_isi g_isinstance (sa_cons (se_var 0) (sa_cons (se_ty .bl g_bool) sa_nil)))) (se_one (se_eq (u64 hr) (se_var 0) (se_var 1)))))))))
theorem ok__law_same (F : FnP K "_law_same" s__law_same f fd) (g : mg "_law_same" = some (.ref f)) (g_list : mg "list" = none) (g_tuple : mg "tuple" = none) (g_isinstance : mg "isinstance" = none) (g_len : mg "len" = none) (g_zip : mg "zip" = none) (g_all : mg "all" = none) (g_str : mg "str" = none) (g_bool : mg "bool" = none) (g_int : mg "int" = none) : Cal P w K mg base "_law_same" ["_law_found", "_law_due"] 8 m_law_same := cal_mk F g (FunD.bindsN F fun _ _ _ _ _ _ us hl => match us, hl with | [_, _], _ => rfl) (fn__law_same F g g_list g_tuple g_isinstance g_len g_zip g_all g_str g_bool g_int 8)
theorem fn__law_beyond (F : FnP K "_law_beyond" s__law_beyond f fd) (g : mg "_law_beyond" = some (.ref f)) (g_range : mg "range" = none) (g_tuple : mg "tuple" = none) (C__law_take : Cal P w K mg base "_law_take" ["_law_box_here", "_law_many"] 1 m_law_take) : FnOk P w K mg base CX0 2 f fd ["_law_box_here"] (spM 1 m_law_beyond) := fnD_ok (k := 1) F sc__law_beyond fun cdv A outer s H E hr =>
    (ss_cons (ss_unp (T := (.tp [1, 2])) (se_tup (sa_cons (se_add se_int (se_callC C__law_take hr (sa_cons (se_var 0) (sa_cons se_int sa_nil)) (len_cons (len_cons len_nil)))) (sa_cons (se_callC C__law_take hr (sa_cons (se_var 0) (sa_cons se_int sa_nil)) (len_cons (len_cons len_nil))) sa_nil))) (pg_tup rfl (pgs_cons (pg_name (i := 1) sc__law_beyond.nd rfl (by first | exact Or.inl rfl | exact Or.inr rfl)) (pgs_cons (pg_name (i := 2) sc__law_beyond.nd rfl (by first | exact Or.inl rfl | exact Or.inr rfl)) pgs_nil))))
      (ss_cons (ss_lc 4 [("_law_house", 3)] rfl sc__law_beyond.nd rfl (sw_true rfl rfl rfl (by decide +kernel)) (si_range1 g_range (se_var 1)) (blkOk_by (N := N__law_beyond) (sc := defScope s__law_beyond) (by decide +kernel)) (fun _ _ _ _ _ => (pg_name (i := 3) sc__law_beyond.nd rfl (by first | exact Or.inl rfl | exact Or.inr rfl))) (fun _ _ _ _ _ => (se_mulT (se_tup (sa_cons (se_var 2) sa_nil)) (se_callC C__law_take hr (sa_cons (se_var 0) (sa_cons se_int sa_nil)) (len_cons (len_cons len_nil))))))
      (ss_cons (ss_set 5 sc__law_beyond.nd (se_lst sa_nil))
      (ss_cons (ss_for rfl PassesOwn.never (sj_range2 g_range se_int (se_var 1)) (pg_name (i := 3) sc__law_beyond.nd rfl (by first | exact Or.inl rfl | exact Or.inr rfl)) (ss_cons (ss_set 6 sc__law_beyond.nd (se_callC C__law_take hr (sa_cons (se_var 0) (sa_cons (se_var 3) sa_nil)) (len_cons (len_cons len_nil))))
      (ss_one (ss_append 5 (se_tup (sa_cons (se_var 6) (sa_cons (se_var 3) (sa_cons (se_add se_int (se_callC C__law_take hr (sa_cons (se_var 0) (sa_cons se_int sa_nil)) (len_cons (len_cons len_nil)))) (sa_cons (se_tup (sa_cons (se_var 2) sa_nil)) (sa_cons (se_add se_int (se_callC C__law_take hr (sa_cons (se_var 0) (sa_cons se_int sa_nil)) (len_cons (len_cons len_nil)))) sa_nil))))))))))
      (ss_one (ss_ret (se_tup (sa_cons (se_Ty call_tuple_of v_tuple g_tuple (sa_cons (se_var 4) sa_nil)) (sa_cons (se_Ty call_tuple_of v_tuple g_tuple (sa_cons (se_var 5) sa_nil)) sa_nil)))))))))
theorem ok__law_beyond (F : FnP K "_law_beyond" s__law_beyond f fd) (g : mg "_law_beyond" = some (.ref f)) (g_range : mg "range" = none) (g_tuple : mg "tuple" = none) (C__law_take : Cal P w K mg base "_law_take" ["_law_box_here", "_law_many"] 1 m_law_take) : Cal P w K mg base "_law_beyond" ["_law_box_here"] 2 m_law_beyond := cal_mk F g (FunD.bindsN F fun _ _ _ _ _ _ us hl => match us, hl with | [_], _ => rfl) (fn__law_beyond F g g_range g_tuple C__law_take)
theorem fn_law (F : FnP K "law" s_law f fd) (g : mg "law" = some (.ref f)) (hK : K = HasK.K) (g_len : mg "len" = none) (g_min : mg "min" = none) (g_range : mg "range" = none) (C__law_box : Cal P w K mg base "_law_box" ["_law_script", "_law_k"] 1 m_law_box) (C__law_weaving : Cal P w K mg base "_law_weaving" ["_law_box_here"] 4 m_law_weaving) (C__law_beyond : Cal P w K mg base "_law_beyond" ["_law_box_here"] 2 m_law_beyond) (C__law_rows_written : Cal P w K mg base "_law_rows_written" ["_law_weaving_here"] 1 m_law_rows_written) (C_weaving_from : Cal P w K mg base "weaving_from" ["text"] 6 m_weaving_from) (C__law_same : Cal P w K mg base "_law_same" ["_law_found", "_law_due"] 8 m_law_same) (C_is_weaving : Cal P w K mg base "is_weaving" ["thing"] 5 m_is_weaving) (C_weaving_text : Cal P w K mg base "weaving_text" ["weaving"] 2 m_weaving_text) : RunG P w K mg base callerA f fd ["_law_script"] (spM 1 m_law) := runG_m (k := 8) F sc_law ⟨rfl, by decide, by decide⟩ fun cdv outer s H E hr =>
    (ss_cons (ss_for rfl PassesOwn.never (sj_range1 g_range (se_add se_int (se_B (call_min2 rfl) v_min2 g_min (sa_cons se_int (sa_cons (se_B (call_lenZ hK) v_lenZ g_len (sa_cons (se_var 0) sa_nil)) sa_nil))))) (pg_name (i := 1) sc_law.nd rfl (by first | exact Or.inl rfl | exact Or.inr rfl)) (ss_cons (ss_set 2 sc_law.nd (se_al (se_callC C__law_box hr (sa_cons (se_var 0) (sa_cons (se_var 1) sa_nil)) (len_cons (len_cons len_nil)))))
      (ss_one (ss_for rfl PassesOwn.never (sj_e (se_tup (sa_cons (se_callC C__law_weaving hr (sa_cons (se_var 2) sa_nil) (len_cons len_nil)) (sa_cons (se_callC C__law_beyond hr (sa_cons (se_var 2) sa_nil) (len_cons len_nil)) sa_nil)))) (pg_name (i := 3) sc_law.nd rfl (by first | exact Or.inl rfl | exact Or.inr rfl)) (ss_cons (ss_set 4 sc_law.nd (se_join se_str (se_callC C__law_rows_written hr (sa_cons (se_var 3) sa_nil) (len_cons len_nil))))
      (ss_one (ss_for rfl PassesOwn.never (sj_range1 g_range se_int) (pg_name (i := 5) sc_law.nd rfl (by first | exact Or.inl rfl | exact Or.inr rfl)) (ss_cons (ss_set 6 sc_law.nd (se_callC C_weaving_from hr (sa_cons (se_var 4) sa_nil) (len_cons len_nil)))
      (ss_one (ss_if (st_w (sw_or (st_not (st_tru (se_callC C__law_same hr (sa_cons (se_var 6) (sa_cons (se_var 3) sa_nil)) (len_cons (len_cons len_nil))))) (sw_or (st_isnt (se_callC C_is_weaving hr (sa_cons (se_var 6) sa_nil) (len_cons len_nil)) se_bl) (sw_or1 (st_ne (u64 hr) (se_callC C_weaving_text hr (sa_cons (se_var 6) sa_nil) (len_cons len_nil)) (se_var 4)))))) (ss_one (ss_ret se_bl)) ss_nil))))))))))
      (ss_one (ss_ret se_bl)))
end
end K56
set_option Elab.async false
set_option linter.all false
set_option maxRecDepth 100000
set_option maxHeartbeats 2000000
namespace K56
open PySem PySem.Spec PyProof.Rows L2 NL
local macro_rules | `(tactic| walk_at "px") => `(tactic| first
  | with_reducible refine' Eq.mpr w_m2 ?_
  | with_reducible refine' i_c ?_
  | ((with_reducible refine' i_varV ?_); refine ⟨_, rfl, ?_⟩)
  | ((with_reducible refine' i_varO ?_); refine ⟨_, rfl, ?_⟩)
  | ((with_reducible refine' i_varL ?_); refine ⟨_, rfl, ?_⟩)
  | ((with_reducible refine' i_varZ ?_); refine ⟨_, rfl, ?_⟩)
  | with_reducible refine' i_plus ?_
  | with_reducible refine' i_sub ?_
  | with_reducible refine' i_lt ?_
  | with_reducible refine' i_le ?_
  | with_reducible refine' i_gt ?_
  | with_reducible refine' i_ge ?_
  | with_reducible refine' Eq.mpr w_acons ?_
  | with_reducible refine' Eq.mpr w_anil ?_
  | with_reducible refine' Eq.mpr w_B ?_
  | with_reducible refine' Eq.mpr w_call ?_
  | with_reducible refine' Eq.mpr w_tup ?_
  | with_reducible refine' Eq.mpr w_lst ?_
  | with_reducible refine' Eq.mpr w_neg ⟨?_, ?_⟩
  | with_reducible refine' Eq.mpr w_an ?_
  | with_reducible refine' Eq.mpr w_oo ?_
  | with_reducible refine' Eq.mpr w_no ?_
  | with_reducible refine' Eq.mpr w_if ?_
  | with_reducible refine' Eq.mpr w_tst ?_
  | with_reducible refine' Eq.mpr w_tru ?_
  | with_reducible refine' Eq.mpr w_tno ?_
  | with_reducible refine' Eq.mpr w_tan ?_
  | with_reducible refine' Eq.mpr w_too ?_
  | with_reducible refine' Eq.mpr w_al ?_
  | with_reducible refine' Eq.mpr w_sl ?_
  | with_reducible refine' Eq.mpr w_onone ?_
  | with_reducible refine' Eq.mpr w_osome ?_
  | with_reducible refine' Eq.mpr w_chain ?_
  | with_reducible refine' Eq.mpr w_seq ?_
  | with_reducible refine' Eq.mpr w_snil ?_
  | with_reducible refine' Eq.mpr w_sif ?_
  | with_reducible refine' Eq.mpr w_ret ?_
  | with_reducible refine' Eq.mpr w_set ?_
  | with_reducible refine' Eq.mpr w_drop ?_
  | with_reducible refine' Eq.mpr w_unp ?_
  | with_reducible refine' Eq.mpr w_par ?_
  | with_reducible refine' Eq.mpr w_put ?_
  | with_reducible refine' Eq.mpr w_vcons ?_
  | with_reducible refine' Eq.mpr w_vnil ?_
  | with_reducible refine' Eq.mpr w_sacons ?_
  | with_reducible refine' Eq.mpr w_sanil ?_
  | with_reducible refine' Eq.mpr w_asgT ?_
  | with_reducible refine' Eq.mpr w_asgN ?_
  | with_reducible refine' Eq.mpr thenS_nx ?_
  | with_reducible refine' Eq.mpr thenS_rt ?_
  | with_reducible refine' Eq.mpr endF_rt ?_
  | with_reducible refine' Eq.mpr endF_nx ?_
  | with_reducible refine' Eq.mpr lea_v ?_
  | with_reducible refine' Eq.mpr lea_o ?_
  | with_reducible refine' Eq.mpr isV_v ?_
  | ((with_reducible refine' i_ixT ?_); refine ⟨_, rfl, ?_⟩)
  | ((with_reducible refine' i_ixO ?_); refine ⟨_, rfl, ?_⟩)
  | ((with_reducible refine' i_ixL ?_); refine ⟨_, rfl, ?_⟩)
  | ((with_reducible refine' i_ixR ?_); refine ⟨_, _, by assumption, rfl, ?_⟩)
  | with_reducible refine' i_lenT ?_
  | with_reducible refine' i_lenL ?_
  | with_reducible refine' i_lenO ?_
  | with_reducible refine' i_lenZ ?_
  | with_reducible refine' i_abs ?_
  | with_reducible refine' i_min2 ?_
  | with_reducible refine' i_max2 ?_
  | with_reducible refine' i_intB ?_
  | with_reducible refine' i_tupO ?_
  | with_reducible refine' i_tupL ?_
  | with_reducible refine' i_listT ?_
  | with_reducible refine' i_slT ?_
  | ((with_reducible refine' i_isi ?_); refine ⟨_, rfl, ?_⟩)
  | with_reducible refine' i_sset ?_
  | with_reducible refine ite_t ?_
  | with_reducible refine ite_f ?_
  | with_reducible refine ⟨_, rfl, ?_⟩)
theorem get_set {h : Hh} {p : Nat} {o o' : Ob} (e : h[p]? = some o) : (h.set p o')[p]? = some o' := List.getElem?_set_self (List.getElem?_eq_some_iff.mp e).1
theorem prime_at {n : Int} (h0 : 0 ≤ n) : ∃ pr, atI [Val.int 2147483647, .int 2147483629, .int 2147483587, .int 2147483579, .int 2147483563, .int 2147483549, .int 2147483543] (n % 7) = some (.int pr) ∧ 2147483543 ≤ pr ∧ pr ≤ 2147483647 := by
  have h1 : 0 ≤ n % 7 := Int.emod_nonneg _ (by decide)
  have h2 : n % 7 < 7 := Int.emod_lt_of_pos _ (by decide)
  generalize n % 7 = k at h1 h2
  have : k = 0 ∨ k = 1 ∨ k = 2 ∨ k = 3 ∨ k = 4 ∨ k = 5 ∨ k = 6 := by omega
  rcases this with rfl | rfl | rfl | rfl | rfl | rfl | rfl <;> exact ⟨_, rfl, by decide, by decide⟩
theorem sm {i : Int} (h1 : -(2 ^ 64) < i) (h2 : i < 2 ^ 64) : NL.small64 i = true := by
  unfold NL.small64; simp only [Bool.and_eq_true, decide_eq_true_eq]; exact ⟨h1, h2⟩
theorem take_ok {h : Hh} {p : Nat} {g c n many : Int} {Q : QE} (hb : h[p]? = some (.lst [.int g, .int c, .int n])) (hg : 0 ≤ g) (hn : 0 ≤ n) (hn2 : n < 1000000000) (hm : 1 ≤ many) (hm2 : many < 1000000)
    (q : ∀ r g', 0 ≤ r → r < many → 0 ≤ g' → Q (.v (.int r)) (h.set p (.lst [.int g', .int c, .int (n + 1)]))) : wF m_law_take [.v (.ref p), .v (.int many)] h Q := by
  unfold m_law_take
  refine i_def [some (.v (.ref p)), some (.v (.int many)), none, none, none] rfl rfl ?_
  unfold b_law_take
  repeat walk_at "px"
  refine ⟨p, 2, _, 2, rfl, rfl, hb, rfl, ?_⟩
  have hb1 : (h.set p (.lst [.int g, .int c, .int (n + 1)]))[p]? = some (.lst [.int g, .int c, .int (n + 1)]) := get_set hb
  show thenS _ _ Fl.nx _ (h.set p (.lst [.int g, .int c, .int (n + 1)]))
  generalize hh : h.set p (.lst [.int g, .int c, .int (n + 1)]) = h1 at hb1
  repeat walk_at "px"
  refine ite_c (fun e => ?_) (fun e => ?_)
  · have hg0 : 0 < g := of_decide_eq_true e
    repeat walk_at "px"
    refine i_mod (by omega) ?_
    repeat walk_at "px"
    refine i_div (by omega) (by omega) ?_
    repeat walk_at "px"
    refine ⟨p, 0, _, 0, rfl, rfl, hb1, rfl, ?_⟩
    repeat walk_at "px"
    subst hh
    rw [List.set_set]
    exact q _ _ (Int.emod_nonneg _ (by omega)) (Int.emod_lt_of_pos _ (by omega)) (Int.ediv_nonneg hg (by omega))
  · have hg0 : ¬ 0 < g := of_decide_eq_false e
    have eg : g = 0 := by omega
    repeat walk_at "px"
    refine ⟨by decide, ?_⟩
    repeat walk_at "px"
    refine i_mod (by decide) ?_
    obtain ⟨pr, ep, p1, p2⟩ := prime_at (n := n + 1) (by omega)
    refine i_ixO ⟨_, ep, ?_⟩
    repeat walk_at "px"
    refine i_mod (by omega) ?_
    have c1 : 0 ≤ c % pr := Int.emod_nonneg _ (by omega)
    have c2 : c % pr < pr := Int.emod_lt_of_pos _ (by omega)
    generalize c % pr = cm at c1 c2
    repeat walk_at "px"
    refine i_times (by rw [sm (by omega) (by omega)]; rfl) ?_
    repeat walk_at "px"
    refine i_times (by rw [sm (i := 7919) (by decide) (by decide), Bool.or_true]) ?_
    repeat walk_at "px"
    refine i_times (by rw [sm (i := 48271) (by decide) (by decide), Bool.or_true]) ?_
    repeat walk_at "px"
    refine i_mod (by omega) ?_
    generalize ez : (cm + (n + 1) * (n + 1) * 7919 + 11) * 48271 = z
    have z1 : 0 ≤ z % pr := Int.emod_nonneg _ (by omega)
    have z2 : z % pr < pr := Int.emod_lt_of_pos _ (by omega)
    generalize z % pr = y at z1 z2
    repeat walk_at "px"
    refine i_pow (by decide) (by decide) (by omega) ?_
    repeat walk_at "px"
    refine i_mod (by omega) ?_
    generalize (y ^ Int.toNat 3) = y3
    have w1 : 0 ≤ y3 % pr := Int.emod_nonneg _ (by omega)
    have w2 : y3 % pr < pr := Int.emod_lt_of_pos _ (by omega)
    generalize y3 % pr = u at w1 w2
    repeat walk_at "px"
    refine i_times (by rw [sm (by omega) (by omega)]; rfl) ?_
    repeat walk_at "px"
    refine i_mod (by decide) ?_
    generalize (u * (39373 + (n + 1))) % 1999999973 = t
    repeat walk_at "px"
    refine i_div (by decide) (by decide) ?_
    repeat walk_at "px"
    refine i_mod (by omega) ?_
    repeat walk_at "px"
    subst hh
    exact q _ _ (Int.emod_nonneg _ (by omega)) (Int.emod_lt_of_pos _ (by omega)) hg
end K56
set_option Elab.async false
set_option linter.all false
set_option maxRecDepth 100000
set_option maxHeartbeats 2000000
namespace K56
open PySem PySem.Spec PyProof.Rows L2 NL
local macro_rules | `(tactic| walk_at "px") => `(tactic| first
  | with_reducible refine' Eq.mpr w_m2 ?_
  | with_reducible refine' i_c ?_
  | ((with_reducible refine' i_varV ?_); refine ⟨_, rfl, ?_⟩)
  | ((with_reducible refine' i_varO ?_); refine ⟨_, rfl, ?_⟩)
  | ((with_reducible refine' i_varL ?_); refine ⟨_, rfl, ?_⟩)
  | ((with_reducible refine' i_varZ ?_); refine ⟨_, rfl, ?_⟩)
  | with_reducible refine' i_plus ?_
  | with_reducible refine' i_sub ?_
  | with_reducible refine' i_lt ?_
  | with_reducible refine' i_le ?_
  | with_reducible refine' i_gt ?_
  | with_reducible refine' i_ge ?_
  | with_reducible refine' Eq.mpr w_acons ?_
  | with_reducible refine' Eq.mpr w_anil ?_
  | with_reducible refine' Eq.mpr w_B ?_
  | with_reducible refine' Eq.mpr w_call ?_
  | with_reducible refine' Eq.mpr w_tup ?_
  | with_reducible refine' Eq.mpr w_lst ?_
  | with_reducible refine' Eq.mpr w_neg ?_
  | with_reducible refine' Eq.mpr w_an ?_
  | with_reducible refine' Eq.mpr w_oo ?_
  | with_reducible refine' Eq.mpr w_no ?_
  | with_reducible refine' Eq.mpr w_if ?_
  | with_reducible refine' Eq.mpr w_tst ?_
  | with_reducible refine' Eq.mpr w_tru ?_
  | with_reducible refine' i_truB ?_
  | with_reducible refine' Eq.mpr w_tno ?_
  | with_reducible refine' Eq.mpr w_tan ?_
  | with_reducible refine' Eq.mpr w_too ?_
  | with_reducible refine' Eq.mpr w_al ?_
  | with_reducible refine' Eq.mpr w_sl ?_
  | with_reducible refine' Eq.mpr w_onone ?_
  | with_reducible refine' Eq.mpr w_osome ?_
  | with_reducible refine' Eq.mpr w_chain ?_
  | with_reducible refine' Eq.mpr w_seq ?_
  | with_reducible refine' Eq.mpr w_snil ?_
  | with_reducible refine' Eq.mpr w_sif ?_
  | with_reducible refine' Eq.mpr w_ret ?_
  | with_reducible refine' Eq.mpr w_set ?_
  | with_reducible refine' Eq.mpr w_drop ?_
  | with_reducible refine' Eq.mpr w_unp ?_
  | with_reducible refine' Eq.mpr w_par ?_
  | with_reducible refine' Eq.mpr w_put ?_
  | with_reducible refine' Eq.mpr w_vcons ?_
  | with_reducible refine' Eq.mpr w_vnil ?_
  | with_reducible refine' Eq.mpr w_sacons ?_
  | with_reducible refine' Eq.mpr w_sanil ?_
  | with_reducible refine' Eq.mpr w_asgT ?_
  | with_reducible refine' Eq.mpr w_asgN ?_
  | ((with_reducible refine' Eq.mpr thenS_nx ?_); try dsimp only [List.set_cons_succ, List.set_cons_zero])
  | with_reducible refine' Eq.mpr thenS_rt ?_
  | with_reducible refine' Eq.mpr endF_rt ?_
  | with_reducible refine' Eq.mpr endF_nx ?_
  | with_reducible refine' Eq.mpr lea_v ?_
  | with_reducible refine' Eq.mpr lea_o ?_
  | with_reducible refine' Eq.mpr isV_v ?_
  | ((with_reducible refine' i_ixT ?_); refine ⟨_, rfl, ?_⟩)
  | ((with_reducible refine' i_ixO ?_); refine ⟨_, rfl, ?_⟩)
  | ((with_reducible refine' i_ixL ?_); refine ⟨_, rfl, ?_⟩)
  | ((with_reducible refine' i_ixR ?_); refine ⟨_, _, by assumption, rfl, ?_⟩)
  | with_reducible refine' i_lenT ?_
  | with_reducible refine' i_lenL ?_
  | with_reducible refine' i_lenO ?_
  | with_reducible refine' i_lenZ ?_
  | with_reducible refine' i_abs ?_
  | with_reducible refine' i_min2 ?_
  | with_reducible refine' i_max2 ?_
  | with_reducible refine' i_intB ?_
  | with_reducible refine' i_tupO ?_
  | with_reducible refine' i_tupL ?_
  | with_reducible refine' i_listT ?_
  | with_reducible refine' i_slT ?_
  | ((with_reducible refine' i_isi ?_); refine ⟨_, rfl, ?_⟩)
  | with_reducible refine' i_sset ?_
  | with_reducible refine ite_t ?_
  | with_reducible refine ite_f ?_
  | with_reducible refine ⟨_, rfl, ?_⟩)

/-- the heap h0 with a box at p, of which at most N have been taken -/
def St (h0 : Hh) (p : Nat) (N : Int) (h : Hh) : Prop := ∃ g c n, h = h0.set p (.lst [.int g, .int c, .int n]) ∧ p < h0.length ∧ 0 ≤ g ∧ 0 ≤ n ∧ n ≤ N
theorem St.le {h0 : Hh} {p : Nat} {N M : Int} {h : Hh} (k : St h0 p N h) (e : N ≤ M) : St h0 p M h := by
  obtain ⟨g, c, n, e1, e2, e3, e4, e5⟩ := k
  exact ⟨g, c, n, e1, e2, e3, e4, by omega⟩
theorem take_st {h0 h : Hh} {p : Nat} {N many : Int} {Q : QE} (k : St h0 p N h) (hN : N < 1000000000) (hm : 1 ≤ many) (hm2 : many < 1000000)
    (q : ∀ r h', 0 ≤ r → r < many → St h0 p (N + 1) h' → Q (.v (.int r)) h') : wF m_law_take [.v (.ref p), .v (.int many)] h Q := by
  obtain ⟨g, c, n, rfl, e2, e3, e4, e5⟩ := k
  refine take_ok (List.getElem?_set_self e2) e3 e4 (by omega) hm hm2 fun r g' h1 h2 h3 => ?_
  rw [List.set_set]
  exact q _ _ h1 h2 ⟨g', c, n + 1, rfl, e2, h3, by omega, by omega⟩
theorem at_ints {gs : List Int} {r : Int} (h0 : 0 ≤ r) (h1 : r < gs.length) : ∃ g, atI (gs.map Val.int) r = some (.int g) ∧ g ∈ gs := by
  obtain ⟨k, rfl⟩ := Int.eq_ofNat_of_zero_le h0
  have hk : k < gs.length := by omega
  exact ⟨gs[k], atI_nat (by rw [List.getElem?_map, List.getElem?_eq_getElem hk]; rfl), List.getElem_mem hk⟩
theorem at_list {α : Type} {xs : List α} {r : Int} (h0 : 0 ≤ r) (h1 : r < xs.length) : ∃ g, atI xs r = some g ∧ g ∈ xs := by
  obtain ⟨k, rfl⟩ := Int.eq_ofNat_of_zero_le h0
  have hk : k < xs.length := by omega
  exact ⟨xs[k], atI_nat (List.getElem?_eq_getElem hk), List.getElem_mem hk⟩
/-- groups from 0 to 7 -/
def G8 (gs : List Int) : Prop := ∀ g ∈ gs, 0 ≤ g ∧ g < 8
theorem rise_short {l : List Int} (h : l.Pairwise (· < ·)) (g : G8 l) : l.length ≤ 8 := by
  have key : ∀ (l : List Int) (a : Int), l.Pairwise (· < ·) → (∀ x ∈ l, a ≤ x ∧ x < 8) → (l.length : Int) ≤ max 0 (8 - a) := by
    intro l
    induction l with
    | nil => intro a _ _; simp; omega
    | cons x xs ih =>
      intro a hp hx
      rw [List.pairwise_cons] at hp
      have h1 := hx x (List.mem_cons_self ..)
      have h2 := ih (x + 1) hp.2 fun y hy => ⟨by have := hp.1 y hy; omega, (hx y (List.mem_cons_of_mem _ hy)).2⟩
      rw [List.length_cons]
      omega
  have := key l 0 h fun x hx => g x hx
  omega
theorem G8.sset {gs : List Int} (g : G8 gs) : G8 (sset gs) := fun x hx => g x (sset_mem.mp hx)
theorem sset_ne {gs : List Int} (g : gs ≠ []) : sset gs ≠ [] := by
  obtain ⟨x, xs, rfl⟩ := List.exists_cons_of_ne_nil g
  intro e
  have : x ∈ sset (x :: xs) := sset_mem.mpr (List.mem_cons_self ..)
  rw [e] at this; simp at this
theorem map_int_append {a b : List Int} : a.map Val.int ++ b.map Val.int = (a ++ b).map Val.int := by simp
theorem groups_ok {h0 h : Hh} {p : Nat} {N : Int} {gs : List Int} {Q : QE} (k : St h0 p N h) (hN : N < 900000000) (g8 : G8 gs) (hne : gs ≠ []) (hl : gs.length ≤ 1000)
    (q : ∀ rs h', rs ≠ [] → G8 rs → rs.Pairwise (· < ·) → St h0 p (N + 12) h' → Q (.v (.tup (rs.map .int))) h') : wF m_law_some_groups [.v (.ref p), .l (gs.map .int)] h Q := by
  have hlen : 1 ≤ (gs.length : Int) := by
    have := List.length_pos_iff.mpr hne
    omega
  unfold m_law_some_groups
  refine i_def [some (.v (.ref p)), some (.l (gs.map .int)), none, none, none] rfl rfl ?_
  unfold b_law_some_groups
  repeat walk_at "px"
  refine take_st k (by omega) (by decide) (by decide) fun way h1 w1 w2 k1 => ?_
  repeat walk_at "px"
  refine take_st k1 (by omega) (by rw [List.length_map]; omega) (by rw [List.length_map]; omega) fun r h2 r1 r2 k2 => ?_
  obtain ⟨g, eg, mg⟩ := at_ints r1 (by rw [List.length_map] at r2; exact r2)
  refine i_ixL ⟨_, eg, ?_⟩
  repeat walk_at "px"
  refine ite_c (fun e => ?_) (fun e => ?_)
  · repeat walk_at "px"
    refine ⟨_, gs, rfl, mapO_int_map gs, by omega, ?_, ?_⟩
    · have := rise_short (sset_pw gs) g8.sset
      omega
    · repeat walk_at "px"
      exact q _ _ (sset_ne hne) g8.sset (sset_pw gs) (k2.le (by omega))
  · repeat walk_at "px"
    refine i_eqI ?_
    repeat walk_at "px"
    refine ite_c (fun e => ?_) (fun e => ?_)
    · repeat walk_at "px"
      refine ⟨by simp, ?_⟩
      repeat walk_at "px"
      exact q [g] _ (by simp) (fun x hx => by simp at hx; subst hx; exact g8 _ mg) (by simp) (k2.le (by omega))
    · repeat walk_at "px"
      refine ⟨by simp, ?_⟩
      refine i_lcR ?_
      repeat walk_at "px"
      refine ⟨by decide, by decide, ?_⟩
      refine lc_inv (by decide) (fun i acc h' => (∃ as : List Int, acc = as.map .int ∧ G8 as ∧ as.length ≤ i) ∧ St h0 p (N + 2 + i) h') ⟨⟨[], rfl, fun x hx => by simp at hx, by simp⟩, k2.le (by omega)⟩ ?_ ?_
      · rintro i v acc h' ev hlen' ⟨⟨as, rfl, ga, la⟩, k3⟩
        have hi : i < 8 := by
          have := (List.getElem?_eq_some_iff.mp ev).1
          simpa using this
        have ev2 : v = .int i := by
          rw [List.getElem?_map, List.getElem?_range (by simpa using hi)] at ev
          simp at ev
          exact ev.symm
        subst ev2
        refine ⟨_, rfl, ?_⟩
        repeat walk_at "px"
        refine take_st k3 (by omega) (by decide) (by decide) fun z h4 z1 z2 k4 => ?_
        repeat walk_at "px"
        refine i_eqI ?_
        repeat walk_at "px"
        refine ite_c (fun e => ?_) (fun e => ?_)
        · repeat walk_at "px"
          refine ⟨⟨as ++ [(i : Int)], by simp, fun x hx => ?_, by simp; omega⟩, k4.le (by omega)⟩
          rcases List.mem_append.mp hx with hx | hx
          · exact ga x hx
          · simp at hx; subst hx; omega
        · exact ⟨⟨as, rfl, ga, by omega⟩, k4.le (by omega)⟩
      · rintro acc h' hacc ⟨⟨as, rfl, ga, la⟩, k3⟩
        have la8 : as.length ≤ 8 := by simpa using la
        refine i_plusOO (by simp; omega) ?_
        have e1 : ([Val.int g] ++ as.map Val.int) = (g :: as).map Val.int := by simp
        have gg : G8 (g :: as) := fun x hx => by
          rcases List.mem_cons.mp hx with rfl | hx
          · exact g8 _ mg
          · exact ga x hx
        refine ⟨_, g :: as, rfl, by rw [e1]; exact mapO_int_map _, by simp; omega, ?_, ?_⟩
        · have := rise_short (sset_pw (g :: as)) gg.sset
          omega
        · repeat walk_at "px"
          exact q _ _ (sset_ne (by simp)) gg.sset (sset_pw _) (k3.le (by simp; omega))

end K56
set_option Elab.async false
set_option linter.all false
set_option maxRecDepth 100000
set_option maxHeartbeats 2000000
namespace K56
open PySem PySem.Spec PyProof.Rows L2 NL
local macro_rules | `(tactic| walk_at "px") => `(tactic| first
  | with_reducible refine' Eq.mpr w_m2 ?_
  | with_reducible refine' i_c ?_
  | ((with_reducible refine' i_varV ?_); refine ⟨_, rfl, ?_⟩)
  | ((with_reducible refine' i_varO ?_); refine ⟨_, rfl, ?_⟩)
  | ((with_reducible refine' i_varL ?_); refine ⟨_, rfl, ?_⟩)
  | ((with_reducible refine' i_varZ ?_); refine ⟨_, rfl, ?_⟩)
  | with_reducible refine' i_plus ?_
  | with_reducible refine' i_sub ?_
  | with_reducible refine' i_lt ?_
  | with_reducible refine' i_le ?_
  | with_reducible refine' i_gt ?_
  | with_reducible refine' i_ge ?_
  | with_reducible refine' Eq.mpr w_acons ?_
  | with_reducible refine' Eq.mpr w_anil ?_
  | with_reducible refine' Eq.mpr w_B ?_
  | with_reducible refine' Eq.mpr w_call ?_
  | with_reducible refine' Eq.mpr w_tup ?_
  | with_reducible refine' Eq.mpr w_lst ?_
  | with_reducible refine' Eq.mpr w_neg ?_
  | with_reducible refine' Eq.mpr w_an ?_
  | with_reducible refine' Eq.mpr w_oo ?_
  | with_reducible refine' Eq.mpr w_no ?_
  | with_reducible refine' Eq.mpr w_if ?_
  | with_reducible refine' Eq.mpr w_tst ?_
  | with_reducible refine' Eq.mpr w_tru ?_
  | with_reducible refine' i_truB ?_
  | with_reducible refine' Eq.mpr w_tno ?_
  | with_reducible refine' Eq.mpr w_tan ?_
  | with_reducible refine' Eq.mpr w_too ?_
  | with_reducible refine' Eq.mpr w_al ?_
  | with_reducible refine' Eq.mpr w_sl ?_
  | with_reducible refine' Eq.mpr w_onone ?_
  | with_reducible refine' Eq.mpr w_osome ?_
  | with_reducible refine' Eq.mpr w_chain ?_
  | with_reducible refine' Eq.mpr w_seq ?_
  | with_reducible refine' Eq.mpr w_snil ?_
  | with_reducible refine' Eq.mpr w_sif ?_
  | with_reducible refine' Eq.mpr w_ret ?_
  | with_reducible refine' Eq.mpr w_set ?_
  | with_reducible refine' Eq.mpr w_drop ?_
  | with_reducible refine' Eq.mpr w_unp ?_
  | with_reducible refine' Eq.mpr w_par ?_
  | with_reducible refine' Eq.mpr w_put ?_
  | with_reducible refine' Eq.mpr w_vcons ?_
  | with_reducible refine' Eq.mpr w_vnil ?_
  | with_reducible refine' Eq.mpr w_sacons ?_
  | with_reducible refine' Eq.mpr w_sanil ?_
  | with_reducible refine' Eq.mpr w_asgT ?_
  | with_reducible refine' Eq.mpr w_asgN ?_
  | ((with_reducible refine' Eq.mpr thenS_nx ?_); try dsimp only [List.set_cons_succ, List.set_cons_zero])
  | with_reducible refine' Eq.mpr thenS_rt ?_
  | with_reducible refine' Eq.mpr endF_rt ?_
  | with_reducible refine' Eq.mpr endF_nx ?_
  | with_reducible refine' Eq.mpr lea_v ?_
  | with_reducible refine' Eq.mpr lea_o ?_
  | with_reducible refine' Eq.mpr isV_v ?_
  | ((with_reducible refine' i_ixT ?_); refine ⟨_, rfl, ?_⟩)
  | ((with_reducible refine' i_ixO ?_); refine ⟨_, rfl, ?_⟩)
  | ((with_reducible refine' i_ixL ?_); refine ⟨_, rfl, ?_⟩)
  | ((with_reducible refine' i_ixR ?_); refine ⟨_, _, by assumption, rfl, ?_⟩)
  | with_reducible refine' i_lenT ?_
  | with_reducible refine' i_lenL ?_
  | with_reducible refine' i_lenO ?_
  | with_reducible refine' i_lenZ ?_
  | with_reducible refine' i_abs ?_
  | with_reducible refine' i_min2 ?_
  | with_reducible refine' i_max2 ?_
  | with_reducible refine' i_intB ?_
  | with_reducible refine' i_tupO ?_
  | with_reducible refine' i_tupL ?_
  | with_reducible refine' i_listT ?_
  | with_reducible refine' i_slT ?_
  | ((with_reducible refine' i_isi ?_); refine ⟨_, rfl, ?_⟩)
  | with_reducible refine' i_sset ?_
  | with_reducible refine ite_t ?_
  | with_reducible refine ite_f ?_
  | with_reducible refine ⟨_, rfl, ?_⟩)

def LineV (many : Int) (v : Val) : Prop := ∃ (one other cost : Int) (gs : List Int) (strands : Int), v = .tup [.int one, .int other, .int cost, .tup (gs.map .int), .int strands] ∧ 0 ≤ one ∧ one < other ∧ other < many ∧ 1 ≤ cost ∧ cost ≤ 99 ∧ gs ≠ [] ∧ G8 gs ∧ gs.Pairwise (· < ·) ∧ 1 ≤ strands ∧ strands ≤ 4
def HouseV (v : Val) : Prop := ∃ gs : List Int, v = .tup (gs.map .int) ∧ G8 gs ∧ gs.length ≤ 6
theorem at4 {a b c d r : Int} (h0 : 0 ≤ r) (h1 : r < 4) : ∃ k, atI [Val.int a, .int b, .int c, .int d] r = some (.int k) ∧ (k = a ∨ k = b ∨ k = c ∨ k = d) := by
  have : r = 0 ∨ r = 1 ∨ r = 2 ∨ r = 3 := by omega
  rcases this with rfl | rfl | rfl | rfl
  · exact ⟨a, rfl, .inl rfl⟩
  · exact ⟨b, rfl, .inr (.inl rfl)⟩
  · exact ⟨c, rfl, .inr (.inr (.inl rfl))⟩
  · exact ⟨d, rfl, .inr (.inr (.inr rfl))⟩
theorem at2 {a b r : Int} (h0 : 0 ≤ r) (h1 : r < 2) : ∃ k, atI [Val.int a, .int b] r = some (.int k) ∧ (k = a ∨ k = b) := by
  have : r = 0 ∨ r = 1 := by omega
  rcases this with rfl | rfl
  · exact ⟨a, rfl, .inl rfl⟩
  · exact ⟨b, rfl, .inr rfl⟩
theorem line_ok {h0 h : Hh} {p : Nat} {N many : Int} {gs : List Int} {Q : QE} (k : St h0 p N h) (hN : N < 800000000) (hm : 2 ≤ many) (hm2 : many ≤ 1000) (g8 : G8 gs) (hne : gs ≠ []) (hl : gs.length ≤ 1000)
    (q : ∀ v h', LineV many v → St h0 p (N + 20) h' → Q (.v v) h') : wF m_law_line [.v (.ref p), .v (.int many), .l (gs.map .int)] h Q := by
  unfold m_law_line
  refine i_def [some (.v (.ref p)), some (.v (.int many)), some (.l (gs.map .int)), none, none, none, none] rfl rfl ?_
  unfold b_law_line
  repeat walk_at "px"
  refine take_st k (by omega) (by omega) (by omega) fun one h1 a1 a2 k1 => ?_
  repeat walk_at "px"
  refine take_st k1 (by omega) (by omega) (by omega) fun oth h2 b1 b2 k2 => ?_
  repeat walk_at "px"
  refine ⟨by simp, ?_⟩
  repeat walk_at "px"
  refine take_st k2 (by omega) (by decide) (by decide) fun r h3 r1 r2 k3 => ?_
  obtain ⟨c, ec, hc⟩ := at4 (a := 1) (b := 3) (c := 3) (d := 99) r1 r2
  refine i_ixO ⟨_, ec, ?_⟩
  repeat walk_at "px"
  refine take_st k3 (by omega) (by omega) (by omega) fun cost h4 c1 c2 k4 => ?_
  repeat walk_at "px"
  refine ⟨by simp, ?_⟩
  repeat walk_at "px"
  refine take_st k4 (by omega) (by decide) (by decide) fun r' h5 s1 s2 k5 => ?_
  obtain ⟨d, ed, hd⟩ := at4 (a := 1) (b := 1) (c := 2) (d := 4) s1 s2
  refine i_ixO ⟨_, ed, ?_⟩
  repeat walk_at "px"
  refine take_st k5 (by omega) (by omega) (by omega) fun str h6 t1 t2 k6 => ?_
  repeat walk_at "px"
  refine groups_ok k6 (by omega) g8 hne hl fun rs h7 e1 e2 e3 k7 => ?_
  repeat walk_at "px"
  refine ⟨by simp, ?_⟩
  repeat walk_at "px"
  exact q _ _ ⟨one, one + 1 + oth, 1 + cost, rs, 1 + str, rfl, by omega, by omega, by omega, by omega, by omega, e1, e2, e3, by omega, by omega⟩ (k7.le (by omega))
/-- houses, lines -/
structure WV (hs ls : List Val) : Prop where
  one : 1 ≤ hs.length
  many : hs.length ≤ 12
  houses : ∀ v ∈ hs, HouseV v
  lines : ∀ v ∈ ls, LineV hs.length v
  few : ls.length ≤ 20
theorem weaving_ok {h0 h : Hh} {p : Nat} {N : Int} {Q : QE} (k : St h0 p N h) (hN : N < 700000000)
    (q : ∀ hs ls h', WV hs ls → St h0 p (N + 2000) h' → Q (.v (.tup [.tup hs, .tup ls])) h') : wF m_law_weaving [.v (.ref p)] h Q := by
  unfold m_law_weaving
  refine i_def [some (.v (.ref p)), none, none, none, none, none, none, none, none, none, none] rfl rfl ?_
  unfold b_law_weaving
  repeat walk_at "px"
  refine take_st k (by omega) (by decide) (by decide) fun z h1 _ _ k1 => ?_
  repeat walk_at "px"
  refine i_eqI ?_
  repeat walk_at "px"
  have g01 : (0 : Int) ≤ (if (z == 0) = true then 1 else 0) ∧ (if (z == 0) = true then (1 : Int) else 0) < 2 := by split <;> omega
  generalize (if (z == 0) = true then (1 : Int) else 0) = great at g01
  refine ⟨by simp, ?_⟩
  repeat walk_at "px"
  obtain ⟨mm, em, hm⟩ := at2 (a := 6) (b := 12) g01.1 g01.2
  refine i_ixO ⟨_, em, ?_⟩
  repeat walk_at "px"
  refine take_st k1 (by omega) (by omega) (by omega) fun m0 h2 m1 m2 k2 => ?_
  repeat walk_at "px"
  refine i_lcR ?_
  repeat walk_at "px"
  refine take_st k2 (by omega) (by decide) (by decide) fun s0 h3 s1 s2 k3 => ?_
  repeat walk_at "px"
  refine ⟨by omega, by omega, ?_⟩
  refine lc_inv (by simp; omega) (fun i acc h' => (∃ as : List Int, acc = as.map .int ∧ G8 as ∧ as.length = i) ∧ St h0 p (N + 3 + i) h') ⟨⟨[], rfl, fun x hx => by simp at hx, rfl⟩, k3.le (by omega)⟩ ?_ ?_
  · rintro i v acc h' ev hlen' ⟨⟨as, rfl, ga, la⟩, k4⟩
    have hi : i < (1 + s0).toNat := by
      have := (List.getElem?_eq_some_iff.mp ev).1
      simpa using this
    refine ⟨_, rfl, true, h', rfl, ite_t ?_⟩
    repeat walk_at "px"
    refine take_st k4 (by omega) (by decide) (by decide) fun g h5 g1 g2 k5 => ?_
    repeat walk_at "px"
    refine ⟨⟨as ++ [g], by simp, fun x hx => ?_, by simp; omega⟩, k5.le (by omega)⟩
    rcases List.mem_append.mp hx with hx | hx
    · exact ga x hx
    · simp at hx; subst hx; exact ⟨g1, g2⟩
  · rintro acc h4 hacc ⟨⟨some_, rfl, g8, ls⟩, k4⟩
    have ls' : some_.length = (1 + s0).toNat := by simpa using ls
    have hne : some_ ≠ [] := by
      intro e
      rw [e] at ls'
      simp at ls'
      omega
    have hsl : some_.length ≤ 3 := by omega
    have k4' : St h0 p (N + 6) h4 := k4.le (by simp; omega)
    clear k4
    repeat walk_at "px"
    refine ⟨by simp, ?_⟩
    repeat walk_at "px"
    refine for_range ?_
    repeat walk_at "px"
    refine ⟨by omega, by omega, fun i s h' => (∃ hs y6 y7, s = [some (.v (.ref p)), some (.v (.int great)), some (.v (.int (1 + m0))), none, some (.o (some_.map .int)), some (.o hs), y6, y7, none, none, none] ∧ hs.length = i ∧ ∀ v ∈ hs, HouseV v) ∧ St h0 p (N + 6 + 8 * i) h', ⟨⟨[], none, none, rfl, rfl, fun v hv => by simp at hv⟩, k4'.le (by omega)⟩, ?_, ?_⟩
    · rintro i s h' hi ⟨⟨hs, y6, y7, rfl, lh, hv⟩, k5⟩
      repeat walk_at "px"
      refine ⟨by simp, ?_⟩
      repeat walk_at "px"
      obtain ⟨dd, ed, hd⟩ := at2 (a := 4) (b := 7) g01.1 g01.2
      refine i_ixO ⟨_, ed, ?_⟩
      repeat walk_at "px"
      refine take_st k5 (by omega) (by omega) (by omega) fun doors h6 d1 d2 k6 => ?_
      repeat walk_at "px"
      refine w_appO rfl ?_
      repeat walk_at "px"
      refine i_lcR ?_
      repeat walk_at "px"
      refine ⟨by omega, by omega, ?_⟩
      refine lc_inv (by simp; omega) (fun j acc h' => (∃ as : List Int, acc = as.map .int ∧ G8 as ∧ as.length = j) ∧ St h0 p (N + 7 + 8 * i + j) h') ⟨⟨[], rfl, fun x hx => by simp at hx, rfl⟩, k6.le (by omega)⟩ ?_ ?_
      · rintro j v acc h' ev hlen' ⟨⟨as, rfl, ga, la⟩, k7⟩
        have hj : j < doors.toNat := by
          have := (List.getElem?_eq_some_iff.mp ev).1
          simpa using this
        refine ⟨_, rfl, true, h', rfl, ite_t ?_⟩
        repeat walk_at "px"
        refine take_st k7 (by omega) (by rw [List.length_map]; omega) (by rw [List.length_map]; omega) fun r h8 r1 r2 k8 => ?_
        obtain ⟨g, eg, mg⟩ := at_ints r1 (by rw [List.length_map] at r2; exact r2)
        refine i_ixL ⟨_, eg, ?_⟩
        repeat walk_at "px"
        refine ⟨⟨as ++ [g], by simp, fun x hx => ?_, by simp; omega⟩, k8.le (by omega)⟩
        rcases List.mem_append.mp hx with hx | hx
        · exact ga x hx
        · simp at hx; subst hx; exact g8 _ mg
      · rintro acc h7 hacc ⟨⟨as, rfl, ga, la⟩, k7⟩
        have la' : as.length = doors.toNat := by simpa using la
        repeat walk_at "px"
        refine ⟨by omega, ⟨⟨hs ++ [.tup (as.map .int)], _, _, rfl, by simp; omega, fun v hv' => ?_⟩, k7.le (by simp; omega)⟩⟩
        rcases List.mem_append.mp hv' with hx | hx
        · exact hv v hx
        · simp at hx; subst hx; exact ⟨as, rfl, ga, by omega⟩
    · rintro s h5 ⟨⟨hs, y6, y7, rfl, lh, hv⟩, k5⟩
      repeat walk_at "px"
      refine i_lcR ?_
      repeat walk_at "px"
      refine ⟨by simp, ?_⟩
      repeat walk_at "px"
      obtain ⟨ll, el, hl⟩ := at2 (a := 11) (b := 21) g01.1 g01.2
      refine i_ixO ⟨_, el, ?_⟩
      repeat walk_at "px"
      refine take_st k5 (by omega) (by omega) (by omega) fun nl h6 n1 n2 k6 => ?_
      repeat walk_at "px"
      have b01 : (0 : Int) ≤ (if decide (1 < 1 + m0) = true then 1 else 0) ∧ (if decide (1 < 1 + m0) = true then (1 : Int) else 0) ≤ 1 ∧ ((if decide (1 < 1 + m0) = true then (1 : Int) else 0) = 1 → 1 < 1 + m0) := by
        split
        · rename_i e
          exact ⟨by omega, by omega, fun _ => of_decide_eq_true e⟩
        · exact ⟨by omega, by omega, fun z => by omega⟩
      generalize (if decide (1 < 1 + m0) = true then (1 : Int) else 0) = bb at b01
      refine i_times (by rw [sm (by omega) (by omega)]; rfl) ?_
      have hb : bb = 0 ∨ bb = 1 := by omega
      have e0 : nl * bb = 0 ∨ (nl * bb = nl ∧ 1 < 1 + m0) := by
        rcases hb with rfl | rfl
        · left; omega
        · right; exact ⟨by omega, b01.2.2 rfl⟩
      generalize nl * bb = tot at e0
      refine ⟨_, rfl, by omega, by omega, ?_⟩
      refine lc_inv (by simp; omega) (fun j acc h' => (acc.length = j ∧ ∀ v ∈ acc, LineV hs.length v) ∧ St h0 p (N + 200 + 20 * j) h') ⟨⟨rfl, fun v hv => by simp at hv⟩, k6.le (by omega)⟩ ?_ ?_
      · rintro j v acc h' ev hlen' ⟨⟨la, ha⟩, k7⟩
        have hj : j < tot.toNat := by
          have := (List.getElem?_eq_some_iff.mp ev).1
          simpa using this
        have hm0 : 1 < 1 + m0 := by
          rcases e0 with e | e
          · omega
          · exact e.2
        refine ⟨_, rfl, true, h', rfl, ite_t ?_⟩
        repeat walk_at "px"
        refine line_ok k7 (by omega) (by omega) (by omega) g8 hne (by omega) fun v h8 lv k8 => ?_
        repeat walk_at "px"
        refine ⟨⟨by simp; omega, fun w hw => ?_⟩, k8.le (by omega)⟩
        have el2 : (hs.length : Int) = 1 + m0 := by omega
        rcases List.mem_append.mp hw with hx | hx
        · exact ha w hx
        · simp at hx; subst hx; rw [el2]; exact lv
      · rintro acc h7 hacc ⟨⟨la, ha⟩, k7⟩
        have la' : acc.length = tot.toNat := by simpa using la
        repeat walk_at "px"
        refine ⟨by simp, ?_⟩
        repeat walk_at "px"
        exact q hs acc _ ⟨by omega, by omega, hv, ha, by omega⟩ (k7.le (by simp; omega))

end K56
set_option Elab.async false
set_option linter.all false
set_option maxRecDepth 100000
set_option maxHeartbeats 2000000
namespace K56
open PySem PySem.Spec PyProof.Rows L2 NL
local macro_rules | `(tactic| walk_at "pz") => `(tactic| first
  | with_reducible refine' Eq.mpr w_m2 ?_
  | with_reducible refine' i_c ?_
  | ((with_reducible refine' i_varV ?_); refine ⟨_, rfl, ?_⟩)
  | ((with_reducible refine' i_varO ?_); refine ⟨_, rfl, ?_⟩)
  | ((with_reducible refine' i_varL ?_); refine ⟨_, rfl, ?_⟩)
  | ((with_reducible refine' i_varZ ?_); refine ⟨_, rfl, ?_⟩)
  | with_reducible refine' i_plus ?_
  | with_reducible refine' i_sub ?_
  | with_reducible refine' i_lt ?_
  | with_reducible refine' i_le ?_
  | with_reducible refine' i_gt ?_
  | with_reducible refine' i_ge ?_
  | with_reducible refine' Eq.mpr w_acons ?_
  | with_reducible refine' Eq.mpr w_anil ?_
  | with_reducible refine' Eq.mpr w_B ?_
  | with_reducible refine' Eq.mpr w_call ?_
  | with_reducible refine' Eq.mpr w_tup ?_
  | with_reducible refine' Eq.mpr w_lst ?_
  | with_reducible refine' Eq.mpr w_neg ?_
  | with_reducible refine' Eq.mpr w_an ?_
  | with_reducible refine' Eq.mpr w_oo ?_
  | with_reducible refine' Eq.mpr w_no ?_
  | with_reducible refine' Eq.mpr w_if ?_
  | with_reducible refine' Eq.mpr w_tst ?_
  | with_reducible refine' Eq.mpr w_tru ?_
  | with_reducible refine' i_truB ?_
  | with_reducible refine' Eq.mpr w_tno ?_
  | with_reducible refine' Eq.mpr w_tan ?_
  | with_reducible refine' Eq.mpr w_too ?_
  | with_reducible refine' Eq.mpr w_al ?_
  | with_reducible refine' Eq.mpr w_sl ?_
  | with_reducible refine' Eq.mpr w_onone ?_
  | with_reducible refine' Eq.mpr w_osome ?_
  | with_reducible refine' Eq.mpr w_chain ?_
  | with_reducible refine' Eq.mpr w_seq ?_
  | with_reducible refine' Eq.mpr w_snil ?_
  | with_reducible refine' Eq.mpr w_sif ?_
  | with_reducible refine' Eq.mpr w_ret ?_
  | with_reducible refine' Eq.mpr w_set ?_
  | with_reducible refine' Eq.mpr w_drop ?_
  | with_reducible refine' Eq.mpr w_unp ?_
  | with_reducible refine' Eq.mpr w_par ?_
  | with_reducible refine' Eq.mpr w_put ?_
  | with_reducible refine' Eq.mpr w_vcons ?_
  | with_reducible refine' Eq.mpr w_vnil ?_
  | with_reducible refine' Eq.mpr w_sacons ?_
  | with_reducible refine' Eq.mpr w_sanil ?_
  | with_reducible refine' Eq.mpr w_asgT ?_
  | with_reducible refine' Eq.mpr w_asgN ?_
  | ((with_reducible refine' Eq.mpr thenS_nx ?_); try dsimp only [List.set_cons_succ, List.set_cons_zero])
  | with_reducible refine' Eq.mpr thenS_rt ?_
  | with_reducible refine' Eq.mpr endF_rt ?_
  | with_reducible refine' Eq.mpr endF_nx ?_
  | with_reducible refine' Eq.mpr lea_v ?_
  | with_reducible refine' Eq.mpr lea_o ?_
  | with_reducible refine' Eq.mpr isV_v ?_
  | ((with_reducible refine' i_ixT ?_); refine ⟨_, rfl, ?_⟩)
  | ((with_reducible refine' i_ixO ?_); refine ⟨_, rfl, ?_⟩)
  | ((with_reducible refine' i_ixL ?_); refine ⟨_, rfl, ?_⟩)
  | ((with_reducible refine' i_ixR ?_); refine ⟨_, _, by assumption, rfl, ?_⟩)
  | with_reducible refine' i_lenT ?_
  | with_reducible refine' i_lenL ?_
  | with_reducible refine' i_lenO ?_
  | with_reducible refine' i_lenZ ?_
  | with_reducible refine' i_abs ?_
  | with_reducible refine' i_min2 ?_
  | with_reducible refine' i_max2 ?_
  | with_reducible refine' i_intB ?_
  | with_reducible refine' i_tupO ?_
  | with_reducible refine' i_tupL ?_
  | with_reducible refine' i_listT ?_
  | with_reducible refine' i_slT ?_
  | ((with_reducible refine' i_isi ?_); refine ⟨_, rfl, ?_⟩)
  | with_reducible refine' i_sset ?_
  | with_reducible refine' i_par3 ?_
  | with_reducible refine' i_par2 ?_
  | ((with_reducible refine' i_revL ?_); refine ⟨_, rfl, ?_⟩)
  | ((with_reducible refine' i_ext ?_); refine ⟨_, rfl, ?_⟩)
  | ((with_reducible refine' i_appO ?_); refine ⟨_, rfl, ?_⟩)
  | ((with_reducible refine' i_retO ?_); refine ⟨_, rfl, ?_⟩)
  | with_reducible refine' i_inI ?_
  | with_reducible refine' i_ninI ?_
  | with_reducible refine' i_inIL ?_
  | with_reducible refine' i_ninIL ?_
  | with_reducible refine' i_inP ?_
  | with_reducible refine' i_ninP ?_
  | with_reducible refine' i_eqI ?_
  | with_reducible refine' i_neI ?_
  | with_reducible refine' i_rep1 ?_
  | with_reducible refine' i_neO0 ?_
  | with_reducible refine ite_t ?_
  | with_reducible refine ite_f ?_
  | with_reducible refine ⟨_, rfl, ?_⟩
  | with_reducible refine' i_lenle (by simp; done) ?_)
theorem callP {m : FM} {rs : List R} {h : Hh} {x : R} {Q : QE} (e : m rs h = some (x, h)) (q : Q x h) : wF m rs h Q := ⟨_, _, e, q⟩
theorem eqF {m : FM} {rs : List R} {h : Hh} {x : R} (w : wF m rs h fun r h' => r = x ∧ h' = h) : m rs h = some (x, h) := by
  obtain ⟨r, h', e, rfl, rfl⟩ := w; exact e
theorem eqE {m : ME} {s : Sl} {h : Hh} {x : R} (w : wE m s h fun r h' => r = x ∧ h' = h) : m s h = some (x, h) := by
  obtain ⟨r, h', e, rfl, rfl⟩ := w; exact e
theorem box_eq {h : Hh} {ns : List Int} {k : Nat} (hk : k ≤ 63) : ∃ g c, 0 ≤ g ∧ m_law_box [.z (ns.map .int), .v (.int k)] h = some (.o [.int g, .int c, .int 0], h) := by
  have z : wF m_law_box [.z (ns.map .int), .v (.int k)] h fun r h' => ∃ g c, 0 ≤ g ∧ r = .o [.int g, .int c, .int 0] ∧ h' = h := by
    unfold m_law_box
    refine i_def [some (.z (ns.map .int)), some (.v (.int k)), none, none] rfl rfl ?_
    unfold b_law_box
    repeat walk_at "pz"
    have fin : ∀ cell : Int, wS (sSeq (sSet 3 (mIf (mTst (m2 fGe (mB fAbs (aCons (mVar 2) aNil)) (m2 fPow (mC (.int 10)) (mC (.int 18))))) (mB fAbs (aCons (mVar 2) aNil)) (mC (.int 0))))
      (sRet (mLst (aCons (mVar 3) (aCons (m2 fPlus (mVar 2) (m2 fTimes (mC (.int 999983)) (mVar 1))) (aCons (mC (.int 0)) aNil))))))
      [some (.z (ns.map .int)), some (.v (.int k)), some (.v (.int cell)), none] h (endF fun r h' => ∃ g c, 0 ≤ g ∧ r = .o [.int g, .int c, .int 0] ∧ h' = h) := fun cell => by
      repeat walk_at "pz"
      refine i_pow (by decide) (by decide) (by decide) ?_
      repeat walk_at "pz"
      refine ite_c (fun e => ?_) (fun e => ?_)
      · repeat walk_at "pz"
        refine i_times (by rw [sm (i := 999983) (by decide) (by decide)]; rfl) ?_
        repeat walk_at "pz"
        exact ⟨_, _, by split <;> omega, rfl, rfl⟩
      · repeat walk_at "pz"
        refine i_times (by rw [sm (i := 999983) (by decide) (by decide)]; rfl) ?_
        repeat walk_at "pz"
        exact ⟨_, _, by decide, rfl, rfl⟩
    refine ite_c (fun e => ?_) (fun e => ?_)
    · repeat walk_at "pz"
      have hl := of_decide_eq_true e
      rw [List.length_map] at hl
      obtain ⟨g, eg, _⟩ := at_ints (gs := ns) (r := k) (by omega) (by omega)
      refine i_ixZ eg ?_
      refine Eq.mpr lea_v ?_
      exact fin g
    · refine i_c ?_
      refine Eq.mpr lea_v ?_
      exact fin 0
  obtain ⟨r, h', e, g, c, h1, rfl, rfl⟩ := z
  exact ⟨g, c, h1, e⟩
theorem th_int {h : Hh} {p n : Nat} {i : Int} (a : i.natAbs < 10 ^ 40) : Th h p n 41 (.int i) := by cases n <;> exact ⟨a, Nat.le_refl _⟩
theorem th_tup {h : Hh} {p n j m : Nat} {vs : List Val} (a : ∀ v ∈ vs, Th h p n j v) (b : vs.length ≤ m) (c : m ≤ 1000) : Th h p (n + 1) (m * (j + 2) + 3) (.tup vs) := ⟨j, a, Nat.add_le_add_right (Nat.mul_le_mul_right _ b) _, Nat.le_trans b c⟩
theorem th_ints {h : Hh} {p n m : Nat} {gs : List Int} (a : ∀ g ∈ gs, g.natAbs < 10 ^ 40) (b : gs.length ≤ m) (c : m ≤ 1000) : Th h p (n + 1) (m * 43 + 3) (.tup (gs.map .int)) := th_tup (fun v hv => by
  obtain ⟨x, hx, rfl⟩ := List.mem_map.mp hv
  exact th_int (a x hx)) (by simpa using b) c
theorem g8_small {gs : List Int} (g : G8 gs) : ∀ x ∈ gs, x.natAbs < 10 ^ 40 := fun x hx => by
  have := g x hx
  omega
theorem HouseV.th {h : Hh} {p n : Nat} {v : Val} (a : HouseV v) : Th h p (n + 1) 400 v := by
  obtain ⟨gs, rfl, g8, hl⟩ := a
  exact (th_ints (g8_small g8) hl (by decide)).wide (by decide)
theorem LineV.th {h : Hh} {p n : Nat} {m : Int} {v : Val} (a : LineV m v) (hm : m ≤ 1000) : Th h p (n + 2) 2000 v := by
  obtain ⟨a, b, c, gs, s, rfl, h1, h2, h3, h4, h5, h6, h7, h8, h9, h10⟩ := a
  have hl := rise_short h8 h7
  refine (th_tup (n := n + 1) (j := 390) (m := 5) (fun v hv => ?_) (by simp) (by decide)).wide (by decide)
  simp only [List.mem_cons, List.not_mem_nil, or_false] at hv
  rcases hv with rfl | rfl | rfl | rfl | rfl
  · exact (th_int (by omega)).wide (by decide)
  · exact (th_int (by omega)).wide (by decide)
  · exact (th_int (by omega)).wide (by decide)
  · exact (th_ints (g8_small h7) hl (by decide)).wide (by decide)
  · exact (th_int (by omega)).wide (by decide)

theorem WV.thH {h : Hh} {p n : Nat} {hs ls : List Val} (w : WV hs ls) : Th h p (n + 2) 7000 (.tup hs) := (th_tup (n := n + 1) (j := 400) (m := 12) (fun v hv => (w.houses v hv).th) w.many (by decide)).wide (by decide)
theorem WV.thL {h : Hh} {p n : Nat} {hs ls : List Val} (w : WV hs ls) : Th h p (n + 3) 45000 (.tup ls) := (th_tup (n := n + 2) (j := 2000) (m := 20) (fun v hv => (w.lines v hv).th (by have := w.many; omega)) w.few (by decide)).wide (by decide)
theorem th_pair {h : Hh} {p n : Nat} {a b : Val} (x : Th h p (n + 3) 45000 a) (y : Th h p (n + 3) 45000 b) : Th h p (n + 4) 100000 (.tup [a, b]) := (th_tup (n := n + 3) (j := 45000) (m := 2) (fun v hv => by
  simp only [List.mem_cons, List.not_mem_nil, or_false] at hv
  rcases hv with rfl | rfl
  · exact x
  · exact y) (by simp) (by decide)).wide (by decide)

end K56
set_option Elab.async false
set_option linter.all false
set_option maxRecDepth 100000
set_option maxHeartbeats 2000000
namespace K56
open PySem PySem.Spec PyProof.Rows L2 NL
local macro_rules | `(tactic| walk_at "pz") => `(tactic| first
  | with_reducible refine' Eq.mpr w_m2 ?_
  | with_reducible refine' i_c ?_
  | ((with_reducible refine' i_varV ?_); refine ⟨_, rfl, ?_⟩)
  | ((with_reducible refine' i_varO ?_); refine ⟨_, rfl, ?_⟩)
  | ((with_reducible refine' i_varL ?_); refine ⟨_, rfl, ?_⟩)
  | ((with_reducible refine' i_varZ ?_); refine ⟨_, rfl, ?_⟩)
  | with_reducible refine' i_plus ?_
  | with_reducible refine' i_sub ?_
  | with_reducible refine' i_lt ?_
  | with_reducible refine' i_le ?_
  | with_reducible refine' i_gt ?_
  | with_reducible refine' i_ge ?_
  | with_reducible refine' Eq.mpr w_acons ?_
  | with_reducible refine' Eq.mpr w_anil ?_
  | with_reducible refine' Eq.mpr w_B ?_
  | with_reducible refine' Eq.mpr w_call ?_
  | with_reducible refine' Eq.mpr w_tup ?_
  | with_reducible refine' Eq.mpr w_lst ?_
  | with_reducible refine' Eq.mpr w_neg ?_
  | with_reducible refine' Eq.mpr w_an ?_
  | with_reducible refine' Eq.mpr w_oo ?_
  | with_reducible refine' Eq.mpr w_no ?_
  | with_reducible refine' Eq.mpr w_if ?_
  | with_reducible refine' Eq.mpr w_tst ?_
  | with_reducible refine' Eq.mpr w_tru ?_
  | with_reducible refine' i_truB ?_
  | with_reducible refine' Eq.mpr w_tno ?_
  | with_reducible refine' Eq.mpr w_tan ?_
  | with_reducible refine' Eq.mpr w_too ?_
  | with_reducible refine' Eq.mpr w_al ?_
  | with_reducible refine' Eq.mpr w_sl ?_
  | with_reducible refine' Eq.mpr w_onone ?_
  | with_reducible refine' Eq.mpr w_osome ?_
  | with_reducible refine' Eq.mpr w_chain ?_
  | with_reducible refine' Eq.mpr w_seq ?_
  | with_reducible refine' Eq.mpr w_snil ?_
  | with_reducible refine' Eq.mpr w_sif ?_
  | with_reducible refine' Eq.mpr w_ret ?_
  | with_reducible refine' Eq.mpr w_set ?_
  | with_reducible refine' Eq.mpr w_drop ?_
  | with_reducible refine' Eq.mpr w_unp ?_
  | with_reducible refine' Eq.mpr w_par ?_
  | with_reducible refine' Eq.mpr w_put ?_
  | with_reducible refine' Eq.mpr w_vcons ?_
  | with_reducible refine' Eq.mpr w_vnil ?_
  | with_reducible refine' Eq.mpr w_sacons ?_
  | with_reducible refine' Eq.mpr w_sanil ?_
  | with_reducible refine' Eq.mpr w_asgT ?_
  | with_reducible refine' Eq.mpr w_asgN ?_
  | ((with_reducible refine' Eq.mpr thenS_nx ?_); try dsimp only [List.set_cons_succ, List.set_cons_zero])
  | with_reducible refine' Eq.mpr thenS_rt ?_
  | with_reducible refine' Eq.mpr endF_rt ?_
  | with_reducible refine' Eq.mpr endF_nx ?_
  | with_reducible refine' Eq.mpr lea_v ?_
  | with_reducible refine' Eq.mpr lea_o ?_
  | with_reducible refine' Eq.mpr isV_v ?_
  | ((with_reducible refine' i_ixT ?_); refine ⟨_, rfl, ?_⟩)
  | ((with_reducible refine' i_ixO ?_); refine ⟨_, rfl, ?_⟩)
  | ((with_reducible refine' i_ixL ?_); refine ⟨_, rfl, ?_⟩)
  | ((with_reducible refine' i_ixR ?_); refine ⟨_, _, by assumption, rfl, ?_⟩)
  | with_reducible refine' i_lenT ?_
  | with_reducible refine' i_lenL ?_
  | with_reducible refine' i_lenO ?_
  | with_reducible refine' i_lenZ ?_
  | with_reducible refine' i_abs ?_
  | with_reducible refine' i_min2 ?_
  | with_reducible refine' i_max2 ?_
  | with_reducible refine' i_intB ?_
  | with_reducible refine' i_tupO ?_
  | with_reducible refine' i_tupL ?_
  | with_reducible refine' i_listT ?_
  | with_reducible refine' i_slT ?_
  | ((with_reducible refine' i_isi ?_); refine ⟨_, rfl, ?_⟩)
  | with_reducible refine' i_sset ?_
  | with_reducible refine' i_par3 ?_
  | with_reducible refine' i_par2 ?_
  | ((with_reducible refine' i_revL ?_); refine ⟨_, rfl, ?_⟩)
  | ((with_reducible refine' i_ext ?_); refine ⟨_, rfl, ?_⟩)
  | ((with_reducible refine' i_appO ?_); refine ⟨_, rfl, ?_⟩)
  | ((with_reducible refine' i_retO ?_); refine ⟨_, rfl, ?_⟩)
  | with_reducible refine' i_inI ?_
  | with_reducible refine' i_ninI ?_
  | with_reducible refine' i_inIL ?_
  | with_reducible refine' i_ninIL ?_
  | with_reducible refine' i_inP ?_
  | with_reducible refine' i_ninP ?_
  | with_reducible refine' i_eqI ?_
  | with_reducible refine' i_neI ?_
  | with_reducible refine' i_rep1 ?_
  | with_reducible refine' i_neO0 ?_
  | with_reducible refine ite_t ?_
  | with_reducible refine ite_f ?_
  | with_reducible refine ⟨_, rfl, ?_⟩
  | with_reducible refine' i_lenle (by simp; done) ?_)
structure LnOk (n : Int) (x : Ln) : Prop where
  a : 0 ≤ x.one
  b : x.one < x.other
  c : x.other < n
  d : 1 ≤ x.cost
  e : x.cost ≤ 99
  f : x.gs ≠ []
  g : G8 x.gs
  h : x.gs.Pairwise (· < ·)
  i : 1 ≤ x.st
  j : x.st ≤ 4
theorem lines_of {n : Int} : ∀ (ls : List Val), (∀ v ∈ ls, LineV n v) → ∃ L : List Ln, ls = L.map Ln.v ∧ ∀ x ∈ L, LnOk n x
  | [], _ => ⟨[], rfl, fun x hx => by simp at hx⟩
  | v :: ls, hv => by
    obtain ⟨L, e, ok⟩ := lines_of ls fun w hw => hv w (List.mem_cons_of_mem _ hw)
    obtain ⟨a, b, c, gs, s, rfl, h1, h2, h3, h4, h5, h6, h7, h8, h9, h10⟩ := hv v (List.mem_cons_self ..)
    refine ⟨⟨a, b, c, gs, s⟩ :: L, by rw [e]; rfl, fun x hx => ?_⟩
    rcases List.mem_cons.mp hx with rfl | hx
    · exact ⟨h1, h2, h3, h4, h5, h6, h7, h8, h9, h10⟩
    · exact ok x hx
section
variable {h : Hh} {hs : List Val} {L : List Ln} {fh : List Int} {fs : List (Int × Int)} {l : Nat} {x : Ln} {n : Int}
end

end K56
set_option Elab.async false
set_option linter.all false
set_option maxRecDepth 100000
set_option maxHeartbeats 2000000
namespace K56
open PySem PySem.Spec PyProof.Rows L2 NL
local macro_rules | `(tactic| walk_at "pz") => `(tactic| first
  | with_reducible refine' Eq.mpr w_m2 ?_
  | with_reducible refine' i_c ?_
  | ((with_reducible refine' i_varV ?_); refine ⟨_, rfl, ?_⟩)
  | ((with_reducible refine' i_varO ?_); refine ⟨_, rfl, ?_⟩)
  | ((with_reducible refine' i_varL ?_); refine ⟨_, rfl, ?_⟩)
  | ((with_reducible refine' i_varZ ?_); refine ⟨_, rfl, ?_⟩)
  | with_reducible refine' i_plus ?_
  | with_reducible refine' i_sub ?_
  | with_reducible refine' i_lt ?_
  | with_reducible refine' i_le ?_
  | with_reducible refine' i_gt ?_
  | with_reducible refine' i_ge ?_
  | with_reducible refine' Eq.mpr w_acons ?_
  | with_reducible refine' Eq.mpr w_anil ?_
  | with_reducible refine' Eq.mpr w_B ?_
  | with_reducible refine' Eq.mpr w_call ?_
  | with_reducible refine' Eq.mpr w_tup ?_
  | with_reducible refine' Eq.mpr w_lst ?_
  | with_reducible refine' Eq.mpr w_neg ?_
  | with_reducible refine' Eq.mpr w_an ?_
  | with_reducible refine' Eq.mpr w_oo ?_
  | with_reducible refine' Eq.mpr w_no ?_
  | with_reducible refine' Eq.mpr w_if ?_
  | with_reducible refine' Eq.mpr w_tst ?_
  | with_reducible refine' Eq.mpr w_tru ?_
  | with_reducible refine' i_truB ?_
  | with_reducible refine' Eq.mpr w_tno ?_
  | with_reducible refine' Eq.mpr w_tan ?_
  | with_reducible refine' Eq.mpr w_too ?_
  | with_reducible refine' Eq.mpr w_al ?_
  | with_reducible refine' Eq.mpr w_sl ?_
  | with_reducible refine' Eq.mpr w_onone ?_
  | with_reducible refine' Eq.mpr w_osome ?_
  | with_reducible refine' Eq.mpr w_chain ?_
  | with_reducible refine' Eq.mpr w_seq ?_
  | with_reducible refine' Eq.mpr w_snil ?_
  | with_reducible refine' Eq.mpr w_sif ?_
  | with_reducible refine' Eq.mpr w_ret ?_
  | with_reducible refine' Eq.mpr w_set ?_
  | with_reducible refine' Eq.mpr w_drop ?_
  | with_reducible refine' Eq.mpr w_unp ?_
  | with_reducible refine' Eq.mpr w_par ?_
  | with_reducible refine' Eq.mpr w_put ?_
  | with_reducible refine' Eq.mpr w_vcons ?_
  | with_reducible refine' Eq.mpr w_vnil ?_
  | with_reducible refine' Eq.mpr w_sacons ?_
  | with_reducible refine' Eq.mpr w_sanil ?_
  | with_reducible refine' Eq.mpr w_asgT ?_
  | with_reducible refine' Eq.mpr w_asgN ?_
  | ((with_reducible refine' Eq.mpr thenS_nx ?_); try dsimp only [List.set_cons_succ, List.set_cons_zero])
  | with_reducible refine' Eq.mpr thenS_rt ?_
  | with_reducible refine' Eq.mpr endF_rt ?_
  | with_reducible refine' Eq.mpr endF_nx ?_
  | with_reducible refine' Eq.mpr lea_v ?_
  | with_reducible refine' Eq.mpr lea_o ?_
  | with_reducible refine' Eq.mpr isV_v ?_
  | ((with_reducible refine' i_ixT ?_); refine ⟨_, rfl, ?_⟩)
  | ((with_reducible refine' i_ixO ?_); refine ⟨_, rfl, ?_⟩)
  | ((with_reducible refine' i_ixL ?_); refine ⟨_, rfl, ?_⟩)
  | ((with_reducible refine' i_ixR ?_); refine ⟨_, _, by assumption, rfl, ?_⟩)
  | with_reducible refine' i_lenT ?_
  | with_reducible refine' i_lenL ?_
  | with_reducible refine' i_lenO ?_
  | with_reducible refine' i_lenZ ?_
  | with_reducible refine' i_abs ?_
  | with_reducible refine' i_min2 ?_
  | with_reducible refine' i_max2 ?_
  | with_reducible refine' i_intB ?_
  | with_reducible refine' i_tupO ?_
  | with_reducible refine' i_tupL ?_
  | with_reducible refine' i_listT ?_
  | with_reducible refine' i_slT ?_
  | ((with_reducible refine' i_isi ?_); refine ⟨_, rfl, ?_⟩)
  | with_reducible refine' i_sset ?_
  | with_reducible refine' i_par3 ?_
  | with_reducible refine' i_par2 ?_
  | ((with_reducible refine' i_revL ?_); refine ⟨_, rfl, ?_⟩)
  | ((with_reducible refine' i_ext ?_); refine ⟨_, rfl, ?_⟩)
  | ((with_reducible refine' i_appO ?_); refine ⟨_, rfl, ?_⟩)
  | ((with_reducible refine' i_retO ?_); refine ⟨_, rfl, ?_⟩)
  | with_reducible refine' i_inI ?_
  | with_reducible refine' i_ninI ?_
  | with_reducible refine' i_inIL ?_
  | with_reducible refine' i_ninIL ?_
  | with_reducible refine' i_inP ?_
  | with_reducible refine' i_ninP ?_
  | with_reducible refine' i_eqI ?_
  | with_reducible refine' i_neI ?_
  | with_reducible refine' i_rep1 ?_
  | with_reducible refine' i_neO0 ?_
  | with_reducible refine ite_t ?_
  | with_reducible refine ite_f ?_
  | with_reducible refine ⟨_, rfl, ?_⟩
  | with_reducible refine' i_lenle (by simp; done) ?_)
def hv (gs : List Int) : Val := .tup (gs.map .int)
theorem houses_of : ∀ (hs : List Val), (∀ v ∈ hs, HouseV v) → ∃ Hs : List (List Int), hs = Hs.map hv ∧ ∀ gs ∈ Hs, G8 gs ∧ gs.length ≤ 6
  | [], _ => ⟨[], rfl, fun x hx => by simp at hx⟩
  | v :: hs, hv => by
    obtain ⟨Hs, e, ok⟩ := houses_of hs fun w hw => hv w (List.mem_cons_of_mem _ hw)
    obtain ⟨gs, rfl, g8, hl⟩ := hv v (List.mem_cons_self ..)
    refine ⟨gs :: Hs, by rw [e]; rfl, fun x hx => ?_⟩
    rcases List.mem_cons.mp hx with rfl | hx
    · exact ⟨g8, hl⟩
    · exact ok x hx

end K56
set_option Elab.async false
set_option linter.all false
set_option maxRecDepth 100000
set_option maxHeartbeats 2000000
namespace K56
open PySem PySem.Spec PyProof.Rows L2 NL
local macro_rules | `(tactic| walk_at "pz") => `(tactic| first
  | with_reducible refine' Eq.mpr w_m2 ?_
  | with_reducible refine' i_c ?_
  | ((with_reducible refine' i_varV ?_); refine ⟨_, rfl, ?_⟩)
  | ((with_reducible refine' i_varO ?_); refine ⟨_, rfl, ?_⟩)
  | ((with_reducible refine' i_varL ?_); refine ⟨_, rfl, ?_⟩)
  | ((with_reducible refine' i_varZ ?_); refine ⟨_, rfl, ?_⟩)
  | with_reducible refine' i_plus ?_
  | with_reducible refine' i_sub ?_
  | with_reducible refine' i_lt ?_
  | with_reducible refine' i_le ?_
  | with_reducible refine' i_gt ?_
  | with_reducible refine' i_ge ?_
  | with_reducible refine' Eq.mpr w_acons ?_
  | with_reducible refine' Eq.mpr w_anil ?_
  | with_reducible refine' Eq.mpr w_B ?_
  | with_reducible refine' Eq.mpr w_call ?_
  | with_reducible refine' Eq.mpr w_tup ?_
  | with_reducible refine' Eq.mpr w_lst ?_
  | with_reducible refine' Eq.mpr w_neg ?_
  | with_reducible refine' Eq.mpr w_an ?_
  | with_reducible refine' Eq.mpr w_oo ?_
  | with_reducible refine' Eq.mpr w_no ?_
  | with_reducible refine' Eq.mpr w_if ?_
  | with_reducible refine' Eq.mpr w_tst ?_
  | with_reducible refine' Eq.mpr w_tru ?_
  | with_reducible refine' i_truB ?_
  | with_reducible refine' Eq.mpr w_tno ?_
  | with_reducible refine' Eq.mpr w_tan ?_
  | with_reducible refine' Eq.mpr w_too ?_
  | with_reducible refine' Eq.mpr w_al ?_
  | with_reducible refine' Eq.mpr w_sl ?_
  | with_reducible refine' Eq.mpr w_onone ?_
  | with_reducible refine' Eq.mpr w_osome ?_
  | with_reducible refine' Eq.mpr w_chain ?_
  | with_reducible refine' Eq.mpr w_seq ?_
  | with_reducible refine' Eq.mpr w_snil ?_
  | with_reducible refine' Eq.mpr w_sif ?_
  | with_reducible refine' Eq.mpr w_ret ?_
  | with_reducible refine' Eq.mpr w_set ?_
  | with_reducible refine' Eq.mpr w_drop ?_
  | with_reducible refine' Eq.mpr w_unp ?_
  | with_reducible refine' Eq.mpr w_par ?_
  | with_reducible refine' Eq.mpr w_put ?_
  | with_reducible refine' Eq.mpr w_vcons ?_
  | with_reducible refine' Eq.mpr w_vnil ?_
  | with_reducible refine' Eq.mpr w_sacons ?_
  | with_reducible refine' Eq.mpr w_sanil ?_
  | with_reducible refine' Eq.mpr w_asgT ?_
  | with_reducible refine' Eq.mpr w_asgN ?_
  | ((with_reducible refine' Eq.mpr thenS_nx ?_); try dsimp only [List.set_cons_succ, List.set_cons_zero])
  | with_reducible refine' Eq.mpr thenS_rt ?_
  | with_reducible refine' Eq.mpr endF_rt ?_
  | with_reducible refine' Eq.mpr endF_nx ?_
  | with_reducible refine' Eq.mpr lea_v ?_
  | with_reducible refine' Eq.mpr lea_o ?_
  | with_reducible refine' Eq.mpr isV_v ?_
  | ((with_reducible refine' i_ixT ?_); refine ⟨_, rfl, ?_⟩)
  | ((with_reducible refine' i_ixO ?_); refine ⟨_, rfl, ?_⟩)
  | ((with_reducible refine' i_ixL ?_); refine ⟨_, rfl, ?_⟩)
  | ((with_reducible refine' i_ixR ?_); refine ⟨_, _, by assumption, rfl, ?_⟩)
  | with_reducible refine' i_lenT ?_
  | with_reducible refine' i_lenL ?_
  | with_reducible refine' i_lenO ?_
  | with_reducible refine' i_lenZ ?_
  | with_reducible refine' i_abs ?_
  | with_reducible refine' i_min2 ?_
  | with_reducible refine' i_max2 ?_
  | with_reducible refine' i_intB ?_
  | with_reducible refine' i_tupO ?_
  | with_reducible refine' i_tupL ?_
  | with_reducible refine' i_listT ?_
  | with_reducible refine' i_slT ?_
  | ((with_reducible refine' i_isi ?_); refine ⟨_, rfl, ?_⟩)
  | with_reducible refine' i_sset ?_
  | with_reducible refine' i_par3 ?_
  | with_reducible refine' i_par2 ?_
  | ((with_reducible refine' i_revL ?_); refine ⟨_, rfl, ?_⟩)
  | ((with_reducible refine' i_ext ?_); refine ⟨_, rfl, ?_⟩)
  | ((with_reducible refine' i_appO ?_); refine ⟨_, rfl, ?_⟩)
  | ((with_reducible refine' i_retO ?_); refine ⟨_, rfl, ?_⟩)
  | with_reducible refine' i_inI ?_
  | with_reducible refine' i_ninI ?_
  | with_reducible refine' i_inIL ?_
  | with_reducible refine' i_ninIL ?_
  | with_reducible refine' i_inP ?_
  | with_reducible refine' i_ninP ?_
  | with_reducible refine' i_eqI ?_
  | with_reducible refine' i_neI ?_
  | with_reducible refine' i_rep1 ?_
  | with_reducible refine' i_neO0 ?_
  | with_reducible refine ite_t ?_
  | with_reducible refine ite_f ?_
  | with_reducible refine ⟨_, rfl, ?_⟩
  | with_reducible refine' i_lenle (by simp; done) ?_)
open PySem.W PySem.SeqAt

theorem lc_mapA {chk : Hh → Prop} {T : Tg} {e : ME} {s0 : Sl} {h : Hh} {α : Type} {v : α → Val} {f : α → Val} (hc : chk h) : ∀ (items : List α) (acc : List Val), acc.length + items.length ≤ 100000 → (∀ x ∈ items, ∃ s1, asg T (v x) s0 = some s1 ∧ e s1 h = some (.v (f x), h)) → lcL chk T tYe e s0 (items.map v) acc h = some (acc ++ items.map f, h)
  | [], acc, _, _ => by rw [List.map_nil]; unfold lcL; rw [if_pos hc]; simp
  | x :: items, acc, hl, hs => by
    obtain ⟨s1, e1, e3⟩ := hs x (List.mem_cons_self ..)
    rw [List.map_cons]
    have ih := lc_mapA (T := T) (e := e) (s0 := s0) (v := v) (f := f) hc items (acc ++ [f x]) (by simp at hl ⊢; omega) fun w hw => hs w (List.mem_cons_of_mem _ hw)
    unfold lcL
    rw [if_pos ⟨hc, by simp at hl; omega⟩, e1]
    simp only [Option.bind_some, tYe, if_true, e3]
    rw [ih]
    simp
theorem strI_ok {h : Hh} {i : Int} (h0 : 0 ≤ i) (h1 : i < 10000) : fStrI [.v (.int i)] h = some (.v (.str (Str.ofString (toString i))), h) := by
  have : i.natAbs.log2 < 1920 := by
    by_cases z : i.natAbs = 0
    · rw [z]
      decide
    · refine Nat.lt_trans ((Nat.log2_lt z).mpr (show i.natAbs < 2 ^ 14 by omega)) (by decide)
  simp only [fStrI]
  rw [if_pos this]
def sI (i : Int) : Val := .str (Str.ofString (toString i))
theorem spaced_eq {h : Hh} {w : Str} {ns : List Int} (ow : wordOk w) (s : Sf ns) : m_spaced [.v (.str w), .v (.tup (ns.map .int))] h = some (.v (.str (rowT w ns)), h) := by
  have l1 := s.1
  obtain ⟨w1, w2⟩ := wq_len ow s
  refine eqF ?_
  unfold m_spaced
  refine i_def [some (.v (.str w)), some (.v (.tup (ns.map .int))), none] rfl rfl ?_
  unfold b_spaced
  repeat walk_at "pz"
  refine w_join ?_
  repeat walk_at "pz"
  refine w_astar ?_
  refine i_lcT ?_
  repeat walk_at "pz"
  refine ⟨_, .inl rfl, _, _, lc_mapA (chk := fun _ => True) (v := Val.int) (f := sI) trivial ns [] (by simp; omega) ?_, ?_⟩
  · intro i hi
    refine ⟨_, rfl, eqE ?_⟩
    dsimp only [wipeA, List.set_cons_succ, List.set_cons_zero]
    repeat walk_at "pz"
    refine ⟨_, _, strI_ok (s.2 i hi).1 (s.2 i hi).2, ?_⟩
    exact ⟨rfl, rfl⟩
  rw [List.nil_append]
  repeat walk_at "pz"
  refine w_vapp ?_
  refine Eq.mpr w_vnil ?_
  refine ⟨(by simp; omega), wds w ns, ?_, ?_, ?_⟩
  · show some (Val.str w :: (ns.map sI ++ [])) = _
    rw [List.append_nil]
    unfold wds
    rw [List.map_cons, List.map_map]
    rfl
  · have z := sum_le w1
    have e : (" " : Str).length = 1 := by decide +kernel
    rw [e]
    omega
  · repeat walk_at "pz"
    exact ⟨rfl, rfl⟩
theorem text_join {h : Hh} {Hs : List (List Int)} {L : List Ln} (k : Wq Hs L) : ((rowsT Hs L).map (·.length)).sum + (rowsT Hs L).length * ("\n" : Str).length ≤ 1000000 := by
  have z := sum_le (b := 186) fun r hr => (rowsq_ok k r hr).1
  have e : ("\n" : Str).length = 1 := by decide +kernel
  have l : (rowsT Hs L).length ≤ 80 := by
    unfold rowsT
    rw [List.length_append, List.length_map, List.length_map]
    exact k.few
  rw [e]
  omega
theorem weaving_text_eq {h : Hh} {Hs : List (List Int)} {L : List Ln} (k : Wq Hs L) : m_weaving_text [.v (wv (Hs.map hv) L)] h = some (.v (.str (textT Hs L)), h) := by
  have few := k.few
  refine eqF ?_
  unfold m_weaving_text
  refine i_def [some (.v (wv (Hs.map hv) L)), none, none, none, none, none, none, none, none] rfl rfl ?_
  unfold b_weaving_text
  repeat walk_at "pz"
  refine i_lcT ?_
  repeat walk_at "pz"
  refine ⟨_, .inl rfl, _, _, lc_mapA (chk := fun _ => True) (v := hv) (f := fun gs => Val.str (rowT "house" gs)) trivial Hs [] (by simp; omega) ?_, ?_⟩
  · intro gs hg
    refine ⟨_, rfl, eqE ?_⟩
    dsimp only [wipeA, List.set_cons_succ, List.set_cons_zero]
    repeat walk_at "pz"
    refine callP (spaced_eq house_ok (k.hs gs hg)) ?_
    exact ⟨rfl, rfl⟩
  rw [List.nil_append]
  repeat walk_at "pz"
  refine for_vt rfl ?_
  refine for_inv (fun j s h' => h' = h ∧ ∃ a b c d e, s = [some (.v (wv (Hs.map hv) L)), some (.v (.tup (Hs.map hv))), some (.v (.tup (L.map Ln.v))), a, some (.o ((rowsT Hs (L.take j)).map .str)), b, c, d, e]) ⟨rfl, none, none, none, none, none, by rw [List.take_zero, show rowsT Hs [] = Hs.map (rowT "house") by unfold rowsT; simp, List.map_map]; rfl⟩ ?_ ?_
  · rintro j v s h' ev ⟨rfl, a, b, c, dd, e, rfl⟩
    rw [List.getElem?_map, Option.map_eq_some_iff] at ev
    obtain ⟨x, ex, rfl⟩ := ev
    have tk : L.take (j + 1) = L.take j ++ [x] := by rw [List.take_add_one, ex]; rfl
    refine ⟨_, rfl, ?_⟩
    dsimp only [List.set_cons_succ, List.set_cons_zero]
    repeat walk_at "pz"
    refine w_astar ?_
    repeat walk_at "pz"
    refine w_vapp ?_
    refine Eq.mpr w_vnil ?_
    have sx := k.ls x (List.mem_of_getElem? ex)
    have lx := sx.1
    unfold lnN at lx
    refine ⟨(by simp at lx ⊢; omega), ?_⟩
    repeat walk_at "pz"
    have e1 : [Val.int x.one, Val.int x.other, Val.int x.cost, Val.int x.st] ++ (x.gs.map Val.int ++ []) = (lnN x).map Val.int := by unfold lnN; simp
    have e2 : m_spaced [.v (.str "line"), .v (.tup (Val.int x.one :: Val.int x.other :: Val.int x.cost :: Val.int x.st :: (x.gs.map Val.int ++ [])))] h' = some (.v (.str (rowT "line" (lnN x))), h') := by
      have := spaced_eq (h := h') NL.line_ok sx
      rw [← e1] at this
      exact this
    refine callP e2 ?_
    have l2 : (rowsT Hs (L.take j)).length ≤ 80 := by
      unfold rowsT
      rw [List.length_append, List.length_map, List.length_map, List.length_take]
      omega
    repeat walk_at "pz"
    refine ⟨by rw [List.length_map]; omega, rfl, some (.v (.tup (x.gs.map .int))), some (.v (.int x.one)), some (.v (.int x.other)), some (.v (.int x.cost)), some (.v (.int x.st)), ?_⟩
    have e3 : (rowsT Hs (L.take (j + 1))).map Val.str = (rowsT Hs (L.take j)).map Val.str ++ [.str (rowT "line" (lnN x))] := by
      rw [tk]
      unfold rowsT
      simp
    rw [e3]
    rfl
  · rintro s h' ⟨rfl, a, b, c, dd, e, rfl⟩
    rw [List.length_map, List.take_length]
    repeat walk_at "pz"
    refine w_join ?_
    repeat walk_at "pz"
    refine ⟨text_join (h := h') k, ?_⟩
    repeat walk_at "pz"
    exact ⟨rfl, rfl⟩
theorem strs_eq {h : Hh} {W : List Nat} {q : Nat} {m : ME} {s : Sl} {ns : List Int} {Q : QE} (hn : ∀ i ∈ ns, 0 ≤ i ∧ i < 10000) (hl : ns.length ≤ 100) (hq : q < s.length) (k : wE m s h fun r h1 => h1 = h ∧ r = .v (.tup (ns.map .int))) (c : Q (.o (ns.map sI)) h) : wE (mLc W (iE m) (.nm q) tYe (mB fStrI (aCons (mVar q) aNil))) s h Q := by
  refine i_lcT ?_
  obtain ⟨r, h1, e1, rfl, rfl⟩ := k
  have ql : q < (wipeA s W).length := by
    haveI : HasK := ⟨[]⟩
    have := wipeA_length s W
    omega
  refine ⟨_, _, e1, _, .inl rfl, _, _, lc_mapA (chk := fun _ => True) (v := Val.int) (f := sI) trivial ns [] (by simp; omega) ?_, by rw [List.nil_append]; exact c⟩
  intro i hi
  refine ⟨_, rfl, ?_⟩
  have ev : mVar q ((wipeA s W).set q (some (.v (.int i)))) h1 = some (.v (.int i), h1) := by
    unfold mVar
    rw [List.getElem?_set_self ql]
    rfl
  simp only [mB, aCons, aNil, ev, Option.bind_some]
  exact strI_ok (hn i hi).1 (hn i hi).2
theorem law_rows_eq {h : Hh} {Hs : List (List Int)} {L : List Ln} (k : Wq Hs L) : m_law_rows_written [.v (wv (Hs.map hv) L)] h = some (.o ((rowsT Hs L).map .str), h) := by
  have few := k.few
  have e32 : (" " : Str).length = 1 := by decide +kernel
  have jj : ∀ {w : Str} {ns : List Int}, wordOk w → Sf ns → ((wds w ns).map (·.length)).sum + (wds w ns).length * (" " : Str).length ≤ 1000000 := fun {w ns} ow s => by
    obtain ⟨w1, w2⟩ := wq_len ow s
    have z := sum_le w1
    rw [e32]
    omega
  refine eqF ?_
  unfold m_law_rows_written
  refine i_def [some (.v (wv (Hs.map hv) L)), none, none, none, none, none, none, none, none, none, none] rfl rfl ?_
  unfold b_law_rows_written
  repeat walk_at "pz"
  refine i_lcT ?_
  repeat walk_at "pz"
  refine ⟨_, .inl rfl, _, _, lc_mapA (chk := fun _ => True) (v := hv) (f := fun gs => Val.str (rowT "house" gs)) trivial Hs [] (by simp; omega) ?_, ?_⟩
  · intro gs hg
    have sg := k.hs gs hg
    have lg := sg.1
    refine ⟨_, rfl, eqE ?_⟩
    dsimp only [wipeA, List.set_cons_succ, List.set_cons_zero]
    refine w_join ?_
    repeat walk_at "pz"
    refine strs_eq (ns := gs) sg.2 (by omega) (by simp) ?_ ?_
    · repeat walk_at "pz"
      exact ⟨rfl, rfl⟩
    refine ⟨_, _, by simp only [fPlus, asW, asL, Option.bind_some]; rw [if_pos (by simp; omega)], ?_⟩
    refine ⟨wds "house" gs, ?_, jj house_ok sg, rfl, rfl⟩
    unfold wds
    simp only [asL, List.map_cons, List.map_map]
    rfl
  rw [List.nil_append]
  repeat walk_at "pz"
  refine NL.for_tup ?_
  repeat walk_at "pz"
  refine ⟨_, .inl rfl, ?_⟩
  refine for_inv (fun j s h' => h' = h ∧ ∃ a1 a2 a4 a5 a6 a7 a8 a9 a10, s = [some (.v (wv (Hs.map hv) L)), a1, a2, some (.o ((rowsT Hs (L.take j)).map .str)), a4, a5, a6, a7, a8, a9, a10]) ⟨rfl, none, none, none, none, none, none, none, none, none, by rw [List.take_zero, show rowsT Hs [] = Hs.map (rowT "house") by unfold rowsT; simp, List.map_map]; rfl⟩ ?_ ?_
  · rintro j v s h' ev ⟨rfl, a1, a2, a4, a5, a6, a7, a8, a9, a10, rfl⟩
    rw [List.getElem?_map, Option.map_eq_some_iff] at ev
    obtain ⟨x, ex, rfl⟩ := ev
    have tk : L.take (j + 1) = L.take j ++ [x] := by rw [List.take_add_one, ex]; rfl
    have sx := k.ls x (List.mem_of_getElem? ex)
    have lx := sx.1
    unfold lnN at lx
    simp at lx
    have i4 : ∀ i ∈ [x.one, x.other, x.cost, x.st], 0 ≤ i ∧ i < 10000 := fun i hi => sx.2 i (by unfold lnN; exact List.mem_append_left _ hi)
    have ig : ∀ i ∈ x.gs, 0 ≤ i ∧ i < 10000 := fun i hi => sx.2 i (by unfold lnN; exact List.mem_append_right _ hi)
    refine ⟨_, rfl, ?_⟩
    dsimp only [List.set_cons_succ, List.set_cons_zero]
    repeat walk_at "pz"
    refine strs_eq (ns := [x.one, x.other, x.cost, x.st]) i4 (by simp) (by simp) ?_ ?_
    · repeat walk_at "pz"
      exact ⟨rfl, rfl⟩
    refine ⟨_, _, by simp only [fPlus, asW, asL, Option.bind_some]; rw [if_pos (by simp)], ?_⟩
    repeat walk_at "pz"
    refine w_join ?_
    repeat walk_at "pz"
    refine strs_eq (ns := x.gs) ig (by omega) (by simp) ?_ ?_
    · repeat walk_at "pz"
      exact ⟨rfl, rfl⟩
    refine ⟨_, _, by simp only [fPlus, asW, asL, Option.bind_some]; rw [if_pos (by simp; omega)], ?_⟩
    have l2 : (rowsT Hs (L.take j)).length ≤ 80 := by
      unfold rowsT
      rw [List.length_append, List.length_map, List.length_map, List.length_take]
      omega
    refine ⟨wds "line" (lnN x), ?_, jj NL.line_ok sx, ?_⟩
    · unfold wds lnN
      simp only [asL, List.map_cons, List.map_append, List.map_map, List.map_nil]
      rfl
    repeat walk_at "pz"
    refine ⟨by rw [List.length_map]; omega, rfl, ?_⟩
    have e3 : (rowsT Hs (L.take (j + 1))).map Val.str = (rowsT Hs (L.take j)).map Val.str ++ [.str (rowT "line" (lnN x))] := by
      rw [tk]
      unfold rowsT
      simp
    rw [e3]
    exact ⟨_, _, _, _, _, _, _, _, _, rfl⟩
  · rintro s h' ⟨rfl, a1, a2, a4, a5, a6, a7, a8, a9, a10, rfl⟩
    rw [List.length_map, List.take_length]
    repeat walk_at "pz"
    exact ⟨rfl, rfl⟩

end K56
set_option Elab.async false
set_option linter.all false
set_option maxRecDepth 100000
set_option maxHeartbeats 2000000
namespace K56
open PySem PySem.Spec PyProof.Rows L2 NL
local macro_rules | `(tactic| walk_at "pz") => `(tactic| first
  | with_reducible refine' Eq.mpr w_m2 ?_
  | with_reducible refine' i_c ?_
  | ((with_reducible refine' i_varV ?_); refine ⟨_, rfl, ?_⟩)
  | ((with_reducible refine' i_varO ?_); refine ⟨_, rfl, ?_⟩)
  | ((with_reducible refine' i_varL ?_); refine ⟨_, rfl, ?_⟩)
  | ((with_reducible refine' i_varZ ?_); refine ⟨_, rfl, ?_⟩)
  | with_reducible refine' i_plus ?_
  | with_reducible refine' i_sub ?_
  | with_reducible refine' i_lt ?_
  | with_reducible refine' i_le ?_
  | with_reducible refine' i_gt ?_
  | with_reducible refine' i_ge ?_
  | with_reducible refine' Eq.mpr w_acons ?_
  | with_reducible refine' Eq.mpr w_anil ?_
  | with_reducible refine' Eq.mpr w_B ?_
  | with_reducible refine' Eq.mpr w_call ?_
  | with_reducible refine' Eq.mpr w_tup ?_
  | with_reducible refine' Eq.mpr w_lst ?_
  | with_reducible refine' Eq.mpr w_neg ?_
  | with_reducible refine' Eq.mpr w_an ?_
  | with_reducible refine' Eq.mpr w_oo ?_
  | with_reducible refine' Eq.mpr w_no ?_
  | with_reducible refine' Eq.mpr w_if ?_
  | with_reducible refine' Eq.mpr w_tst ?_
  | with_reducible refine' Eq.mpr w_tru ?_
  | with_reducible refine' i_truB ?_
  | with_reducible refine' Eq.mpr w_tno ?_
  | with_reducible refine' Eq.mpr w_tan ?_
  | with_reducible refine' Eq.mpr w_too ?_
  | with_reducible refine' Eq.mpr w_al ?_
  | with_reducible refine' Eq.mpr w_sl ?_
  | with_reducible refine' Eq.mpr w_onone ?_
  | with_reducible refine' Eq.mpr w_osome ?_
  | with_reducible refine' Eq.mpr w_chain ?_
  | with_reducible refine' Eq.mpr w_seq ?_
  | with_reducible refine' Eq.mpr w_snil ?_
  | with_reducible refine' Eq.mpr w_sif ?_
  | with_reducible refine' Eq.mpr w_ret ?_
  | with_reducible refine' Eq.mpr w_set ?_
  | with_reducible refine' Eq.mpr w_drop ?_
  | with_reducible refine' Eq.mpr w_unp ?_
  | with_reducible refine' Eq.mpr w_par ?_
  | with_reducible refine' Eq.mpr w_put ?_
  | with_reducible refine' Eq.mpr w_vcons ?_
  | with_reducible refine' Eq.mpr w_vnil ?_
  | with_reducible refine' Eq.mpr w_sacons ?_
  | with_reducible refine' Eq.mpr w_sanil ?_
  | with_reducible refine' Eq.mpr w_asgT ?_
  | with_reducible refine' Eq.mpr w_asgN ?_
  | ((with_reducible refine' Eq.mpr thenS_nx ?_); try dsimp only [List.set_cons_succ, List.set_cons_zero])
  | with_reducible refine' Eq.mpr thenS_rt ?_
  | with_reducible refine' Eq.mpr endF_rt ?_
  | with_reducible refine' Eq.mpr endF_nx ?_
  | with_reducible refine' Eq.mpr lea_v ?_
  | with_reducible refine' Eq.mpr lea_o ?_
  | with_reducible refine' Eq.mpr isV_v ?_
  | ((with_reducible refine' i_ixT ?_); refine ⟨_, rfl, ?_⟩)
  | ((with_reducible refine' i_ixO ?_); refine ⟨_, rfl, ?_⟩)
  | ((with_reducible refine' i_ixL ?_); refine ⟨_, rfl, ?_⟩)
  | ((with_reducible refine' i_ixR ?_); refine ⟨_, _, by assumption, rfl, ?_⟩)
  | with_reducible refine' i_lenT ?_
  | with_reducible refine' i_lenL ?_
  | with_reducible refine' i_lenO ?_
  | with_reducible refine' i_lenZ ?_
  | with_reducible refine' i_abs ?_
  | with_reducible refine' i_min2 ?_
  | with_reducible refine' i_max2 ?_
  | with_reducible refine' i_intB ?_
  | with_reducible refine' i_tupO ?_
  | with_reducible refine' i_tupL ?_
  | with_reducible refine' i_listT ?_
  | with_reducible refine' i_slT ?_
  | ((with_reducible refine' i_isi ?_); refine ⟨_, rfl, ?_⟩)
  | with_reducible refine' i_sset ?_
  | with_reducible refine' i_par3 ?_
  | with_reducible refine' i_par2 ?_
  | ((with_reducible refine' i_revL ?_); refine ⟨_, rfl, ?_⟩)
  | ((with_reducible refine' i_ext ?_); refine ⟨_, rfl, ?_⟩)
  | ((with_reducible refine' i_appO ?_); refine ⟨_, rfl, ?_⟩)
  | ((with_reducible refine' i_retO ?_); refine ⟨_, rfl, ?_⟩)
  | with_reducible refine' i_inI ?_
  | with_reducible refine' i_ninI ?_
  | with_reducible refine' i_inIL ?_
  | with_reducible refine' i_ninIL ?_
  | with_reducible refine' i_inP ?_
  | with_reducible refine' i_ninP ?_
  | with_reducible refine' i_eqI ?_
  | with_reducible refine' i_neI ?_
  | with_reducible refine' i_rep1 ?_
  | with_reducible refine' i_neO0 ?_
  | with_reducible refine ite_t ?_
  | with_reducible refine ite_f ?_
  | with_reducible refine ⟨_, rfl, ?_⟩
  | with_reducible refine' i_lenle (by simp; done) ?_)
local macro_rules | `(tactic| walk_at "px") => `(tactic| first
  | with_reducible refine' Eq.mpr w_m2 ?_
  | with_reducible refine' i_c ?_
  | ((with_reducible refine' i_varV ?_); refine ⟨_, rfl, ?_⟩)
  | ((with_reducible refine' i_varO ?_); refine ⟨_, rfl, ?_⟩)
  | ((with_reducible refine' i_varL ?_); refine ⟨_, rfl, ?_⟩)
  | ((with_reducible refine' i_varZ ?_); refine ⟨_, rfl, ?_⟩)
  | with_reducible refine' i_plus ?_
  | with_reducible refine' i_sub ?_
  | with_reducible refine' i_lt ?_
  | with_reducible refine' i_le ?_
  | with_reducible refine' i_gt ?_
  | with_reducible refine' i_ge ?_
  | with_reducible refine' Eq.mpr w_acons ?_
  | with_reducible refine' Eq.mpr w_anil ?_
  | with_reducible refine' Eq.mpr w_B ?_
  | with_reducible refine' Eq.mpr w_call ?_
  | with_reducible refine' Eq.mpr w_tup ?_
  | with_reducible refine' Eq.mpr w_lst ?_
  | with_reducible refine' Eq.mpr w_neg ?_
  | with_reducible refine' Eq.mpr w_an ?_
  | with_reducible refine' Eq.mpr w_oo ?_
  | with_reducible refine' Eq.mpr w_no ?_
  | with_reducible refine' Eq.mpr w_if ?_
  | with_reducible refine' Eq.mpr w_tst ?_
  | with_reducible refine' Eq.mpr w_tru ?_
  | with_reducible refine' i_truB ?_
  | with_reducible refine' Eq.mpr w_tno ?_
  | with_reducible refine' Eq.mpr w_tan ?_
  | with_reducible refine' Eq.mpr w_too ?_
  | with_reducible refine' Eq.mpr w_al ?_
  | with_reducible refine' Eq.mpr w_sl ?_
  | with_reducible refine' Eq.mpr w_onone ?_
  | with_reducible refine' Eq.mpr w_osome ?_
  | with_reducible refine' Eq.mpr w_chain ?_
  | with_reducible refine' Eq.mpr w_seq ?_
  | with_reducible refine' Eq.mpr w_snil ?_
  | with_reducible refine' Eq.mpr w_sif ?_
  | with_reducible refine' Eq.mpr w_ret ?_
  | with_reducible refine' Eq.mpr w_set ?_
  | with_reducible refine' Eq.mpr w_drop ?_
  | with_reducible refine' Eq.mpr w_unp ?_
  | with_reducible refine' Eq.mpr w_par ?_
  | with_reducible refine' Eq.mpr w_put ?_
  | with_reducible refine' Eq.mpr w_vcons ?_
  | with_reducible refine' Eq.mpr w_vnil ?_
  | with_reducible refine' Eq.mpr w_sacons ?_
  | with_reducible refine' Eq.mpr w_sanil ?_
  | with_reducible refine' Eq.mpr w_asgT ?_
  | with_reducible refine' Eq.mpr w_asgN ?_
  | ((with_reducible refine' Eq.mpr thenS_nx ?_); try dsimp only [List.set_cons_succ, List.set_cons_zero])
  | with_reducible refine' Eq.mpr thenS_rt ?_
  | with_reducible refine' Eq.mpr endF_rt ?_
  | with_reducible refine' Eq.mpr endF_nx ?_
  | with_reducible refine' Eq.mpr lea_v ?_
  | with_reducible refine' Eq.mpr lea_o ?_
  | with_reducible refine' Eq.mpr isV_v ?_
  | ((with_reducible refine' i_ixT ?_); refine ⟨_, rfl, ?_⟩)
  | ((with_reducible refine' i_ixO ?_); refine ⟨_, rfl, ?_⟩)
  | ((with_reducible refine' i_ixL ?_); refine ⟨_, rfl, ?_⟩)
  | ((with_reducible refine' i_ixR ?_); refine ⟨_, _, by assumption, rfl, ?_⟩)
  | with_reducible refine' i_lenT ?_
  | with_reducible refine' i_lenL ?_
  | with_reducible refine' i_lenO ?_
  | with_reducible refine' i_lenZ ?_
  | with_reducible refine' i_abs ?_
  | with_reducible refine' i_min2 ?_
  | with_reducible refine' i_max2 ?_
  | with_reducible refine' i_intB ?_
  | with_reducible refine' i_tupO ?_
  | with_reducible refine' i_tupL ?_
  | with_reducible refine' i_listT ?_
  | with_reducible refine' i_slT ?_
  | ((with_reducible refine' i_isi ?_); refine ⟨_, rfl, ?_⟩)
  | with_reducible refine' i_sset ?_
  | with_reducible refine ite_t ?_
  | with_reducible refine ite_f ?_
  | with_reducible refine ⟨_, rfl, ?_⟩)

/-! ### things -/
inductive Wf (h : Hh) : Val → Prop where
  | non : Wf h .non
  | bl (b : Bool) : Wf h (.bl b)
  | int (i : Int) : Wf h (.int i)
  | str (x : Str) : Wf h (.str x)
  | tup {vs : List Val} : (∀ v ∈ vs, Wf h v) → vs.length ≤ 1000 → Wf h (.tup vs)
  | ref {p : Nat} {xs : List Val} : h[p]? = some (.lst xs) → Wf h (.ref p)
def tyV : Val → Ty
  | .non => .non | .bl _ => .bl | .int _ => .int | .str _ => .str | .tup _ => .tup | .ref _ => .lst | .ty _ => .non
theorem Wf.ty {h : Hh} {v : Val} (w : Wf h v) : tyR h (.v v) = some (tyV v) := by
  cases w with
  | ref e => simp [tyR, asL, e, tyV]
  | _ => rfl
theorem Wf.part {h : Hh} {vs : List Val} (w : Wf h (.tup vs)) : (∀ v ∈ vs, Wf h v) ∧ vs.length ≤ 1000 := by
  cases w with
  | tup a b => exact ⟨a, b⟩
def isNum : Val → Bool
  | .int _ => true
  | _ => false
def below (b : Int) : Val → Bool
  | .int i => decide (0 ≤ i) && decide (i < b)
  | _ => false
def isTup : Val → Bool
  | .tup _ => true
  | _ => false
def tupOf (n : Int) : Val → Bool
  | .tup vs => (vs.length : Int) == n
  | _ => false
def risB : List Int → Bool
  | a :: b :: r => decide (a < b) && risB (b :: r)
  | _ => true
def grpB : Val → Bool
  | .tup vs => vs.all (below 8)
  | _ => false
def housesB : Val → Bool
  | .tup vs => decide (0 < vs.length) && vs.all grpB
  | _ => false
def intsOf : Val → List Int
  | .tup vs => vs.filterMap asInt
  | _ => []
def ge1 : Val → Bool
  | .int i => decide (1 ≤ i)
  | _ => false
def to4 : Val → Bool
  | .int i => decide (1 ≤ i) && decide (i ≤ 4)
  | _ => false
def ltV : Val → Val → Bool
  | .int i, .int j => decide (i < j)
  | _, _ => false
def lineB (n : Int) : Val → Bool
  | .tup [a, b, c, g, s] => below n a && below n b && ltV a b && ge1 c && grpB g && !(intsOf g).isEmpty && risB (intsOf g) && to4 s
  | _ => false
def weavB : Val → Bool
  | .tup [.tup hs, .tup ls] => housesB (.tup hs) && ls.all (lineB hs.length)
  | _ => false
theorem is_number_eq {h : Hh} {v : Val} (w : Wf h v) : m_is_number [.v v] h = some (.v (.bl (isNum v)), h) := by
  refine eqF ?_
  unfold m_is_number
  refine i_def [some (.v v)] rfl rfl ?_
  unfold b_is_number
  repeat walk_at "px"
  refine i_isi ⟨_, w.ty, ?_⟩
  repeat walk_at "px"
  cases v with
  | int i => exact ite_t (by (repeat walk_at "px"); exact ⟨rfl, rfl⟩)
  | bl b => exact ite_t (by (repeat walk_at "px"); exact ⟨rfl, rfl⟩)
  | _ => exact ite_f (by (repeat walk_at "px"); exact ⟨rfl, rfl⟩)
theorem below_eq {h : Hh} {v : Val} {b : Int} (w : Wf h v) : m_is_number_below [.v v, .v (.int b)] h = some (.v (.bl (below b v)), h) := by
  refine eqF ?_
  unfold m_is_number_below
  refine i_def [some (.v v), some (.v (.int b))] rfl rfl ?_
  unfold b_is_number_below
  repeat walk_at "px"
  refine callP (is_number_eq w) ?_
  repeat walk_at "px"
  cases v with
  | int i =>
    refine ite_t ?_
    repeat walk_at "px"
    refine ⟨0, i, rfl, rfl, ?_⟩
    refine ite_c (fun e => ?_) (fun e => ?_)
    · repeat walk_at "px"
      refine ⟨?_, rfl⟩
      show R.v (Val.bl (decide (i < b))) = R.v (Val.bl (decide (0 ≤ i) && decide (i < b)))
      rw [e]; rfl
    · repeat walk_at "px"
      refine ⟨?_, rfl⟩
      show R.v (Val.bl false) = R.v (Val.bl (decide (0 ≤ i) && decide (i < b)))
      rw [e]; rfl
  | _ => exact ite_f (by (repeat walk_at "px"); exact ⟨rfl, rfl⟩)
theorem tupOf_eq {h : Hh} {v : Val} {n : Int} (w : Wf h v) : m_is_tuple_of [.v v, .v (.int n)] h = some (.v (.bl (tupOf n v)), h) := by
  refine eqF ?_
  unfold m_is_tuple_of
  refine i_def [some (.v v), some (.v (.int n))] rfl rfl ?_
  unfold b_is_tuple_of
  repeat walk_at "px"
  refine i_isi ⟨_, w.ty, ?_⟩
  repeat walk_at "px"
  cases v with
  | tup vs =>
    refine ite_t ?_
    repeat walk_at "px"
    refine i_eqI ?_
    exact ⟨rfl, rfl⟩
  | _ => exact ite_f (by (repeat walk_at "px"); exact ⟨rfl, rfl⟩)
theorem map_bl {α : Type} (g : α → Bool) (xs : List α) : xs.map (fun v => Val.bl (g v)) = (xs.map g).map .bl := by simp
theorem all_id (bs : List Bool) : bs.all id = bs.all id := rfl
theorem all_map {α : Type} (g : α → Bool) (xs : List α) : (xs.map g).all id = xs.all g := by simp [List.all_map]
/-- all([..]) of the items, each told by a call -/
theorem grpB_eq {h : Hh} {v : Val} (w : Wf h v) : m_are_groups [.v v] h = some (.v (.bl (grpB v)), h) := by
  refine eqF ?_
  unfold m_are_groups
  refine i_def [some (.v v), none] rfl rfl ?_
  unfold b_are_groups
  repeat walk_at "px"
  refine i_isi ⟨_, w.ty, ?_⟩
  repeat walk_at "px"
  cases v with
  | tup vs =>
    obtain ⟨wv, wl⟩ := w.part
    refine ite_t ?_
    repeat walk_at "px"
    refine i_lcT ?_
    repeat walk_at "px"
    refine ⟨vs, .inl rfl, _, _, lc_map (f := fun v => .bl (below 8 v)) (by omega) (fun x hx => ⟨_, rfl, eqE ?_⟩), ?_⟩
    · repeat walk_at "px"
      exact callP (below_eq (wv x hx)) ⟨rfl, rfl⟩
    · repeat walk_at "px"
      rw [map_bl]
      refine i_allO ?_
      rw [all_map]
      exact ⟨rfl, rfl⟩
  | _ => exact ite_f (by (repeat walk_at "px"); exact ⟨rfl, rfl⟩)
theorem housesB_eq {h : Hh} {v : Val} (w : Wf h v) : m_are_houses [.v v] h = some (.v (.bl (housesB v)), h) := by
  refine eqF ?_
  unfold m_are_houses
  refine i_def [some (.v v), none] rfl rfl ?_
  unfold b_are_houses
  repeat walk_at "px"
  refine i_isi ⟨_, w.ty, ?_⟩
  repeat walk_at "px"
  cases v with
  | tup vs =>
    obtain ⟨wv, wl⟩ := w.part
    refine ite_t ?_
    repeat walk_at "px"
    refine ite_c (fun e => ?_) (fun e => ?_)
    · repeat walk_at "px"
      refine i_lcT ?_
      repeat walk_at "px"
      refine ⟨vs, .inl rfl, _, _, lc_map (f := fun v => .bl (grpB v)) (by omega) (fun x hx => ⟨_, rfl, eqE ?_⟩), ?_⟩
      · repeat walk_at "px"
        exact callP (grpB_eq (wv x hx)) ⟨rfl, rfl⟩
      · repeat walk_at "px"
        rw [map_bl]
        refine i_allO ?_
        rw [all_map]
        refine ⟨?_, rfl⟩
        have h1 := of_decide_eq_true e
        show R.v (Val.bl (vs.all grpB)) = R.v (Val.bl (decide (0 < vs.length) && vs.all grpB))
        rw [decide_eq_true (show 0 < vs.length by omega)]; rfl
    · refine ⟨?_, rfl⟩
      have h1 := of_decide_eq_false e
      show R.v (Val.bl false) = R.v (Val.bl (decide (0 < vs.length) && vs.all grpB))
      rw [decide_eq_false (show ¬ 0 < vs.length by omega)]; rfl
  | _ => exact ite_f (by (repeat walk_at "px"); exact ⟨rfl, rfl⟩)
theorem zip_tail : ∀ (ns : List Int), ((ns.zip (ns.drop 1)).map fun p => decide (p.1 < p.2)).all id = risB ns
  | [] => rfl
  | [a] => rfl
  | a :: b :: r => by
    have ih := zip_tail (b :: r)
    simp only [List.drop_succ_cons, List.drop_zero] at ih ⊢
    simp only [List.zip_cons_cons, List.map_cons, List.all_cons, risB, id]
    rw [← ih]
theorem ris_eq {h : Hh} {ns : List Int} (hl : ns.length ≤ 1000) : m_is_rising [.v (.tup (ns.map .int))] h = some (.v (.bl (risB ns)), h) := by
  refine eqF ?_
  unfold m_is_rising
  refine i_def [some (.v (.tup (ns.map .int))), none, none] rfl rfl ?_
  unfold b_is_rising
  repeat walk_at "px"
  refine i_lcZq ?_
  repeat walk_at "px"
  refine ⟨ns.map .int, (ns.drop 1).map .int, .inl ⟨rfl, ?_⟩, ?_⟩
  · rw [List.map_drop]
    unfold cut
    rw [show HT.sIx (ns.map Val.int).length 0 (some 1) = min 1 (ns.map Val.int).length from HT.sIx_nat _ 0 1, HT.sIx_none]
    congr 2
    rw [List.take_of_length_le (by simp)]
    cases ns with
    | nil => rfl
    | cons a r =>
      rw [show min 1 (List.map Val.int (a :: r)).length = 1 by simp]
  · have e1 : (((ns.map Val.int).zip ((ns.drop 1).map Val.int)).map fun p => Val.tup [p.1, p.2]) = (ns.zip (ns.drop 1)).map fun p => Val.tup [.int p.1, .int p.2] := by
      rw [List.zip_map, List.map_map]; rfl
    rw [e1]
    let f : Val → Val := fun v => match v with
      | .tup [.int a, .int b] => .bl (decide (a < b))
      | _ => .non
    refine ⟨_, _, lc_map (f := f) (by simp; omega) (fun x hx => ?_), ?_⟩
    · obtain ⟨⟨a, b⟩, _, rfl⟩ := List.mem_map.mp hx
      refine ⟨_, rfl, eqE ?_⟩
      repeat walk_at "px"
      exact ⟨rfl, rfl⟩
    · repeat walk_at "px"
      have e2 : ((ns.zip (ns.drop 1)).map fun p => Val.tup [.int p.1, .int p.2]).map f = ((ns.zip (ns.drop 1)).map fun p => decide (p.1 < p.2)).map Val.bl := by
        rw [List.map_map, List.map_map]; rfl
      rw [e2]
      refine i_allO ?_
      rw [zip_tail]
      exact ⟨rfl, rfl⟩
theorem nat_len {vs : List Val} {n : Nat} (e : tupOf n (.tup vs) = true) : vs.length = n := by
  have : ((vs.length : Int) == (n : Int)) = true := e
  have := eq_of_beq this
  omega
theorem tupOf_cases {v : Val} {n : Nat} (e : tupOf n v = true) : ∃ vs, v = .tup vs ∧ vs.length = n := by
  cases v with
  | tup vs => exact ⟨vs, rfl, nat_len e⟩
  | _ => exact absurd e (by simp [tupOf])
theorem ints_of_grp {g : Val} (e : grpB g = true) : ∃ ns : List Int, g = .tup (ns.map .int) ∧ intsOf g = ns ∧ ∀ n ∈ ns, 0 ≤ n ∧ n < 8 := by
  cases g with
  | tup vs =>
    have h1 : vs.all (below 8) = true := e
    clear e
    suffices h : ∃ ns : List Int, vs = ns.map .int ∧ vs.filterMap asInt = ns ∧ ∀ n ∈ ns, 0 ≤ n ∧ n < 8 by
      obtain ⟨ns, e1, e2, e3⟩ := h
      exact ⟨ns, by rw [e1], e2, e3⟩
    induction vs with
    | nil => exact ⟨[], rfl, rfl, fun n hn => by simp at hn⟩
    | cons a r ih =>
      rw [List.all_cons, Bool.and_eq_true] at h1
      obtain ⟨ns, e1, e2, e3⟩ := ih h1.2
      cases a with
      | int i =>
        have h2 : (decide (0 ≤ i) && decide (i < 8)) = true := h1.1
        simp only [Bool.and_eq_true, decide_eq_true_eq] at h2
        refine ⟨i :: ns, by rw [e1]; rfl, by simp [asInt, e2], fun n hn => ?_⟩
        rcases List.mem_cons.mp hn with rfl | hn
        · exact h2
        · exact e3 n hn
      | _ => exact absurd h1.1 (by simp [below])
  | _ => exact absurd e (by simp [grpB])
theorem bnot_t {b : Bool} (e : (!b) = true) : b = false := by cases b <;> simp_all
theorem bnot_f {b : Bool} (e : (!b) = false) : b = true := by cases b <;> simp_all
theorem below_num {n : Int} {a : Val} (e : below n a = true) : ∃ i, a = .int i ∧ 0 ≤ i ∧ i < n := by
  cases a with
  | int i =>
    have h2 : (decide (0 ≤ i) && decide (i < n)) = true := e
    simp only [Bool.and_eq_true, decide_eq_true_eq] at h2
    exact ⟨i, rfl, h2⟩
  | _ => exact absurd e (by simp [below])
theorem isNum_num {a : Val} (e : isNum a = true) : ∃ i, a = .int i := by
  cases a with
  | int i => exact ⟨i, rfl⟩
  | _ => exact absurd e (by simp [isNum])
theorem lineB_eq {h : Hh} {v : Val} {n : Int} (w : Wf h v) : m_is_line [.v v, .v (.int n)] h = some (.v (.bl (lineB n v)), h) := by
  refine eqF ?_
  unfold m_is_line
  refine i_def [some (.v v), some (.v (.int n)), none, none, none, none, none] rfl rfl ?_
  unfold b_is_line
  repeat walk_at "px"
  refine callP (tupOf_eq w) ?_
  repeat walk_at "px"
  refine ite_c (fun e => ?_) (fun e => ?_)
  · repeat walk_at "px"
    refine ⟨?_, rfl⟩
    have e1 := bnot_t e
    have : lineB n v = false := by
      unfold lineB
      split
      · exact absurd e1 (by simp [tupOf])
      · rfl
    rw [this]
  · obtain ⟨vs, rfl, hl⟩ := tupOf_cases (n := 5) (bnot_f e)
    match vs, hl with
    | [a, b, c, g, s], _ =>
    obtain ⟨wp, _⟩ := w.part
    have wa := wp a (by simp)
    have wb := wp b (by simp)
    have wc := wp c (by simp)
    have wg := wp g (by simp)
    have ws := wp s (by simp)
    have go : ∀ {x : Bool} {Q : QE}, (lineB n (.tup [a, b, c, g, s]) = x) → (Q = fun r h' => r = R.v (.bl (lineB n (.tup [a, b, c, g, s]))) ∧ h' = h) → Q (.v (.bl x)) h := fun e1 e2 => by
      rw [e2, e1]; exact ⟨rfl, rfl⟩
    have el : lineB n (.tup [a, b, c, g, s]) = (below n a && below n b && ltV a b && ge1 c && grpB g && !(intsOf g).isEmpty && risB (intsOf g) && to4 s) := rfl
    repeat walk_at "px"
    refine callP (below_eq wa) ?_
    repeat walk_at "px"
    refine ite_c (fun e1 => ?_) (fun e1 => ?_)
    · refine ite_t ?_
      repeat walk_at "px"
      exact go (by rw [el, bnot_t e1]; rfl) rfl
    have a1 := bnot_f e1
    obtain ⟨i, rfl, i1, i2⟩ := below_num a1
    repeat walk_at "px"
    refine callP (below_eq wb) ?_
    repeat walk_at "px"
    refine ite_c (fun e2 => ?_) (fun e2 => ?_)
    · refine ite_t ?_
      repeat walk_at "px"
      exact go (by rw [el, bnot_t e2, Bool.and_false]; rfl) rfl
    have a2 := bnot_f e2
    obtain ⟨j, rfl, j1, j2⟩ := below_num a2
    repeat walk_at "px"
    refine ite_c (fun e3 => ?_) (fun e3 => ?_)
    · repeat walk_at "px"
      have l3 : ltV (.int i) (.int j) = false := decide_eq_false (by have := of_decide_eq_true e3; omega)
      exact go (by rw [el, l3, Bool.and_false]; rfl) rfl
    have l3 : ltV (.int i) (.int j) = true := decide_eq_true (by have := of_decide_eq_false e3; omega)
    repeat walk_at "px"
    refine callP (is_number_eq wc) ?_
    repeat walk_at "px"
    refine ite_c (fun e4 => ?_) (fun e4 => ?_)
    · refine ite_t ?_
      repeat walk_at "px"
      have c4 : ge1 c = false := by
        cases c with
        | int z => exact absurd (bnot_t e4) (by simp [isNum])
        | _ => rfl
      exact go (by rw [el, c4, Bool.and_false]; rfl) rfl
    obtain ⟨z, rfl⟩ := isNum_num (bnot_f e4)
    repeat walk_at "px"
    refine ite_c (fun e5 => ?_) (fun e5 => ?_)
    · repeat walk_at "px"
      have c4 : ge1 (.int z) = false := decide_eq_false (by have := of_decide_eq_true e5; omega)
      exact go (by rw [el, c4, Bool.and_false]; rfl) rfl
    have c4 : ge1 (.int z) = true := decide_eq_true (by have := of_decide_eq_false e5; omega)
    repeat walk_at "px"
    refine callP (grpB_eq wg) ?_
    repeat walk_at "px"
    refine ite_c (fun e6 => ?_) (fun e6 => ?_)
    · refine ite_t ?_
      repeat walk_at "px"
      exact go (by rw [el, bnot_t e6, Bool.and_false]; rfl) rfl
    have g6 := bnot_f e6
    obtain ⟨ns, rfl, eg, _⟩ := ints_of_grp g6
    have nl : ns.length ≤ 1000 := by simpa using wg.part.2
    repeat walk_at "px"
    refine i_eqI ?_
    repeat walk_at "px"
    refine ite_c (fun e7 => ?_) (fun e7 => ?_)
    · refine ite_t ?_
      repeat walk_at "px"
      have n0 : ns = [] := by
        have := eq_of_beq e7
        simp at this
        exact this
      exact go (by rw [el, eg, n0]; simp) rfl
    have n0 : ns.isEmpty = false := by
      cases ns with
      | nil => simp at e7
      | cons _ _ => rfl
    repeat walk_at "px"
    refine callP (ris_eq nl) ?_
    repeat walk_at "px"
    refine ite_c (fun e8 => ?_) (fun e8 => ?_)
    · repeat walk_at "px"
      exact go (by rw [el, eg, bnot_t e8, Bool.and_false]; rfl) rfl
    have r8 := bnot_f e8
    repeat walk_at "px"
    refine callP (is_number_eq ws) ?_
    have el2 : lineB n (.tup [.int i, .int j, .int z, .tup (ns.map .int), s]) = to4 s := by rw [el, a1, a2, l3, c4, g6, eg, n0, r8]; rfl
    repeat walk_at "px"
    refine ite_c (fun e9 => ?_) (fun e9 => ?_)
    · obtain ⟨y, rfl⟩ := isNum_num e9
      repeat walk_at "px"
      refine ⟨1, y, rfl, rfl, ?_⟩
      refine ite_c (fun e10 => ?_) (fun e10 => ?_)
      · repeat walk_at "px"
        refine go (by rw [el2]; show (decide (1 ≤ y) && decide (y ≤ 4)) = _; rw [e10]; rfl) rfl
      · repeat walk_at "px"
        refine go (by rw [el2]; show (decide (1 ≤ y) && decide (y ≤ 4)) = _; rw [e10]; rfl) rfl
    · repeat walk_at "px"
      refine go (by
        rw [el2]
        cases s with
        | int y => exact absurd e9 (by simp [isNum])
        | _ => rfl) rfl
theorem weavB_eq {h : Hh} {v : Val} (w : Wf h v) : m_is_weaving [.v v] h = some (.v (.bl (weavB v)), h) := by
  refine eqF ?_
  unfold m_is_weaving
  refine i_def [some (.v v), none, none, none] rfl rfl ?_
  unfold b_is_weaving
  repeat walk_at "px"
  refine callP (tupOf_eq w) ?_
  repeat walk_at "px"
  refine ite_c (fun e => ?_) (fun e => ?_)
  · repeat walk_at "px"
    refine ⟨?_, rfl⟩
    have e1 := bnot_t e
    have : weavB v = false := by
      unfold weavB
      split
      · exact absurd e1 (by simp [tupOf])
      · rfl
    rw [this]
  · obtain ⟨vs, rfl, hl⟩ := tupOf_cases (n := 2) (bnot_f e)
    match vs, hl with
    | [a, b], _ =>
    obtain ⟨wp, _⟩ := w.part
    have wa := wp a (by simp)
    have wb := wp b (by simp)
    repeat walk_at "px"
    refine callP (housesB_eq wa) ?_
    repeat walk_at "px"
    refine ite_c (fun e1 => ?_) (fun e1 => ?_)
    · refine ite_t ?_
      repeat walk_at "px"
      refine ⟨?_, rfl⟩
      have : weavB (.tup [a, b]) = false := by
        unfold weavB
        split
        · rename_i hs ls e2
          simp only [Val.tup.injEq, List.cons.injEq] at e2
          obtain ⟨rfl, _⟩ := e2
          rw [bnot_t e1]; rfl
        · rfl
      rw [this]
    have a1 := bnot_f e1
    have ea : ∃ hs, a = .tup hs := by
      cases a with
      | tup hs => exact ⟨hs, rfl⟩
      | _ => exact absurd a1 (by simp [housesB])
    obtain ⟨hs, rfl⟩ := ea
    repeat walk_at "px"
    refine i_isi ⟨_, wb.ty, ?_⟩
    repeat walk_at "px"
    cases b with
    | tup ls =>
      obtain ⟨wl, hl2⟩ := wb.part
      refine ite_f ?_
      repeat walk_at "px"
      refine i_lcT ?_
      repeat walk_at "px"
      refine ⟨ls, .inl rfl, _, _, lc_map (f := fun v => .bl (lineB hs.length v)) (by omega) (fun x hx => ⟨_, rfl, eqE ?_⟩), ?_⟩
      · repeat walk_at "px"
        exact callP (lineB_eq (wl x hx)) ⟨rfl, rfl⟩
      · repeat walk_at "px"
        rw [map_bl]
        refine i_allO ?_
        rw [all_map]
        refine ⟨?_, rfl⟩
        show _ = R.v (Val.bl (housesB (.tup hs) && ls.all (lineB hs.length)))
        rw [a1]; rfl
    | _ => exact ite_t (by (repeat walk_at "px"); exact ⟨rfl, rfl⟩)

end K56
set_option Elab.async false
set_option linter.all false
set_option maxRecDepth 100000
set_option maxHeartbeats 2000000
namespace K56
open PySem PySem.Spec PyProof.Rows L2 NL
local macro_rules | `(tactic| walk_at "pz") => `(tactic| first
  | with_reducible refine' Eq.mpr w_m2 ?_
  | with_reducible refine' i_c ?_
  | ((with_reducible refine' i_varV ?_); refine ⟨_, rfl, ?_⟩)
  | ((with_reducible refine' i_varO ?_); refine ⟨_, rfl, ?_⟩)
  | ((with_reducible refine' i_varL ?_); refine ⟨_, rfl, ?_⟩)
  | ((with_reducible refine' i_varZ ?_); refine ⟨_, rfl, ?_⟩)
  | with_reducible refine' i_plus ?_
  | with_reducible refine' i_sub ?_
  | with_reducible refine' i_lt ?_
  | with_reducible refine' i_le ?_
  | with_reducible refine' i_gt ?_
  | with_reducible refine' i_ge ?_
  | with_reducible refine' Eq.mpr w_acons ?_
  | with_reducible refine' Eq.mpr w_anil ?_
  | with_reducible refine' Eq.mpr w_B ?_
  | with_reducible refine' Eq.mpr w_call ?_
  | with_reducible refine' Eq.mpr w_tup ?_
  | with_reducible refine' Eq.mpr w_lst ?_
  | with_reducible refine' Eq.mpr w_neg ?_
  | with_reducible refine' Eq.mpr w_an ?_
  | with_reducible refine' Eq.mpr w_oo ?_
  | with_reducible refine' Eq.mpr w_no ?_
  | with_reducible refine' Eq.mpr w_if ?_
  | with_reducible refine' Eq.mpr w_tst ?_
  | with_reducible refine' Eq.mpr w_tru ?_
  | with_reducible refine' i_truB ?_
  | with_reducible refine' Eq.mpr w_tno ?_
  | with_reducible refine' Eq.mpr w_tan ?_
  | with_reducible refine' Eq.mpr w_too ?_
  | with_reducible refine' Eq.mpr w_al ?_
  | with_reducible refine' Eq.mpr w_sl ?_
  | with_reducible refine' Eq.mpr w_onone ?_
  | with_reducible refine' Eq.mpr w_osome ?_
  | with_reducible refine' Eq.mpr w_chain ?_
  | with_reducible refine' Eq.mpr w_seq ?_
  | with_reducible refine' Eq.mpr w_snil ?_
  | with_reducible refine' Eq.mpr w_sif ?_
  | with_reducible refine' Eq.mpr w_ret ?_
  | with_reducible refine' Eq.mpr w_set ?_
  | with_reducible refine' Eq.mpr w_drop ?_
  | with_reducible refine' Eq.mpr w_unp ?_
  | with_reducible refine' Eq.mpr w_par ?_
  | with_reducible refine' Eq.mpr w_put ?_
  | with_reducible refine' Eq.mpr w_vcons ?_
  | with_reducible refine' Eq.mpr w_vnil ?_
  | with_reducible refine' Eq.mpr w_sacons ?_
  | with_reducible refine' Eq.mpr w_sanil ?_
  | with_reducible refine' Eq.mpr w_asgT ?_
  | with_reducible refine' Eq.mpr w_asgN ?_
  | ((with_reducible refine' Eq.mpr thenS_nx ?_); try dsimp only [List.set_cons_succ, List.set_cons_zero])
  | with_reducible refine' Eq.mpr thenS_rt ?_
  | with_reducible refine' Eq.mpr endF_rt ?_
  | with_reducible refine' Eq.mpr endF_nx ?_
  | with_reducible refine' Eq.mpr lea_v ?_
  | with_reducible refine' Eq.mpr lea_o ?_
  | with_reducible refine' Eq.mpr isV_v ?_
  | ((with_reducible refine' i_ixT ?_); refine ⟨_, rfl, ?_⟩)
  | ((with_reducible refine' i_ixO ?_); refine ⟨_, rfl, ?_⟩)
  | ((with_reducible refine' i_ixL ?_); refine ⟨_, rfl, ?_⟩)
  | ((with_reducible refine' i_ixR ?_); refine ⟨_, _, by assumption, rfl, ?_⟩)
  | with_reducible refine' i_lenT ?_
  | with_reducible refine' i_lenL ?_
  | with_reducible refine' i_lenO ?_
  | with_reducible refine' i_lenZ ?_
  | with_reducible refine' i_abs ?_
  | with_reducible refine' i_min2 ?_
  | with_reducible refine' i_max2 ?_
  | with_reducible refine' i_intB ?_
  | with_reducible refine' i_tupO ?_
  | with_reducible refine' i_tupL ?_
  | with_reducible refine' i_listT ?_
  | with_reducible refine' i_slT ?_
  | ((with_reducible refine' i_isi ?_); refine ⟨_, rfl, ?_⟩)
  | with_reducible refine' i_sset ?_
  | with_reducible refine' i_par3 ?_
  | with_reducible refine' i_par2 ?_
  | ((with_reducible refine' i_revL ?_); refine ⟨_, rfl, ?_⟩)
  | ((with_reducible refine' i_ext ?_); refine ⟨_, rfl, ?_⟩)
  | ((with_reducible refine' i_appO ?_); refine ⟨_, rfl, ?_⟩)
  | ((with_reducible refine' i_retO ?_); refine ⟨_, rfl, ?_⟩)
  | with_reducible refine' i_inI ?_
  | with_reducible refine' i_ninI ?_
  | with_reducible refine' i_inIL ?_
  | with_reducible refine' i_ninIL ?_
  | with_reducible refine' i_inP ?_
  | with_reducible refine' i_ninP ?_
  | with_reducible refine' i_eqI ?_
  | with_reducible refine' i_neI ?_
  | with_reducible refine' i_rep1 ?_
  | with_reducible refine' i_neO0 ?_
  | with_reducible refine ite_t ?_
  | with_reducible refine ite_f ?_
  | with_reducible refine ⟨_, rfl, ?_⟩
  | with_reducible refine' i_lenle (by simp; done) ?_)
open PySem.W PySem.SeqAt
theorem isLs_at {h : Hh} {q : Nat} {xs : List Val} (e : h[q]? = some (.lst xs)) : isLs h q = true := by unfold isLs; rw [e]
theorem i_eqT {h : Hh} {a b : Str} {Q : QE} {neg : Bool} (oa : PyData.strOk a = true) (ob : PyData.strOk b = true) (q : Q (.v (.bl ((decide (a = b)) != neg))) h) : wV (fEq neg (.v (.str a)) (.v (.str b)) h) Q := by
  have ea : dat h (.v (.str a)) = some (.str a) := by simp [dat, datV, oa]
  have eb : dat h (.v (.str b)) = some (.str b) := by simp [dat, datV, ob]
  have e : PyData.eqv (.str a) (.str b) = decide (a = b) := by
    rw [Bool.eq_iff_iff]
    simp [PyData.eqv]
  exact ⟨_, _, by simp only [fEq, ea, eb, Option.bind_some]; rw [e], q⟩
theorem number_from_eq {h : Hh} {i : Int} (h0 : 0 ≤ i) (h1 : i < 10000) : m_number_from [.v (sI i)] h = some (.v (.int i), h) := by
  have l4 := len_num4 h0 h1
  refine eqF ?_
  unfold m_number_from sI
  refine i_def [some (.v (.str (Str.ofString (toString i)))), none] rfl rfl ?_
  unfold b_number_from
  repeat walk_at "pz"
  refine i_lenS (by omega) ?_
  repeat walk_at "pz"
  refine ite_c (fun c => absurd (of_decide_eq_true c) (by omega)) (fun _ => ?_)
  repeat walk_at "pz"
  refine w_txB ?_
  repeat walk_at "pz"
  rw [ascii_num h0 h1]
  refine ite_c (fun c => by cases c) (fun _ => ?_)
  repeat walk_at "pz"
  refine w_txB ?_
  repeat walk_at "pz"
  rw [digit_num h0 h1]
  refine ite_c (fun c => by cases c) (fun _ => ?_)
  repeat walk_at "pz"
  refine i_intS (PySem.W.KIN.num_reads h0 (by omega)) (by omega) ?_
  repeat walk_at "pz"
  refine ⟨_, _, strI_ok h0 h1, ?_⟩
  repeat walk_at "pz"
  refine i_eqT (strOk_num h0 h1) (strOk_num h0 h1) ?_
  repeat walk_at "pz"
  rw [decide_eq_true rfl, Bool.bne_false]
  repeat walk_at "pz"
  exact ⟨rfl, rfl⟩
/-- a line whose cost has four figures at most -/
structure LnQ (n : Int) (x : Ln) : Prop where
  a : 0 ≤ x.one
  b : x.one < x.other
  c : x.other < n
  d : 1 ≤ x.cost
  e : x.cost < 10000
  f : x.gs ≠ []
  g : G8 x.gs
  h : x.gs.Pairwise (· < ·)
  i : 1 ≤ x.st
  j : x.st ≤ 4
theorem LnQ.sf {n : Int} {x : Ln} (o : LnQ n x) (hn : n ≤ 100) : Sf (lnN x) := by
  have a := o.a
  have b := o.b
  have c := o.c
  have d := o.d
  have e := o.e
  have i1 := o.i
  have j1 := o.j
  have lg := rise_short o.h o.g
  refine ⟨by unfold lnN; simp; omega, fun i hi => ?_⟩
  unfold lnN at hi
  rcases List.mem_append.mp hi with hi | hi
  · simp only [List.mem_cons, List.not_mem_nil, or_false] at hi
    rcases hi with rfl | rfl | rfl | rfl <;> omega
  · have := o.g i hi
    omega
theorem wf_ints {h : Hh} {ns : List Int} (hl : ns.length ≤ 1000) : Wf h (.tup (ns.map .int)) := .tup (fun v hv => by
  obtain ⟨i, _, rfl⟩ := List.mem_map.mp hv
  exact .int i) (by simpa using hl)
theorem wf_hv {h : Hh} {gs : List Int} (hl : gs.length ≤ 1000) : Wf h (hv gs) := wf_ints hl
theorem wf_ln {h : Hh} {x : Ln} (hl : x.gs.length ≤ 1000) : Wf h x.v := .tup (fun v hv => by
  simp only [List.mem_cons, List.not_mem_nil, or_false] at hv
  rcases hv with rfl | rfl | rfl | rfl | rfl
  · exact .int _
  · exact .int _
  · exact .int _
  · exact wf_ints hl
  · exact .int _) (by simp)
theorem grpB_ints {gs : List Int} (g : G8 gs) : grpB (.tup (gs.map .int)) = true := by
  show (gs.map Val.int).all (below 8) = true
  rw [List.all_map, List.all_eq_true]
  intro i hi
  have := g i hi
  show (decide (0 ≤ i) && decide (i < 8)) = true
  rw [decide_eq_true this.1, decide_eq_true this.2]
  rfl
theorem intsOf_ints {gs : List Int} : intsOf (.tup (gs.map .int)) = gs := by
  show (gs.map Val.int).filterMap asInt = gs
  induction gs with
  | nil => rfl
  | cons a r ih =>
    rw [List.map_cons, List.filterMap_cons, ih]
    rfl
theorem risB_pw : ∀ {l : List Int}, l.Pairwise (· < ·) → risB l = true
  | [], _ => rfl
  | [a], _ => rfl
  | a :: b :: r, h => by
    obtain ⟨h1, h2⟩ := List.pairwise_cons.mp h
    show (decide (a < b) && risB (b :: r)) = true
    rw [decide_eq_true (h1 b (List.mem_cons_self ..)), risB_pw h2]
    rfl
theorem lineB_ln {n : Int} {x : Ln} (o : LnQ n x) : lineB n x.v = true := by
  have a := o.a
  have b := o.b
  have c := o.c
  have d := o.d
  have i1 := o.i
  have j1 := o.j
  show (below n (.int x.one) && below n (.int x.other) && ltV (.int x.one) (.int x.other) && ge1 (.int x.cost) && grpB (.tup (x.gs.map .int)) && !(intsOf (.tup (x.gs.map .int))).isEmpty && risB (intsOf (.tup (x.gs.map .int))) && to4 (.int x.st)) = true
  rw [grpB_ints o.g, intsOf_ints, risB_pw o.h]
  have e : x.gs.isEmpty = false := by
    have := o.f
    cases h : x.gs with
    | nil => exact absurd h this
    | cons _ _ => rfl
  rw [e]
  have e1 : below n (.int x.one) = true := by
    show (decide (0 ≤ x.one) && decide (x.one < n)) = true
    rw [decide_eq_true a, decide_eq_true (show x.one < n by omega)]
    rfl
  have e2 : below n (.int x.other) = true := by
    show (decide (0 ≤ x.other) && decide (x.other < n)) = true
    rw [decide_eq_true (show 0 ≤ x.other by omega), decide_eq_true c]
    rfl
  have e3 : ltV (.int x.one) (.int x.other) = true := decide_eq_true b
  have e4 : ge1 (.int x.cost) = true := decide_eq_true d
  have e5 : to4 (.int x.st) = true := by
    show (decide (1 ≤ x.st) && decide (x.st ≤ 4)) = true
    rw [decide_eq_true i1, decide_eq_true j1]
    rfl
  rw [e1, e2, e3, e4, e5]
  rfl
theorem line_of_eq {h : Hh} {x : Ln} (hl : x.gs.length ≤ 100) : m_line_of [.l ((lnN x).map .int)] h = some (.v x.v, h) := by
  have e : (lnN x).map Val.int = Val.int x.one :: .int x.other :: .int x.cost :: .int x.st :: x.gs.map .int := by unfold lnN; simp
  rw [e]
  refine eqF ?_
  unfold m_line_of
  refine i_def [some (.l (Val.int x.one :: .int x.other :: .int x.cost :: .int x.st :: x.gs.map .int)), none, none, none, none, none] rfl rfl ?_
  unfold b_line_of
  repeat walk_at "pz"
  refine ite_c (fun c => absurd (of_decide_eq_true c) (by simp; omega)) (fun _ => ?_)
  repeat walk_at "pz"
  refine i_unpS ?_
  repeat walk_at "pz"
  refine ⟨_, _, rfl, by simp, by simp; omega, rfl, ?_⟩
  dsimp only [List.set_cons_succ, List.set_cons_zero, List.length_cons, List.length_nil, List.drop]
  repeat walk_at "pz"
  exact ⟨rfl, rfl⟩
theorem cut1 {v : Val} {vs : List Val} : cut (v :: vs) (some 1) none = vs := by
  unfold cut
  rw [show HT.sIx (v :: vs).length 0 (some 1) = min 1 (v :: vs).length from HT.sIx_nat _ 0 1, HT.sIx_none, show min 1 (v :: vs).length = 1 by simp]
  simp
theorem wds_map {w : Str} {ns : List Int} : (wds w ns).map Val.str = Val.str w :: ns.map sI := by
  unfold wds
  rw [List.map_cons, List.map_map]
  rfl
theorem at0 {w : Str} {ns : List Int} : atI ((wds w ns).map Val.str) 0 = some (Val.str w) := by
  rw [wds_map]
  exact atI_nat (j := 0) rfl
theorem nums_eq {h : Hh} {w : Str} {ns : List Int} {a b : Option R} {Q : QE} (s : Sf ns) (q : Q (.o (ns.map .int)) h) :
    wE (mLc [3] (iE (mSl (mVar 2) (oSome (mC (.int 1))) oNone)) (.nm 3) tYe (mCall m_number_from (aCons (mVar 3) aNil))) [a, b, some (.l ((wds w ns).map .str)), none, none] h Q := by
  have l := s.1
  refine i_lcY (g := sI) (f := Val.int) (xs := ns) (by omega) ?_
  repeat walk_at "pz"
  refine i_slA .l (fun _ c => by cases c) ?_
  have e : (wds w ns).map Val.str = Val.str w :: ns.map sI := by
    unfold wds
    rw [List.map_cons, List.map_map]
    rfl
  rw [e, cut1]
  refine ⟨.o, fun i hi => ⟨_, rfl, eqE ?_⟩, q⟩
  dsimp only [wipeA, List.set_cons_succ, List.set_cons_zero]
  repeat walk_at "pz"
  refine callP (number_from_eq (s.2 i hi).1 (s.2 i hi).2) ?_
  exact ⟨rfl, rfl⟩
theorem house_line : (decide (("house" : Str) = "line")) = false := by decide +kernel
theorem line_house : (decide (("line" : Str) = "house")) = false := by decide +kernel
theorem house_strOk : PyData.strOk ("house" : Str) = true := by decide +kernel
theorem line_strOk : PyData.strOk ("line" : Str) = true := by decide +kernel
theorem tru_nil {h : Hh} {b : Nat} {K : Bool → Prop} {xs : List Val} (e : h[b]? = some (.lst xs)) (q : K (!xs.isEmpty)) : ∃ c, tru h (.v (.ref b)) = some c ∧ K c := ⟨_, by simp only [tru, asL, e, Option.map_some], q⟩
theorem put_house {h : Hh} {a b : Nat} {gs : List Int} {hs : List Val} {Q : QE} (s : Sf gs) (g : G8 gs) (ea : h[a]? = some (.lst hs)) (eb : h[b]? = some (.lst [])) (hl : hs.length ≤ 1000) (q : Q (.v (.bl true)) (h.set a (.lst (hs ++ [hv gs])))) :
    wF m_put_row [.v (.ref a), .v (.ref b), .l ((wds "house" gs).map .str)] h Q := by
  have l := s.1
  unfold m_put_row
  refine i_def [some (.v (.ref a)), some (.v (.ref b)), some (.l ((wds "house" gs).map .str)), none, none] rfl rfl ?_
  unfold b_put_row
  repeat walk_at "pz"
  refine nums_eq s ?_
  repeat walk_at "pz"
  refine i_ixL ⟨_, at0, ?_⟩
  repeat walk_at "pz"
  refine i_eqT house_strOk house_strOk ?_
  rw [decide_eq_true rfl, Bool.bne_false]
  repeat walk_at "pz"
  refine tru_nil eb ?_
  refine ite_c (fun _ => ?_) (fun c => by simp at c)
  repeat walk_at "pz"
  refine callP (grpB_eq (wf_ints (ns := gs) (by omega))) ?_
  rw [grpB_ints g]
  repeat walk_at "pz"
  refine i_appR rfl (isLs_at ea) ?_
  repeat walk_at "pz"
  refine ⟨_, _, rfl, ea, by omega, ?_⟩
  repeat walk_at "pz"
  exact q
theorem put_line {h : Hh} {a b : Nat} {n : Nat} {x : Ln} {hs ls : List Val} {Q : QE} (hn : n ≤ 100) (o : LnQ n x) (ea : h[a]? = some (.lst hs)) (en : hs.length = n) (eb : h[b]? = some (.lst ls)) (hl : ls.length ≤ 1000) (q : Q (.v (.bl true)) (h.set b (.lst (ls ++ [x.v])))) :
    wF m_put_row [.v (.ref a), .v (.ref b), .l ((wds "line" (lnN x)).map .str)] h Q := by
  have s := o.sf (by omega)
  have lg := rise_short o.h o.g
  subst en
  unfold m_put_row
  refine i_def [some (.v (.ref a)), some (.v (.ref b)), some (.l ((wds "line" (lnN x)).map .str)), none, none] rfl rfl ?_
  unfold b_put_row
  repeat walk_at "pz"
  refine nums_eq s ?_
  repeat walk_at "pz"
  refine i_ixL ⟨_, at0, ?_⟩
  repeat walk_at "pz"
  refine i_eqT line_strOk house_strOk ?_
  rw [line_house, Bool.bne_false]
  repeat walk_at "pz"
  refine i_ixL ⟨_, at0, ?_⟩
  repeat walk_at "pz"
  refine i_eqT line_strOk line_strOk ?_
  rw [decide_eq_true rfl, Bool.bne_false]
  repeat walk_at "pz"
  refine callP (line_of_eq (by omega)) ?_
  repeat walk_at "pz"
  refine i_lenR ea ?_
  repeat walk_at "pz"
  refine callP (lineB_eq (wf_ln (by omega))) ?_
  rw [lineB_ln o]
  repeat walk_at "pz"
  refine i_appR rfl (isLs_at eb) ?_
  repeat walk_at "pz"
  refine callP (line_of_eq (by omega)) ?_
  refine ⟨_, _, rfl, eb, by omega, ?_⟩
  repeat walk_at "pz"
  exact q
/-- what a weaving's text is read to -/
structure Wr (Hs : List (List Int)) (L : List Ln) : Prop where
  one : Hs ≠ []
  few : Hs.length + L.length ≤ 80
  hs : ∀ gs ∈ Hs, G8 gs ∧ gs.length ≤ 30
  ls : ∀ x ∈ L, LnQ Hs.length x
theorem Wr.wq {Hs : List (List Int)} {L : List Ln} (k : Wr Hs L) : Wq Hs L := ⟨k.one, fun gs hg => ⟨(k.hs gs hg).2, fun i hi => by have := (k.hs gs hg).1 i hi; omega⟩, fun x hx => (k.ls x hx).sf (by have := k.few; omega), k.few⟩
theorem getRows {Hs : List (List Int)} {L : List Ln} {i : Nat} {r : Str} (e : (rowsT Hs L)[i]? = some r) : (∃ gs, Hs[i]? = some gs ∧ r = rowT "house" gs) ∨ (Hs.length ≤ i ∧ ∃ x, L[i - Hs.length]? = some x ∧ r = rowT "line" (lnN x)) := by
  unfold rowsT at e
  by_cases c : i < Hs.length
  · rw [List.getElem?_append_left (by rw [List.length_map]; exact c), List.getElem?_map, Option.map_eq_some_iff] at e
    obtain ⟨gs, e1, rfl⟩ := e
    exact .inl ⟨gs, e1, rfl⟩
  · rw [List.getElem?_append_right (by rw [List.length_map]; omega), List.getElem?_map, Option.map_eq_some_iff, List.length_map] at e
    obtain ⟨x, e1, rfl⟩ := e
    exact .inr ⟨by omega, x, e1, rfl⟩
theorem weaving_from_ok {h : Hh} {Hs : List (List Int)} {L : List Ln} {Q : QE} (k : Wr Hs L) (q : ∀ h', (∀ (i : Nat) (o : Ob), h[i]? = some o → h'[i]? = some o) → Q (.v (wv (Hs.map hv) L)) h') : wF m_weaving_from [.v (.str (textT Hs L))] h Q := by
  have wq := k.wq
  have tl := textq_len wq
  have few := k.few
  have rl : (rowsT Hs L).length = Hs.length + L.length := by
    unfold rowsT
    rw [List.length_append, List.length_map, List.length_map]
  unfold m_weaving_from
  refine i_def [some (.v (.str (textT Hs L))), none, none, none, none] rfl rfl ?_
  unfold b_weaving_from
  repeat walk_at "pz"
  refine w_split ?_
  repeat walk_at "pz"
  refine ⟨by decide +kernel, by omega, ?_⟩
  rw [splitq_text wq]
  repeat walk_at "pz"
  refine for_range ?_
  repeat walk_at "pz"
  have x0 : (h ++ [Ob.lst []] ++ [Ob.lst []])[h.length]? = some (.lst []) := by
    rw [List.getElem?_append_left (by simp), List.getElem?_append_right (Nat.le_refl _), Nat.sub_self]
    rfl
  have y0 : (h ++ [Ob.lst []] ++ [Ob.lst []])[(h ++ [Ob.lst []]).length]? = some (.lst []) := by
    rw [List.getElem?_append_right (Nat.le_refl _), Nat.sub_self]
    rfl
  have g0 : ∀ (i : Nat) (o : Ob), h[i]? = some o → (h ++ [Ob.lst []] ++ [Ob.lst []])[i]? = some o := fun i o e => by
    have := (List.getElem?_eq_some_iff.mp e).1
    rw [List.getElem?_append_left (by simp; omega), List.getElem?_append_left this]
    exact e
  have lb : (h ++ [Ob.lst []]).length = h.length + 1 := by simp
  rw [lb] at y0
  rw [lb]
  generalize h ++ [Ob.lst []] ++ [Ob.lst []] = h2 at x0 y0 g0
  refine ⟨by rw [List.length_map, rl]; omega, by rw [List.length_map, rl]; omega, fun j s h' => j ≤ Hs.length + L.length ∧ h'[h.length]? = some (.lst ((Hs.take j).map hv)) ∧ h'[h.length + 1]? = some (.lst ((L.take (j - Hs.length)).map Ln.v)) ∧ (∀ (i : Nat) (o : Ob), h[i]? = some o → h'[i]? = some o) ∧ ∃ e, s = [some (.v (.str (textT Hs L))), some (.v (.ref h.length)), some (.v (.ref (h.length + 1))), some (.o ((rowsT Hs L).map .str)), e], ⟨by omega, by rw [x0]; rfl, by rw [y0, Nat.zero_sub]; rfl, g0, _, rfl⟩, ?_, ?_⟩
  · rintro j s h' hj ⟨hj2, ea, eb, gr, e, rfl⟩
    have hj3 : j < (rowsT Hs L).length := by
      have : j < ((((rowsT Hs L).map Val.str).length : Nat) : Int).toNat := hj
      simpa using this
    dsimp only [List.set_cons_succ, List.set_cons_zero]
    repeat walk_at "pz"
    refine w_split ?_
    repeat walk_at "pz"
    have er := List.getElem?_eq_getElem hj3
    generalize (rowsT Hs L)[j] = r at er
    have rok := rowsq_ok wq r (List.mem_of_getElem? er)
    refine i_ixL ⟨.str r, at_map er, ?_⟩
    refine ⟨_, rfl, ?_⟩
    repeat walk_at "pz"
    refine ⟨by decide +kernel, by have := rok.1; omega, ?_⟩
    have la := (List.getElem?_eq_some_iff.mp ea).1
    have lb2 := (List.getElem?_eq_some_iff.mp eb).1
    have gn : ∀ {q : Nat} {o' : Ob}, h.length ≤ q → ∀ (i : Nat) (o : Ob), h[i]? = some o → (h'.set q o')[i]? = some o := fun hq i o e => by
      have := (List.getElem?_eq_some_iff.mp e).1
      rw [List.getElem?_set_ne (by omega)]
      exact gr i o e
    rcases getRows er with ⟨gs, eg, rfl⟩ | ⟨c, x, ex, rfl⟩
    · have sg := wq.hs gs (List.mem_of_getElem? eg)
      have lj := (List.getElem?_eq_some_iff.mp eg).1
      have z0 : j - Hs.length = 0 := by omega
      rw [z0, List.take_zero, List.map_nil] at eb
      rw [splitq_row house_ok sg]
      repeat walk_at "pz"
      refine put_house sg (k.hs gs (List.mem_of_getElem? eg)).1 ea eb (by rw [List.length_map, List.length_take]; omega) ?_
      repeat walk_at "pz"
      refine ite_c (fun c => by cases c) (fun _ => ?_)
      repeat walk_at "pz"
      have tk : Hs.take (j + 1) = Hs.take j ++ [gs] := by rw [List.take_add_one, eg]; rfl
      refine ⟨by omega, ?_, ?_, gn (Nat.le_refl _), _, rfl⟩
      · rw [List.getElem?_set_self la, tk, List.map_append]
        rfl
      · have z1 : j + 1 - Hs.length = 0 := by omega
        rw [List.getElem?_set_ne (by omega), eb, z1]
        rfl
    · have lj := (List.getElem?_eq_some_iff.mp ex).1
      have sx := wq.ls x (List.mem_of_getElem? ex)
      have z0 : Hs.take j = Hs := List.take_of_length_le c
      rw [splitq_row NL.line_ok sx]
      repeat walk_at "pz"
      refine put_line (n := Hs.length) (by omega) (k.ls x (List.mem_of_getElem? ex)) ea (by rw [z0, List.length_map]) eb (by rw [List.length_map, List.length_take]; omega) ?_
      repeat walk_at "pz"
      refine ite_c (fun c => by cases c) (fun _ => ?_)
      repeat walk_at "pz"
      have z1 : j + 1 - Hs.length = (j - Hs.length) + 1 := by omega
      have tk : L.take (j - Hs.length + 1) = L.take (j - Hs.length) ++ [x] := by rw [List.take_add_one, ex]; rfl
      refine ⟨by omega, ?_, ?_, gn (by omega), _, rfl⟩
      · rw [List.getElem?_set_ne (by omega), ea, z0, List.take_of_length_le (by omega)]
      · rw [List.getElem?_set_self lb2, z1, tk, List.map_append]
        rfl
  · rintro s h' ⟨hj, ea, eb, gr, e, rfl⟩
    have e1 : ((((rowsT Hs L).map Val.str).length : Nat) : Int).toNat = Hs.length + L.length := by
      rw [List.length_map, rl]
      rfl
    rw [e1, List.take_of_length_le (by omega)] at ea
    rw [e1, List.take_of_length_le (by omega)] at eb
    repeat walk_at "pz"
    refine ⟨_, _, by simp only [fTuple, asQ, asL, ea, Option.bind_some]; rfl, ?_⟩
    repeat walk_at "pz"
    refine ⟨_, _, by simp only [fTuple, asQ, asL, eb, Option.bind_some]; rfl, ?_⟩
    repeat walk_at "pz"
    exact q h' gr
theorem wf_wv {h : Hh} {Hs : List (List Int)} {L : List Ln} (k : Wr Hs L) : Wf h (wv (Hs.map hv) L) := by
  have few := k.few
  refine .tup (fun v hv' => ?_) (by simp)
  simp only [List.mem_cons, List.not_mem_nil, or_false] at hv'
  rcases hv' with rfl | rfl
  · refine .tup (fun v hv' => ?_) (by rw [List.length_map]; omega)
    obtain ⟨gs, hg, rfl⟩ := List.mem_map.mp hv'
    exact wf_hv (by have := (k.hs gs hg).2; omega)
  · refine .tup (fun v hv' => ?_) (by rw [List.length_map]; omega)
    obtain ⟨x, hx, rfl⟩ := List.mem_map.mp hv'
    exact wf_ln (by have := rise_short (k.ls x hx).h (k.ls x hx).g; omega)
theorem is_weaving_wv {h : Hh} {Hs : List (List Int)} {L : List Ln} (k : Wr Hs L) : m_is_weaving [.v (wv (Hs.map hv) L)] h = some (.v (.bl true), h) := by
  rw [weavB_eq (wf_wv k)]
  have e : weavB (wv (Hs.map hv) L) = true := by
    show (housesB (.tup (Hs.map hv)) && (L.map Ln.v).all (lineB ((Hs.map hv).length : Nat))) = true
    have e1 : housesB (.tup (Hs.map hv)) = true := by
      show (decide (0 < (Hs.map hv).length) && (Hs.map hv).all grpB) = true
      have ne := k.one
      have l0 : 0 < (Hs.map hv).length := by
        rw [List.length_map]
        cases Hs with
        | nil => exact absurd rfl ne
        | cons _ _ => simp
      rw [decide_eq_true l0, Bool.true_and, List.all_map, List.all_eq_true]
      intro gs hg
      exact grpB_ints (k.hs gs hg).1
    rw [e1, Bool.true_and, List.all_map, List.all_eq_true, List.length_map]
    intro x hx
    exact lineB_ln (k.ls x hx)
  rw [e]

end K56
set_option Elab.async false
set_option linter.all false
set_option maxRecDepth 100000
set_option maxHeartbeats 2000000
namespace K56
open PySem PySem.Spec PyProof.Rows L2 NL
local macro_rules | `(tactic| walk_at "pz") => `(tactic| first
  | with_reducible refine' Eq.mpr w_m2 ?_
  | with_reducible refine' i_c ?_
  | ((with_reducible refine' i_varV ?_); refine ⟨_, rfl, ?_⟩)
  | ((with_reducible refine' i_varO ?_); refine ⟨_, rfl, ?_⟩)
  | ((with_reducible refine' i_varL ?_); refine ⟨_, rfl, ?_⟩)
  | ((with_reducible refine' i_varZ ?_); refine ⟨_, rfl, ?_⟩)
  | with_reducible refine' i_plus ?_
  | with_reducible refine' i_sub ?_
  | with_reducible refine' i_lt ?_
  | with_reducible refine' i_le ?_
  | with_reducible refine' i_gt ?_
  | with_reducible refine' i_ge ?_
  | with_reducible refine' Eq.mpr w_acons ?_
  | with_reducible refine' Eq.mpr w_anil ?_
  | with_reducible refine' Eq.mpr w_B ?_
  | with_reducible refine' Eq.mpr w_call ?_
  | with_reducible refine' Eq.mpr w_tup ?_
  | with_reducible refine' Eq.mpr w_lst ?_
  | with_reducible refine' Eq.mpr w_neg ?_
  | with_reducible refine' Eq.mpr w_an ?_
  | with_reducible refine' Eq.mpr w_oo ?_
  | with_reducible refine' Eq.mpr w_no ?_
  | with_reducible refine' Eq.mpr w_if ?_
  | with_reducible refine' Eq.mpr w_tst ?_
  | with_reducible refine' Eq.mpr w_tru ?_
  | with_reducible refine' i_truB ?_
  | with_reducible refine' Eq.mpr w_tno ?_
  | with_reducible refine' Eq.mpr w_tan ?_
  | with_reducible refine' Eq.mpr w_too ?_
  | with_reducible refine' Eq.mpr w_al ?_
  | with_reducible refine' Eq.mpr w_sl ?_
  | with_reducible refine' Eq.mpr w_onone ?_
  | with_reducible refine' Eq.mpr w_osome ?_
  | with_reducible refine' Eq.mpr w_chain ?_
  | with_reducible refine' Eq.mpr w_seq ?_
  | with_reducible refine' Eq.mpr w_snil ?_
  | with_reducible refine' Eq.mpr w_sif ?_
  | with_reducible refine' Eq.mpr w_ret ?_
  | with_reducible refine' Eq.mpr w_set ?_
  | with_reducible refine' Eq.mpr w_drop ?_
  | with_reducible refine' Eq.mpr w_unp ?_
  | with_reducible refine' Eq.mpr w_par ?_
  | with_reducible refine' Eq.mpr w_put ?_
  | with_reducible refine' Eq.mpr w_vcons ?_
  | with_reducible refine' Eq.mpr w_vnil ?_
  | with_reducible refine' Eq.mpr w_sacons ?_
  | with_reducible refine' Eq.mpr w_sanil ?_
  | with_reducible refine' Eq.mpr w_asgT ?_
  | with_reducible refine' Eq.mpr w_asgN ?_
  | ((with_reducible refine' Eq.mpr thenS_nx ?_); try dsimp only [List.set_cons_succ, List.set_cons_zero])
  | with_reducible refine' Eq.mpr thenS_rt ?_
  | with_reducible refine' Eq.mpr endF_rt ?_
  | with_reducible refine' Eq.mpr endF_nx ?_
  | with_reducible refine' Eq.mpr lea_v ?_
  | with_reducible refine' Eq.mpr lea_o ?_
  | with_reducible refine' Eq.mpr isV_v ?_
  | ((with_reducible refine' i_ixT ?_); refine ⟨_, rfl, ?_⟩)
  | ((with_reducible refine' i_ixO ?_); refine ⟨_, rfl, ?_⟩)
  | ((with_reducible refine' i_ixL ?_); refine ⟨_, rfl, ?_⟩)
  | ((with_reducible refine' i_ixR ?_); refine ⟨_, _, by assumption, rfl, ?_⟩)
  | with_reducible refine' i_lenT ?_
  | with_reducible refine' i_lenL ?_
  | with_reducible refine' i_lenO ?_
  | with_reducible refine' i_lenZ ?_
  | with_reducible refine' i_abs ?_
  | with_reducible refine' i_min2 ?_
  | with_reducible refine' i_max2 ?_
  | with_reducible refine' i_intB ?_
  | with_reducible refine' i_tupO ?_
  | with_reducible refine' i_tupL ?_
  | with_reducible refine' i_listT ?_
  | with_reducible refine' i_slT ?_
  | ((with_reducible refine' i_isi ?_); refine ⟨_, rfl, ?_⟩)
  | with_reducible refine' i_sset ?_
  | with_reducible refine' i_par3 ?_
  | with_reducible refine' i_par2 ?_
  | ((with_reducible refine' i_revL ?_); refine ⟨_, rfl, ?_⟩)
  | ((with_reducible refine' i_ext ?_); refine ⟨_, rfl, ?_⟩)
  | ((with_reducible refine' i_appO ?_); refine ⟨_, rfl, ?_⟩)
  | ((with_reducible refine' i_retO ?_); refine ⟨_, rfl, ?_⟩)
  | with_reducible refine' i_inI ?_
  | with_reducible refine' i_ninI ?_
  | with_reducible refine' i_inIL ?_
  | with_reducible refine' i_ninIL ?_
  | with_reducible refine' i_inP ?_
  | with_reducible refine' i_ninP ?_
  | with_reducible refine' i_eqI ?_
  | with_reducible refine' i_neI ?_
  | with_reducible refine' i_rep1 ?_
  | with_reducible refine' i_neO0 ?_
  | with_reducible refine ite_t ?_
  | with_reducible refine ite_f ?_
  | with_reducible refine ⟨_, rfl, ?_⟩
  | with_reducible refine' i_lenle (by simp; done) ?_)
theorem rep_map {g : Int} : ∀ n : Nat, rep [Val.int g] n = (List.replicate n g).map Val.int
  | 0 => rfl
  | n + 1 => by
    rw [List.replicate_succ, List.map_cons, ← rep_map n]
    rfl
/-- lines of the tree that beyond draws -/
theorem beyond_ok {h0 h : Hh} {p : Nat} {N : Int} {Q : QE} (k : St h0 p N h) (hN : N < 700000000) (q : ∀ Hs L h', Wr Hs L → St h0 p (N + 200) h' → Q (.v (wv (Hs.map hv) L)) h') : wF m_law_beyond [.v (.ref p)] h Q := by
  unfold m_law_beyond
  refine i_def [some (.v (.ref p)), none, none, none, none, none, none] rfl rfl ?_
  unfold b_law_beyond
  repeat walk_at "pz"
  refine take_st k (by omega) (by decide) (by decide) fun r h1 r0 r1 k1 => ?_
  repeat walk_at "pz"
  refine take_st k1 (by omega) (by decide) (by decide) fun g h2 g0 g1 k2 => ?_
  repeat walk_at "pz"
  obtain ⟨m, em⟩ := Int.eq_ofNat_of_zero_le (show 0 ≤ 13 + r by omega)
  have m1 : 13 ≤ m := by omega
  have m2 : m ≤ 30 := by omega
  rw [em]
  refine i_lcR ?_
  repeat walk_at "pz"
  refine ⟨by omega, by omega, ?_⟩
  rw [Int.toNat_natCast]
  refine lc_inv (by simp; omega) (fun i acc h' => i ≤ m ∧ ∃ Hs : List (List Int), acc = Hs.map hv ∧ Hs.length = i ∧ (∀ gs ∈ Hs, G8 gs ∧ gs.length ≤ 30) ∧ St h0 p (N + 2 + i) h') ⟨by omega, [], rfl, rfl, fun _ z => by simp at z, k2.le (by omega)⟩ ?_ ?_
  · rintro i v acc h' ev _ ⟨im, Hs, rfl, lh, ok, k'⟩
    have im2 : i < m := by
      have := (List.getElem?_eq_some_iff.mp ev).1
      simpa using this
    refine ⟨_, rfl, ?_⟩
    refine ⟨true, h', rfl, ?_⟩
    refine ite_t ?_
    dsimp only [wipeA, List.set_cons_succ, List.set_cons_zero]
    repeat walk_at "pz"
    refine take_st k' (by omega) (by decide) (by decide) fun d h3 d0 d1 k3 => ?_
    refine i_timesT (by simp) d0 (by omega) (by simp) ?_
    rw [rep_map]
    repeat walk_at "pz"
    refine ⟨by omega, Hs ++ [List.replicate d.toNat g], by rw [List.map_append]; rfl, by simp [lh], fun gs hg => ?_, k3.le (by omega)⟩
    rcases List.mem_append.mp hg with hg | hg
    · exact ok gs hg
    · simp only [List.mem_singleton] at hg
      subst hg
      refine ⟨fun x hx => ?_, by simp; omega⟩
      have := List.eq_of_mem_replicate hx
      omega
  rintro acc h3 _ ⟨_, Hs, rfl, lh, ok, k3⟩
  rw [List.length_map, List.length_range] at lh k3
  repeat walk_at "pz"
  refine for_range2 ?_
  repeat walk_at "pz"
  refine ⟨1, (m : Int), rfl, rfl, by omega, ?_⟩
  refine for_inv (fun j s h' => ∃ (L : List Ln) (a b : Option R), L.length = j ∧ (∀ x ∈ L, LnQ m x) ∧ j < m ∧ St h0 p (N + 40 + 3 * j) h' ∧ s = [some (.v (.ref p)), some (.v (.int m)), some (.v (.int g)), a, some (.o (Hs.map hv)), some (.o (L.map Ln.v)), b]) ⟨[], _, _, rfl, fun _ z => by simp at z, by omega, k3.le (by omega), rfl⟩ ?_ ?_
  · rintro j v s h' ev ⟨L, a, b, ll, okL, jm, k4, rfl⟩
    rw [List.getElem?_map, Option.map_eq_some_iff] at ev
    obtain ⟨i, ei, rfl⟩ := ev
    have il := (List.getElem?_eq_some_iff.mp ei).1
    rw [List.length_range] at il
    rw [List.getElem?_range il] at ei
    cases ei
    refine ⟨_, rfl, ?_⟩
    dsimp only [List.set_cons_succ, List.set_cons_zero]
    repeat walk_at "pz"
    refine take_st k4 (by omega) (by omega) (by omega) fun o h5 o0 o1 k5 => ?_
    repeat walk_at "pz"
    refine take_st k5 (by omega) (by decide) (by decide) fun c h6 c0 c1 k6 => ?_
    repeat walk_at "pz"
    refine take_st k6 (by omega) (by decide) (by decide) fun t h7 t0 t1 k7 => ?_
    repeat walk_at "pz"
    refine ⟨by rw [List.length_map]; omega, L ++ [⟨o, 1 + (j : Int), 100 + c, [g], 1 + t⟩], some (.v (.int (1 + (j : Int)))), some (.v (.int o)), by simp [ll], fun x hx => ?_, by omega, k7.le (by omega), ?_⟩
    · rcases List.mem_append.mp hx with hx | hx
      · exact okL x hx
      · simp only [List.mem_singleton] at hx
        subst hx
        refine ⟨o0, ?_, ?_, ?_, ?_, by simp, fun y hy => ?_, by simp, ?_, ?_⟩
        · show o < 1 + (j : Int); exact o1
        · show 1 + (j : Int) < m; omega
        · show 1 ≤ 100 + c; omega
        · show 100 + c < 10000; omega
        · simp only [List.mem_singleton] at hy; omega
        · show 1 ≤ 1 + t; omega
        · show 1 + t ≤ 4; omega
    · rw [List.map_append]
      rfl
  · rintro s h' ⟨L, a, b, ll, okL, jm, k4, rfl⟩
    have ll2 : L.length = m - 1 := by
      rw [ll]
      simp
    repeat walk_at "pz"
    refine q Hs L h' ⟨fun z => by rw [z] at lh; simp at lh; omega, by omega, ok, by rw [lh]; exact okL⟩ (k4.le ?_)
    simp
    omega

end K56
set_option Elab.async false
set_option linter.all false
set_option maxRecDepth 100000
set_option maxHeartbeats 2000000
namespace K56
open PySem PySem.Spec PyProof.Rows L2 NL
local macro_rules | `(tactic| walk_at "pz") => `(tactic| first
  | with_reducible refine' Eq.mpr w_m2 ?_
  | with_reducible refine' i_c ?_
  | ((with_reducible refine' i_varV ?_); refine ⟨_, rfl, ?_⟩)
  | ((with_reducible refine' i_varO ?_); refine ⟨_, rfl, ?_⟩)
  | ((with_reducible refine' i_varL ?_); refine ⟨_, rfl, ?_⟩)
  | ((with_reducible refine' i_varZ ?_); refine ⟨_, rfl, ?_⟩)
  | with_reducible refine' i_plus ?_
  | with_reducible refine' i_sub ?_
  | with_reducible refine' i_lt ?_
  | with_reducible refine' i_le ?_
  | with_reducible refine' i_gt ?_
  | with_reducible refine' i_ge ?_
  | with_reducible refine' Eq.mpr w_acons ?_
  | with_reducible refine' Eq.mpr w_anil ?_
  | with_reducible refine' Eq.mpr w_B ?_
  | with_reducible refine' Eq.mpr w_call ?_
  | with_reducible refine' Eq.mpr w_tup ?_
  | with_reducible refine' Eq.mpr w_lst ?_
  | with_reducible refine' Eq.mpr w_neg ?_
  | with_reducible refine' Eq.mpr w_an ?_
  | with_reducible refine' Eq.mpr w_oo ?_
  | with_reducible refine' Eq.mpr w_no ?_
  | with_reducible refine' Eq.mpr w_if ?_
  | with_reducible refine' Eq.mpr w_tst ?_
  | with_reducible refine' Eq.mpr w_tru ?_
  | with_reducible refine' i_truB ?_
  | with_reducible refine' Eq.mpr w_tno ?_
  | with_reducible refine' Eq.mpr w_tan ?_
  | with_reducible refine' Eq.mpr w_too ?_
  | with_reducible refine' Eq.mpr w_al ?_
  | with_reducible refine' Eq.mpr w_sl ?_
  | with_reducible refine' Eq.mpr w_onone ?_
  | with_reducible refine' Eq.mpr w_osome ?_
  | with_reducible refine' Eq.mpr w_chain ?_
  | with_reducible refine' Eq.mpr w_seq ?_
  | with_reducible refine' Eq.mpr w_snil ?_
  | with_reducible refine' Eq.mpr w_sif ?_
  | with_reducible refine' Eq.mpr w_ret ?_
  | with_reducible refine' Eq.mpr w_set ?_
  | with_reducible refine' Eq.mpr w_drop ?_
  | with_reducible refine' Eq.mpr w_unp ?_
  | with_reducible refine' Eq.mpr w_par ?_
  | with_reducible refine' Eq.mpr w_put ?_
  | with_reducible refine' Eq.mpr w_vcons ?_
  | with_reducible refine' Eq.mpr w_vnil ?_
  | with_reducible refine' Eq.mpr w_sacons ?_
  | with_reducible refine' Eq.mpr w_sanil ?_
  | with_reducible refine' Eq.mpr w_asgT ?_
  | with_reducible refine' Eq.mpr w_asgN ?_
  | ((with_reducible refine' Eq.mpr thenS_nx ?_); try dsimp only [List.set_cons_succ, List.set_cons_zero])
  | with_reducible refine' Eq.mpr thenS_rt ?_
  | with_reducible refine' Eq.mpr endF_rt ?_
  | with_reducible refine' Eq.mpr endF_nx ?_
  | with_reducible refine' Eq.mpr lea_v ?_
  | with_reducible refine' Eq.mpr lea_o ?_
  | with_reducible refine' Eq.mpr isV_v ?_
  | ((with_reducible refine' i_ixT ?_); refine ⟨_, rfl, ?_⟩)
  | ((with_reducible refine' i_ixO ?_); refine ⟨_, rfl, ?_⟩)
  | ((with_reducible refine' i_ixL ?_); refine ⟨_, rfl, ?_⟩)
  | ((with_reducible refine' i_ixR ?_); refine ⟨_, _, by assumption, rfl, ?_⟩)
  | with_reducible refine' i_lenT ?_
  | with_reducible refine' i_lenL ?_
  | with_reducible refine' i_lenO ?_
  | with_reducible refine' i_lenZ ?_
  | with_reducible refine' i_abs ?_
  | with_reducible refine' i_min2 ?_
  | with_reducible refine' i_max2 ?_
  | with_reducible refine' i_intB ?_
  | with_reducible refine' i_tupO ?_
  | with_reducible refine' i_tupL ?_
  | with_reducible refine' i_listT ?_
  | with_reducible refine' i_slT ?_
  | ((with_reducible refine' i_isi ?_); refine ⟨_, rfl, ?_⟩)
  | with_reducible refine' i_sset ?_
  | with_reducible refine' i_par3 ?_
  | with_reducible refine' i_par2 ?_
  | ((with_reducible refine' i_revL ?_); refine ⟨_, rfl, ?_⟩)
  | ((with_reducible refine' i_ext ?_); refine ⟨_, rfl, ?_⟩)
  | ((with_reducible refine' i_appO ?_); refine ⟨_, rfl, ?_⟩)
  | ((with_reducible refine' i_retO ?_); refine ⟨_, rfl, ?_⟩)
  | with_reducible refine' i_inI ?_
  | with_reducible refine' i_ninI ?_
  | with_reducible refine' i_inIL ?_
  | with_reducible refine' i_ninIL ?_
  | with_reducible refine' i_inP ?_
  | with_reducible refine' i_ninP ?_
  | with_reducible refine' i_eqI ?_
  | with_reducible refine' i_neI ?_
  | with_reducible refine' i_rep1 ?_
  | with_reducible refine' i_neO0 ?_
  | with_reducible refine ite_t ?_
  | with_reducible refine ite_f ?_
  | with_reducible refine ⟨_, rfl, ?_⟩
  | with_reducible refine' i_lenle (by simp; done) ?_)
theorem mcall_same {m : FM} {a b : Val} {s : Sl} {h : Hh} (e2 : s[2]? = some (some (.v a))) (e3 : s[3]? = some (some (.v b))) (e : m [.v a, .v b] h = some (.v (.bl true), h)) : mCall m (aCons (mVar 2) (aCons (mVar 3) aNil)) s h = some (.v (.bl true), h) := by
  have x2 : mVar 2 s h = some (.v a, h) := by simp only [mVar, e2]; rfl
  have x3 : mVar 3 s h = some (.v b, h) := by simp only [mVar, e3]; rfl
  simp only [mCall, aCons, aNil, x2, x3, Option.bind_some, List.map_cons, List.map_nil, bor]
  exact e
theorem ty_ref {h : Hh} {p : Nat} {vs : List Val} (e : h[p]? = some (.lst vs)) : tyR h (.v (.ref p)) = some .lst := by simp only [tyR, asL, e, Option.map_some]
theorem isiT_of {h : Hh} {r : R} {u a b : Ty} {c : Bool} (e : tyR h r = some u) (ec : (isi u a || (isi u b || false)) = c) : fIsiT [r, .v (.tup [.ty a, .ty b])] h = some (.v (.bl c), h) := by
  simp only [fIsiT, e, Option.bind_some, mapO, asTy, Option.map_some, List.any_cons, List.any_nil, ec]
theorem isi_of {h : Hh} {r : R} {u a : Ty} {c : Bool} (e : tyR h r = some u) (ec : isi u a = c) : fIsi [r, .v (.ty a)] h = some (.v (.bl c), h) := by
  simp only [fIsi, e, Option.map_some, ec]
section
variable {h : Hh} {m : Nat}
theorem same_int {i : Int} : r_law_same (m + 1) [.v (.int i), .v (.int i)] h = some (.v (.bl true), h) := by
  refine eqF ?_
  unfold r_law_same
  refine i_def [some (.v (.int i)), some (.v (.int i)), none, none] rfl rfl ?_
  unfold b_law_same
  repeat walk_at "pz"
  refine i_bl (b := false) rfl ?_
  repeat walk_at "pz"
  refine i_bl (b := false) rfl ?_
  repeat walk_at "pz"
  refine i_bl (b := false) rfl ?_
  repeat walk_at "pz"
  refine ite_c (fun _ => ?_) (fun c => absurd c (by decide))
  repeat walk_at "pz"
  refine ite_c (fun _ => ?_) (fun c => absurd c (by decide))
  repeat walk_at "pz"
  exact ⟨by simp, rfl⟩
theorem same_non : r_law_same (m + 1) [.v .non, .v .non] h = some (.v (.bl true), h) := by
  refine eqF ?_
  unfold r_law_same
  refine i_def [some (.v .non), some (.v .non), none, none] rfl rfl ?_
  unfold b_law_same
  repeat walk_at "pz"
  refine i_bl (b := false) rfl ?_
  repeat walk_at "pz"
  refine i_bl (b := true) rfl ?_
  repeat walk_at "pz"
  refine i_bl (b := true) rfl ?_
  repeat walk_at "pz"
  refine i_bl (b := true) rfl ?_
  repeat walk_at "pz"
  refine i_bl (b := true) rfl ?_
  repeat walk_at "pz"
  refine i_bl (b := true) rfl ?_
  repeat walk_at "pz"
  refine i_bl (b := true) rfl ?_
  repeat walk_at "pz"
  exact ⟨rfl, rfl⟩
theorem same_bl {b : Bool} : r_law_same (m + 1) [.v (.bl b), .v (.bl b)] h = some (.v (.bl true), h) := by
  refine eqF ?_
  unfold r_law_same
  refine i_def [some (.v (.bl b)), some (.v (.bl b)), none, none] rfl rfl ?_
  unfold b_law_same
  repeat walk_at "pz"
  refine i_bl (b := false) rfl ?_
  repeat walk_at "pz"
  refine i_bl (b := false) rfl ?_
  repeat walk_at "pz"
  refine i_bl (b := true) rfl ?_
  repeat walk_at "pz"
  refine i_bl (b := true) (by cases b <;> rfl) ?_
  repeat walk_at "pz"
  refine i_bl (b := true) rfl ?_
  repeat walk_at "pz"
  refine i_bl (b := false) rfl ?_
  repeat walk_at "pz"
  refine i_bl (b := false) rfl ?_
  repeat walk_at "pz"
  refine i_bl (b := true) rfl ?_
  repeat walk_at "pz"
  exact ⟨rfl, rfl⟩
variable {vs ws : List Val}
theorem same_tup (le : vs.length = ws.length) (lim : vs.length ≤ 1000) (ih : ∀ p ∈ vs.zip ws, r_law_same m [.v p.1, .v p.2] h = some (.v (.bl true), h)) : r_law_same (m + 1) [.v (.tup vs), .v (.tup ws)] h = some (.v (.bl true), h) := by
  refine eqF ?_
  unfold r_law_same
  refine i_def [some (.v (.tup vs)), some (.v (.tup ws)), none, none] rfl rfl ?_
  unfold b_law_same
  repeat walk_at "pz"
  refine i_bl (b := true) rfl ?_
  repeat walk_at "pz"
  refine i_bl (b := false) rfl ?_
  repeat walk_at "pz"
  refine i_bl (b := false) rfl ?_
  repeat walk_at "pz"
  refine ite_c (fun _ => ?_) (fun c => absurd c (by simp [le]))
  refine ⟨_, _, all_zip (xs := vs) (ys := ws) (ca := fun _ => True) (cb := fun _ => True) rfl rfl (.inl ⟨rfl, rfl⟩) lim (fun pq hpq => ⟨_, rfl, mcall_same rfl rfl (ih pq hpq)⟩), ?_⟩
  repeat walk_at "pz"
  exact ⟨rfl, rfl⟩

theorem same_ref {p q : Nat} (ep : h[p]? = some (.lst vs)) (eq : h[q]? = some (.lst ws)) (le : vs.length = ws.length) (lim : vs.length ≤ 1000) (ih : ∀ p ∈ vs.zip ws, r_law_same m [.v p.1, .v p.2] h = some (.v (.bl true), h)) : r_law_same (m + 1) [.v (.ref p), .v (.ref q)] h = some (.v (.bl true), h) := by
  refine eqF ?_
  unfold r_law_same
  refine i_def [some (.v (.ref p)), some (.v (.ref q)), none, none] rfl rfl ?_
  unfold b_law_same
  repeat walk_at "pz"
  refine i_bl (b := true) (isiT_of (ty_ref eq) rfl) ?_
  repeat walk_at "pz"
  refine i_bl (b := true) (isi_of (ty_ref ep) rfl) ?_
  repeat walk_at "pz"
  refine i_bl (b := true) (isi_of (ty_ref eq) rfl) ?_
  repeat walk_at "pz"
  refine i_bl (b := false) rfl ?_
  repeat walk_at "pz"
  refine i_bl (b := false) (isi_of (ty_ref ep) rfl) ?_
  repeat walk_at "pz"
  refine i_bl (b := false) (isi_of (ty_ref eq) rfl) ?_
  repeat walk_at "pz"
  refine i_bl (b := false) rfl ?_
  repeat walk_at "pz"
  refine ⟨_, _, by simp only [fLen, asQ, asL, ep]; rfl, ?_⟩
  repeat walk_at "pz"
  refine ⟨_, _, by simp only [fLen, asQ, asL, eq]; rfl, ?_⟩
  repeat walk_at "pz"
  refine ite_c (fun _ => ?_) (fun c => absurd c (by simp [le]))
  refine ⟨_, _, all_zip (xs := vs) (ys := ws) (r := .v (.ref p)) (r' := .v (.ref q)) (ca := fun h' => h'[p]? = some (.lst vs)) (cb := fun h' => h'[q]? = some (.lst ws)) rfl rfl (.inr ⟨by simp only [zL, ep], by simp only [zL, eq], ep, eq⟩) lim (fun pq hpq => ⟨_, rfl, mcall_same rfl rfl (ih pq hpq)⟩), ?_⟩
  repeat walk_at "pz"
  exact ⟨rfl, rfl⟩

theorem same_l (le : vs.length = ws.length) (lim : vs.length ≤ 1000) (ih : ∀ p ∈ vs.zip ws, r_law_same m [.v p.1, .v p.2] h = some (.v (.bl true), h)) : r_law_same (m + 1) [.l vs, .l ws] h = some (.v (.bl true), h) := by
  refine eqF ?_
  unfold r_law_same
  refine i_def [some (.l vs), some (.l ws), none, none] rfl rfl ?_
  unfold b_law_same
  repeat walk_at "pz"
  refine i_bl (b := true) rfl ?_
  repeat walk_at "pz"
  refine i_bl (b := false) rfl ?_
  repeat walk_at "pz"
  refine i_bl (b := false) rfl ?_
  repeat walk_at "pz"
  refine ite_c (fun _ => ?_) (fun c => absurd c (by simp [le]))
  refine ⟨_, _, all_zip (xs := vs) (ys := ws) (r := .l vs) (r' := .l ws) rfl rfl (.inr ⟨rfl, rfl, trivial, trivial⟩) lim (fun pq hpq => ⟨_, rfl, mcall_same rfl rfl (ih pq hpq)⟩), ?_⟩
  repeat walk_at "pz"
  exact ⟨rfl, rfl⟩

end
theorem same_val {h : Hh} : ∀ (n m : Nat) (v w : Val), n ≤ m → Sm h n v w → r_law_same (m + 1) [.v v, .v w] h = some (.v (.bl true), h) := by
  intro n
  induction n with
  | zero =>
    intro m v w hm sm
    cases v with
    | int i => cases w with
      | int j => have e : i = j := sm; subst e; exact same_int
      | _ => exact False.elim sm
    | non => cases w with
      | non => exact same_non
      | _ => exact False.elim sm
    | bl a => cases w with
      | bl b => have e : a = b := sm; subst e; exact same_bl
      | _ => exact False.elim sm
    | _ => cases w <;> exact False.elim sm
  | succ n ih =>
    intro m v w hm sm
    cases v with
    | int i => cases w with
      | int j => have e : i = j := sm; subst e; exact same_int
      | _ => exact False.elim sm
    | non => cases w with
      | non => exact same_non
      | _ => exact False.elim sm
    | bl a => cases w with
      | bl b => have e : a = b := sm; subst e; exact same_bl
      | _ => exact False.elim sm
    | tup vs => cases w with
      | tup ws =>
        obtain ⟨le, lim, sm⟩ := sm
        obtain ⟨m, rfl⟩ : ∃ k, m = k + 1 := ⟨m - 1, by omega⟩
        exact same_tup le lim fun p hp => ih m _ _ (by omega) (sm p hp)
      | _ => exact False.elim sm
    | ref p => cases w with
      | ref q =>
        obtain ⟨vs, ws, ep, eq, le, lim, sm⟩ := sm
        obtain ⟨m, rfl⟩ : ∃ k, m = k + 1 := ⟨m - 1, by omega⟩
        exact same_ref ep eq le lim fun p hp => ih m _ _ (by omega) (sm p hp)
      | _ => exact False.elim sm
    | _ => cases w <;> exact False.elim sm
theorem same_lst {h : Hh} {n m : Nat} {vs ws : List Val} (hm : n ≤ m) (le : vs.length = ws.length) (lim : vs.length ≤ 1000) (sm : ∀ p ∈ vs.zip ws, Sm h n p.1 p.2) : r_law_same (m + 2) [.l vs, .l ws] h = some (.v (.bl true), h) :=
  same_l le lim fun p hp => same_val n m _ _ hm (sm p hp)
theorem same_ints {h : Hh} {ns : List Int} (lim : ns.length ≤ 1000) : m_law_same [.l (ns.map .int), .l (ns.map .int)] h = some (.v (.bl true), h) :=
  same_lst (n := 0) (m := 6) (by decide) rfl (by simpa using lim) fun p hp => by
    rw [List.zip_map'] at hp
    obtain ⟨x, hx, rfl⟩ := List.mem_map.mp hp
    rfl

end K56
set_option Elab.async false
set_option linter.all false
set_option maxRecDepth 100000
set_option maxHeartbeats 2000000
namespace K56
open PySem PySem.Spec PyProof.Rows L2 NL
local macro_rules | `(tactic| walk_at "pz") => `(tactic| first
  | with_reducible refine' Eq.mpr w_m2 ?_
  | with_reducible refine' i_c ?_
  | ((with_reducible refine' i_varV ?_); refine ⟨_, rfl, ?_⟩)
  | ((with_reducible refine' i_varO ?_); refine ⟨_, rfl, ?_⟩)
  | ((with_reducible refine' i_varL ?_); refine ⟨_, rfl, ?_⟩)
  | ((with_reducible refine' i_varZ ?_); refine ⟨_, rfl, ?_⟩)
  | with_reducible refine' i_plus ?_
  | with_reducible refine' i_sub ?_
  | with_reducible refine' i_lt ?_
  | with_reducible refine' i_le ?_
  | with_reducible refine' i_gt ?_
  | with_reducible refine' i_ge ?_
  | with_reducible refine' Eq.mpr w_acons ?_
  | with_reducible refine' Eq.mpr w_anil ?_
  | with_reducible refine' Eq.mpr w_B ?_
  | with_reducible refine' Eq.mpr w_call ?_
  | with_reducible refine' Eq.mpr w_tup ?_
  | with_reducible refine' Eq.mpr w_lst ?_
  | with_reducible refine' Eq.mpr w_neg ?_
  | with_reducible refine' Eq.mpr w_an ?_
  | with_reducible refine' Eq.mpr w_oo ?_
  | with_reducible refine' Eq.mpr w_no ?_
  | with_reducible refine' Eq.mpr w_if ?_
  | with_reducible refine' Eq.mpr w_tst ?_
  | with_reducible refine' Eq.mpr w_tru ?_
  | with_reducible refine' i_truB ?_
  | with_reducible refine' Eq.mpr w_tno ?_
  | with_reducible refine' Eq.mpr w_tan ?_
  | with_reducible refine' Eq.mpr w_too ?_
  | with_reducible refine' Eq.mpr w_al ?_
  | with_reducible refine' Eq.mpr w_sl ?_
  | with_reducible refine' Eq.mpr w_onone ?_
  | with_reducible refine' Eq.mpr w_osome ?_
  | with_reducible refine' Eq.mpr w_chain ?_
  | with_reducible refine' Eq.mpr w_seq ?_
  | with_reducible refine' Eq.mpr w_snil ?_
  | with_reducible refine' Eq.mpr w_sif ?_
  | with_reducible refine' Eq.mpr w_ret ?_
  | with_reducible refine' Eq.mpr w_set ?_
  | with_reducible refine' Eq.mpr w_drop ?_
  | with_reducible refine' Eq.mpr w_unp ?_
  | with_reducible refine' Eq.mpr w_par ?_
  | with_reducible refine' Eq.mpr w_put ?_
  | with_reducible refine' Eq.mpr w_vcons ?_
  | with_reducible refine' Eq.mpr w_vnil ?_
  | with_reducible refine' Eq.mpr w_sacons ?_
  | with_reducible refine' Eq.mpr w_sanil ?_
  | with_reducible refine' Eq.mpr w_asgT ?_
  | with_reducible refine' Eq.mpr w_asgN ?_
  | ((with_reducible refine' Eq.mpr thenS_nx ?_); try dsimp only [List.set_cons_succ, List.set_cons_zero])
  | with_reducible refine' Eq.mpr thenS_rt ?_
  | with_reducible refine' Eq.mpr endF_rt ?_
  | with_reducible refine' Eq.mpr endF_nx ?_
  | with_reducible refine' Eq.mpr lea_v ?_
  | with_reducible refine' Eq.mpr lea_o ?_
  | with_reducible refine' Eq.mpr isV_v ?_
  | ((with_reducible refine' i_ixT ?_); refine ⟨_, rfl, ?_⟩)
  | ((with_reducible refine' i_ixO ?_); refine ⟨_, rfl, ?_⟩)
  | ((with_reducible refine' i_ixL ?_); refine ⟨_, rfl, ?_⟩)
  | ((with_reducible refine' i_ixR ?_); refine ⟨_, _, by assumption, rfl, ?_⟩)
  | with_reducible refine' i_lenT ?_
  | with_reducible refine' i_lenL ?_
  | with_reducible refine' i_lenO ?_
  | with_reducible refine' i_lenZ ?_
  | with_reducible refine' i_abs ?_
  | with_reducible refine' i_min2 ?_
  | with_reducible refine' i_max2 ?_
  | with_reducible refine' i_intB ?_
  | with_reducible refine' i_tupO ?_
  | with_reducible refine' i_tupL ?_
  | with_reducible refine' i_listT ?_
  | with_reducible refine' i_slT ?_
  | ((with_reducible refine' i_isi ?_); refine ⟨_, rfl, ?_⟩)
  | with_reducible refine' i_sset ?_
  | with_reducible refine' i_par3 ?_
  | with_reducible refine' i_par2 ?_
  | ((with_reducible refine' i_revL ?_); refine ⟨_, rfl, ?_⟩)
  | ((with_reducible refine' i_ext ?_); refine ⟨_, rfl, ?_⟩)
  | ((with_reducible refine' i_appO ?_); refine ⟨_, rfl, ?_⟩)
  | ((with_reducible refine' i_retO ?_); refine ⟨_, rfl, ?_⟩)
  | with_reducible refine' i_inI ?_
  | with_reducible refine' i_ninI ?_
  | with_reducible refine' i_inIL ?_
  | with_reducible refine' i_ninIL ?_
  | with_reducible refine' i_inP ?_
  | with_reducible refine' i_ninP ?_
  | with_reducible refine' i_eqI ?_
  | with_reducible refine' i_neI ?_
  | with_reducible refine' i_rep1 ?_
  | with_reducible refine' i_neO0 ?_
  | with_reducible refine ite_t ?_
  | with_reducible refine ite_f ?_
  | with_reducible refine ⟨_, rfl, ?_⟩
  | with_reducible refine' i_lenle (by simp; done) ?_)
theorem wr_of {hs ls : List Val} (w : WV hs ls) : ∃ Hs L, hs = Hs.map hv ∧ ls = L.map Ln.v ∧ Wr Hs L := by
  have w1 := w.one
  have w2 := w.many
  have w3 := w.few
  obtain ⟨L, rfl, ok⟩ := lines_of ls w.lines
  obtain ⟨Hs, rfl, okH⟩ := houses_of hs w.houses
  rw [List.length_map] at w1 w2 ok
  rw [List.length_map] at w3
  refine ⟨Hs, L, rfl, rfl, fun z => by rw [z] at w1; simp at w1, by omega, fun gs hg => ⟨(okH gs hg).1, by have := (okH gs hg).2; omega⟩, fun x hx => ?_⟩
  have o := ok x hx
  exact ⟨o.a, o.b, o.c, o.d, by have := o.e; omega, o.f, o.g, o.h, o.i, o.j⟩
theorem zip_self_mem : ∀ {vs : List Val} {p : Val × Val}, p ∈ vs.zip vs → p.1 = p.2 ∧ p.1 ∈ vs
  | [], p, h => by simp at h
  | v :: vs, p, h => by
    rw [List.zip_cons_cons] at h
    rcases List.mem_cons.mp h with rfl | h
    · exact ⟨rfl, List.mem_cons_self ..⟩
    · obtain ⟨a, b⟩ := zip_self_mem h
      exact ⟨a, List.mem_cons_of_mem _ b⟩
theorem sm_wv {h : Hh} {Hs : List (List Int)} {L : List Ln} (k : Wr Hs L) : m_law_same [.v (wv (Hs.map hv) L), .v (wv (Hs.map hv) L)] h = some (.v (.bl true), h) := by
  have few := k.few
  have zz : ∀ {m : Nat} {vs : List Val}, (∀ v ∈ vs, r_law_same m [.v v, .v v] h = some (.v (.bl true), h)) → ∀ p ∈ vs.zip vs, r_law_same m [.v p.1, .v p.2] h = some (.v (.bl true), h) := fun hv' p hp => by
    have e := zip_self_mem hp
    rw [← e.1]
    exact hv' _ e.2
  refine same_tup (m := 7) rfl (by simp) (zz fun v hv' => ?_)
  have intsame : ∀ {m : Nat} {gs : List Int}, gs.length ≤ 100 → r_law_same (m + 2) [.v (.tup (gs.map .int)), .v (.tup (gs.map .int))] h = some (.v (.bl true), h) := fun lg => same_tup rfl (by rw [List.length_map]; omega) (zz fun v hv' => by
    obtain ⟨i, _, rfl⟩ := List.mem_map.mp hv'
    exact same_int)
  simp only [List.mem_cons, List.not_mem_nil, or_false] at hv'
  rcases hv' with rfl | rfl
  · refine same_tup (m := 6) rfl (by rw [List.length_map]; omega) (zz fun v hv' => ?_)
    obtain ⟨gs, hg, rfl⟩ := List.mem_map.mp hv'
    exact intsame (m := 4) (by have := (k.hs gs hg).2; omega)
  · refine same_tup (m := 6) rfl (by rw [List.length_map]; omega) (zz fun v hv' => ?_)
    obtain ⟨x, hx, rfl⟩ := List.mem_map.mp hv'
    have lg := rise_short (k.ls x hx).h (k.ls x hx).g
    refine same_tup (m := 5) rfl (by simp) (zz fun v hv' => ?_)
    simp only [List.mem_cons, List.not_mem_nil, or_false] at hv'
    rcases hv' with rfl | rfl | rfl | rfl | rfl
    · exact same_int
    · exact same_int
    · exact same_int
    · exact intsame (m := 3) (by omega)
    · exact same_int
theorem law_true (ns : List Int) (hl : ns.length ≤ 63) : ∃ h1, m_law [.z (ns.map .int)] [] = some (.v (.bl true), h1) := by
  suffices z : wF m_law [.z (ns.map .int)] [] fun r _ => r = .v (.bl true) by
    obtain ⟨r, h1, e, rfl⟩ := z
    exact ⟨h1, e⟩
  unfold m_law
  refine i_def [some (.z (ns.map .int)), none, none, none, none, none, none] rfl rfl ?_
  unfold b_law
  repeat walk_at "pz"
  refine for_range ?_
  repeat walk_at "pz"
  refine ⟨by split <;> omega, by split <;> omega, fun j s _ => ∃ (b c d e f g : Option R), s = [some (.z (ns.map .int)), b, c, d, e, f, g], ⟨_, _, _, _, _, _, rfl⟩, ?_, ?_⟩
  · rintro i s h hi ⟨b, c, d, e, f, g, rfl⟩
    have hi2 : i < 11 := by
      have : i < (1 + if ((ns.map Val.int).length : Int) < 10 then ((ns.map Val.int).length : Int) else 10).toNat := hi
      split at this <;> omega
    dsimp only [List.set_cons_succ, List.set_cons_zero]
    repeat walk_at "pz"
    obtain ⟨g0, c0, hg0, eb⟩ := box_eq (h := h) (ns := ns) (k := i) (by omega)
    refine callP eb ?_
    refine ⟨_, rfl, ?_⟩
    have k0 : St (h ++ [.lst [.int g0, .int c0, .int 0]]) h.length 0 (h ++ [.lst [.int g0, .int c0, .int 0]]) := ⟨g0, c0, 0, by
      rw [List.set_append_right _ _ (Nat.le_refl _), Nat.sub_self]; rfl, by simp, hg0, by decide, by decide⟩
    generalize hh0 : h ++ [Ob.lst [.int g0, .int c0, .int 0]] = h0 at k0
    generalize h.length = p at k0
    repeat walk_at "pz"
    refine NL.for_tup ?_
    repeat walk_at "pz"
    refine weaving_ok k0 (by decide) fun hs ls h1 w k1 => ?_
    obtain ⟨Hs1, L1, rfl, rfl, wr1⟩ := wr_of w
    repeat walk_at "pz"
    refine beyond_ok k1 (by decide) fun Hs2 L2 h2 wr2 k2 => ?_
    repeat walk_at "pz"
    refine ⟨_, .inl rfl, ?_⟩
    clear k0 hh0 k1 k2 w
    refine for_inv (fun _ s _ => ∃ (d e f g : Option R), s = [some (.z (ns.map .int)), some (.v (.int i)), some (.v (.ref p)), d, e, f, g]) ⟨_, _, _, _, rfl⟩ ?_ ?_
    · rintro j v s h' ev ⟨d, e, f, g, rfl⟩
      have hv' : ∃ Hs L, v = wv (Hs.map hv) L ∧ Wr Hs L := by
        have m := List.mem_of_getElem? ev
        simp only [List.mem_cons, List.not_mem_nil, or_false] at m
        rcases m with rfl | rfl
        · exact ⟨Hs1, L1, rfl, wr1⟩
        · exact ⟨Hs2, L2, rfl, wr2⟩
      obtain ⟨Hs, L, rfl, wr⟩ := hv'
      have wk := wr.wq
      refine ⟨_, rfl, ?_⟩
      dsimp only [List.set_cons_succ, List.set_cons_zero]
      repeat walk_at "pz"
      refine w_join ?_
      repeat walk_at "pz"
      refine callP (law_rows_eq wk) ?_
      refine ⟨rowsT Hs L, rfl, text_join (h := h') wk, ?_⟩
      show wS _ _ h' _
      repeat walk_at "pz"
      refine for_range ?_
      repeat walk_at "pz"
      refine ⟨by decide, by decide, fun _ s h' => ∃ f g, s = [some (.z (ns.map .int)), some (.v (.int i)), some (.v (.ref p)), some (.v (wv (Hs.map hv) L)), some (.v (.str (textT Hs L))), f, g], ⟨_, _, rfl⟩, ?_, ?_⟩
      · rintro t s hA ht ⟨f, g, rfl⟩
        dsimp only [List.set_cons_succ, List.set_cons_zero]
        repeat walk_at "pz"
        refine weaving_from_ok wr fun hB _ => ?_
        repeat walk_at "pz"
        refine callP (sm_wv wr) ?_
        repeat walk_at "pz"
        refine ite_c (fun c => by cases c) (fun _ => ?_)
        repeat walk_at "pz"
        refine callP (is_weaving_wv wr) ?_
        repeat walk_at "pz"
        refine i_isntB ?_
        repeat walk_at "pz"
        refine ite_c (fun c => by cases c) (fun _ => ?_)
        repeat walk_at "pz"
        refine callP (weaving_text_eq wk) ?_
        repeat walk_at "pz"
        refine i_eqT (textq_ok wk) (textq_ok wk) ?_
        rw [decide_eq_true rfl]
        repeat walk_at "pz"
        refine ite_c (fun c => by cases c) (fun _ => ?_)
        repeat walk_at "pz"
        exact ⟨_, _, rfl⟩
      · rintro s h' ⟨f, g, rfl⟩
        repeat walk_at "pz"
        exact ⟨_, _, _, _, rfl⟩
    · rintro s h' ⟨d, e, f, g, rfl⟩
      repeat walk_at "pz"
      exact ⟨_, _, _, _, _, _, rfl⟩
  · rintro s h ⟨b, c, d, e, f, g, rfl⟩
    repeat walk_at "pz"
    rfl

end K56
set_option Elab.async false
set_option linter.all false
set_option maxRecDepth 100000
set_option maxHeartbeats 0
namespace K56
open PySem PySem.Spec PyProof.Rows L2 NL
def d_is_number : He.DefD := ⟨("is_number", none), "is_number", "is_number", defArgs s_is_number, defBody s_is_number, defScope s_is_number, [], []⟩
def d_is_number_below : He.DefD := ⟨("is_number_below", none), "is_number_below", "is_number_below", defArgs s_is_number_below, defBody s_is_number_below, defScope s_is_number_below, [], []⟩
def d_is_tuple_of : He.DefD := ⟨("is_tuple_of", none), "is_tuple_of", "is_tuple_of", defArgs s_is_tuple_of, defBody s_is_tuple_of, defScope s_is_tuple_of, [], []⟩
def d_is_rising : He.DefD := ⟨("is_rising", none), "is_rising", "is_rising", defArgs s_is_rising, defBody s_is_rising, defScope s_is_rising, [], []⟩
def d_are_groups : He.DefD := ⟨("are_groups", none), "are_groups", "are_groups", defArgs s_are_groups, defBody s_are_groups, defScope s_are_groups, [], []⟩
def d_are_houses : He.DefD := ⟨("are_houses", none), "are_houses", "are_houses", defArgs s_are_houses, defBody s_are_houses, defScope s_are_houses, [], []⟩
def d_is_line : He.DefD := ⟨("is_line", none), "is_line", "is_line", defArgs s_is_line, defBody s_is_line, defScope s_is_line, [], []⟩
def d_is_weaving : He.DefD := ⟨("is_weaving", none), "is_weaving", "is_weaving", defArgs s_is_weaving, defBody s_is_weaving, defScope s_is_weaving, [], []⟩
def d_spaced : He.DefD := ⟨("spaced", none), "spaced", "spaced", defArgs s_spaced, defBody s_spaced, defScope s_spaced, [], []⟩
def d_weaving_text : He.DefD := ⟨("weaving_text", none), "weaving_text", "weaving_text", defArgs s_weaving_text, defBody s_weaving_text, defScope s_weaving_text, [], []⟩
def d_number_from : He.DefD := ⟨("number_from", none), "number_from", "number_from", defArgs s_number_from, defBody s_number_from, defScope s_number_from, [], []⟩
def d_line_of : He.DefD := ⟨("line_of", none), "line_of", "line_of", defArgs s_line_of, defBody s_line_of, defScope s_line_of, [], []⟩
def d_put_row : He.DefD := ⟨("put_row", none), "put_row", "put_row", defArgs s_put_row, defBody s_put_row, defScope s_put_row, [], []⟩
def d_weaving_from : He.DefD := ⟨("weaving_from", none), "weaving_from", "weaving_from", defArgs s_weaving_from, defBody s_weaving_from, defScope s_weaving_from, [], []⟩
def d__law_box : He.DefD := ⟨("_law_box", none), "_law_box", "_law_box", defArgs s__law_box, defBody s__law_box, defScope s__law_box, [], []⟩
def d__law_take : He.DefD := ⟨("_law_take", none), "_law_take", "_law_take", defArgs s__law_take, defBody s__law_take, defScope s__law_take, [], []⟩
def d__law_some_groups : He.DefD := ⟨("_law_some_groups", none), "_law_some_groups", "_law_some_groups", defArgs s__law_some_groups, defBody s__law_some_groups, defScope s__law_some_groups, [], []⟩
def d__law_line : He.DefD := ⟨("_law_line", none), "_law_line", "_law_line", defArgs s__law_line, defBody s__law_line, defScope s__law_line, [], []⟩
def d__law_weaving : He.DefD := ⟨("_law_weaving", none), "_law_weaving", "_law_weaving", defArgs s__law_weaving, defBody s__law_weaving, defScope s__law_weaving, [], []⟩
def d__law_rows_written : He.DefD := ⟨("_law_rows_written", none), "_law_rows_written", "_law_rows_written", defArgs s__law_rows_written, defBody s__law_rows_written, defScope s__law_rows_written, [], []⟩
def d__law_same : He.DefD := ⟨("_law_same", none), "_law_same", "_law_same", defArgs s__law_same, defBody s__law_same, defScope s__law_same, [], []⟩
def d__law_beyond : He.DefD := ⟨("_law_beyond", none), "_law_beyond", "_law_beyond", defArgs s__law_beyond, defBody s__law_beyond, defScope s__law_beyond, [], []⟩
def d_law : He.DefD := ⟨("law", none), "law", "law", defArgs s_law, defBody s_law, defScope s_law, [], []⟩
def fnl : List He.DefD := [d_is_number, d_is_number_below, d_is_tuple_of, d_is_rising, d_are_groups, d_are_houses, d_is_line, d_is_weaving, d_spaced, d_weaving_text, d_number_from, d_line_of, d_put_row, d_weaving_from, d__law_box, d__law_take, d__law_some_groups, d__law_line, d__law_weaving, d__law_rows_written, d__law_same, d__law_beyond, d_law]
def fal : List He.Fa := [.glo "is_number", .glo "is_number_below", .glo "is_tuple_of", .glo "is_rising", .glo "are_groups", .glo "are_houses", .glo "is_line", .glo "is_weaving", .glo "spaced", .glo "weaving_text", .glo "number_from", .glo "line_of", .glo "put_row", .glo "weaving_from", .glo "_law_box", .glo "_law_take", .glo "_law_some_groups", .glo "_law_line", .glo "_law_weaving", .glo "_law_rows_written", .glo "_law_same", .glo "_law_beyond", .glo "law", .free "int", .free "isinstance", .free "bool", .free "tuple", .free "len", .free "zip", .free "all", .free "str", .free "range", .free "abs", .free "sorted", .free "set", .free "list", .free "min", .int "GROUPS" 8, .int "MOST_FIGURES" 4, .int "MOST_STRANDS" 4]
def loose : List Str := [("is_number" : Str), ("is_number_below" : Str), ("is_tuple_of" : Str), ("is_rising" : Str), ("are_groups" : Str), ("are_houses" : Str), ("is_line" : Str), ("is_weaving" : Str), ("spaced" : Str), ("weaving_text" : Str), ("number_from" : Str), ("line_of" : Str), ("put_row" : Str), ("weaving_from" : Str), ("_law_box" : Str), ("_law_take" : Str), ("_law_some_groups" : Str), ("_law_line" : Str), ("_law_weaving" : Str), ("_law_rows_written" : Str), ("_law_same" : Str), ("_law_beyond" : Str), ("GROUPS" : Str), ("MOST_FIGURES" : Str), ("MOST_STRANDS" : Str), ("LineError" : Str), ("BadRow" : Str)]
abbrev R : PySem.W.OpenRow := PySem.W.OpenLaw.row PySem.Challenge.rw_namelines_k56_weavings_read
abbrev hk : PySem.W.Hook := He.hookD 4 fal fnl
def ob (s : PySem.W.SharedT) : He.AlD := He.obsDG 4 fal fnl (HandSHeadRun.getT s)
theorem ob_eq (s : PySem.W.SharedT) : ob s = hk.obs s.abs := He.obsDG_eq (HandSHeadRun.getT_eq s)
theorem run (w : World) : HandSHeadRun.RunEq R (PySem.W.view R.prog [32]) hk ob 2000 loose w := by
  intro os
  kernel_rfl
theorem facts {P : Program} {w : World} {K : PySem.W.Frag} {h : Heap} {mg : Str → Option Value} {f : Addr} (X : K.In h) (G : h.Ns mainGlobals mg) (hfa : mg ("law" : Str) = some (.ref f)) (c : He.SaysD fal fnl K) :
    ∃ fd : FuncData, (∀ (s : Shared) (v : Value), BindsTo s fd ⟨[v], []⟩ [("_law_script", v)]) ∧ ∀ base : Heap, K.In base → base.Ns mainGlobals mg → letI : HasK := ⟨K⟩; RunG P w K mg base callerA f fd ["_law_script"] (spM 1 m_law) := by
  letI : HasK := ⟨K⟩
  obtain ⟨fd_is_number, F_is_number⟩ := c.def_ 0 (d := d_is_number) rfl
  obtain ⟨fd_is_number_below, F_is_number_below⟩ := c.def_ 1 (d := d_is_number_below) rfl
  obtain ⟨fd_is_tuple_of, F_is_tuple_of⟩ := c.def_ 2 (d := d_is_tuple_of) rfl
  obtain ⟨fd_is_rising, F_is_rising⟩ := c.def_ 3 (d := d_is_rising) rfl
  obtain ⟨fd_are_groups, F_are_groups⟩ := c.def_ 4 (d := d_are_groups) rfl
  obtain ⟨fd_are_houses, F_are_houses⟩ := c.def_ 5 (d := d_are_houses) rfl
  obtain ⟨fd_is_line, F_is_line⟩ := c.def_ 6 (d := d_is_line) rfl
  obtain ⟨fd_is_weaving, F_is_weaving⟩ := c.def_ 7 (d := d_is_weaving) rfl
  obtain ⟨fd_spaced, F_spaced⟩ := c.def_ 8 (d := d_spaced) rfl
  obtain ⟨fd_weaving_text, F_weaving_text⟩ := c.def_ 9 (d := d_weaving_text) rfl
  obtain ⟨fd_number_from, F_number_from⟩ := c.def_ 10 (d := d_number_from) rfl
  obtain ⟨fd_line_of, F_line_of⟩ := c.def_ 11 (d := d_line_of) rfl
  obtain ⟨fd_put_row, F_put_row⟩ := c.def_ 12 (d := d_put_row) rfl
  obtain ⟨fd_weaving_from, F_weaving_from⟩ := c.def_ 13 (d := d_weaving_from) rfl
  obtain ⟨fd__law_box, F__law_box⟩ := c.def_ 14 (d := d__law_box) rfl
  obtain ⟨fd__law_take, F__law_take⟩ := c.def_ 15 (d := d__law_take) rfl
  obtain ⟨fd__law_some_groups, F__law_some_groups⟩ := c.def_ 16 (d := d__law_some_groups) rfl
  obtain ⟨fd__law_line, F__law_line⟩ := c.def_ 17 (d := d__law_line) rfl
  obtain ⟨fd__law_weaving, F__law_weaving⟩ := c.def_ 18 (d := d__law_weaving) rfl
  obtain ⟨fd__law_rows_written, F__law_rows_written⟩ := c.def_ 19 (d := d__law_rows_written) rfl
  obtain ⟨fd__law_same, F__law_same⟩ := c.def_ 20 (d := d__law_same) rfl
  obtain ⟨fd__law_beyond, F__law_beyond⟩ := c.def_ 21 (d := d__law_beyond) rfl
  obtain ⟨fd_law, F_law⟩ := c.def_ 22 (d := d_law) rfl
  have l_is_number := He.glo_ok X G (c.fact 0 (f := .glo "is_number") rfl)
  have l_is_number_below := He.glo_ok X G (c.fact 1 (f := .glo "is_number_below") rfl)
  have l_is_tuple_of := He.glo_ok X G (c.fact 2 (f := .glo "is_tuple_of") rfl)
  have l_is_rising := He.glo_ok X G (c.fact 3 (f := .glo "is_rising") rfl)
  have l_are_groups := He.glo_ok X G (c.fact 4 (f := .glo "are_groups") rfl)
  have l_are_houses := He.glo_ok X G (c.fact 5 (f := .glo "are_houses") rfl)
  have l_is_line := He.glo_ok X G (c.fact 6 (f := .glo "is_line") rfl)
  have l_is_weaving := He.glo_ok X G (c.fact 7 (f := .glo "is_weaving") rfl)
  have l_spaced := He.glo_ok X G (c.fact 8 (f := .glo "spaced") rfl)
  have l_weaving_text := He.glo_ok X G (c.fact 9 (f := .glo "weaving_text") rfl)
  have l_number_from := He.glo_ok X G (c.fact 10 (f := .glo "number_from") rfl)
  have l_line_of := He.glo_ok X G (c.fact 11 (f := .glo "line_of") rfl)
  have l_put_row := He.glo_ok X G (c.fact 12 (f := .glo "put_row") rfl)
  have l_weaving_from := He.glo_ok X G (c.fact 13 (f := .glo "weaving_from") rfl)
  have l__law_box := He.glo_ok X G (c.fact 14 (f := .glo "_law_box") rfl)
  have l__law_take := He.glo_ok X G (c.fact 15 (f := .glo "_law_take") rfl)
  have l__law_some_groups := He.glo_ok X G (c.fact 16 (f := .glo "_law_some_groups") rfl)
  have l__law_line := He.glo_ok X G (c.fact 17 (f := .glo "_law_line") rfl)
  have l__law_weaving := He.glo_ok X G (c.fact 18 (f := .glo "_law_weaving") rfl)
  have l__law_rows_written := He.glo_ok X G (c.fact 19 (f := .glo "_law_rows_written") rfl)
  have l__law_same := He.glo_ok X G (c.fact 20 (f := .glo "_law_same") rfl)
  have l__law_beyond := He.glo_ok X G (c.fact 21 (f := .glo "_law_beyond") rfl)
  have l_law := He.glo_ok X G (c.fact 22 (f := .glo "law") rfl)
  have g_int := He.free_ok X G (c.fact 23 (f := .free "int") rfl)
  have g_isinstance := He.free_ok X G (c.fact 24 (f := .free "isinstance") rfl)
  have g_bool := He.free_ok X G (c.fact 25 (f := .free "bool") rfl)
  have g_tuple := He.free_ok X G (c.fact 26 (f := .free "tuple") rfl)
  have g_len := He.free_ok X G (c.fact 27 (f := .free "len") rfl)
  have g_zip := He.free_ok X G (c.fact 28 (f := .free "zip") rfl)
  have g_all := He.free_ok X G (c.fact 29 (f := .free "all") rfl)
  have g_str := He.free_ok X G (c.fact 30 (f := .free "str") rfl)
  have g_range := He.free_ok X G (c.fact 31 (f := .free "range") rfl)
  have g_abs := He.free_ok X G (c.fact 32 (f := .free "abs") rfl)
  have g_sorted := He.free_ok X G (c.fact 33 (f := .free "sorted") rfl)
  have g_set := He.free_ok X G (c.fact 34 (f := .free "set") rfl)
  have g_list := He.free_ok X G (c.fact 35 (f := .free "list") rfl)
  have g_min := He.free_ok X G (c.fact 36 (f := .free "min") rfl)
  obtain ⟨t_GROUPS, c_GROUPS⟩ := He.int_ok X G (c.fact 37 (f := .int "GROUPS" 8) rfl)
  obtain ⟨t_MOST_FIGURES, c_MOST_FIGURES⟩ := He.int_ok X G (c.fact 38 (f := .int "MOST_FIGURES" 4) rfl)
  obtain ⟨t_MOST_STRANDS, c_MOST_STRANDS⟩ := He.int_ok X G (c.fact 39 (f := .int "MOST_STRANDS" 4) rfl)
  have e := hfa.symm.trans l_law
  cases e
  have b := FunD.bindsA (ps := ["_law_script"]) F_law fun _ _ _ _ _ _ us hl => match us, hl with | [_], _ => rfl
  refine ⟨fd_law, fun s v => b s [v] rfl, fun base _ _ => ?_⟩
  have C_is_number := ok_is_number (P := P) (w := w) (mg := mg) (base := base) F_is_number l_is_number g_int g_isinstance g_bool
  have C_is_number_below := ok_is_number_below (P := P) (w := w) (mg := mg) (base := base) F_is_number_below l_is_number_below C_is_number
  have C_is_tuple_of := ok_is_tuple_of (P := P) (w := w) (mg := mg) (base := base) F_is_tuple_of l_is_tuple_of g_tuple g_isinstance g_len
  have C_is_rising := ok_is_rising (P := P) (w := w) (mg := mg) (base := base) F_is_rising l_is_rising g_zip g_all
  have C_are_groups := ok_are_groups (P := P) (w := w) (mg := mg) (base := base) F_are_groups l_are_groups g_tuple g_isinstance g_all c_GROUPS C_is_number_below
  have C_are_houses := ok_are_houses (P := P) (w := w) (mg := mg) (base := base) F_are_houses l_are_houses g_tuple g_isinstance g_len g_all C_are_groups
  have C_is_line := ok_is_line (P := P) (w := w) (mg := mg) (base := base) F_is_line l_is_line g_len c_MOST_STRANDS C_is_tuple_of C_is_number C_is_number_below C_are_groups C_is_rising
  have C_is_weaving := ok_is_weaving (P := P) (w := w) (mg := mg) (base := base) F_is_weaving l_is_weaving g_tuple g_isinstance g_len g_all C_is_tuple_of C_are_houses C_is_line
  have C_spaced := ok_spaced (P := P) (w := w) (mg := mg) (base := base) F_spaced l_spaced g_str
  have C_weaving_text := ok_weaving_text (P := P) (w := w) (mg := mg) (base := base) F_weaving_text l_weaving_text C_spaced
  have C_number_from := ok_number_from (P := P) (w := w) (mg := mg) (base := base) F_number_from l_number_from g_len g_int g_str c_MOST_FIGURES
  have C_line_of := ok_line_of (P := P) (w := w) (mg := mg) (base := base) F_line_of l_line_of g_len g_tuple
  have C_put_row := ok_put_row (P := P) (w := w) (mg := mg) (base := base) F_put_row l_put_row g_tuple g_len C_number_from C_are_groups C_is_line C_line_of
  have C_weaving_from := ok_weaving_from (P := P) (w := w) (mg := mg) (base := base) F_weaving_from l_weaving_from g_len g_range g_tuple C_put_row
  have C__law_box := ok__law_box (P := P) (w := w) (mg := mg) (base := base) F__law_box l__law_box rfl g_len g_abs
  have C__law_take := ok__law_take (P := P) (w := w) (mg := mg) (base := base) F__law_take l__law_take
  have C__law_some_groups := ok__law_some_groups (P := P) (w := w) (mg := mg) (base := base) F__law_some_groups l__law_some_groups g_len g_sorted g_set g_tuple g_range C__law_take
  have C__law_line := ok__law_line (P := P) (w := w) (mg := mg) (base := base) F__law_line l__law_line C__law_take C__law_some_groups
  have C__law_weaving := ok__law_weaving (P := P) (w := w) (mg := mg) (base := base) F__law_weaving l__law_weaving g_int g_range g_len g_tuple C__law_take C__law_line
  have C__law_rows_written := ok__law_rows_written (P := P) (w := w) (mg := mg) (base := base) F__law_rows_written l__law_rows_written g_str
  have C__law_same := ok__law_same (P := P) (w := w) (mg := mg) (base := base) F__law_same l__law_same g_list g_tuple g_isinstance g_len g_zip g_all g_str g_bool g_int
  have C__law_beyond := ok__law_beyond (P := P) (w := w) (mg := mg) (base := base) F__law_beyond l__law_beyond g_range g_tuple C__law_take
  exact fn_law (P := P) (w := w) (base := base) F_law l_law rfl g_len g_min g_range C__law_box C__law_weaving C__law_beyond C__law_rows_written C_weaving_from C__law_same C_is_weaving C_weaving_text
end K56
open PySem PySem.W PySem.Calls PyProof.Rows
set_option maxHeartbeats 0 in
theorem PySem.Challenge.cw_namelines_k56_weavings_read_holds : PySem.Challenge.rw_namelines_k56_weavings_read.Holds := by
  w_on; o_law
  refine HandSHeadRun.head_any (r := OpenLaw.row PySem.Challenge.rw_namelines_k56_weavings_read) (q := view (OpenLaw.row PySem.Challenge.rw_namelines_k56_weavings_read).prog [32]) (H := K56.hk) (ob := K56.ob) (M := 2000) (loose := K56.loose) (d := HandSHeadRun.topDef (OpenLaw.row PySem.Challenge.rw_namelines_k56_weavings_read).prog 32) (kwd := []) K56.ob_eq
    (by kernel_rfl) (fun s => by kernel_rfl) K56.run (by kernel_rfl) (by kernel_rfl) (by kernel_rfl) (by rfl) (by first | assumption | decide +kernel) (by decide +kernel) ⟨rfl, rfl, rfl, rfl, rfl, by decide +kernel⟩ ?hw ?hc
  case hw => w_witness2
  case hc =>
    refine NL.walk_G (l := PySem.Challenge.rw_namelines_k56_weavings_read) (n := 63) (x := "_law_script") rfl (by decide) (by kernel_rfl) ?F
    intro w mg fa h Y G hmg0
    obtain ⟨K, KX, c⟩ := Y
    have hmg : mg ("law" : PySem.Str) = some (.ref fa) := by
      have e : (HandSHeadRun.topDef (OpenLaw.row PySem.Challenge.rw_namelines_k56_weavings_read).prog 32).name = ("law" : PySem.Str) := by kernel_rfl
      rw [← e]
      exact hmg0
    letI : NL.HasK := ⟨K⟩
    obtain ⟨fd, hb, hF⟩ := K56.facts (P := PySem.Challenge.rw_namelines_k56_weavings_read.prog) (w := w) KX G hmg c
    refine ⟨K, fd, NL.spM 1 K56.m_law, KX, hb, fun H a ns hl hS => ?_, hF⟩
    obtain ⟨h1, e1⟩ := K56.law_true ns hl
    exact NL.law_sp hS e1
