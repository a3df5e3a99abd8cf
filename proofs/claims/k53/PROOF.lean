import PyProof.Rows.All
import Wide.All
import OpenK.AllK
import Wide.FinOn
import Lean
import PyProof.EqAt
import PyProof.EqKinds
import PyProof.TupleCall
import PyProof.CompFree
import PyProof.CompUse
import PyProof.CollectIter
import PyProof.ListNew
import KE.KRevIter
import PyProof.EnumMake
import PyProof.Draws
import PyProof.TupleIter
import PyProof.WalksMore
import PyProof.ReprRoads
import PyProof.P3Eq
import PyProof.NeData
import PyProof.EqLayable
import PyProof.Rows.RegFStrParts
import PyProof.AutoListH
import KE.KItemsList
import KE.KDictList
import PyProof.StrBlockG
import PyProof.StrLawsOcc
import PyProof.StrLawsTight
import PyProof.StrLawsChain
import PyProof.Rows.Range3
import PyProof.MinMaxWalk
import PyProof.WalkInts
import PySem.Challenge.RW_pileduel_k53_runs_of_programs
set_option Elab.async false
set_option linter.all false
set_option maxRecDepth 100000
/-! THE HAND LAYER, for ints, bools, texts, own classes, LISTS and tuples (index, slices, in, append, pop ..), calls, loops. Paste it whole ahead of your own text; what your proof does not reach may be deleted. -/
namespace L2
open PySem PySem.Spec PyProof.Rows

/-- a key: an int or a str -/
abbrev Key := Sum Int Str
def keyIs : Key → Value → Bool
  | .inl k, v => Value.isInt k v
  | .inr x, v => Value.isStrOf x v
def keyH (w : World) : Key → Int
  | .inl k => hashInt k
  | .inr x => hashStr w x
theorem keyIs_shape : ∀ {k : Key} {v : Value}, keyIs k v = true → (∃ i t, k = Sum.inl i ∧ v = Value.int i t) ∨ (∃ x t, k = Sum.inr x ∧ v = Value.str x t)
  | .inl i, v, h => by
    obtain ⟨t, e⟩ := Value.isInt_shape (k := i) (v := v) h
    exact .inl ⟨i, t, rfl, e⟩
  | .inr x, v, h => by
    obtain ⟨t, e⟩ := Value.isStrOf_shape (x := x) (v := v) h
    exact .inr ⟨x, t, rfl, e⟩
theorem keyIs_int (i : Int) (t : Tok) : keyIs (.inl i) (.int i t) = true := by simp [keyIs, Value.isInt]
theorem keyIs_str (x : Str) (t : Tok) : keyIs (.inr x) (.str x t) = true := by simp [keyIs, Value.isStrOf]
theorem key_ll (a b : Int) : decide ((Sum.inl a : Key) = Sum.inl b) = (a == b) := by
  by_cases e : a = b
  · subst e; simp
  · have h : ¬ (Sum.inl a : Key) = Sum.inl b := fun q => e (Sum.inl.inj q)
    rw [decide_eq_false h]
    exact (beq_eq_false_iff_ne.mpr e).symm
theorem key_rr (a b : Str) : decide ((Sum.inr a : Key) = Sum.inr b) = decide (a = b) := by
  by_cases e : a = b
  · subst e; simp
  · have h : ¬ (Sum.inr a : Key) = Sum.inr b := fun q => e (Sum.inr.inj q)
    rw [decide_eq_false h, decide_eq_false e]
theorem key_lr (a : Int) (b : Str) : decide ((Sum.inl a : Key) = Sum.inr b) = false := decide_eq_false (fun q => nomatch q)
theorem key_rl (a : Str) (b : Int) : decide ((Sum.inr a : Key) = Sum.inl b) = false := decide_eq_false (fun q => nomatch q)

def mixKind (prog : Program) (w : World) : PySem.KeyKind prog w Key where
  is := keyIs
  hash := keyH w
  inj := fun v a b ha hb => by
    rcases keyIs_shape ha with ⟨i, t, rfl, rfl⟩ | ⟨x, t, rfl, rfl⟩
    · rcases keyIs_shape hb with ⟨j, u, rfl, e⟩ | ⟨y, u, rfl, e⟩
      · injection e with e1 _; rw [e1]
      · exact nomatch e
    · rcases keyIs_shape hb with ⟨j, u, rfl, e⟩ | ⟨y, u, rfl, e⟩
      · exact nomatch e
      · injection e with e1 _; rw [e1]
  byValue := fun k v h => by
    rcases keyIs_shape h with ⟨i, t, rfl, rfl⟩ | ⟨x, t, rfl, rfl⟩ <;> rfl
  pyHash := fun hv h => by
    rcases keyIs_shape hv with ⟨i, t, rfl, rfl⟩ | ⟨x, t, rfl, rfl⟩
    · exact wpAny_pyHash_int h
    · exact wpAny_pyHash_str h
  eqBool := fun hu hv h => by
    rcases keyIs_shape hu with ⟨i, t, rfl, rfl⟩ | ⟨x, t, rfl, rfl⟩
    · rcases keyIs_shape hv with ⟨j, u, rfl, rfl⟩ | ⟨y, u, rfl, rfl⟩
      · rw [key_ll] at h; exact wpAny_eqBool_int h
      · rw [key_lr] at h; exact SeqAt.EqAt.int_str i t y u _ _ _ _ h
    · rcases keyIs_shape hv with ⟨j, u, rfl, rfl⟩ | ⟨y, u, rfl, rfl⟩
      · rw [key_rl] at h; exact SeqAt.EqAt.str_int x t j u _ _ _ _ h
      · rw [key_rr] at h; exact wpAny_eqBool_str h
  «strs» := fun k x t v h => by
    rcases keyIs_shape h with ⟨i, u, rfl, e⟩ | ⟨y, u, rfl, e⟩
    · exact nomatch e
    · injection e with e1 _
      subst e1
      cases v <;> rfl

theorem mixKind_is (prog : Program) (w : World) (k : Key) (v : Value) : (mixKind prog w).is k v = keyIs k v := rfl
theorem mixKind_int (prog : Program) (w : World) (i : Int) (t : Tok) : (mixKind prog w).is (.inl i) (.int i t) = true := keyIs_int i t
theorem mixKind_str (prog : Program) (w : World) (x : Str) (t : Tok) : (mixKind prog w).is (.inr x) (.str x t) = true := keyIs_str x t
end L2

namespace L2
open PySem PySem.Spec PyProof.Rows

/-- a value, without the heap -/
inductive V where
  | non | bl (b : Bool) | int (i : Int) | str (x : Str) | byt (b : Array UInt8) | flt (b : UInt64) | ref (a : Addr) | ty (n : String)
  deriving DecidableEq

def RelV : V → Value → Prop
  | .non, u => u = Value.none
  | .bl b, u => u = Value.bool b
  | .int i, u => ∃ t, u = Value.int i t
  | .str x, u => ∃ t, u = Value.str x t
  | .byt b, u => ∃ t, u = Value.bytes b t
  | .flt b, u => ∃ t, u = Value.float b t
  | .ref a, u => u = Value.ref a
  | .ty n, u => u = Value.type n

abbrev Vals : List V → List Value → Prop := Paired RelV
theorem Vals.length {xs : List V} {us : List Value} (r : Vals xs us) : xs.length = us.length := Paired.length r
theorem Vals.get : ∀ {xs : List V} {us : List Value} {i : Nat} {x : V}, Vals xs us → xs[i]? = some x → ∃ u, us[i]? = some u ∧ RelV x u
  | _, _, _, _, .nil, e => by simp at e
  | _, _, 0, _, .cons r _, e => by simp at e; subst e; exact ⟨_, rfl, r⟩
  | _, _, i + 1, x, .cons _ t, e => by
    obtain ⟨u, h1, h2⟩ := Vals.get (i := i) (x := x) t (by simpa using e)
    exact ⟨u, by simpa using h1, h2⟩
theorem Vals.set {x : V} {u : Value} (r : RelV x u) : ∀ {xs : List V} {us : List Value} (i : Nat), Vals xs us → Vals (xs.set i x) (us.set i u)
  | _, _, _, .nil => .nil
  | _, _, 0, .cons _ t => .cons r t
  | _, _, i + 1, .cons q t => .cons q (Vals.set r i t)
theorem Vals.append : ∀ {xs ys : List V} {us ws : List Value}, Vals xs us → Vals ys ws → Vals (xs ++ ys) (us ++ ws)
  | _, _, _, _, .nil, s => s
  | _, _, _, _, .cons r t, s => .cons r (Vals.append t s)
theorem Vals.take : ∀ {xs : List V} {us : List Value} (n : Nat), Vals xs us → Vals (xs.take n) (us.take n)
  | _, _, 0, _ => .nil
  | _, _, _ + 1, .nil => .nil
  | _, _, n + 1, .cons r t => .cons r (Vals.take n t)
theorem Vals.drop : ∀ {xs : List V} {us : List Value} (n : Nat), Vals xs us → Vals (xs.drop n) (us.drop n)
  | _, _, 0, r => r
  | _, _, _ + 1, .nil => .nil
  | _, _, n + 1, .cons _ t => Vals.drop n t
theorem Vals.none_of : ∀ {xs : List V} {us : List Value} {i : Nat}, Vals xs us → xs[i]? = none → us[i]? = none := fun {xs us i} r e => by
  have h1 := r.length
  have h2 : xs.length ≤ i := List.getElem?_eq_none_iff.mp e
  exact List.getElem?_eq_none_iff.mpr (by omega)

def RelO : Option V → Option Value → Prop
  | some v, some u => RelV v u
  | none, none => True
  | _, _ => False
def KV {κ : Type} : List (κ × V) → List (κ × Value) → Prop := Paired fun (p : κ × V) (q : κ × Value) => p.1 = q.1 ∧ RelV p.2 q.2

/-- a key of a dict (00_mix): an int or a text -/
def kV : Key → V
  | .inl i => .int i
  | .inr x => .str x

/-- what stands at a tracked address -/
inductive HO where
  /-- a list -/
  | lst (xs : List V)
  /-- a tuple (never changes) -/
  | tup (xs : List V)
  /-- a dict whose keys are ints and texts; one whose keys are tuples of ints and texts (the empty one is both) -/
  | dK (kvs : List (Key × V)) | dT (kvs : List (List Key × V))
  /-- a set of ints: its members, its size -/
  | set (S : Int → Bool) (n : Nat)
  /-- an instance of the class at C, its dict at dx, its attributes -/
  | ins (C dx : Addr) (fs : List (Str × V))
  /-- the dict of the instance at x -/
  | own (x : Addr)
  /-- the dict of an exception -/
  | xd (fs : List (Str × V))
  /-- a bound method, f of x -/
  | met (f x : Addr)
  /-- a range object lo, lo + 1, .. below hi -/
  | rng (lo hi : Int)
  /-- a thing that is known to the object (the script; a dict while a loop walks it): read, never written while it is so -/
  | frz (o : Obj) (u : HO)
  /-- a code object's table -/
  | tbl (ps : Array Value)
  /-- any other thing, by what is true of its one object (a def of one's own: SetO a S n := HO.ext fun h => ..) -/
  | ext (φ : Heap → Prop)

abbrev Hp := Addr → Option HO
def upd (H : Hp) (a : Addr) (o : HO) : Hp := fun b => if b = a then some o else H b
theorem upd_same {H : Hp} {a : Addr} {o : HO} : upd H a o a = some o := by unfold upd; rw [if_pos rfl]
theorem upd_ne {H : Hp} {a b : Addr} {o : HO} (h : b ≠ a) : upd H a o b = H b := by unfold upd; rw [if_neg h]
theorem upd_upd {H : Hp} {a : Addr} {o u : HO} : upd (upd H a o) a u = upd H a u := by
  funext b; unfold upd; split <;> rfl
/-- two objects of different content stand apart -/
theorem ne_of {H : Hp} {a b : Addr} {o u : HO} (h : H a = some o) (h' : H b = some u) (d : o ≠ u) : a ≠ b := by
  intro e; subst e; rw [h] at h'; exact d (Option.some.inj h')
theorem ne_of_none {H : Hp} {a b : Addr} {o : HO} (h : H a = some o) (h' : H b = none) : a ≠ b := by
  intro e; subst e; rw [h] at h'; cases h'

section
variable (P : Program) (w : World)
def ObjOk (H : Hp) (h : Heap) (a : Addr) : HO → Prop
  | .lst xs => xs.length ≤ sizeLine ∧ ∃ (its : List Value) (n : Nat), Vals xs its ∧ h.get? a = some { cls := .type "list", data := .seq its.toArray n }
  | .tup xs => xs.length ≤ sizeLine ∧ ∃ its : List Value, Vals xs its ∧ IsTup h a its.toArray
  | .dK kvs => kvs.length ≤ sizeLine ∧ (a == sysModules) = false ∧ ∃ vs, KV kvs vs ∧ h.DictOf (mixKind P w) a vs
  | .dT kvs => kvs.length ≤ sizeLine ∧ (a == sysModules) = false ∧ ∃ xs : List (List Key × Addr × Value),
      Paired (fun (p : List Key × V) (q : List Key × Addr × Value) => p.1 = q.1 ∧ H q.2.1 = some (.tup (p.1.map kV)) ∧ RelV p.2 q.2.2) kvs xs ∧
      ∃ o es ep, h.get? a = some o ∧ o.ExactDict ∧ o.data = .dict es ep ∧ es.toList = xs.map (entryOfKey (tupleKind (mixKind P w))) ∧ (xs.map (·.1)).Nodup
  | .set S n => h.SetOf (intKind P w) a S n
  | .ins C dx fs => H dx = some (.own a) ∧ fs.length ≤ 1000 ∧ dx ≠ a ∧ h.get? a = some (PySem.W.instObj C dx) ∧
      ∃ mA, h.Ns1 dx mA ∧ (∀ f, RelO (fs.lookup f) (mA f)) ∧ PySem.Within mA (fs.map (·.1))
  | .own _ => ∃ o, h.get? a = some o
  | .xd fs => ∃ mA, h.Ns1 a mA ∧ ∀ f, RelO (fs.lookup f) (mA f)
  | .rng lo hi => ∃ t u v, h.get? a = some { cls := .type "range", data := .fields #[.int lo t, .int hi u, .int 1 v] }
  | .frz o u => h.get? a = some o ∧ ObjOk H h a u
  | .tbl ps => h.get? a = some { cls := .none, data := .fields ps }
  | .met f x => h.get? a = some (PySem.W.methodObj (.ref f) (.ref x))
  | .ext φ => φ h ∧ (∃ o, h.get? a = some o) ∧ ∀ h1 h2 : Heap, φ h1 → (∀ o, h1.get? a = some o → h2.get? a = some o) → φ h2
/-- the abstract heap is held -/
def HOk (H : Hp) (h : Heap) : Prop := ∀ a o, H a = some o → ObjOk P w H h a o
end

section
variable {P : Program} {w : World} {H H' : Hp} {h h' : Heap} {a : Addr} {o : HO}
theorem ObjOk.lt (x : ObjOk P w H h a o) : a < h.objs.size := by
  cases o with
  | lst xs => obtain ⟨_, _, _, _, e⟩ := x; exact Heap.lt_size e
  | tup xs => obtain ⟨_, _, _, p⟩ := x; exact p.lt
  | dK kvs => obtain ⟨_, _, _, _, o, _, _, e, _⟩ := x; exact Heap.lt_size e
  | dT kvs => obtain ⟨_, _, _, _, o, _, _, e, _⟩ := x; exact Heap.lt_size e
  | set S n => obtain ⟨o, _, _, _, e, _⟩ := x; exact Heap.lt_size e
  | ins C dx fs => obtain ⟨_, _, _, e, _⟩ := x; exact Heap.lt_size e
  | own y => obtain ⟨_, e⟩ := x; exact Heap.lt_size e
  | xd fs => obtain ⟨_, ⟨_, _, _, e, _⟩, _⟩ := x; exact Heap.lt_size e
  | rng lo hi => obtain ⟨_, _, _, e⟩ := x; exact Heap.lt_size e
  | frz ob u => obtain ⟨e, _⟩ := x; exact Heap.lt_size e
  | tbl ps => exact Heap.lt_size (show h.get? a = some _ from x)
  | met f y => exact Heap.lt_size (show h.get? a = some _ from x)
  | ext φ => obtain ⟨_, ⟨_, e⟩, _⟩ := x; exact Heap.lt_size e
theorem Paired.mapP {α β : Type} {F G : α → β → Prop} : ∀ {l₁ : List α} {l₂ : List β}, Paired F l₁ l₂ → (∀ a b, F a b → G a b) → Paired G l₁ l₂
  | _, _, .nil, _ => .nil
  | _, _, .cons r t, f => .cons (f _ _ r) (Paired.mapP t f)
theorem Paired.imp' {α β : Type} {F G : α → β → Prop} (f : ∀ a b, F a b → G a b) {l₁ : List α} {l₂ : List β} (r : Paired F l₁ l₂) : Paired G l₁ l₂ := Paired.mapP r f
/-- what an object's description leans on: its own object, its own dict, the tuples -/
theorem ObjOk.stay (x : ObjOk P w H h a o) (k : ∀ b u, (b = a ∨ H b = some (.own a)) → h.get? b = some u → h'.get? b = some u)
    (ho : ∀ b, H b = some (.own a) → H' b = some (.own a)) (ht : ∀ b xs, H b = some (.tup xs) → H' b = some (.tup xs)) : ObjOk P w H' h' a o := by
  induction o with
  | lst xs => obtain ⟨z, its, n, r, e⟩ := x; exact ⟨z, its, n, r, k _ _ (.inl rfl) e⟩
  | tup xs => obtain ⟨z, its, r, ob, e, c⟩ := x; exact ⟨z, its, r, ob, k _ _ (.inl rfl) e, c⟩
  | dK kvs => obtain ⟨z, y, vs, r, ob, es, ep, e, c⟩ := x; exact ⟨z, y, vs, r, ob, es, ep, k _ _ (.inl rfl) e, c⟩
  | dT kvs =>
    obtain ⟨z, y, xs, r, ob, es, ep, e, c⟩ := x
    exact ⟨z, y, xs, Paired.mapP r fun p q z => ⟨z.1, ht _ _ z.2.1, z.2.2⟩, ob, es, ep, k _ _ (.inl rfl) e, c⟩
  | set S n => obtain ⟨ob, es, ep, t, e, c⟩ := x; exact ⟨ob, es, ep, t, k _ _ (.inl rfl) e, c⟩
  | ins C dx fs =>
    obtain ⟨d, z, ne, e, mA, ⟨od, es, ep, e2, c⟩, r⟩ := x
    exact ⟨ho _ d, z, ne, k _ _ (.inl rfl) e, mA, ⟨od, es, ep, k _ _ (.inr d) e2, c⟩, r⟩
  | own y => obtain ⟨ob, e⟩ := x; exact ⟨ob, k _ _ (.inl rfl) e⟩
  | xd fs => obtain ⟨mA, ⟨od, es, ep, e, c⟩, r⟩ := x; exact ⟨mA, ⟨od, es, ep, k _ _ (.inl rfl) e, c⟩, r⟩
  | rng lo hi => obtain ⟨t, u, v, e⟩ := x; exact ⟨t, u, v, k _ _ (.inl rfl) e⟩
  | frz ob u ih => obtain ⟨e, q⟩ := x; exact ⟨k _ _ (.inl rfl) e, ih q⟩
  | tbl ps =>
    have e : h.get? a = some { cls := .none, data := .fields ps } := x
    show h'.get? a = some { cls := .none, data := .fields ps }
    exact k a _ (.inl rfl) e
  | met f y =>
    have e : h.get? a = some (PySem.W.methodObj (.ref f) (.ref y)) := x
    show h'.get? a = some (PySem.W.methodObj (.ref f) (.ref y))
    exact k a _ (.inl rfl) e
  | ext φ => obtain ⟨p, ⟨o, e⟩, st⟩ := x; exact ⟨st _ _ p fun o q => k _ _ (.inl rfl) q, ⟨o, k _ _ (.inl rfl) e⟩, st⟩
theorem HOk.lt (x : HOk P w H h) (e : H a = some o) : a < h.objs.size := (x a o e).lt
theorem HOk.fresh (x : HOk P w H h) (e : h.objs.size ≤ a) : H a = none := by
  cases q : H a with
  | none => rfl
  | some u => exact absurd (Nat.lt_of_lt_of_le (x.lt q) e) (Nat.lt_irrefl _)
/-- every object of the heap is kept -/
theorem HOk.kept (x : HOk P w H h) (k : ∀ b u, h.get? b = some u → h'.get? b = some u) : HOk P w H h' := fun a o e =>
  (x a o e).stay (fun b u _ q => k b u q) (fun _ q => q) fun _ _ q => q
/-- a new object is laid and tracked -/
theorem HOk.laid (x : HOk P w H h) (k : ∀ b u, h.get? b = some u → h'.get? b = some u) (hp : h.objs.size ≤ a) (new : ObjOk P w (upd H a o) h' a o) : HOk P w (upd H a o) h' := fun b u e => by
  have hn := x.fresh hp
  by_cases hb : b = a
  · subst hb; rw [upd_same] at e; cases e; exact new
  · rw [upd_ne hb] at e
    exact (x b u e).stay (fun c v _ q => k c v q) (fun c q => by rw [upd_ne (ne_of_none q hn)]; exact q) fun c xs q => by rw [upd_ne (ne_of_none q hn)]; exact q
end

/-- what may be read as u: it is u, or a known u -/
def Rd (H : Hp) (a : Addr) (u : HO) : Prop := H a = some u ∨ ∃ o, H a = some (.frz o u)
theorem Rd.of {H : Hp} {a : Addr} {u : HO} (h : H a = some u) : Rd H a u := .inl h
theorem Rd.ok {P : Program} {w : World} {H : Hp} {h : Heap} {a : Addr} {u : HO} (r : Rd H a u) (x : HOk P w H h) : ObjOk P w H h a u := by
  rcases r with r | ⟨o, r⟩
  · exact x a u r
  · obtain ⟨_, q⟩ := x a _ r
    exact q
/-- what may be written -/
def Mut : Option HO → Prop
  | some (.lst _) => True
  | some (.dK _) => True
  | some (.dT _) => True
  | some (.set _ _) => True
  | some (.ins _ _ _) => True
  | some (.ext _) => True
  | _ => False
section
variable {P : Program} {w : World} {H : Hp} {h h' : Heap} {x e : Addr} {o' : HO}
/-- the object at e is changed: x itself, or the dict of the instance x -/
theorem HOk.write (ok : HOk P w H h) (mu : Mut (H x)) (he : e = x ∨ H e = some (.own x)) (k : ∀ b u, b ≠ e → h.get? b = some u → h'.get? b = some u) (heo : ∃ u, h'.get? e = some u)
    (new : ObjOk P w (upd H x o') h' x o') : HOk P w (upd H x o') h' := fun b u q => by
  have nown : ∀ c y, H c = some (.own y) → c ≠ x := fun c y r z => by subst z; rw [r] at mu; exact mu
  have ntup : ∀ c xs, H c = some (.tup xs) → c ≠ x := fun c xs r z => by subst z; rw [r] at mu; exact mu
  by_cases hb : b = x
  · subst hb; rw [upd_same] at q; cases q; exact new
  · rw [upd_ne hb] at q
    by_cases hbe : b = e
    · have q' : H b = some (.own x) := by
        rcases he with z | z
        · exact absurd (hbe.trans z) hb
        · rw [hbe]; exact z
      rw [q] at q'; cases q'
      obtain ⟨v, hv⟩ := heo
      exact ⟨v, by rw [hbe]; exact hv⟩
    · refine (ok b u q).stay (fun c v hc r => k c v ?_ r) (fun c r => by rw [upd_ne (nown c b r)]; exact r) fun c xs r => by rw [upd_ne (ntup c xs r)]; exact r
      rcases hc with rfl | hc
      · exact hbe
      · rintro rfl
        rcases he with z | z
        · exact nown c b hc z
        · rw [hc] at z; cases z; exact hb rfl
end

/-! ### kept unless tracked; of the frames at fs (the callers') the slots may change (an exception that passes writes there); of the records at ex (iterators) nothing is said -/
structure Un (fs ex : List Addr) (H H' : Hp) (h h' : Heap) : Prop where
  keep : ∀ b o, h.get? b = some o → H b = none → b ∉ fs → b ∉ ex → h'.get? b = some o
  slot : ∀ b o, h.get? b = some o → H b = none → b ∈ fs → b ∉ ex → ∃ sl, h'.get? b = some { o with slots := sl }
  free : ∀ b o, h.get? b = some o → H b = none → b ∉ ex → H' b = none
  there : ∀ b o, h.get? b = some o → b ∉ ex → ∃ o', h'.get? b = some o'
  tups : ∀ b xs, H b = some (.tup xs) → H' b = some (.tup xs)
  frzs : ∀ b o u, H b = some (.frz o u) → H' b = some (.frz o u)
  tbls : ∀ b ps, H b = some (.tbl ps) → ∃ more, H' b = some (.tbl (ps ++ more))
section
variable {fs fs' ex ex' : List Addr} {H H1 H2 : Hp} {h h1 h2 h' : Heap} {a x e : Addr} {o : HO}
theorem Un.any (u : Un fs ex H H1 h h1) {b : Addr} {ob : Obj} (q : h.get? b = some ob) (n : H b = none) (hx : b ∉ ex) : ∃ sl, h1.get? b = some { ob with slots := sl } := by
  by_cases hb : b ∈ fs
  · exact u.slot b ob q n hb hx
  · exact ⟨ob.slots, u.keep b ob q n hb hx⟩
theorem Un.trans (a : Un fs ex H H1 h h1) (b : Un fs ex H1 H2 h1 h2) : Un fs ex H H2 h h2 where
  keep := fun c ob q n hc hx => b.keep c ob (a.keep c ob q n hc hx) (a.free c ob q n hx) hc hx
  slot := fun c ob q n hc hx => by
    obtain ⟨sl, e1⟩ := a.slot c ob q n hc hx
    obtain ⟨sl', e2⟩ := b.slot c _ e1 (a.free c ob q n hx) hc hx
    exact ⟨sl', e2⟩
  free := fun c ob q n hx => by
    obtain ⟨o', e1⟩ := a.there c ob q hx
    exact b.free c o' e1 (a.free c ob q n hx) hx
  there := fun c ob q hx => by
    obtain ⟨o', e1⟩ := a.there c ob q hx
    exact b.there c o' e1 hx
  tups := fun c xs q => b.tups c xs (a.tups c xs q)
  frzs := fun c ob xs q => b.frzs c ob xs (a.frzs c ob xs q)
  tbls := fun c ps q => by
    obtain ⟨m1, e1⟩ := a.tbls c ps q
    obtain ⟨m2, e2⟩ := b.tbls c _ e1
    exact ⟨m1 ++ m2, by rw [e2, Array.append_assoc]⟩
theorem Un.kept (k : ∀ b u, h.get? b = some u → h'.get? b = some u) : Un fs ex H H h h' :=
  ⟨fun b ob q _ _ _ => k b ob q, fun b ob q _ _ _ => ⟨ob.slots, k b ob q⟩, fun _ _ _ n _ => n, fun b ob q _ => ⟨ob, k b ob q⟩, fun _ _ q => q, fun _ _ _ q => q, fun _ ps q => ⟨#[], by rw [q]; simp⟩⟩
theorem Un.refl : Un fs ex H H h h := Un.kept fun _ _ q => q
theorem Un.laid (k : ∀ b u, h.get? b = some u → h'.get? b = some u) (hp : h.objs.size ≤ a) (hn : H a = none) : Un fs ex H (upd H a o) h h' where
  keep := fun b u q _ _ _ => k b u q
  slot := fun b u q _ _ _ => ⟨u.slots, k b u q⟩
  free := fun b u q n _ => by rw [upd_ne (Nat.ne_of_lt (Nat.lt_of_lt_of_le (Heap.lt_size q) hp))]; exact n
  there := fun b u q _ => ⟨u, k b u q⟩
  tups := fun b xs q => by rw [upd_ne (ne_of_none q hn)]; exact q
  frzs := fun b u xs q => by rw [upd_ne (ne_of_none q hn)]; exact q
  tbls := fun b ps q => ⟨#[], by rw [upd_ne (ne_of_none q hn), q]; simp⟩
theorem Un.write (mu : Mut (H x)) (he : e = x ∨ H e = some (.own x)) (k : ∀ b u, b ≠ e → h.get? b = some u → h'.get? b = some u) (heo : ∃ u, h'.get? e = some u) : Un fs ex H (upd H x o) h h' := by
  have hx : ∀ b, H b = none → b ≠ x := fun b n z => by subst z; rw [n] at mu; exact mu
  have hb : ∀ b, H b = none → b ≠ e := fun b n z => by
    subst z
    rcases he with r | r
    · exact hx b n r
    · rw [n] at r; cases r
  have hm : ∀ b u, H b = some u → ¬ Mut (some u) → b ≠ x := fun b u q nm z => by subst z; rw [q] at mu; exact nm mu
  refine ⟨fun b u q n _ _ => k b u (hb b n) q, fun b u q n _ _ => ⟨u.slots, k b u (hb b n) q⟩, fun b u q n _ => by rw [upd_ne (hx b n)]; exact n, fun b u q _ => ?_,
    fun b xs q => by rw [upd_ne (hm b _ q fun z => z)]; exact q, fun b u xs q => by rw [upd_ne (hm b _ q fun z => z)]; exact q, fun b ps q => ⟨#[], by rw [upd_ne (hm b _ q fun z => z), q]; simp⟩⟩
  by_cases hbe : b = e
  · subst hbe; exact heo
  · exact ⟨u, k b u hbe q⟩
theorem Un.mono (u : Un fs ex H H1 h h1) (hs : ∀ b ∈ fs, b ∈ fs') (hx : ∀ b ∈ ex, b ∈ ex') : Un fs' ex' H H1 h h1 :=
  ⟨fun b ob q n hb he => u.keep b ob q n (fun z => hb (hs b z)) fun z => he (hx b z), fun _ _ q n _ he => u.any q n fun z => he (hx _ z), fun b ob q n he => u.free b ob q n fun z => he (hx b z), fun b ob q he => u.there b ob q fun z => he (hx b z), u.tups, u.frzs, u.tbls⟩
end

/-! ### the heap without what is tracked -/
def trk (h : Heap) (H : Hp) : List Addr := (List.range h.objs.size).filter fun a => (H a).isSome
def hidT (h : Heap) (H : Hp) : Heap := PySem.W.hideAll h (trk h H)
theorem hidT_size (h : Heap) (H : Hp) : (hidT h H).objs.size = h.objs.size := PySem.W.hideAll_size _ _
theorem hidT_get {h : Heap} {H : Hp} {b : Addr} {o : Obj} (e : h.get? b = some o) (n : H b = none) : (hidT h H).get? b = some o :=
  PySem.W.hideAll_get _ e fun hm => by
    have q : (H b).isSome = true := (List.mem_filter.mp hm).2
    rw [n] at q; simp at q
theorem of_hidT {h : Heap} {H : Hp} {b : Addr} {o : Obj} (e : (hidT h H).get? b = some o) : h.get? b = some o ∧ H b = none := by
  have e' : h.get? b = some o := PySem.W.of_hideAll (trk h H) e
  refine ⟨e', ?_⟩
  cases q : H b with
  | none => rfl
  | some x =>
    have hm : b ∈ trk h H := List.mem_filter.mpr ⟨List.mem_range.mpr (Heap.lt_size e'), by simp [q]⟩
    have z : (hidT h H).get? b = none := PySem.W.hideAll_none (trk h H) hm
    rw [z] at e; cases e

/-! ### OpenK's ledger, filled with every new object but one -/
def allNews (g h : Heap) (L : Addr) : List (Addr × Obj) := (List.range h.objs.size).filterMap fun a => if a = L ∨ (g.get? a).isSome = true then none else (h.get? a).map fun o => (a, o)
theorem mem_allNews {g h : Heap} {L a : Addr} {o : Obj} (h1 : a ≠ L) (h2 : g.get? a = none) (h3 : h.get? a = some o) : (a, o) ∈ allNews g h L :=
  List.mem_filterMap.mpr ⟨a, List.mem_range.mpr (Heap.lt_size h3), by simp [h1, h2, h3]⟩
theorem of_mem_allNews {g h : Heap} {L : Addr} {p : Addr × Obj} (hp : p ∈ allNews g h L) : p.1 ≠ L ∧ g.get? p.1 = none ∧ h.get? p.1 = some p.2 := by
  obtain ⟨b, _, e⟩ := List.mem_filterMap.mp hp
  split at e
  · cases e
  · rename_i hn
    cases q : h.get? b with
    | none => rw [q] at e; simp at e
    | some u =>
      rw [q] at e
      simp only [Option.map_some, Option.some.injEq] at e
      subst e
      refine ⟨fun z => hn (.inl z), ?_, q⟩
      show g.get? b = none
      cases r : g.get? b with
      | none => rfl
      | some v => exact (hn (.inr (by simp [r]))).elim
def rest (g h : Heap) (L d : Addr) : List (Addr × Obj) := (allNews g h L).filter fun p => decide (p.1 ≠ d)
theorem rest_ne {g h : Heap} {L d : Addr} : ∀ p ∈ rest g h L d, p.1 ≠ d := fun p hp => of_decide_eq_true (List.mem_filter.mp hp).2
theorem mem_rest {g h : Heap} {L d a : Addr} {o : Obj} (h1 : a ≠ L) (h2 : g.get? a = none) (h3 : h.get? a = some o) (h4 : a ≠ d) : (a, o) ∈ rest g h L d :=
  List.mem_filter.mpr ⟨mem_allNews h1 h2 h3, decide_eq_true h4⟩
theorem news_all {g h : Heap} {L : Addr} : News g L h (allNews g h L) := fun p hp => let ⟨a, b, c⟩ := of_mem_allNews hp; ⟨c, a, b⟩
theorem news_at {g h : Heap} {L d : Addr} {o : Obj} (h1 : d ≠ L) (h2 : g.get? d = none) (h3 : h.get? d = some o) : News g L h ((d, o) :: rest g h L d) := fun p hp => by
  rcases List.mem_cons.mp hp with rfl | hp
  · exact ⟨h3, h1, h2⟩
  · exact news_all p (List.mem_filter.mp hp).1
/-- behind a rule that changed d alone: all else but the frame is kept -/
theorem kept_of_news {g h h' : Heap} {L d : Addr} {m : Str → Option Value} (k : ∀ b o, g.get? b = some o → h.get? b = some o) (F : Fr g L h' m) (N : News g L h' (rest g h L d)) :
    ∀ b o, b ≠ L → b ≠ d → h.get? b = some o → h'.get? b = some o := fun b o h1 h2 e => by
  cases q : g.get? b with
  | some u =>
    have := k b u q
    rw [e] at this; cases this
    exact F.keep b _ q
  | none => exact (N (b, o) (mem_rest h1 q e h2)).1
end L2

namespace L2
open PySem PySem.Spec PyProof.Rows

/-- the module's facts, over the base: the heap at the law's entry without what is tracked there -/
structure Mod (K : PySem.W.Frag) (mg : Str → Option Value) (base : Heap) : Prop where
  kin : K.In base
  glob : base.Ns mainGlobals mg
  blt : ∃ mb, base.Ns builtinsNs mb ∧ ∀ x : Str, x ≠ "__name__" → mb x = bootBuiltins x
  nolimit : base.NoLimit

/-- the context: a def's body (or a comprehension's block) running. base: fixed through the whole law; s₀, H₀: the entry; outer: the frames whose slots others may change (a def's callers); stack: all frames that run;
   ex: iterators that were made ahead of the entry and are walked here (a comprehension's); fn: the names whose cells were made at the entry (a def: all; a comprehension's block: its own); calm: not within an except suite; pn: pins that every state bears; xe: what is wanted of an exception that leaves the code -/
structure Cx where
  prog : Program
  w : World
  K : PySem.W.Frag
  mg : Str → Option Value
  base : Heap
  A : Around
  N : List Str
  s₀ : Shared
  H₀ : Hp
  env : Env
  outer : List Env
  stack : List Env
  ex : List Addr
  fn : Str → Bool
  calm : Bool
  pn : List (Addr × Obj)
  xe : Value → Shared → Prop
/-- the callers' frames -/
def frs (l : List Env) : List Addr := l.filterMap (·.frame)
abbrev Cx.fs (X : Cx) : List Addr := frs X.outer

def Vis (sc : Scope) (x : Str) : Prop := sc.names.lookup x = some .local ∨ sc.names.lookup x = some .cell ∨ sc.names.lookup x = some .free
def Loc (sc : Scope) (x : Str) : Prop := sc.names.lookup x = some .local ∨ sc.names.lookup x = some .cell
def Look (env : Env) (h : Heap) (m : Str → Option Value) (x : Str) (u : Value) : Prop :=
  (env.kindOf x = some .local ∧ m x = some u) ∨ ((env.kindOf x = some .cell ∨ env.kindOf x = some .free) ∧ ∃ c, env.cells.lookup x = some c ∧ h.IsCell c (some u))

structure Cx.Ok (X : Cx) : Prop where
  mod : Mod X.K X.mg X.base
  kind : X.env.scope.kind = .function
  glob : X.env.globals = mainGlobals
  blt : X.env.builtins = builtinsNs
  above : X.s₀.heap.objs.size ≤ X.env.locals
  inj : ∀ x y c, X.env.cells.lookup x = some c → X.env.cells.lookup y = some c → x = y
  has : ∀ x, (X.env.kindOf x = some .cell ∨ X.env.kindOf x = some .free) → ∃ c, X.env.cells.lookup x = some c
  cab : ∀ x c, X.fn x = true → X.env.cells.lookup x = some c → X.s₀.heap.objs.size ≤ c
  hd : X.calm = true → X.A.handled = none
  frames : X.A.frames = some X.stack
  stk : X.stack = X.outer ∨ (X.stack = X.env :: X.outer ∧ X.env.frame = some X.env.locals)
  exf : ∀ b ∈ X.ex, b ≠ X.env.locals ∧ ∀ x c, X.env.cells.lookup x = some c → c ≠ b
  bs : ∀ b o, X.base.get? b = some o → X.s₀.heap.get? b = some o ∧ X.H₀ b = none
  bsz : X.base.objs.size ≤ X.s₀.heap.objs.size
  noex : ∀ b o, X.base.get? b = some o → b ∉ X.ex
  exfs : ∀ b ∈ X.ex, b ∉ X.fs
  funs : X.s₀.heap.FunFrames X.base X.outer
  frf : ∀ b ∈ X.fs, X.H₀ b = none

structure Inv (X : Cx) (pins : List (Addr × Obj)) (σ : List (Option V)) (H : Hp) (s : Shared) : Prop where
  ok : X.Ok
  os : s.os = X.s₀.os
  bare : AllBare s.gens
  base : Un X.fs X.ex X.H₀ H X.s₀.heap s.heap
  loc : ∃ m, s.heap.Ns X.env.locals m ∧ ∀ (i : Nat) (x : Str) (v : V), X.N[i]? = some x → σ[i]? = some (some v) → Vis X.env.scope x → ∃ u, RelV v u ∧ Look X.env s.heap m x u
  cell : ∀ x c, X.env.cells.lookup x = some c → ∃ v, s.heap.IsCell c v
  free : H X.env.locals = none
  freeC : ∀ x c, X.env.cells.lookup x = some c → H c = none
  pin : ∀ p ∈ X.pn ++ pins, s.heap.get? p.1 = some p.2 ∧ H p.1 = none ∧ p.1 ≠ X.env.locals ∧ p.1 ∉ X.fs ∧ ∀ v, p.2.data ≠ .cell v
  hok : HOk X.prog X.w H s.heap
  len : σ.length = X.N.length

section
variable {X : Cx} {pins : List (Addr × Obj)} {σ : List (Option V)} {H H' : Hp} {s : Shared} {h' : Heap}

theorem Cx.Ok.nofr (ok : X.Ok) {b : Addr} {o : Obj} (e : X.base.get? b = some o) : b ∉ X.fs := fun hb => by
  have := (ok.funs.mem hb).1
  rw [e] at this; cases this
theorem Inv.bs (I : Inv X pins σ H s) : ∀ b o, X.base.get? b = some o → s.heap.get? b = some o ∧ H b = none := fun b o e =>
  ⟨I.base.keep b o (I.ok.bs b o e).1 (I.ok.bs b o e).2 (I.ok.nofr e) (I.ok.noex b o e), I.base.free b o (I.ok.bs b o e).1 (I.ok.bs b o e).2 (I.ok.noex b o e)⟩
theorem Inv.bk (I : Inv X pins σ H s) : ∀ b o, X.base.get? b = some o → s.heap.get? b = some o := fun b o e => (I.bs b o e).1
theorem Inv.mod (I : Inv X pins σ H s) : Mod X.K X.mg X.base := I.ok.mod
theorem Inv.kIn (I : Inv X pins σ H s) : X.K.In s.heap := I.ok.mod.kin.keeps I.bk
theorem Inv.nolimit (I : Inv X pins σ H s) : s.heap.NoLimit := I.ok.mod.nolimit.keeps I.bk
/-- the frame over the base: for OpenK's rules (K.In X.base is I.mod.kin) -/
theorem Inv.fr (I : Inv X pins σ H s) : ∃ m, Fr X.base X.env.locals s.heap m :=
  let ⟨m, hn, _⟩ := I.loc
  ⟨m, hn, I.bk, Nat.le_trans I.ok.bsz I.ok.above⟩
theorem Inv.lt (I : Inv X pins σ H s) : X.env.locals < s.heap.objs.size := let ⟨_, hn, _⟩ := I.loc; hn.lt
theorem Inv.sz (I : Inv X pins σ H s) : X.s₀.heap.objs.size ≤ s.heap.objs.size := Nat.le_trans I.ok.above (Nat.le_of_lt I.lt)
theorem Inv.nofs (I : Inv X pins σ H s) {a : Addr} (h : s.heap.objs.size ≤ a) : a ∉ X.fs := fun hb => by
  obtain ⟨_, o, ho, _⟩ := I.ok.funs.mem hb
  exact absurd (Nat.lt_of_lt_of_le (Heap.lt_size ho) (Nat.le_trans I.sz h)) (Nat.lt_irrefl _)
theorem Inv.cne (I : Inv X pins σ H s) : ∀ x c, X.env.cells.lookup x = some c → c ≠ X.env.locals := fun x c e z => by
  obtain ⟨v, o, ho, hd⟩ := I.cell x c e
  obtain ⟨m, ⟨o', es, ep, ho', hd', _⟩, _⟩ := I.loc
  rw [z, ho'] at ho; cases ho; rw [hd'] at hd; cases hd
theorem Inv.funs (I : Inv X pins σ H s) : s.heap.FunFrames X.base X.outer := by
  have all : ∀ (l : List Env), (∀ b ∈ frs l, b ∈ X.fs) → X.s₀.heap.FunFrames X.base l → s.heap.FunFrames X.base l := by
    intro l
    induction l with
    | nil => intro _ _; trivial
    | cons env r ih =>
      intro hs hl
      obtain ⟨hk, ⟨L, o, hf, hn, ho, hd⟩, hr⟩ := hl
      have hL : L ∈ X.fs := hs L (by unfold frs; rw [List.filterMap_cons, hf]; exact List.mem_cons_self)
      obtain ⟨sl, e⟩ := I.base.slot L o ho (I.ok.frf L hL) hL fun z => I.ok.exfs L z hL
      exact ⟨hk, ⟨L, _, hf, hn, e, hd⟩, ih (fun b hb => hs b (by unfold frs; rw [List.filterMap_cons, hf]; exact List.mem_cons_of_mem _ hb)) hr⟩
  exact all X.outer (fun _ hb => hb) I.ok.funs

/-- the frames that run, for a call -/
theorem Inv.stack (I : Inv X pins σ H s) : s.heap.FunFrames X.base X.stack := by
  rcases I.ok.stk with e | ⟨e, hf⟩
  · rw [e]; exact I.funs
  · rw [e]
    obtain ⟨m, hn, _⟩ := I.loc
    refine .cons (by rw [I.ok.kind]; decide) hf hn ?_ I.funs
    exact Heap.get?_none_of_le (Nat.le_trans I.ok.bsz I.ok.above)
theorem Inv.stkSub (I : Inv X pins σ H s) : ∀ b ∈ frs X.stack, b ∈ X.env.locals :: X.fs := fun b hb => by
  rcases I.ok.stk with e | ⟨e, hf⟩
  · rw [e] at hb; exact List.mem_cons_of_mem _ hb
  · rw [e] at hb
    unfold frs at hb
    rw [List.filterMap_cons, hf] at hb
    exact hb
theorem Inv.stkFree (I : Inv X pins σ H s) : ∀ b ∈ frs X.stack, H b = none := fun b hb => by
  rcases List.mem_cons.mp (I.stkSub b hb) with e | hb
  · rw [e]; exact I.free
  · obtain ⟨_, o, ho, _⟩ := I.ok.funs.mem hb
    exact I.base.free b o ho (I.ok.frf b hb) fun z => I.ok.exfs b z hb

/-- THE STEP: the untracked objects but the frame and the records at ch are kept (the callers' frames up to slots), the frame's map is kept, the new abstract heap is held -/
theorem Inv.step {g' : Array GenState} {t' : Nat} {d' : Drawn} {ch : List Addr} (I : Inv X pins σ H s)
    (hch : ∀ b ∈ ch, (b ∈ X.ex ∨ X.s₀.heap.objs.size ≤ b) ∧ b ≠ X.env.locals ∧ (∀ x c, X.env.cells.lookup x = some c → c ≠ b) ∧ ∀ p ∈ X.pn ++ pins, p.1 ≠ b)
    (keep : ∀ b o, b ≠ X.env.locals → b ∉ X.fs → b ∉ ch → s.heap.get? b = some o → H b = none → h'.get? b = some o)
    (slot : ∀ b o, b ≠ X.env.locals → b ∈ X.fs → b ∉ ch → s.heap.get? b = some o → H b = none → ∃ sl, h'.get? b = some { o with slots := sl }) (free : ∀ b o, b ∉ ch → s.heap.get? b = some o → H b = none → H' b = none)
    (there : ∀ b o, b ∉ ch → s.heap.get? b = some o → ∃ o', h'.get? b = some o')
    (tups : ∀ b xs, H b = some (.tup xs) → H' b = some (.tup xs)) (frzs : ∀ b o u, H b = some (.frz o u) → H' b = some (.frz o u)) (tbls : ∀ b ps, H b = some (.tbl ps) → ∃ more, H' b = some (.tbl (ps ++ more)))
    (ns : ∀ m, s.heap.Ns X.env.locals m → h'.Ns X.env.locals m) (hok : HOk X.prog X.w H' h') (hg : AllBare g') :
    Inv X pins σ H' { s with heap := h', gens := g', drawn := d', toks := t' } := by
  have neL : ∀ b o, X.s₀.heap.get? b = some o → b ≠ X.env.locals := fun b o e => Nat.ne_of_lt (Nat.lt_of_lt_of_le (Heap.lt_size e) I.ok.above)
  have neC : ∀ b o, X.s₀.heap.get? b = some o → b ∉ X.ex → b ∉ ch := fun b o e hx hb => by
    rcases (hch b hb).1 with z | z
    · exact hx z
    · exact absurd (Nat.lt_of_lt_of_le (Heap.lt_size e) z) (Nat.lt_irrefl _)
  have cellK : ∀ x c, X.env.cells.lookup x = some c → ∀ v, s.heap.IsCell c v → h'.IsCell c v := fun x c e v ⟨o, ho, hd⟩ => by
    have nch : c ∉ ch := fun z => (hch c z).2.2.1 x c e rfl
    by_cases hc : c ∈ X.fs
    · obtain ⟨sl, q⟩ := slot c o (I.cne x c e) hc nch ho (I.freeC x c e)
      exact ⟨_, q, hd⟩
    · exact ⟨o, keep c o (I.cne x c e) hc nch ho (I.freeC x c e), hd⟩
  refine ⟨I.ok, I.os, hg, ⟨fun b o e n hb hx => ?_, fun b o e n hb hx => ?_, fun b o e n hx => ?_, fun b o e hx => ?_, fun b xs e => tups b xs (I.base.tups b xs e), fun b o xs e => frzs b o xs (I.base.frzs b o xs e), fun b ps e => ?_⟩, ?_, fun x c e => ?_, ?_, fun x c e => ?_, fun p hp => ?_, hok, I.len⟩
  · exact keep b o (neL b o e) hb (neC b o e hx) (I.base.keep b o e n hb hx) (I.base.free b o e n hx)
  · obtain ⟨sl, e1⟩ := I.base.slot b o e n hb hx
    obtain ⟨sl', e2⟩ := slot b _ (neL b o e) hb (neC b o e hx) e1 (I.base.free b o e n hx)
    exact ⟨sl', e2⟩
  · obtain ⟨o', e1⟩ := I.base.there b o e hx
    exact free b o' (neC b o e hx) e1 (I.base.free b o e n hx)
  · obtain ⟨o', e1⟩ := I.base.there b o e hx
    exact there b o' (neC b o e hx) e1
  · obtain ⟨m1, e1⟩ := I.base.tbls b ps e
    obtain ⟨m2, e2⟩ := tbls b _ e1
    exact ⟨m1 ++ m2, by rw [e2, Array.append_assoc]⟩
  · obtain ⟨m, hn, hl⟩ := I.loc
    refine ⟨m, ns m hn, fun i x v e1 e2 e3 => ?_⟩
    obtain ⟨u, r, l⟩ := hl i x v e1 e2 e3
    refine ⟨u, r, ?_⟩
    rcases l with l | ⟨k, c, e, z⟩
    · exact .inl l
    · exact .inr ⟨k, c, e, cellK x c e _ z⟩
  · obtain ⟨v, z⟩ := I.cell x c e
    exact ⟨v, cellK x c e v z⟩
  · obtain ⟨m, ⟨o, _, _, ho, _⟩, _⟩ := I.loc
    exact free _ o (fun z => (hch _ z).2.1 rfl) ho I.free
  · obtain ⟨v, o, ho, hd⟩ := I.cell x c e
    exact free c o (fun z => (hch c z).2.2.1 x c e rfl) ho (I.freeC x c e)
  · obtain ⟨e, n, ne, nf, d⟩ := I.pin p hp
    have nch : p.1 ∉ ch := fun z => (hch p.1 z).2.2.2 p hp rfl
    exact ⟨keep p.1 p.2 ne nf nch e n, free p.1 p.2 nch e n, ne, nf, d⟩
/-- .. where the frame's own object is kept too -/
theorem Inv.un {t' : Nat} (I : Inv X pins σ H s) (u : Un X.fs [] H H' s.heap h') (hok : HOk X.prog X.w H' h') : Inv X pins σ H' { s with heap := h', toks := t' } := by
  obtain ⟨m, ⟨o, es, ep, ho, r⟩, _⟩ := id I.loc
  obtain ⟨sl, hL⟩ := u.any ho I.free (by simp)
  exact I.step (g' := s.gens) (d' := s.drawn) (ch := []) (fun _ z => nomatch z) (fun b o _ hb _ e n => u.keep b o e n hb (by simp)) (fun b o _ hb _ e n => u.slot b o e n hb (by simp)) (fun b o _ e n => u.free b o e n (by simp)) (fun b o _ e => u.there b o e (by simp)) u.tups u.frzs u.tbls (fun m' hm => by
    obtain ⟨o', es', ep', ho', r'⟩ := hm
    rw [ho] at ho'; cases ho'
    exact ⟨_, es', ep', hL, r'⟩) hok I.bare
/-- behind a call (or a comprehension's block): the slots of this frame may have changed too, the records at ch may have turned -/
theorem Inv.call {g' : Array GenState} {t' : Nat} {d' : Drawn} {ch : List Addr} (I : Inv X pins σ H s) (u : Un (frs X.stack) ch H H' s.heap h') (hok : HOk X.prog X.w H' h') (hg : AllBare g')
    (hch : ∀ b ∈ ch, (b ∈ X.ex ∨ X.s₀.heap.objs.size ≤ b) ∧ b ≠ X.env.locals ∧ (∀ x c, X.env.cells.lookup x = some c → c ≠ b) ∧ ∀ p ∈ X.pn ++ pins, p.1 ≠ b) :
    Inv X pins σ H' { s with heap := h', gens := g', drawn := d', toks := t' } := by
  obtain ⟨m, ⟨o, es, ep, ho, r⟩, _⟩ := id I.loc
  obtain ⟨sl, hL⟩ := u.any ho I.free fun z => (hch _ z).2.1 rfl
  exact I.step (ch := ch) hch (fun b o hL hb hc e n => u.keep b o e n (fun z => (List.mem_cons.mp (I.stkSub b z)).elim hL hb) hc) (fun b o _ _ hc e n => u.any e n hc) (fun b o hc e n => u.free b o e n hc) (fun b o hc e => u.there b o e hc) u.tups u.frzs u.tbls (fun m' hm => by
    obtain ⟨o', es', ep', ho', r'⟩ := hm
    rw [ho] at ho'; cases ho'
    exact ⟨_, es', ep', hL, r'⟩) hok hg
/-- an untracked record of ours (an iterator) has turned -/
theorem Inv.turned {t' : Nat} {it : Addr} (I : Inv X pins σ H s) (k : ∀ b o, b ≠ it → s.heap.get? b = some o → h'.get? b = some o) (hn : H it = none) (hL : it ≠ X.env.locals)
    (h1 : it ∈ X.ex ∨ X.s₀.heap.objs.size ≤ it) (h2 : ∀ x c, X.env.cells.lookup x = some c → c ≠ it) (h3 : ∀ p ∈ X.pn ++ pins, p.1 ≠ it) : Inv X pins σ H { s with heap := h', toks := t' } := by
  have nit : ∀ b u, H b = some u → b ≠ it := fun b u e z => by rw [z, hn] at e; cases e
  refine I.step (g' := s.gens) (d' := s.drawn) (ch := [it]) (fun b hb => ?_) (fun b o _ _ hc e _ => k b o (fun z => hc (by simp [z])) e) (fun b o _ _ hc e _ => ⟨o.slots, k b o (fun z => hc (by simp [z])) e⟩) (fun _ _ _ _ n => n)
    (fun b o hc e => ⟨o, k b o (fun z => hc (by simp [z])) e⟩) (fun _ _ e => e) (fun _ _ _ e => e) (fun b ps e => ⟨#[], by rw [e]; simp⟩) (fun m hm => ?_) (fun b u e => ?_) I.bare
  · have e : b = it := by simpa using hb
    subst e
    exact ⟨h1, hL, h2, h3⟩
  · obtain ⟨o, es, ep, ho, r⟩ := hm
    exact ⟨o, es, ep, k _ o (Ne.symm hL) ho, r⟩
  · refine (I.hok b u e).stay (fun c v hc q => k c v ?_ q) (fun _ q => q) fun _ _ q => q
    rcases hc with z | z
    · rw [z]; exact nit b u e
    · exact nit c _ z
theorem Inv.tok (I : Inv X pins σ H s) (t : Nat) : Inv X pins σ H { s with toks := t } := I.un (h' := s.heap) (t' := t) Un.refl I.hok
/-- all objects kept -/
theorem Inv.kept {t' : Nat} (I : Inv X pins σ H s) (k : ∀ b u, s.heap.get? b = some u → h'.get? b = some u) : Inv X pins σ H { s with heap := h', toks := t' } := I.un (Un.kept k) (I.hok.kept k)
/-- a new object laid and tracked -/
theorem Inv.laid {a : Addr} {o : HO} {t' : Nat} (I : Inv X pins σ H s) (k : ∀ b u, s.heap.get? b = some u → h'.get? b = some u) (hp : s.heap.objs.size ≤ a) (new : ObjOk X.prog X.w (upd H a o) h' a o) :
    Inv X pins σ (upd H a o) { s with heap := h', toks := t' } := I.un (Un.laid k hp (I.hok.fresh hp)) (I.hok.laid k hp new)
/-- an object written -/
theorem Inv.write {x e : Addr} {o : HO} {t' : Nat} (I : Inv X pins σ H s) (mu : Mut (H x)) (he : e = x ∨ H e = some (.own x)) (k : ∀ b u, b ≠ e → s.heap.get? b = some u → h'.get? b = some u) (heo : ∃ u, h'.get? e = some u)
    (new : ObjOk X.prog X.w (upd H x o) h' x o) : Inv X pins σ (upd H x o) { s with heap := h', toks := t' } := I.un (Un.write mu he k heo) (I.hok.write mu he k heo new)
/-- forgetting slots, pins -/
theorem Inv.weak {σ' : List (Option V)} (I : Inv X pins σ H s) (hl : σ'.length = σ.length) (w : ∀ (i : Nat) v, σ'[i]? = some (some v) → σ[i]? = some (some v)) : Inv X pins σ' H s :=
  ⟨I.ok, I.os, I.bare, I.base, let ⟨m, hn, hl'⟩ := I.loc; ⟨m, hn, fun i x v e1 e2 e3 => hl' i x v e1 (w i v e2) e3⟩, I.cell, I.free, I.freeC, I.pin, I.hok, hl.trans I.len⟩
theorem Inv.pins_of {pins' : List (Addr × Obj)} (I : Inv X pins σ H s) (h : ∀ p ∈ pins', s.heap.get? p.1 = some p.2 ∧ H p.1 = none ∧ p.1 ≠ X.env.locals ∧ p.1 ∉ X.fs ∧ ∀ v, p.2.data ≠ .cell v) : Inv X pins' σ H s :=
  ⟨I.ok, I.os, I.bare, I.base, I.loc, I.cell, I.free, I.freeC, fun p hp => (List.mem_append.mp hp).elim (fun z => I.pin p (List.mem_append_left _ z)) (h p), I.hok, I.len⟩

theorem nodup_ix {N : List Str} (hN : N.Nodup) {i j : Nat} {x : Str} (a : N[i]? = some x) (b : N[j]? = some x) : i = j := by
  obtain ⟨h1, e1⟩ := List.getElem?_eq_some_iff.mp a
  obtain ⟨h2, e2⟩ := List.getElem?_eq_some_iff.mp b
  exact (List.getElem_inj hN).mp (e1.trans e2.symm)

/-- a name is stored; what changed -/
theorem store_ok2 {M : Model} {A : Around} {E : Value → Shared → Prop} {i : Nat} {x : Str} {v : V} {u : Value} {Q : Unit → Shared → Prop} (I : Inv X pins σ H s) (hN : X.N.Nodup) (hi : X.N[i]? = some x) (hx : Loc X.env.scope x) (r : RelV v u)
    (h : ∀ s', Inv X pins (σ.set i (some v)) H s' → (∃ a, Heap.SameBut a s.heap s'.heap ∧ (a = X.env.locals ∨ X.env.cells.lookup x = some a)) → Q () s') (hf : X.fn x = true ∨ X.env.scope.names.lookup x = some .local := by first | exact .inl rfl | exact .inr rfl | assumption) : wpAny M A (storeName X.env x u) Q E s := by
  obtain ⟨m, hn, hl⟩ := id I.loc
  have hcls : (X.env.scope.kind == .class || (X.env.scope.kind == .module && X.env.locals != X.env.globals)) = false := by rw [I.ok.kind]; rfl
  have hiσ : i < σ.length := by rw [I.len]; exact (List.getElem?_eq_some_iff.mp hi).1
  have cne := I.cne
  have tracked : ∀ {a : Addr} {h' : Heap}, (∃ o, s.heap.get? a = some o ∧ H a = none) → Heap.SameBut a s.heap h' → HOk X.prog X.w H h' := fun {a h'} ha hs b ob e => by
    obtain ⟨_, _, hfree⟩ := ha
    refine (I.hok b ob e).stay (fun c w' hc q => (hs.2 c ?_).trans q) (fun _ q => q) fun _ _ q => q
    rintro rfl
    rcases hc with rfl | hc
    · rw [hfree] at e; cases e
    · rw [hfree] at hc; cases hc
  rcases hx with hk | hk
  · refine wpAny_storeName_local hk hn (fun h' hn' hs => ?_) hcls
    obtain ⟨oL, _, _, hoL, _⟩ := id hn
    refine h _ ⟨I.ok, I.os, I.bare, ⟨fun b o e n hb hx => ?_, fun b o e n hb hx => ?_, I.base.free, fun b o e hx => ?_, I.base.tups, I.base.frzs, I.base.tbls⟩, ⟨_, hn', fun j y v' e1 e2 e3 => ?_⟩, fun y c e => ?_, I.free, I.freeC, fun p hp => ?_, tracked ⟨oL, hoL, I.free⟩ hs, by simpa using I.len⟩ ⟨_, hs, .inl rfl⟩
    · exact (hs.2 b (Nat.ne_of_lt (Nat.lt_of_lt_of_le (Heap.lt_size e) I.ok.above))).trans (I.base.keep b o e n hb hx)
    · obtain ⟨sl, e1⟩ := I.base.slot b o e n hb hx
      exact ⟨sl, (hs.2 b (Nat.ne_of_lt (Nat.lt_of_lt_of_le (Heap.lt_size e) I.ok.above))).trans e1⟩
    · obtain ⟨o', e1⟩ := I.base.there b o e hx
      exact ⟨o', (hs.2 b (Nat.ne_of_lt (Nat.lt_of_lt_of_le (Heap.lt_size e) I.ok.above))).trans e1⟩
    · by_cases hj : j = i
      · subst hj
        rw [hi] at e1; cases e1
        rw [List.getElem?_set_self hiσ] at e2
        cases e2
        exact ⟨u, r, .inl ⟨hk, by simp⟩⟩
      · rw [List.getElem?_set_ne (Ne.symm hj)] at e2
        obtain ⟨u', r', q⟩ := hl j y v' e1 e2 e3
        refine ⟨u', r', ?_⟩
        rcases q with ⟨k, e⟩ | ⟨k, c, e, z⟩
        · refine .inl ⟨k, ?_⟩
          have : y ≠ x := fun e => hj (nodup_ix hN e1 (e ▸ hi))
          simp [this, e]
        · exact .inr ⟨k, c, e, z.sameBut hs (cne y c e)⟩
    · obtain ⟨w', z⟩ := I.cell y c e
      exact ⟨w', z.sameBut hs (cne y c e)⟩
    · obtain ⟨e, n, ne, nf, d⟩ := I.pin p hp
      exact ⟨(hs.2 p.1 ne).trans e, n, ne, nf, d⟩
  · have hfn : X.fn x = true := by
      rcases hf with z | z
      · exact z
      · rw [z] at hk; cases hk
    obtain ⟨c, hc⟩ := I.ok.has x (.inl hk)
    obtain ⟨w', z⟩ := I.cell x c hc
    refine wpAny_storeName_cell I.ok.kind hk hc z (fun h' hc' hs => ?_)
    obtain ⟨oc, hoc, hocd⟩ := id z
    refine h { s with heap := h' } ⟨I.ok, I.os, I.bare, ⟨fun b o e n hb hx => ?_, fun b o e n hb hx => ?_, I.base.free, fun b o e hx => ?_, I.base.tups, I.base.frzs, I.base.tbls⟩, ⟨m, hn.sameBut hs (Ne.symm (cne x c hc)), fun j y v' e1 e2 e3 => ?_⟩, fun y c' e => ?_, I.free, I.freeC, fun p hp => ?_, tracked ⟨oc, hoc, I.freeC x c hc⟩ hs, by simpa using I.len⟩ ⟨c, hs, .inr hc⟩
    · exact (hs.2 b (Nat.ne_of_lt (Nat.lt_of_lt_of_le (Heap.lt_size e) (I.ok.cab x c hfn hc)))).trans (I.base.keep b o e n hb hx)
    · obtain ⟨sl, e1⟩ := I.base.slot b o e n hb hx
      exact ⟨sl, (hs.2 b (Nat.ne_of_lt (Nat.lt_of_lt_of_le (Heap.lt_size e) (I.ok.cab x c hfn hc)))).trans e1⟩
    · obtain ⟨o', e1⟩ := I.base.there b o e hx
      exact ⟨o', (hs.2 b (Nat.ne_of_lt (Nat.lt_of_lt_of_le (Heap.lt_size e) (I.ok.cab x c hfn hc)))).trans e1⟩
    · by_cases hj : j = i
      · subst hj
        rw [hi] at e1; cases e1
        rw [List.getElem?_set_self hiσ] at e2
        cases e2
        exact ⟨u, r, .inr ⟨.inl hk, c, hc, hc'⟩⟩
      · rw [List.getElem?_set_ne (Ne.symm hj)] at e2
        obtain ⟨u', r', q⟩ := hl j y v' e1 e2 e3
        refine ⟨u', r', ?_⟩
        rcases q with q | ⟨k, c', e, z'⟩
        · exact .inl q
        · refine .inr ⟨k, c', e, z'.sameBut hs ?_⟩
          rintro rfl
          exact hj (nodup_ix hN e1 (I.ok.inj _ _ _ e hc ▸ hi))
    · by_cases hcc : c' = c
      · subst hcc; exact ⟨_, hc'⟩
      · obtain ⟨w2, z2⟩ := I.cell y c' e
        exact ⟨w2, z2.sameBut hs hcc⟩
    · obtain ⟨e, n, ne, nf, d⟩ := I.pin p hp
      refine ⟨(hs.2 p.1 ?_).trans e, n, ne, nf, d⟩
      intro q
      rw [q, hoc] at e
      have q' : oc = p.2 := Option.some.inj e
      exact d w' (by rw [← q']; exact hocd)
theorem store_ok {M : Model} {A : Around} {E : Value → Shared → Prop} {i : Nat} {x : Str} {v : V} {u : Value} {Q : Unit → Shared → Prop} (I : Inv X pins σ H s) (hN : X.N.Nodup) (hi : X.N[i]? = some x) (hx : Loc X.env.scope x) (r : RelV v u)
    (h : ∀ s', Inv X pins (σ.set i (some v)) H s' → Q () s') (hf : X.fn x = true ∨ X.env.scope.names.lookup x = some .local := by first | exact .inl rfl | exact .inr rfl | assumption) : wpAny M A (storeName X.env x u) Q E s :=
  store_ok2 I hN hi hx r (fun s' I' _ => h s' I') hf
/-- behind a call or a block, the state as it is -/
theorem Inv.call' {s' : Shared} {ch : List Addr} (I : Inv X pins σ H s) (ho : s'.os = s.os) (u : Un (frs X.stack) ch H H' s.heap s'.heap) (hok : HOk X.prog X.w H' s'.heap) (hg : AllBare s'.gens)
    (hch : ∀ b ∈ ch, (b ∈ X.ex ∨ X.s₀.heap.objs.size ≤ b) ∧ b ≠ X.env.locals ∧ (∀ x c, X.env.cells.lookup x = some c → c ≠ b) ∧ ∀ p ∈ X.pn ++ pins, p.1 ≠ b) : Inv X pins σ H' s' := by
  obtain ⟨h', g', d', t', o'⟩ := s'
  have e : o' = s.os := ho
  subst e
  exact I.call (g' := g') (t' := t') (d' := d') u hok hg hch
end

/-! ### the judgements -/
/-- an exception: its class, its own dict's address (where it has one), the abstract heap behind it -/
abbrev XK := Value → Option Addr → Hp → Prop
abbrev St := List (Option V)
abbrev VK := V → Hp → Prop
/-- an expression's reading; a test's; an argument list's -/
abbrev TE := St → Hp → VK → Prop
abbrev TT := St → Hp → (Bool → Hp → Prop) → Prop
abbrev TA := St → Hp → (List V → Hp → Prop) → Prop
/-- what is wanted behind a statement -/
structure Ends where
  nx : St → Hp → Prop
  rt : VK
  bk : St → Hp → Prop := fun _ _ => False
  ct : St → Hp → Prop := fun _ _ => False
abbrev TS := Ends → St → Hp → Prop

def EP (X : Cx) (pins : List (Addr × Obj)) (σ : St) (Q : VK) (u : Value) (s' : Shared) : Prop := ∃ v H', Inv X pins σ H' s' ∧ RelV v u ∧ Q v H'
def TP (X : Cx) (pins : List (Addr × Obj)) (σ : St) (Q : Bool → Hp → Prop) (b : Bool) (s' : Shared) : Prop := ∃ H', Inv X pins σ H' s' ∧ Q b H'
def AP (X : Cx) (pins : List (Addr × Obj)) (σ : St) (Q : List V → Hp → Prop) (us : List Value) (s' : Shared) : Prop := ∃ vs H', Inv X pins σ H' s' ∧ Vals vs us ∧ Q vs H'
def SP (X : Cx) (pins : List (Addr × Obj)) (D : Ends) (f : Flow) (s' : Shared) : Prop :=
  match f with
  | .next => ∃ σ' H', Inv X pins σ' H' s' ∧ D.nx σ' H'
  | .brk => ∃ σ' H', Inv X pins σ' H' s' ∧ D.bk σ' H'
  | .cont => ∃ σ' H', Inv X pins σ' H' s' ∧ D.ct σ' H'
  | .ret u => ∃ v σ' H', Inv X pins σ' H' s' ∧ RelV v u ∧ D.rt v H'

def PE (X : Cx) (e : Expr) (t : TE) : Prop :=
  ∀ (pins : List (Addr × Obj)) (s : Shared) (σ : St) (H : Hp) (Q : VK), Inv X pins σ H s → t σ H Q → wpAny (model X.prog X.w) X.A (eval e X.env) (EP X pins σ Q) X.xe s
def PT (X : Cx) (e : Expr) (t : TT) : Prop :=
  ∀ (pins : List (Addr × Obj)) (s : Shared) (σ : St) (H : Hp) (Q : Bool → Hp → Prop), Inv X pins σ H s → t σ H Q → wpAny (model X.prog X.w) X.A (isTrue e X.env (eval e X.env)) (TP X pins σ Q) X.xe s
/-- a test whatever its 'whole' is (and, or) -/
def PW (X : Cx) (e : Expr) (t : TT) : Prop :=
  ∀ (whole : Sem Value) (pins : List (Addr × Obj)) (s : Shared) (σ : St) (H : Hp) (Q : Bool → Hp → Prop), Inv X pins σ H s → t σ H Q → wpAny (model X.prog X.w) X.A (isTrue e X.env whole) (TP X pins σ Q) X.xe s
theorem PW.pt {X : Cx} {e : Expr} {t : TT} (h : PW X e t) : PT X e t := h _
/-- an argument list (no star), from the left -/
def PA (X : Cx) (es : List Expr) (t : TA) : Prop :=
  ∀ (pos : Pos) (pins : List (Addr × Obj)) (s : Shared) (σ : St) (H : Hp) (Q : List V → Hp → Prop), Inv X pins σ H s → t σ H Q → wpAny (model X.prog X.w) X.A (spliced (backTo pos (starEach es X.env))) (AP X pins σ Q) X.xe s
def PS (X : Cx) (st : Stmt) (t : TS) : Prop :=
  ∀ (pins : List (Addr × Obj)) (s : Shared) (σ : St) (H : Hp) (D : Ends), Inv X pins σ H s → t D σ H → wpAny (model X.prog X.w) X.A (exec st X.env) (SP X pins D) X.xe s
def PSs (X : Cx) (st : List Stmt) (t : TS) : Prop :=
  ∀ (pins : List (Addr × Obj)) (s : Shared) (σ : St) (H : Hp) (D : Ends), Inv X pins σ H s → t D σ H → wpAny (model X.prog X.w) X.A (execs st X.env) (SP X pins D) X.xe s
/-- weaken the end -/
theorem thn {α : Type} {t : Sem α} {Q Q' : α → Shared → Prop} {M : Model} {A : Around} {E : Value → Shared → Prop} {s : Shared} (h : wpAny M A t Q E s) (hQ : ∀ a s, Q a s → Q' a s) : wpAny M A t Q' E s := wpAny_mono h hQ fun _ _ x => x
end L2

namespace L2
open PySem PySem.Spec PyProof.Rows
section
variable {X : Cx}

/-- two expressions in a row -/
theorem bin {a b : Expr} {ta tb : TE} (ha : PE X a ta) (hb : PE X b tb) {pins : List (Addr × Obj)} {s : Shared} {σ : St} {H : Hp} {R : V → V → Hp → Prop} (I : Inv X pins σ H s) (h : ta σ H fun x H1 => tb σ H1 fun y H2 => R x y H2)
    {α : Type} {Q : α → Shared → Prop} {f : Value → Value → Sem α}
    (hf : ∀ v u s2 x y H2, Inv X pins σ H2 s2 → RelV x v → RelV y u → R x y H2 → wpAny (model X.prog X.w) X.A (f v u) Q X.xe s2) :
    wpAny (model X.prog X.w) X.A (eval a X.env) (fun v s₁ => wpAny (model X.prog X.w) X.A (eval b X.env) (fun u s₂ => wpAny (model X.prog X.w) X.A (f v u) Q X.xe s₂) X.xe s₁) X.xe s := by
  refine thn (ha pins s σ H _ I h) fun v s1 ⟨x, H1, I1, r1, q1⟩ => ?_
  refine thn (hb pins s1 σ H1 _ I1 q1) fun u s2 ⟨y, H2, I2, r2, q2⟩ => ?_
  exact hf v u s2 x y H2 I2 r1 r2 q2

/-! ### names and constants -/
def tVar (i : Nat) : TE := fun σ H Q => ∃ v, σ[i]? = some (some v) ∧ Q v H
def tC (v : V) : TE := fun _ H Q => Q v H
theorem pe_var {i : Nat} {x : Str} {pos : Pos} (hN : X.N[i]? = some x) (hv : Vis X.env.scope x) (hd : (x == ("__debug__" : Str)) = false := by decide) (hcd : (x == ("__classdict__" : Str)) = false := by decide) : PE X (.Name x pos) (tVar i) := by
  intro pins s σ H Q I h
  obtain ⟨v, e, h⟩ := h
  obtain ⟨m, hn, hl⟩ := I.loc
  obtain ⟨u, r, l⟩ := hl i x v hN e hv
  have fin : EP X pins σ Q u s := ⟨v, H, I, r, h⟩
  rcases l with ⟨hk, hm⟩ | ⟨hk, c, hc, hcell⟩
  · exact wpAny_Name (wpAny_loadName_local I.ok.kind hk hn hm fin) hd
  · rcases hk with hk | hk
    · exact wpAny_Name (wpAny_loadName_cell I.ok.kind hk hc hcell fin) hd
    · exact wpAny_Name (wpAny_loadName_free I.ok.kind hk hc hcell fin hcd) hd
theorem pe_int {i j pos} : PE X (.Constant (.int i) j pos) (tC (.int i)) := fun _ _ _ H _ I h => wpAny_Constant_int ⟨.int i, H, I.tok _, ⟨_, rfl⟩, h⟩
theorem pe_bl {b j pos} : PE X (.Constant (.bool b) j pos) (tC (.bl b)) := fun _ _ _ H _ I h => Constant_bool ⟨.bl b, H, I, rfl, h⟩
theorem pe_non {j pos} : PE X (.Constant .none j pos) (tC .non) := fun _ _ _ H _ I h => Constant_none ⟨.non, H, I, rfl, h⟩
theorem pe_str {x j pos} : PE X (.Constant (.str x) j pos) (tC (.str x)) := fun _ _ _ H _ I h => Calls.Constant_str ⟨.str x, H, I.tok _, ⟨_, rfl⟩, h⟩

/-- a global name of the def -/
def Gl (X : Cx) (x : Str) : Prop := X.env.kindOf x = some .globalImplicit
theorem ld_glob {E : Value → Shared → Prop} {pins : List (Addr × Obj)} {s : Shared} {σ : St} {H : Hp} {x : Str} {u : Value} {pos : Pos} {Q : Value → Shared → Prop} (I : Inv X pins σ H s) (hg : Gl X x) (hm : X.mg x = some u) (h : Q u s)
    (hd : (x == ("__debug__" : Str)) = false := by decide) : wpAny (model X.prog X.w) X.A (eval (.Name x pos) X.env) Q E s :=
  Calls.Name_function_global I.ok.kind hg (Calls.loadGlobal_global (by rw [I.ok.glob]; exact I.mod.glob.keeps I.bk) hm h) hd
theorem ld_blt {E : Value → Shared → Prop} {pins : List (Addr × Obj)} {s : Shared} {σ : St} {H : Hp} {x : Str} {u : Value} {pos : Pos} {Q : Value → Shared → Prop} (I : Inv X pins σ H s) (hg : Gl X x) (hm : X.mg x = none) (hv : bootBuiltins x = some u) (h : Q u s)
    (hn : x ≠ "__name__" := by decide) (hd : (x == ("__debug__" : Str)) = false := by decide) : wpAny (model X.prog X.w) X.A (eval (.Name x pos) X.env) Q E s := by
  obtain ⟨mb, h1, h2⟩ := I.mod.blt
  exact Calls.Name_function_global I.ok.kind hg (Calls.loadGlobal_builtin (by rw [I.ok.glob]; exact I.mod.glob.keeps I.bk) hm (by rw [I.ok.blt]; exact h1.keeps I.bk) ((h2 x hn).trans hv) h) hd
/-- a module's constant, a class, a function, as a value -/
theorem pe_glob {x : Str} {v : V} {u : Value} {pos : Pos} (hg : Gl X x) (hm : X.mg x = some u) (r : RelV v u) (hd : (x == ("__debug__" : Str)) = false := by decide) : PE X (.Name x pos) (tC v) :=
  fun _ _ _ H _ I h => ld_glob I hg hm ⟨v, H, I, r, h⟩ hd
theorem pe_bltn {x : Str} {v : V} {u : Value} {pos : Pos} (hg : Gl X x) (hm : X.mg x = none) (hv : bootBuiltins x = some u) (r : RelV v u) (hn : x ≠ "__name__" := by decide) (hd : (x == ("__debug__" : Str)) = false := by decide) : PE X (.Name x pos) (tC v) :=
  fun _ _ _ H _ I h => ld_blt I hg hm hv ⟨v, H, I, r, h⟩ hn hd

/-! ### arithmetic -/
/-- two ints -/
def t2I (ta tb : TE) (k : Int → Int → Hp → Prop) : St → Hp → Prop := fun σ H => ta σ H fun x H1 => tb σ H1 fun y H2 => ∃ i j, x = .int i ∧ y = .int j ∧ k i j H2
def tAdd (ta tb : TE) : TE := fun σ H Q => t2I ta tb (fun i j H2 => Q (.int (i + j)) H2) σ H
def tSub (ta tb : TE) : TE := fun σ H Q => t2I ta tb (fun i j H2 => Q (.int (i - j)) H2) σ H
/-- the left factor below 2^64 -/
def tMul (ta tb : TE) : TE := fun σ H Q => t2I ta tb (fun i j H2 => (-(2 ^ 64) < i ∧ i < 2 ^ 64) ∧ Q (.int (i * j)) H2) σ H
variable {a b : Expr} {ta tb : TE} {pos : Pos}
theorem pe_add (ha : PE X a ta) (hb : PE X b tb) : PE X (.BinOp a .Add b pos) (tAdd ta tb) := by
  intro pins s σ H Q I h
  refine wpAny_BinOp (bin ha hb I h fun v u s2 x y H2 I2 rx ry q => ?_)
  obtain ⟨i, j, rfl, rfl, q⟩ := q
  obtain ⟨t, rfl⟩ := rx
  obtain ⟨t', rfl⟩ := ry
  exact add_int ⟨.int _, H2, I2.tok _, ⟨_, rfl⟩, q⟩
theorem pe_sub (ha : PE X a ta) (hb : PE X b tb) : PE X (.BinOp a .Sub b pos) (tSub ta tb) := by
  intro pins s σ H Q I h
  refine wpAny_BinOp (bin ha hb I h fun v u s2 x y H2 I2 rx ry q => ?_)
  obtain ⟨i, j, rfl, rfl, q⟩ := q
  obtain ⟨t, rfl⟩ := rx
  obtain ⟨t', rfl⟩ := ry
  exact sub_int ⟨.int _, H2, I2.tok _, ⟨_, rfl⟩, q⟩
theorem pe_mul (ha : PE X a ta) (hb : PE X b tb) : PE X (.BinOp a .Mult b pos) (tMul ta tb) := by
  intro pins s σ H Q I h
  refine wpAny_BinOp (bin ha hb I h fun v u s2 x y H2 I2 rx ry q => ?_)
  obtain ⟨i, j, rfl, rfl, ⟨q1, q2⟩, q⟩ := q
  obtain ⟨t, rfl⟩ := rx
  obtain ⟨t', rfl⟩ := ry
  exact mul_int ⟨.int _, H2, I2.tok _, ⟨_, rfl⟩, q⟩ (.of_left (intBits_le_64 q1 q2))

/-! ### comparisons -/
def PC (X : Cx) (op : CmpOp) (a b : Expr) (t : TE) : Prop :=
  ∀ (pins : List (Addr × Obj)) (s : Shared) (σ : St) (H : Hp) (Q : VK), Inv X pins σ H s → t σ H Q →
    wpAny (model X.prog X.w) X.A (eval a X.env) (fun v s₁ => wpAny (model X.prog X.w) X.A (eval b X.env) (fun u s₂ => wpAny (model X.prog X.w) X.A (compareOp op v u) (EP X pins σ Q) X.xe s₂) X.xe s₁) X.xe s
theorem nobehind (b : Expr) {op : CmpOp} (h : op ≠ .In) (h2 : op ≠ .NotIn) : behindInMarks op b = false := by
  have e1 : (op == CmpOp.In) = false := by cases op <;> first | rfl | exact absurd rfl h
  have e2 : (op == CmpOp.NotIn) = false := by cases op <;> first | rfl | exact absurd rfl h2
  cases b <;> simp [behindInMarks, e1, e2]
def tCmp (p : Int → Int → Bool) (ta tb : TE) : TE := fun σ H Q => t2I ta tb (fun i j H2 => Q (.bl (p i j)) H2) σ H
abbrev tLt : TE → TE → TE := tCmp fun i j => decide (i < j)
abbrev tLe : TE → TE → TE := tCmp fun i j => decide (i ≤ j)
abbrev tGt : TE → TE → TE := tCmp fun i j => decide (j < i)
abbrev tGe : TE → TE → TE := tCmp fun i j => decide (j ≤ i)
abbrev tEqI : TE → TE → TE := tCmp fun i j => decide (i = j)
abbrev tNeI : TE → TE → TE := tCmp fun i j => !decide (i = j)
/-- a comparison of two ints, by its rule -/
theorem pc_int {op : CmpOp} {p : Int → Int → Bool} (ha : PE X a ta) (hb : PE X b tb)
    (rule : ∀ (i j : Int) (t u : Tok) (Q : Value → Shared → Prop) (s : Shared), Q (.bool (p i j)) s → wpAny (model X.prog X.w) X.A (compareOp op (.int i t) (.int j u)) Q X.xe s) : PC X op a b (tCmp p ta tb) := by
  intro pins s σ H Q I h
  refine bin ha hb I h fun v u s2 x y H2 I2 rx ry q => ?_
  obtain ⟨i, j, rfl, rfl, q⟩ := q
  obtain ⟨t, rfl⟩ := rx
  obtain ⟨t', rfl⟩ := ry
  exact rule i j t t' _ s2 ⟨.bl _, H2, I2, rfl, q⟩
theorem pc_lt (ha : PE X a ta) (hb : PE X b tb) : PC X .Lt a b (tLt ta tb) := pc_int ha hb fun _ _ _ _ _ _ h => lt_int h
theorem pc_le (ha : PE X a ta) (hb : PE X b tb) : PC X .LtE a b (tLe ta tb) := pc_int ha hb fun _ _ _ _ _ _ h => le_int h
theorem pc_gt (ha : PE X a ta) (hb : PE X b tb) : PC X .Gt a b (tGt ta tb) := pc_int ha hb fun _ _ _ _ _ _ h => gt_int h
theorem pc_ge (ha : PE X a ta) (hb : PE X b tb) : PC X .GtE a b (tGe ta tb) := pc_int ha hb fun _ _ _ _ _ _ h => ge_int h
theorem pc_eqI (ha : PE X a ta) (hb : PE X b tb) : PC X .Eq a b (tEqI ta tb) := pc_int ha hb fun _ _ _ _ _ _ h => eq_int (by rw [Bool.beq_eq_decide_eq]; exact h)
theorem pc_neI (ha : PE X a ta) (hb : PE X b tb) : PC X .NotEq a b (tNeI ta tb) := pc_int ha hb fun _ _ _ _ _ _ h => ne_int (by rw [bne, Bool.beq_eq_decide_eq]; exact h)
/-- is None -/
def tIsN (ta : TE) : TE := fun σ H Q => ta σ H fun x H1 => Q (.bl (decide (x = .non))) H1
def tNotN (ta : TE) : TE := fun σ H Q => ta σ H fun x H1 => Q (.bl (!decide (x = .non))) H1
theorem RelV.none_iff {x : V} {v : Value} (r : RelV x v) : (v == Value.none) = decide (x = .non) := by
  cases x with
  | non => cases r; rfl
  | bl _ => cases r; rfl
  | int _ => obtain ⟨t, rfl⟩ := r; rfl
  | str _ => obtain ⟨t, rfl⟩ := r; rfl
  | byt _ => obtain ⟨t, rfl⟩ := r; rfl
  | flt _ => obtain ⟨t, rfl⟩ := r; rfl
  | ref _ => cases r; rfl
  | ty _ => cases r; rfl
theorem pc_isN {j pos'} (ha : PE X a ta) : PC X .Is a (.Constant .none j pos') (tIsN ta) := by
  intro pins s σ H Q I h
  refine thn (ha pins s σ H _ I h) fun v s1 ⟨x, H1, I1, r1, q1⟩ => ?_
  exact Constant_none (is_none_gen ⟨.bl _, H1, I1, by rw [r1.none_iff]; rfl, q1⟩)
theorem pc_notN {j pos'} (ha : PE X a ta) : PC X .IsNot a (.Constant .none j pos') (tNotN ta) := by
  intro pins s σ H Q I h
  refine thn (ha pins s σ H _ I h) fun v s1 ⟨x, H1, I1, r1, q1⟩ => ?_
  exact Constant_none (isnot_none_gen ⟨.bl _, H1, I1, by rw [r1.none_iff]; rfl, q1⟩)
/-- a comparison as a value, as a test -/
def tB (t : TE) : TT := fun σ H Q => t σ H fun x H1 => ∃ c, x = .bl c ∧ Q c H1
theorem pe_cmp {op : CmpOp} {t : TE} (h : PC X op a b t) (h1 : behindInMarks op b = false := by first | exact nobehind _ (by decide) (by decide) | rfl) : PE X (.Compare a [op] [b] pos) t := fun pins s σ H Q I hw => wpAny_Compare1 (h pins s σ H Q I hw) h1
theorem pt_cmp {op : CmpOp} {t : TE} (h : PC X op a b t) (h1 : behindInMarks op b = false := by first | exact nobehind _ (by decide) (by decide) | rfl) : PT X (.Compare a [op] [b] pos) (tB t) := by
  intro pins s σ H Q I hw
  refine wpAny_isTrue_Compare1 (thn (h pins s σ H _ I hw) fun v s1 h1 => thn h1 fun u s2 h2 => thn h2 fun c s3 ⟨x, H1, I1, r1, q1⟩ => ?_) h1
  obtain ⟨d, rfl, q⟩ := q1
  cases r1
  exact wpAny_truthy_bool ⟨H1, I1, q⟩
/-- an expression whose value is a bool, as a test -/
theorem pt_val {e : Expr} {t : TE} (h : PE X e t) (he : ∀ whole, isTrue e X.env whole = (do let v ← whole; standAt e.pos; holding [v] (truthy v)) := by intro _; rfl) : PT X e (tB t) := by
  intro pins s σ H Q I hw
  refine isTrue_plain (thn (h pins s σ H _ I hw) fun v s1 ⟨x, H1, I1, r1, q1⟩ => ?_) (he _)
  obtain ⟨d, rfl, q⟩ := q1
  cases r1
  exact wpAny_truthy_bool ⟨H1, I1, q⟩

/-! ### and, or, not -/
variable {tA tB' : TT} {rest : List Expr}
def tAnd (t u : TT) : TT := fun σ H Q => t σ H fun c H1 => if c = true then u σ H1 Q else Q false H1
def tOr (t u : TT) : TT := fun σ H Q => t σ H fun c H1 => if c = true then Q true H1 else u σ H1 Q
def tNot (t : TT) : TT := fun σ H Q => t σ H fun c H1 => Q (!c) H1
theorem pw_and1 (ha : PT X a tA) : PW X (.BoolOp .And [a] pos) tA := by
  intro wh pins s σ H Q I h
  refine isTrue_and (thn (ha pins s σ H Q I h) fun c s1 e => ?_)
  cases c with
  | true => exact isTrue_and_nil e
  | false => exact e
theorem pw_or1 (ha : PT X a tA) : PW X (.BoolOp .Or [a] pos) tA := by
  intro wh pins s σ H Q I h
  refine isTrue_or (thn (ha pins s σ H Q I h) fun c s1 e => ?_)
  cases c with
  | false => exact isTrue_or_nil e
  | true => exact e
theorem pw_and (ha : PT X a tA) (hb : PW X (.BoolOp .And (b :: rest) pos) tB') : PW X (.BoolOp .And (a :: b :: rest) pos) (tAnd tA tB') := by
  intro wh pins s σ H Q I h
  refine isTrue_and (thn (ha pins s σ H _ I h) fun c s1 ⟨H1, I1, q1⟩ => ?_)
  cases c with
  | true => exact hb wh pins s1 σ H1 Q I1 q1
  | false => exact ⟨H1, I1, q1⟩
theorem pw_or (ha : PT X a tA) (hb : PW X (.BoolOp .Or (b :: rest) pos) tB') : PW X (.BoolOp .Or (a :: b :: rest) pos) (tOr tA tB') := by
  intro wh pins s σ H Q I h
  refine isTrue_or (thn (ha pins s σ H _ I h) fun c s1 ⟨H1, I1, q1⟩ => ?_)
  cases c with
  | true => exact ⟨H1, I1, q1⟩
  | false => exact hb wh pins s1 σ H1 Q I1 q1
theorem pt_not (ha : PT X a tA) : PT X (.UnaryOp .Not a pos) (tNot tA) := by
  intro pins s σ H Q I h
  exact isTrue_not (ha pins s σ H (fun c H1 => Q (!c) H1) I h)
/-- .. as values (bools) -/
def tAndV (ta tb : TE) : TE := fun σ H Q => ta σ H fun x H1 => ∃ c, x = .bl c ∧ if c = true then tb σ H1 Q else Q (.bl false) H1
def tOrV (ta tb : TE) : TE := fun σ H Q => ta σ H fun x H1 => ∃ c, x = .bl c ∧ if c = true then Q (.bl true) H1 else tb σ H1 Q
def tNotV (ta : TE) : TE := fun σ H Q => ta σ H fun x H1 => ∃ c, x = .bl c ∧ Q (.bl (!c)) H1
theorem pe_one {op} {t : TE} (h : PE X a t) : PE X (.BoolOp op [a] pos) t := fun pins s σ H Q I hw => BoolOp_one (h pins s σ H Q I hw)
theorem pe_and (ha : PE X a ta) (hb : PE X (.BoolOp .And (b :: rest) pos) tb) : PE X (.BoolOp .And (a :: b :: rest) pos) (tAndV ta tb) := by
  intro pins s σ H Q I h
  refine BoolOp_and (thn (ha pins s σ H _ I h) fun v s1 ⟨x, H1, I1, r1, q1⟩ => ?_)
  obtain ⟨c, rfl, q1⟩ := q1
  cases r1
  refine wpAny_truthy_bool ?_
  cases c with
  | true => exact hb pins s1 σ H1 Q I1 q1
  | false => exact ⟨.bl false, H1, I1, rfl, q1⟩
theorem pe_or (ha : PE X a ta) (hb : PE X (.BoolOp .Or (b :: rest) pos) tb) : PE X (.BoolOp .Or (a :: b :: rest) pos) (tOrV ta tb) := by
  intro pins s σ H Q I h
  refine BoolOp_or (thn (ha pins s σ H _ I h) fun v s1 ⟨x, H1, I1, r1, q1⟩ => ?_)
  obtain ⟨c, rfl, q1⟩ := q1
  cases r1
  refine wpAny_truthy_bool ?_
  cases c with
  | false => exact hb pins s1 σ H1 Q I1 q1
  | true => exact ⟨.bl true, H1, I1, rfl, q1⟩
theorem pe_not (ha : PE X a ta) : PE X (.UnaryOp .Not a pos) (tNotV ta) := by
  intro pins s σ H Q I h
  refine UnaryOp_ (thn (ha pins s σ H _ I h) fun v s1 ⟨x, H1, I1, r1, q1⟩ => ?_)
  obtain ⟨c, rfl, q1⟩ := q1
  cases r1
  exact not_of (wpAny_truthy_bool ⟨.bl (!c), H1, I1, rfl, q1⟩)
/-- a if t else b -/
def tIf (t : TT) (ta tb : TE) : TE := fun σ H Q => t σ H fun c H1 => if c = true then ta σ H1 Q else tb σ H1 Q
theorem pe_ifExp {c : Expr} (hc : PT X c tA) (ha : PE X a ta) (hb : PE X b tb) : PE X (.IfExp c a b pos) (tIf tA ta tb) := by
  intro pins s σ H Q I h
  refine wpAny_IfExp (thn (hc pins s σ H _ I h) fun d s1 ⟨H1, I1, q1⟩ => ?_)
  cases d with
  | true => exact ha pins s1 σ H1 Q I1 q1
  | false => exact hb pins s1 σ H1 Q I1 q1
end
end L2

namespace L2
open PySem PySem.Spec PyProof.Rows

/-! ### a list, a tuple that is read: tracked, frozen, or an object of the module -/
def SqL (K : PySem.W.Frag) (H : Hp) (a : Addr) (xs : List V) : Prop :=
  Rd H a (.lst xs) ∨
    ∃ (o : Obj) (its : Array Value) (n : Nat), K.lookup a = some o ∧ o.cls = .type "list" ∧ o.dict = none ∧ o.data = .seq its n ∧ its.size ≤ sizeLine ∧ Vals xs its.toList
def SqT (K : PySem.W.Frag) (H : Hp) (a : Addr) (xs : List V) : Prop :=
  Rd H a (.tup xs) ∨
    ∃ (o : Obj) (its : Array Value) (n : Nat), K.lookup a = some o ∧ o.cls = .type "tuple" ∧ o.data = .seq its n ∧ its.size ≤ sizeLine ∧ Vals xs its.toList
def absV : Value → Option V
  | .none => some .non
  | .bool b => some (.bl b)
  | .int i _ => some (.int i)
  | .str x _ => some (.str x)
  | .bytes b _ => some (.byt b)
  | .float b _ => some (.flt b)
  | .ref a => some (.ref a)
  | .type n => some (.ty n)
  | _ => none
theorem RelV.abs {x : V} {u : Value} (r : RelV x u) : absV u = some x := by
  cases x with
  | non => cases r; rfl
  | bl _ => cases r; rfl
  | int _ => obtain ⟨t, rfl⟩ := r; rfl
  | str _ => obtain ⟨t, rfl⟩ := r; rfl
  | byt _ => obtain ⟨t, rfl⟩ := r; rfl
  | flt _ => obtain ⟨t, rfl⟩ := r; rfl
  | ref _ => cases r; rfl
  | ty _ => cases r; rfl
theorem RelV.inj {x y : V} {u : Value} (r : RelV x u) (q : RelV y u) : x = y := Option.some.inj (r.abs.symm.trans q.abs)
theorem Vals.inj : ∀ {xs ys : List V} {us : List Value}, Vals xs us → Vals ys us → xs = ys
  | _, _, _, .nil, .nil => rfl
  | _, _, _, .cons r t, .cons r' t' => by rw [r.inj r', Vals.inj t t']
section
variable {X : Cx} {pins : List (Addr × Obj)} {σ : St} {H : Hp} {s : Shared} {a : Addr} {xs ys : List V}
theorem SqL.of {K : PySem.W.Frag} (h : H a = some (.lst xs)) : SqL K H a xs := .inl (.inl h)
theorem SqT.of {K : PySem.W.Frag} (h : H a = some (.tup xs)) : SqT K H a xs := .inl (.inl h)
theorem Inv.list (I : Inv X pins σ H s) (h : SqL X.K H a xs) : ∃ its : List Value, Vals xs its ∧ PlainL s.heap a its.toArray ∧ xs.length ≤ sizeLine := by
  rcases h with h | ⟨o, its, n, hk, hc, hd, hs, hz, r⟩
  · obtain ⟨z, its, n, r, e⟩ := h.ok I.hok
    exact ⟨its, r, ⟨_, n, e, rfl, rfl, rfl⟩, z⟩
  · refine ⟨its.toList, r, ⟨o, n, I.kIn a o hk, hc, hd, by simpa using hs⟩, ?_⟩
    have e := r.length
    simp only [Array.length_toList] at e
    omega
theorem Inv.tuple (I : Inv X pins σ H s) (h : SqT X.K H a xs) : ∃ its : List Value, Vals xs its ∧ IsTup s.heap a its.toArray ∧ xs.length ≤ sizeLine := by
  rcases h with h | ⟨o, its, n, hk, hc, hs, hz, r⟩
  · obtain ⟨z, its, r, p⟩ := h.ok I.hok
    exact ⟨its, r, p, z⟩
  · refine ⟨its.toList, r, ⟨o, I.kIn a o hk, hc, n, by simpa using hs⟩, ?_⟩
    have e := r.length
    simp only [Array.length_toList] at e
    omega
theorem Inv.list_inj (I : Inv X pins σ H s) (h : SqL X.K H a xs) (h' : SqL X.K H a ys) : xs = ys := by
  obtain ⟨its, r, ⟨o, n, e, _, _, d⟩, _⟩ := I.list h
  obtain ⟨its', r', ⟨o', n', e', _, _, d'⟩, _⟩ := I.list h'
  rw [e] at e'; cases e'
  rw [d] at d'
  injection d' with d1 _
  have : its = its' := by simpa using congrArg Array.toList d1
  subst this
  exact r.inj r'
theorem Inv.tuple_inj (I : Inv X pins σ H s) (h : SqT X.K H a xs) (h' : SqT X.K H a ys) : xs = ys := by
  obtain ⟨its, r, ⟨o, e, _, n, d⟩, _⟩ := I.tuple h
  obtain ⟨its', r', ⟨o', e', _, n', d'⟩, _⟩ := I.tuple h'
  rw [e] at e'; cases e'
  rw [d] at d'
  injection d' with d1 _
  have : its = its' := by simpa using congrArg Array.toList d1
  subst this
  exact r.inj r'
end

/-! ### another wish about exceptions -/
abbrev Cx.wish (X : Cx) (E : Value → Shared → Prop) : Cx := { X with xe := E }
/-- no exception leaves -/
abbrev Cx.nox (X : Cx) : Cx := X.wish fun _ _ => False
theorem Cx.Ok.wish {X : Cx} (ok : X.Ok) (E : Value → Shared → Prop) : (X.wish E).Ok :=
  ⟨ok.mod, ok.kind, ok.glob, ok.blt, ok.above, ok.inj, ok.has, ok.cab, ok.hd, ok.frames, ok.stk, ok.exf, ok.bs, ok.bsz, ok.noex, ok.exfs, ok.funs, ok.frf⟩
theorem Cx.Ok.unwish {X : Cx} {E : Value → Shared → Prop} (ok : (X.wish E).Ok) : X.Ok :=
  ⟨ok.mod, ok.kind, ok.glob, ok.blt, ok.above, ok.inj, ok.has, ok.cab, ok.hd, ok.frames, ok.stk, ok.exf, ok.bs, ok.bsz, ok.noex, ok.exfs, ok.funs, ok.frf⟩
section
variable {X : Cx} {pins : List (Addr × Obj)} {σ : St} {H : Hp} {s : Shared} {E : Value → Shared → Prop}
theorem Inv.wish (I : Inv X pins σ H s) (E : Value → Shared → Prop) : Inv (X.wish E) pins σ H s := ⟨I.ok.wish E, I.os, I.bare, I.base, I.loc, I.cell, I.free, I.freeC, I.pin, I.hok, I.len⟩
theorem Inv.unwish (I : Inv (X.wish E) pins σ H s) : Inv X pins σ H s := ⟨I.ok.unwish, I.os, I.bare, I.base, I.loc, I.cell, I.free, I.freeC, I.pin, I.hok, I.len⟩
theorem SP.unwish {D : Ends} {f : Flow} {s' : Shared} (h : SP (X.wish E) pins D f s') : SP X pins D f s' := by
  cases f with
  | next => obtain ⟨σ', H', I, q⟩ := h; exact ⟨σ', H', I.unwish, q⟩
  | brk => obtain ⟨σ', H', I, q⟩ := h; exact ⟨σ', H', I.unwish, q⟩
  | cont => obtain ⟨σ', H', I, q⟩ := h; exact ⟨σ', H', I.unwish, q⟩
  | ret u => obtain ⟨v, σ', H', I, r, q⟩ := h; exact ⟨v, σ', H', I.unwish, r, q⟩
theorem PE.nox {e : Expr} {t : TE} (h : PE X.nox e t) : PE X e t := fun pins s σ H Q I hw =>
  wpAny_mono (h pins s σ H Q (I.wish _) hw) (fun _ _ ⟨v, H', I', r, q⟩ => ⟨v, H', I'.unwish, r, q⟩) fun _ _ z => False.elim z
theorem PT.nox {e : Expr} {t : TT} (h : PT X.nox e t) : PT X e t := fun pins s σ H Q I hw =>
  wpAny_mono (h pins s σ H Q (I.wish _) hw) (fun _ _ ⟨H', I', q⟩ => ⟨H', I'.unwish, q⟩) fun _ _ z => False.elim z
theorem PSs.nox {st : List Stmt} {t : TS} (h : PSs X.nox st t) : PSs X st t := fun pins s σ H D I hw =>
  wpAny_mono (h pins s σ H D (I.wish _) hw) (fun _ _ q => q.unwish) fun _ _ z => False.elim z
end

/-! ### blocks and small statements -/
section
variable {X : Cx} {st : Stmt} {rest : List Stmt} {t u : TS} {e : Expr} {te : TE} {pos : Pos}
def tNext : TS := fun D σ H => D.nx σ H
def tSeq (t u : TS) : TS := fun D σ H => t { D with nx := u D } σ H
theorem pss_nil : PSs X [] tNext := fun _ _ σ H _ I h => wpAny_execs_nil ⟨σ, H, I, h⟩
theorem pss_cons (h1 : PS X st t) (h2 : PSs X rest u) : PSs X (st :: rest) (tSeq t u) := by
  intro pins s σ H D I h
  refine wpAny_execs_cons (thn (h1 pins s σ H { D with nx := u D } I h) fun f s1 q => ?_)
  cases f with
  | next =>
    obtain ⟨σ', H', I', q⟩ := q
    exact h2 pins s1 σ' H' D I' q
  | ret v => exact q
  | brk => exact q
  | cont => exact q
theorem pss_one (h1 : PS X st t) : PSs X [st] t := by
  intro pins s σ H D I h
  refine wpAny_execs_cons (thn (h1 pins s σ H D I h) fun f s1 q => ?_)
  cases f with
  | next => exact wpAny_execs_nil q
  | ret v => exact q
  | brk => exact q
  | cont => exact q
def tBreak : TS := fun D σ H => D.bk σ H
def tCont : TS := fun D σ H => D.ct σ H
theorem ps_pass : PS X (.Pass pos) tNext := fun _ _ σ H _ I h => wpAny_Pass ⟨σ, H, I, h⟩
theorem ps_break : PS X (.Break pos) tBreak := fun _ _ σ H _ I h => wpAny_Break ⟨σ, H, I, h⟩
theorem ps_continue : PS X (.Continue pos) tCont := fun _ _ σ H _ I h => wpAny_Continue ⟨σ, H, I, h⟩
/-- in a def's body nothing is shown -/
theorem Inv.quiet {pins : List (Addr × Obj)} {σ : St} {H : Hp} {s : Shared} (I : Inv X pins σ H s) : interactive X.env = false := by simp [interactive, I.ok.kind]
/-- a docstring -/
theorem ps_doc {x j pos pos'} : PS X (.Expr (.Constant (.str x) j pos) pos') tNext := fun _ s σ H _ I h => wpAny_Expr (Calls.Constant_str (show SP X _ _ .next { s with toks := s.toks + 1 } from ⟨σ, H, I.tok _, h⟩)) I.quiet
/-- an expression whose value is dropped -/
def tDrop (te : TE) : TS := fun D σ H => te σ H fun _ H1 => D.nx σ H1
theorem ps_expr (he : PE X e te) (hs : swapsWith e none pos.line X.env = pure false := by rfl) : PS X (.Expr e pos) (tDrop te) := by
  intro pins s σ H D I h
  exact wpAny_Expr_any (thn (he pins s σ H _ I h) fun v s1 ⟨x, H1, I1, r1, q1⟩ => ⟨σ, H1, I1, q1⟩) I.quiet hs
def tRet (te : TE) : TS := fun D σ H => te σ H D.rt
theorem ps_ret (he : PE X e te) : PS X (.Return (some e) pos) (tRet te) := by
  intro pins s σ H D I h
  exact wpAny_Return_some (thn (he pins s σ H _ I h) fun v s1 ⟨x, H1, I1, r1, q1⟩ => ⟨x, σ, H1, I1, r1, q1⟩)
def tRetN : TS := fun D _ H => D.rt .non H
theorem ps_retN : PS X (.Return none pos) tRetN := fun _ _ σ H _ I h => wpAny_Return_none ⟨.non, σ, H, I, rfl, h⟩
def tIfS (c : TT) (t u : TS) : TS := fun D σ H => c σ H fun b H1 => if b = true then t D σ H1 else u D σ H1
theorem ps_if {c : Expr} {a b : List Stmt} {tc : TT} (hc : PT X c tc) (ha : PSs X a t) (hb : PSs X b u) : PS X (.If c a b pos) (tIfS tc t u) := by
  intro pins s σ H D I h
  refine wpAny_If (thn (hc pins s σ H _ I h) fun d s1 ⟨H1, I1, q1⟩ => ?_)
  cases d with
  | true => exact ha pins s1 σ H1 D I1 q1
  | false => exact hb pins s1 σ H1 D I1 q1
/-- code that the proof never comes to -/
def tNever : TS := fun _ _ _ => False
theorem ps_never : PS X st tNever := fun _ _ _ _ _ _ h => h.elim
theorem pss_never {sts : List Stmt} : PSs X sts tNever := fun _ _ _ _ _ _ h => h.elim
end

/-! ### targets -/
abbrev TG := V → St → Hp → (St → Hp → Prop) → Prop
abbrev TGs := List V → St → Hp → (St → Hp → Prop) → Prop
def PG (X : Cx) (target : Expr) (t : TG) : Prop :=
  ∀ (pins : List (Addr × Obj)) (s : Shared) (σ : St) (H : Hp) (v : V) (u : Value) (Q : St → Hp → Prop), Inv X pins σ H s → RelV v u → t v σ H Q →
    wpAny (model X.prog X.w) X.A (assign target X.env u) (fun _ s' => ∃ σ' H', Inv X pins σ' H' s' ∧ Q σ' H') X.xe s
/-- several targets, one after another -/
def PGs (X : Cx) (ts : List Expr) (t : TGs) : Prop :=
  ∀ (pins : List (Addr × Obj)) (s : Shared) (σ : St) (H : Hp) (vs : List V) (us : List Value) (Q : St → Hp → Prop), Inv X pins σ H s → Vals vs us → t vs σ H Q →
    wpAny (model X.prog X.w) X.A (assignInOrder ((assignEach ts X.env).map (·.2)) us) (fun _ s' => ∃ σ' H', Inv X pins σ' H' s' ∧ Q σ' H') X.xe s
/-- o[i] = v, by values -/
abbrev TSet := V → V → V → Hp → (Hp → Prop) → Prop
def PSet (X : Cx) (t : TSet) : Prop :=
  ∀ (pins : List (Addr × Obj)) (s : Shared) (σ : St) (H : Hp) (o i v : V) (ov iv u : Value) (Q : Hp → Prop), Inv X pins σ H s → RelV o ov → RelV i iv → RelV v u → t o i v H Q →
    wpAny (model X.prog X.w) X.A (setItem ov iv u) (fun _ s' => ∃ H', Inv X pins σ H' s' ∧ Q H') X.xe s
/-- a op= b, by values -/
abbrev TIp := V → V → Hp → VK → Prop
def PIp (X : Cx) (op : Operator) (t : TIp) : Prop :=
  ∀ (pins : List (Addr × Obj)) (s : Shared) (σ : St) (H : Hp) (x y : V) (v u : Value) (Q : VK), Inv X pins σ H s → RelV x v → RelV y u → t x y H Q →
    wpAny (model X.prog X.w) X.A (inplaceOp op v u) (EP X pins σ Q) X.xe s
section
variable {X : Cx} {pos : Pos}
def gName (i : Nat) : TG := fun v σ H Q => Q (σ.set i (some v)) H
theorem pg_name {i : Nat} {x : Str} (hN : X.N.Nodup) (hi : X.N[i]? = some x) (hx : Loc X.env.scope x) (hf : X.fn x = true ∨ X.env.scope.names.lookup x = some .local := by first | exact .inl rfl | exact .inr rfl | assumption) : PG X (.Name x pos) (gName i) := by
  intro pins s σ H v u Q I r h
  exact wpAny_assign_Name (store_ok I hN hi hx r (fun s' I' => ⟨_, H, I', h⟩) hf)
def gNil : TGs := fun vs σ H Q => vs = [] ∧ Q σ H
def gCons (t : TG) (u : TGs) : TGs := fun vs σ H Q => ∃ v r, vs = v :: r ∧ t v σ H fun σ' H' => u r σ' H' Q
theorem pgs_nil : PGs X [] gNil := by
  intro pins s σ H vs us Q I r h
  obtain ⟨e, h⟩ := h
  subst e
  cases r
  exact assignInOrder_nil ⟨σ, H, I, h⟩
theorem pgs_cons {e : Expr} {es : List Expr} {t : TG} {u : TGs} (h1 : PG X e t) (h2 : PGs X es u)
    (hs : (assignEach (e :: es) X.env).map (·.2) = assign e X.env :: (assignEach es X.env).map (·.2) := by rfl) : PGs X (e :: es) (gCons t u) := by
  intro pins s σ H vs us Q I r h
  obtain ⟨v, vr, e1, h⟩ := h
  subst e1
  cases r with
  | cons r rr =>
    rw [hs]
    refine assignInOrder_cons (thn (h1 pins s σ H _ _ _ I r h) fun _ s1 ⟨σ1, H1, I1, q1⟩ => ?_)
    exact h2 pins s1 σ1 H1 _ _ Q I1 rr q1
/-- (a, b, ..) = a tuple of that length -/
def gTup (K : PySem.W.Frag) (n : Nat) (t : TGs) : TG := fun v σ H Q => ∃ a xs, v = .ref a ∧ SqT K H a xs ∧ xs.length = n ∧ t xs σ H Q
theorem pg_tup {es : List Expr} {k : Nat} {t : TGs} {n : Nat} (hc : X.calm = true) (h : PGs X es t)
    (hn : (assignEach es X.env).length = n := by rfl) (hst : (assignEach es X.env).findIdx? (·.1) = none := by rfl) : PG X (.Tuple es k pos) (gTup X.K n t) := by
  intro pins s σ H v u Q I r hw
  obtain ⟨a, xs, e1, hq, hl, hw⟩ := hw
  subst e1
  cases r
  obtain ⟨its, rv, ht, hz⟩ := I.tuple hq
  refine assign_Tuple_tuple (I.ok.hd hc) ht (by simp [hn, ← hl, rv.length]) hst fun h' hx => ?_
  have I1 : Inv X pins σ H { s with heap := h' } := I.kept (t' := s.toks) fun b o e => hx b o (Nat.ne_of_lt (Heap.lt_size e)) e
  exact h pins _ σ H xs _ Q I1 (by simpa using rv) hw
/-- o[i] = .. -/
def gSub (to ti : TE) (t : TSet) : TG := fun v σ H Q => to σ H fun o H1 => ti σ H1 fun i H2 => t o i v H2 fun H3 => Q σ H3
theorem pg_sub {o i : Expr} {to ti : TE} {t : TSet} (ho : PE X o to) (hi : PE X i ti) (hs : PSet X t)
    (ha : ∀ v, assign (.Subscript o i pos) X.env v = (do
      let ov ← holding [v] (eval o X.env)
      let iv ← holding [v, ov] (eval i X.env)
      standAt pos
      holding [v, ov, iv] (setItem ov iv v)
      release [v, ov, iv] []) := by intro _; rfl) : PG X (.Subscript o i pos) (gSub to ti t) := by
  intro pins s σ H v u Q I r h
  rw [ha]
  refine wpAny_bind (wpAny_holding (thn (ho pins s σ H _ I h) fun ov s1 ⟨x, H1, I1, r1, q1⟩ => ?_))
  refine wpAny_bind (wpAny_holding (thn (hi pins s1 σ H1 _ I1 q1) fun iv s2 ⟨y, H2, I2, r2, q2⟩ => ?_))
  refine wpAny_bind (wpAny_standAt (wpAny_bind (wpAny_holding (thn (hs pins s2 σ H2 x y v ov iv u _ I2 r1 r2 r q2) fun _ s3 ⟨H3, I3, q3⟩ => ?_))))
  exact wpAny_release ⟨σ, H3, I3, q3⟩
/-- target = value -/
def tAsg (te : TE) (g : TG) : TS := fun D σ H => te σ H fun x H1 => g x σ H1 D.nx
theorem ps_asg {tg e : Expr} {te : TE} {g : TG} (he : PE X e te) (hg : PG X tg g) (hs : swapsWithSole [tg] e pos.line X.env = pure false := by rfl) (hw : swappedStores [tg] e X.env = pure none := by rfl)
    (h1 : (assignEach [tg] X.env).map (·.2) = [assign tg X.env] := by rfl) : PS X (.Assign [tg] e pos) (tAsg te g) := by
  intro pins s σ H D I h
  refine wpAny_Assign_stores (thn (he pins s σ H _ I h) fun v s1 ⟨x, H1, I1, r1, q1⟩ => ?_) hs hw
  rw [h1]
  exact thn (hg pins s1 σ H1 x v _ I1 r1 q1) fun _ s2 q => q
/-- name = value -/
theorem ps_set {i : Nat} {x : Str} {e : Expr} {te : TE} {pos' : Pos} (hN : X.N.Nodup) (hi : X.N[i]? = some x) (hx : Loc X.env.scope x) (he : PE X e te) (hs : swapsWith e (some (.Name x pos')) pos.line X.env = pure false := by rfl) (hf : X.fn x = true ∨ X.env.scope.names.lookup x = some .local := by first | exact .inl rfl | exact .inr rfl | assumption) :
    PS X (.Assign [.Name x pos'] e pos) (tAsg te (gName i)) := by
  intro pins s σ H D I h
  refine wpAny_Assign_Name (thn (he pins s σ H _ I h) fun v s1 ⟨y, H1, I1, r1, q1⟩ => ?_) hs
  exact store_ok I1 hN hi hx r1 (fun s2 I2 => ⟨_, H1, I2, q1⟩) hf
/-- a, b = x, y with plain local names: stored from the right; the pair itself is not tracked (the opening rows as in PyProof/Rows/TupAssign.lean:23) -/
def tPar (i j : Nat) (ta : TA) : TS := fun D σ H => ta σ H fun vs H1 => ∃ v w, vs = [v, w] ∧ D.nx ((σ.set i (some v)).set j (some w)) H1
theorem ps_par {i j : Nat} {x y : Str} {a b : Expr} {ta : TA} {px py pt : Pos} {kt k2 pt2} (hc : X.calm = true) (hN : X.N.Nodup) (hi : X.N[i]? = some x) (hj : X.N[j]? = some y) (hij : i ≠ j)
    (hx : X.env.scope.names.lookup x = some .local) (hy : X.env.scope.names.lookup y = some .local) (ha : PA X [a, b] ta)
    (hw : swappedStores [.Tuple [.Name x px, .Name y py] kt pt] (.Tuple [a, b] k2 pt2) X.env = pure (some [x, y]))
    (hs : swapsWithSole [.Tuple [.Name x px, .Name y py] kt pt] (.Tuple [a, b] k2 pt2) pos.line X.env = pure false := by rfl) :
    PS X (.Assign [.Tuple [.Name x px, .Name y py] kt pt] (.Tuple [a, b] k2 pt2) pos) (tPar i j ta) := by
  intro pins s σ H D I h
  rw [exec_Assign_arm]
  refine wpAny_bind (wpAny_standAt ?_)
  rw [hs]
  refine wpAny_bind (wpAny_pure ?_)
  rw [if_neg (by decide)]
  refine wpAny_bind (Tuple_ (thn (ha _ pins s σ H _ I h) fun us s1 ⟨vs, H1, I1, r1, q1⟩ => ?_))
  obtain ⟨v, w, e1, q1⟩ := q1
  subst e1
  obtain ⟨u1, u2, rfl, rv, rw'⟩ : ∃ u1 u2, us = [u1, u2] ∧ RelV v u1 ∧ RelV w u2 := by
    cases r1 with
    | cons p q =>
      cases q with
      | cons p' q' =>
        cases q'
        exact ⟨_, _, rfl, p, p'⟩
  refine wpAny_newObj_type ?_ (by show 2 ≤ sizeLine; decide)
  have I2 : Inv X pins σ H1 { s1 with heap := s1.heap.push { cls := .type "tuple", data := .seq [u1, u2].toArray } } := I1.kept (t' := s1.toks) fun b o e => Heap.get?_push_of_some _ e
  rw [hw]
  refine wpAny_bind (wpAny_pure ?_)
  show wpAny (model X.prog X.w) X.A (do rule "assign.swapped-stores"; let items ← unpackItems (.ref s1.heap.objs.size) 2 none; assignInOrder [fun v => bindName X.env y v, fun v => bindName X.env x v] items.reverse; pure Flow.next) _ _ _
  refine wpAny_bind (wpAny_rule (wpAny_bind (unpackItems_tuple (items := #[u1, u2]) (I.ok.hd hc) (IsTup.new s1.heap _) fun h' hx' => ?_)))
  have I3 := I2.kept (h' := h') (t' := s1.toks) fun b o e => hx' b o (Nat.ne_of_lt (Heap.lt_size e)) e
  show wpAny _ _ (assignInOrder [fun v => bindName X.env y v, fun v => bindName X.env x v] [u2, u1] >>= fun _ => pure Flow.next) _ _ _
  refine wpAny_bind (assignInOrder_cons (wpAny_bindName (store_ok I3 hN hj (.inl hy) rw' (fun s2 I4 => ?_) (.inr hy))))
  refine assignInOrder_cons (wpAny_bindName (store_ok I4 hN hi (.inl hx) rv (fun s3 I5 => assignInOrder_nil (wpAny_pure ?_)) (.inr hx)))
  rw [List.set_comm _ _ (Ne.symm hij)] at I5
  exact ⟨_, H1, I5, q1⟩
/-- name op= e -/
def tAug (i : Nat) (te : TE) (ti : TIp) : TS := fun D σ H => ∃ x, σ[i]? = some (some x) ∧ te σ H fun y H1 => ti x y H1 fun z H2 => D.nx (σ.set i (some z)) H2
theorem ps_aug {i : Nat} {x : Str} {e : Expr} {te : TE} {op : Operator} {ti : TIp} {pos' : Pos} (hN : X.N.Nodup) (hi : X.N[i]? = some x) (hx : Loc X.env.scope x) (he : PE X e te) (ho : PIp X op ti) (hf : X.fn x = true ∨ X.env.scope.names.lookup x = some .local := by first | exact .inl rfl | exact .inr rfl | assumption) :
    PS X (.AugAssign (.Name x pos') op e pos) (tAug i te ti) := by
  intro pins s σ H D I h
  obtain ⟨v, e1, h⟩ := h
  obtain ⟨m, hn, hl⟩ := I.loc
  have vis : Vis X.env.scope x := by rcases hx with k | k; exact .inl k; exact .inr (.inl k)
  obtain ⟨u, r, l⟩ := hl i x v hi e1 vis
  refine wpAny_AugAssign_Name ?_
  have go : wpAny (model X.prog X.w) X.A (eval e X.env) (fun w s₂ => wpAny (model X.prog X.w) X.A (inplaceOp op u w) (fun r s₃ => wpAny (model X.prog X.w) X.A (storeName X.env x r) (fun _ => SP X pins D .next) X.xe s₃) X.xe s₂) X.xe s := by
    refine thn (he pins s σ H _ I h) fun w s1 ⟨y, H1, I1, r1, q1⟩ => ?_
    refine thn (ho pins s1 σ H1 v y u w _ I1 r r1 q1) fun z s2 ⟨zv, H2, I2, r2, q2⟩ => ?_
    exact store_ok I2 hN hi hx r2 (fun s3 I3 => ⟨_, H2, I3, q2⟩) hf
  rcases l with ⟨hk, hm⟩ | ⟨hk, c, hc, hcell⟩
  · exact wpAny_loadName_local I.ok.kind hk hn hm go
  · rcases hk with hk | hk
    · exact wpAny_loadName_cell I.ok.kind hk hc hcell go
    · rcases hx with k | k
      · have : X.env.scope.names.lookup x = some .free := hk
        rw [k] at this; cases this
      · have : X.env.scope.names.lookup x = some .free := hk
        rw [k] at this; cases this
/-- o[i] op= e -/
def tAugS (to ti te : TE) (tget : V → V → Hp → VK → Prop) (tip : TIp) (tset : TSet) : TS := fun D σ H => to σ H fun o H1 => ti σ H1 fun i H2 => tget o i H2 fun x H3 => te σ H3 fun y H4 => tip x y H4 fun z H5 => tset o i z H5 fun H6 => D.nx σ H6
/-- o[i], by values -/
def PGet (X : Cx) (t : V → V → Hp → VK → Prop) : Prop :=
  ∀ (pins : List (Addr × Obj)) (s : Shared) (σ : St) (H : Hp) (o i : V) (ov iv : Value) (Q : VK), Inv X pins σ H s → RelV o ov → RelV i iv → t o i H Q →
    wpAny (model X.prog X.w) X.A (getItem ov iv) (EP X pins σ Q) X.xe s
theorem ps_augS {o i e : Expr} {to ti te : TE} {tget : V → V → Hp → VK → Prop} {tip : TIp} {tset : TSet} {op : Operator} {tpos : Pos} (ho : PE X o to) (hi : PE X i ti) (hg : PGet X tget) (he : PE X e te) (hp : PIp X op tip) (hs : PSet X tset)
    (ha : ∀ ov iv new, augStore i ov iv new = (do holding [new, ov, iv] (setItem ov iv new); release [new, ov, iv] []; pure .next) := by intros; rfl) : PS X (.AugAssign (.Subscript o i tpos) op e pos) (tAugS to ti te tget tip tset) := by
  intro pins s σ H D I h
  refine wpAny_AugAssign_SubscriptAny (thn (ho pins s σ H _ I h) fun ov s1 ⟨x1, H1, I1, r1, q1⟩ => ?_) ha
  refine thn (hi pins s1 σ H1 _ I1 q1) fun iv s2 ⟨x2, H2, I2, r2, q2⟩ => ?_
  refine thn (hg pins s2 σ H2 x1 x2 ov iv _ I2 r1 r2 q2) fun old s3 ⟨x3, H3, I3, r3, q3⟩ => ?_
  refine thn (he pins s3 σ H3 _ I3 q3) fun v s4 ⟨x4, H4, I4, r4, q4⟩ => ?_
  refine thn (hp pins s4 σ H4 x3 x4 old v _ I4 r3 r4 q4) fun new s5 ⟨x5, H5, I5, r5, q5⟩ => ?_
  exact thn (hs pins s5 σ H5 x1 x2 x5 ov iv new _ I5 r1 r2 r5 q5) fun _ s6 ⟨H6, I6, q6⟩ => ⟨σ, H6, I6, q6⟩
/-- ints -/
def ipI (f : Int → Int → Int) : TIp := fun x y H Q => ∃ i j, x = .int i ∧ y = .int j ∧ Q (.int (f i j)) H
theorem ip_add : PIp X .Add (ipI fun i j => i + j) := by
  intro pins s σ H x y v u Q I r1 r2 h
  obtain ⟨i, j, e1, e2, q⟩ := h
  subst e1; subst e2
  obtain ⟨t, rfl⟩ := r1
  obtain ⟨t', rfl⟩ := r2
  exact iadd_int ⟨.int _, H, I.tok _, ⟨_, rfl⟩, q⟩
theorem ip_sub : PIp X .Sub (ipI fun i j => i - j) := by
  intro pins s σ H x y v u Q I r1 r2 h
  obtain ⟨i, j, e1, e2, q⟩ := h
  subst e1; subst e2
  obtain ⟨t, rfl⟩ := r1
  obtain ⟨t', rfl⟩ := r2
  exact isub_int ⟨.int _, H, I.tok _, ⟨_, rfl⟩, q⟩
end

/-! ### while -/
section
variable {X : Cx} {pos : Pos}
/-- the invariant W with its measure -/
def tWhile (c : TT) (tb : TS) : TS := fun D σ H => ∃ W : Nat → St → Hp → Prop, (∃ m, W m σ H) ∧ ∀ m σ H, W m σ H →
  c σ H fun b H1 => if b = true then ∃ N : St → Hp → Prop, (∀ σ' H', N σ' H' → ∃ m', m' < m ∧ W m' σ' H') ∧ tb { D with nx := N, ct := N, bk := D.nx } σ H1 else D.nx σ H1
theorem ps_while {c : Expr} {body : List Stmt} {tc : TT} {tb : TS} (hp : PassesOwn (model X.prog X.w) X.A X.env X.xe) (hc : PT X c tc) (hb : PSs X body tb) : PS X (.While c body [] pos) (tWhile tc tb) := by
  intro pins s σ H D I h
  obtain ⟨W, ⟨m0, w0⟩, turn⟩ := h
  refine wpAny_While (codeAny_whileLoop (fun n s' => ∃ σ' H', Inv X pins σ' H' s' ∧ W n σ' H') ?_ m0 ⟨σ, H, I, w0⟩)
  rintro n s1 ⟨σ1, H1, I1, w1⟩
  refine wpAny_passesOwn hp (thn (hc pins s1 σ1 H1 _ I1 (turn n σ1 H1 w1)) fun b s2 ⟨H2, I2, q2⟩ => ?_)
  cases b with
  | true =>
    obtain ⟨N, hN, q2⟩ := q2
    rw [if_pos rfl]
    refine wpAny_passesOwn hp (thn (hb pins s2 σ1 H2 _ I2 q2) fun f s3 q3 => ?_)
    cases f with
    | next =>
      obtain ⟨σ3, H3, I3, n3⟩ := q3
      obtain ⟨m', hm, w3⟩ := hN σ3 H3 n3
      exact ⟨m', hm, σ3, H3, I3, w3⟩
    | cont =>
      obtain ⟨σ3, H3, I3, n3⟩ := q3
      obtain ⟨m', hm, w3⟩ := hN σ3 H3 n3
      exact ⟨m', hm, σ3, H3, I3, w3⟩
    | brk => exact q3
    | ret v => exact q3
  | false =>
    rw [if_neg Bool.false_ne_true]
    exact wpAny_execs_nil ⟨σ1, H2, I2, q2⟩
end

/-! ### what a loop or a comprehension walks -/
/-- at turn i: it yields x (the heap may grow), or it stops -/
structure It where
  go : Nat → Hp → Prop
  yld : Nat → Hp → V → Hp → Prop
  stop : Nat → Hp → Prop
/-- the iterator's own objects may turn: they are not the frame's, not pinned, younger than the entry (or a comprehension's own) -/
def FpOk (X : Cx) (pins : List (Addr × Obj)) (H : Hp) (b : Addr) : Prop :=
  H b = none ∧ b ≠ X.env.locals ∧ b ∉ X.fs ∧ (b ∈ X.ex ∨ X.s₀.heap.objs.size ≤ b) ∧ (∀ x c, X.env.cells.lookup x = some c → c ≠ b) ∧ ∀ p ∈ X.pn ++ pins, p.1 ≠ b
theorem Inv.fpOk {X : Cx} {pins : List (Addr × Obj)} {σ : St} {H H' : Hp} {s : Shared} {b : Addr} (I : Inv X pins σ H s) (hb : s.heap.objs.size ≤ b) (hn : H' b = none) : FpOk X pins H' b := by
  refine ⟨hn, Nat.ne_of_gt (Nat.lt_of_lt_of_le I.lt hb), I.nofs hb, .inr (Nat.le_trans I.sz hb), fun x c e z => ?_, fun p hp z => ?_⟩
  · obtain ⟨v, q⟩ := I.cell x c e
    exact absurd (Nat.lt_of_lt_of_le q.lt (by rw [z]; exact hb)) (Nat.lt_irrefl _)
  · exact absurd (Nat.lt_of_lt_of_le (Heap.lt_size (I.pin p hp).1) (by rw [z]; exact hb)) (Nat.lt_irrefl _)
structure Turn (P : Program) (w : World) (K : PySem.W.Frag) (tg : Expr) (J : It) (fp : List Addr) (it : Addr) (tn : Nat → Heap → Prop) : Prop where
  mem : it ∈ fp
  obj : ∀ i h, tn i h → ∀ b ∈ fp, ∃ o, h.get? b = some o ∧ ∀ v, o.data ≠ .cell v
  keep : ∀ i h h', tn i h → (∀ b ∈ fp, ∀ o, h.get? b = some o → h'.get? b = some o) → tn i h'
  item : ∀ (X : Cx), X.prog = P → X.w = w → X.K = K → X.calm = true → ∀ (i : Nat) (pins : List (Addr × Obj)) (s : Shared) (σ : St) (H : Hp) (E : Value → Shared → Prop), Inv X pins σ H s → (∀ b ∈ fp, FpOk X pins H b) → tn i s.heap → J.go i H →
    wpAny (model P w) X.A (pyNext (.ref it)) (fun r s1 => ∃ u, r = some u ∧
      wpAny (model P w) X.A (letOwnedTupleGo tg (.ref it) u) (fun _ s2 => ∃ x H', Inv X pins σ H' s2 ∧ RelV x u ∧ J.yld i H x H' ∧ tn (i + 1) s2.heap ∧ ∀ b ∈ fp, H' b = none) E s1) E s
  done : ∀ (X : Cx), X.prog = P → X.w = w → X.K = K → X.calm = true → ∀ (i : Nat) (pins : List (Addr × Obj)) (s : Shared) (σ : St) (H : Hp) (E : Value → Shared → Prop), Inv X pins σ H s → (∀ b ∈ fp, FpOk X pins H b) → tn i s.heap → J.stop i H →
    wpAny (model P w) X.A (pyNext (.ref it)) (fun r s1 => r = none ∧ Inv X pins σ H s1) E s
  self : ∀ (A : Around) (i : Nat) (s : Shared) (Q : Value → Shared → Prop) (E : Value → Shared → Prop), tn i s.heap → Q (.ref it) s → wpAny (model P w) A (pyIter (.ref it)) Q E s
abbrev TI := St → Hp → (It → Hp → Prop) → Prop
/-- an iterator has come -/
def PIE (X : Cx) (pins : List (Addr × Obj)) (σ : St) (tg : Expr) (R : It → Hp → Prop) (itv : Value) (s2 : Shared) : Prop :=
  ∃ (it : Addr) (fp : List Addr) (tn : Nat → Heap → Prop) (J : It) (H' : Hp), itv = .ref it ∧ Inv X pins σ H' s2 ∧ Turn X.prog X.w X.K tg J fp it tn ∧ tn 0 s2.heap ∧ (∀ b ∈ fp, FpOk X pins H' b) ∧ R J H'
def PI (X : Cx) (tg iter : Expr) (wi : TI) : Prop :=
  ∀ (pins : List (Addr × Obj)) (s : Shared) (σ : St) (H : Hp) (R : It → Hp → Prop), Inv X pins σ H s → wi σ H R →
    wpAny (model X.prog X.w) X.A (eval iter X.env) (fun v s1 => wpAny (model X.prog X.w) X.A (pyIter v) (PIE X pins σ tg R) X.xe s1) X.xe s

/-- the step ahead of the store is nothing for an iterator that keeps no tuple -/
theorem go_of {M : Model} {A : Around} {E : Value → Shared → Prop} {s : Shared} {tg : Expr} {it : Addr} {u : Value} {o : Obj} {n : String} {vs : Array Value} {Q : Unit → Shared → Prop} (ho : s.heap.get? it = some o) (hc : o.cls = .type n) (hd : o.data = .fields vs)
    (hn : ["enumerate", "zip", "dict_itemiterator", "dict_reverseitemiterator", "odict_iterator", "itertools.zip_longest", "itertools.pairwise"].contains n = false) (hQ : Q () s) : wpAny M A (letOwnedTupleGo tg (.ref it) u) Q E s := by
  unfold letOwnedTupleGo
  cases tg <;> first
    | exact wpAny_pure hQ
    | (cases u <;> first
        | exact wpAny_pure hQ
        | (refine wpAny_bind (wpAny_load ho ?_)
           rw [hc, hd]
           show wpAny M A (if (["enumerate", "zip", "dict_itemiterator", "dict_reverseitemiterator", "odict_iterator", "itertools.zip_longest", "itertools.pairwise"].contains n && vs[0]? == some (rawInt _)) = true then _ else _) Q E s
           rw [if_neg (by intro h; rw [hn, Bool.false_and] at h; cases h)]
           exact wpAny_pure hQ))

/-- the list at a, as it stands at each turn (a loop may append to it) -/
def Itl (K : PySem.W.Frag) (a : Addr) : It :=
  ⟨fun i H => ∃ xs x, SqL K H a xs ∧ xs[i]? = some x, fun i H x H' => H' = H ∧ ∀ xs, SqL K H a xs → xs[i]? = some x, fun i H => ∃ xs, SqL K H a xs ∧ xs.length ≤ i⟩
def Itt (K : PySem.W.Frag) (a : Addr) : It :=
  ⟨fun i H => ∃ xs x, SqT K H a xs ∧ xs[i]? = some x, fun i H x H' => H' = H ∧ ∀ xs, SqT K H a xs → xs[i]? = some x, fun i H => ∃ xs, SqT K H a xs ∧ xs.length ≤ i⟩
/-- lo, lo + 1, .. (n of them) -/
def Itr (lo : Int) (n : Nat) : It := ⟨fun i _ => i < n, fun i H x H' => H' = H ∧ x = .int (lo + i), fun i _ => n ≤ i⟩
theorem turn_list {P : Program} {w : World} {K : PySem.W.Frag} {tg : Expr} (a it : Addr) : Turn P w K tg (Itl K a) [it] it (fun i h => h.IsListIter it a i) where
  mem := by simp
  obj := fun i h st b hb => by
    have e : b = it := by simpa using hb
    subst e
    obtain ⟨o, e, c, d⟩ := st
    exact ⟨o, e, fun v z => by rw [d] at z; cases z⟩
  keep := fun i h h' st k => st.at fun o e => k it (by simp) o e
  item := by
    intro X hP hw hK hc i pins s σ H E I hf st hg
    subst hP hw hK
    obtain ⟨xs, x, hq, hx⟩ := hg
    obtain ⟨its, rv, p, hz⟩ := I.list hq
    obtain ⟨u, hu, ru⟩ := rv.get hx
    obtain ⟨f0, f1, f2, f3, f4, f5⟩ := hf it (by simp)
    refine wpAny_pyNext_list_item st p.isList (x := u) (by simpa using hu) fun h' st' sb => ?_
    have I1 : Inv X pins σ H { s with heap := h' } := I.turned (t' := s.toks) (fun b o hb e => (sb.2 b hb).trans e) f0 f1 f3 f4 f5
    obtain ⟨o, e, c, d⟩ := id st'
    exact ⟨u, rfl, go_of (s := { s with heap := h' }) e c d (by decide) ⟨x, H, I1, ru, ⟨rfl, fun ys hy => by rw [I.list_inj hy hq]; exact hx⟩, st', fun b hb => (hf b hb).1⟩⟩
  done := by
    intro X hP hw hK hc i pins s σ H E I hf st hg
    subst hP hw hK
    obtain ⟨xs, hq, hx⟩ := hg
    obtain ⟨its, rv, p, hz⟩ := I.list hq
    obtain ⟨f0, f1, f2, f3, f4, f5⟩ := hf it (by simp)
    have hl := rv.length
    exact wpAny_pyNext_list_end (I.ok.hd hc) st p.isList (by simp; omega) fun h' eb => ⟨rfl, I.turned (t' := s.toks) (fun b o hb e => eb b o hb e) f0 f1 f3 f4 f5⟩
  self := fun _ _ _ _ _ st h => wpAny_pyIter_listiter st h
theorem turn_tuple {P : Program} {w : World} {K : PySem.W.Frag} {tg : Expr} (a it : Addr) : Turn P w K tg (Itt K a) [it] it (fun i h => h.IsTupleIter it a i) where
  mem := by simp
  obj := fun i h st b hb => by
    have e : b = it := by simpa using hb
    subst e
    obtain ⟨o, e, c, d⟩ := st
    exact ⟨o, e, fun v z => by rw [d] at z; cases z⟩
  keep := fun i h h' st k => st.at fun o e => k it (by simp) o e
  item := by
    intro X hP hw hK hc i pins s σ H E I hf st hg
    subst hP hw hK
    obtain ⟨xs, x, hq, hx⟩ := hg
    obtain ⟨its, rv, p, hz⟩ := I.tuple hq
    obtain ⟨u, hu, ru⟩ := rv.get hx
    obtain ⟨f0, f1, f2, f3, f4, f5⟩ := hf it (by simp)
    refine wpAny_pyNext_tuple_item st (show s.heap.IsTuple a its.toArray from p) (x := u) (by simpa using hu) fun h' st' sb => ?_
    have I1 : Inv X pins σ H { s with heap := h' } := I.turned (t' := s.toks) (fun b o hb e => (sb.2 b hb).trans e) f0 f1 f3 f4 f5
    obtain ⟨o, e, c, d⟩ := id st'
    exact ⟨u, rfl, go_of (s := { s with heap := h' }) e c d (by decide) ⟨x, H, I1, ru, ⟨rfl, fun ys hy => by rw [I.tuple_inj hy hq]; exact hx⟩, st', fun b hb => (hf b hb).1⟩⟩
  done := by
    intro X hP hw hK hc i pins s σ H E I hf st hg
    subst hP hw hK
    obtain ⟨xs, hq, hx⟩ := hg
    obtain ⟨its, rv, p, hz⟩ := I.tuple hq
    obtain ⟨f0, f1, f2, f3, f4, f5⟩ := hf it (by simp)
    have hl := rv.length
    exact wpAny_pyNext_tuple_end (I.ok.hd hc) st (show s.heap.IsTuple a its.toArray from p) (by simp; omega) fun h' eb => ⟨rfl, I.turned (t' := s.toks) (fun b o hb e => eb b o hb e) f0 f1 f3 f4 f5⟩
  self := fun _ _ _ _ _ st h => wpAny_pyIter_tupleiter st h
theorem turn_range {P : Program} {w : World} {K : PySem.W.Frag} {tg : Expr} (it : Addr) (lo : Int) (n : Nat) : Turn P w K tg (Itr lo n) [it] it (fun i h => IsRangeIter h it (lo + (i : Nat) * 1) ((n : Int) - (i : Nat)) 1) where
  mem := by simp
  obj := fun i h st b hb => by
    have e : b = it := by simpa using hb
    subst e
    exact ⟨_, st, fun v z => by
      have z' : Data.fields _ = Data.cell v := z
      cases z'⟩
  keep := fun i h h' st k => k it (by simp) _ st
  item := by
    intro X hP hw hK hc i pins s σ H E I hf st hg
    subst hP hw hK
    obtain ⟨f0, f1, f2, f3, f4, f5⟩ := hf it (by simp)
    have W := Walks.range (prog := X.prog) (w := X.w) (I.ok.hd hc) it lo 1 n
    refine W.item i s _ _ hg st fun v h' tk hv st' kk => ?_
    obtain ⟨t, rfl⟩ := hv
    have I1 : Inv X pins σ H { s with heap := h', toks := tk } := I.turned (fun b o hb e => kk b o (by simpa using hb) e) f0 f1 f3 f4 f5
    refine ⟨_, rfl, go_of (s := { s with heap := h', toks := tk }) (n := "range_iterator") st' rfl rfl (by decide) ⟨.int (lo + i), H, I1, ⟨t, ?_⟩, ⟨rfl, rfl⟩, st', fun b hb => (hf b hb).1⟩⟩
    rw [Int.mul_one]
  done := by
    intro X hP hw hK hc i pins s σ H E I hf st hg
    subst hP hw hK
    obtain ⟨f0, f1, f2, f3, f4, f5⟩ := hf it (by simp)
    exact wpAny_pyNext_range_end (I.ok.hd hc) st (by have : n ≤ i := hg; omega) fun h' eb => ⟨rfl, I.turned (t' := s.toks) (fun b o hb e => eb b o hb e) f0 f1 f3 f4 f5⟩
  self := fun _ _ _ _ _ st h => wpAny_pyIter_rangeiter st h
end L2

namespace L2
open PySem PySem.Spec PyProof.Rows
section
variable {X : Cx} {tg : Expr}
def iList (K : PySem.W.Frag) (tl : TE) : TI := fun σ H R => tl σ H fun x H1 => ∃ a, x = .ref a ∧ (∃ xs, SqL K H1 a xs) ∧ R (Itl K a) H1
def iTup (K : PySem.W.Frag) (tl : TE) : TI := fun σ H R => tl σ H fun x H1 => ∃ a, x = .ref a ∧ (∃ xs, SqT K H1 a xs) ∧ R (Itt K a) H1
theorem pi_list {l : Expr} {tl : TE} (hl : PE X l tl) : PI X tg l (iList X.K tl) := by
  intro pins s σ H R I h
  refine thn (hl pins s σ H _ I h) fun v s1 ⟨x, H1, I1, r1, q1⟩ => ?_
  obtain ⟨a, e, ⟨xs, hq⟩, q⟩ := q1
  subst e
  cases r1
  obtain ⟨its, rv, p, hz⟩ := I1.list hq
  refine wpAny_pyIter_list p.isList ?_
  refine ⟨s1.heap.objs.size, [s1.heap.objs.size], _, _, H1, rfl, I1.kept (t' := s1.toks) fun b o e => Heap.get?_push_of_some _ e, turn_list a _, ⟨_, Heap.get?_push_size _ rfl, rfl, rfl⟩, fun b hb => ?_, q⟩
  have e : b = s1.heap.objs.size := by simpa using hb
  subst e
  exact I1.fpOk (Nat.le_refl _) (I1.hok.fresh (Nat.le_refl _))
theorem pi_tup {l : Expr} {tl : TE} (hl : PE X l tl) : PI X tg l (iTup X.K tl) := by
  intro pins s σ H R I h
  refine thn (hl pins s σ H _ I h) fun v s1 ⟨x, H1, I1, r1, q1⟩ => ?_
  obtain ⟨a, e, ⟨xs, hq⟩, q⟩ := q1
  subst e
  cases r1
  obtain ⟨its, rv, p, hz⟩ := I1.tuple hq
  refine wpAny_pyIter_tuple (show s1.heap.IsTuple a its.toArray from p) ?_
  refine ⟨s1.heap.objs.size, [s1.heap.objs.size], _, _, H1, rfl, I1.kept (t' := s1.toks) fun b o e => Heap.get?_push_of_some _ e, turn_tuple a _, ⟨_, Heap.get?_push_size _ rfl, rfl, rfl⟩, fun b hb => ?_, q⟩
  have e : b = s1.heap.objs.size := by simpa using hb
  subst e
  exact I1.fpOk (Nat.le_refl _) (I1.hok.fresh (Nat.le_refl _))
/-- a range object just made, walked -/
theorem range_it {pins : List (Addr × Obj)} {σ : St} {H : Hp} {s : Shared} {R : It → Hp → Prop} {E : Value → Shared → Prop} {lo hi : Int} {t u v : Tok} {tk : Nat} (I : Inv X pins σ H s) (h1 : -(2 ^ 62) ≤ lo) (h2 : lo < 2 ^ 62) (h3 : -(2 ^ 62) ≤ hi) (h4 : hi < 2 ^ 62)
    (q : R (Itr lo (hi - lo).toNat) H) : wpAny (model X.prog X.w) X.A (pyIter (.ref s.heap.objs.size)) (PIE X pins σ tg R) E { s with heap := s.heap.push { cls := .type "range", data := .fields #[.int lo t, .int hi u, .int 1 v] }, toks := tk } := by
  refine wpAny_pyIter_range (IsRange.new ..) (small_one h1 h2 h3 h4) ?_
  have I1 : Inv X pins σ H { s with heap := s.heap.push { cls := .type "range", data := .fields #[.int lo t, .int hi u, .int 1 v] }, toks := tk } := I.kept fun b o e => Heap.get?_push_of_some _ e
  refine ⟨(s.heap.push { cls := .type "range", data := .fields #[.int lo t, .int hi u, .int 1 v] }).objs.size, [(s.heap.push { cls := .type "range", data := .fields #[.int lo t, .int hi u, .int 1 v] }).objs.size], _, _, H, rfl,
    I1.kept (t' := tk) fun b o e => Heap.get?_push_of_some _ e, turn_range _ lo (hi - lo).toNat, ?_, fun b hb => ?_, q⟩
  · have e1 : lo + ((0 : Nat) : Int) * 1 = lo := by simp
    have e2 : (((hi - lo).toNat : Nat) : Int) - ((0 : Nat) : Int) = Builtin.Range.rangeSize lo hi 1 := by rw [rangeSize_one]; split <;> omega
    show IsRangeIter _ _ (lo + ((0 : Nat) : Int) * 1) ((((hi - lo).toNat : Nat) : Int) - ((0 : Nat) : Int)) 1
    rw [e1, e2]
    exact Heap.get?_push_size _ rfl
  · have e : b = (s.heap.push { cls := .type "range", data := .fields #[.int lo t, .int hi u, .int 1 v] }).objs.size := by simpa using hb
    subst e
    exact I1.fpOk (Nat.le_refl _) (I1.hok.fresh (Nat.le_refl _))
def iRng1 (ta : TA) : TI := fun σ H R => ta σ H fun vs H1 => ∃ j : Int, vs = [.int j] ∧ -(2 ^ 62) ≤ j ∧ j < 2 ^ 62 ∧ R (Itr 0 j.toNat) H1
def iRng2 (ta : TA) : TI := fun σ H R => ta σ H fun vs H1 => ∃ i j : Int, vs = [.int i, .int j] ∧ (-(2 ^ 62) ≤ i ∧ i < 2 ^ 62 ∧ -(2 ^ 62) ≤ j ∧ j < 2 ^ 62) ∧ R (Itr i (j - i).toNat) H1
theorem pi_range1 {a : Expr} {ta : TA} {p pos : Pos} (hg : Gl X "range") (hm : X.mg "range" = none) (ha : PA X [a] ta) (hs : starEach [a] X.env = [(false, eval a X.env)] := by rfl) : PI X tg (.Call (.Name "range" p) [a] [] pos) (iRng1 ta) := by
  intro pins s σ H R I h
  refine Call_ (ld_blt I hg hm boot_range (PyProof.Rows.callWith_type1 (thn (ha pos pins s σ H _ I h) fun us s1 ⟨vs, H1, I1, r1, q1⟩ => ?_) hs rfl))
  obtain ⟨j, e, q1, q2, q⟩ := q1
  subst e
  cases r1 with
  | cons r rr =>
    cases rr
    obtain ⟨t, rfl⟩ := r
    exact call_range_1 (range_it I1 (by omega) (by omega) q1 q2 (by simpa using q))
theorem pi_range2 {a b : Expr} {ta : TA} {p pos : Pos} (hg : Gl X "range") (hm : X.mg "range" = none) (ha : PA X [a, b] ta) (hs : starEach [a, b] X.env = [(false, eval a X.env), (false, eval b X.env)] := by rfl) (hs2 : starEach [b] X.env = [(false, eval b X.env)] := by rfl) :
    PI X tg (.Call (.Name "range" p) [a, b] [] pos) (iRng2 ta) := by
  intro pins s σ H R I h
  refine Call_ (ld_blt I hg hm boot_range (PyProof.Rows.callWith_type1 (thn (ha pos pins s σ H _ I h) fun us s1 ⟨vs, H1, I1, r1, q1⟩ => ?_) (by rw [hs, hs2]) (by rw [hs2]; rfl)))
  obtain ⟨i, j, e, ⟨q1, q2, q3, q4⟩, q⟩ := q1
  subst e
  cases r1 with
  | cons r rr =>
    cases rr with
    | cons r' rr =>
      cases rr
      obtain ⟨t, rfl⟩ := r
      obtain ⟨t', rfl⟩ := r'
      exact call_range_2 (range_it I1 q1 q2 q3 q4 q)

/-! ### for -/
/-- W: the invariant by the turn and a measure; N: what the body is to reach -/
def tFor (wi : TI) (g : TG) (tb : TS) : TS := fun D σ H => wi σ H fun J H1 => ∃ W : Nat → Nat → St → Hp → Prop, (∃ m, W 0 m σ H1) ∧ ∀ i m σ H, W i m σ H →
  (J.stop i H ∧ D.nx σ H) ∨ (J.go i H ∧ ∃ N : St → Hp → Prop, (∀ σ' H', N σ' H' → ∃ m', m' < m ∧ W (i + 1) m' σ' H') ∧ ∀ x H', J.yld i H x H' → g x σ H' fun σ2 H2 => tb { D with nx := N, ct := N, bk := D.nx } σ2 H2)
/-- the records at fp as they stand -/
def pinsAt (fp : List Addr) (h : Heap) : List (Addr × Obj) := fp.filterMap fun b => (h.get? b).map fun o => (b, o)
theorem mem_pinsAt {fp : List Addr} {h : Heap} {b : Addr} {o : Obj} (hb : b ∈ fp) (e : h.get? b = some o) : (b, o) ∈ pinsAt fp h := List.mem_filterMap.mpr ⟨b, hb, by rw [e]; rfl⟩
theorem of_pinsAt {fp : List Addr} {h : Heap} {p : Addr × Obj} (hp : p ∈ pinsAt fp h) : p.1 ∈ fp ∧ h.get? p.1 = some p.2 := by
  obtain ⟨b, hb, e⟩ := List.mem_filterMap.mp hp
  cases q : h.get? b with
  | none => rw [q] at e; cases e
  | some o =>
    rw [q] at e
    have e' : (b, o) = p := Option.some.inj e
    subst e'
    exact ⟨hb, q⟩
theorem Inv.pinned {pins : List (Addr × Obj)} {σ : St} {H : Hp} {s : Shared} {fp : List Addr} (I : Inv X pins σ H s) (hf : ∀ b ∈ fp, FpOk X pins H b) (ho : ∀ b ∈ fp, ∃ o, s.heap.get? b = some o ∧ ∀ v, o.data ≠ .cell v) : Inv X (pins ++ pinsAt fp s.heap) σ H s :=
  I.pins_of fun p hp => (List.mem_append.mp hp).elim (fun z => I.pin p (List.mem_append_right _ z)) fun z => by
    obtain ⟨hb, e⟩ := of_pinsAt z
    obtain ⟨f0, f1, f2, _⟩ := hf p.1 hb
    obtain ⟨o, e', d⟩ := ho p.1 hb
    rw [e] at e'; cases e'
    exact ⟨e, f0, f1, f2, d⟩
theorem Inv.unpinned {pins pl : List (Addr × Obj)} {σ : St} {H : Hp} {s : Shared} (I : Inv X (pins ++ pl) σ H s) : Inv X pins σ H s := I.pins_of fun p hp => I.pin p (List.mem_append_right _ (List.mem_append_left _ hp))
theorem ps_for {iter : Expr} {body : List Stmt} {wi : TI} {g : TG} {tb : TS} {pos : Pos} (hp : PassesOwn (model X.prog X.w) X.A X.env X.xe) (hc : X.calm = true) (hi : PI X tg iter wi) (hg : PG X tg g) (hb : PSs X body tb)
    (hs : ∀ x, foldedSetIterable iter X.env x = pure x := by intro _; rfl) : PS X (.For tg iter body [] pos) (tFor wi g tb) := by
  intro pins s σ H D I h
  refine wpAny_For (thn (hi pins s σ H _ I h) fun v s1 h1 => thn h1 fun itv s2 h2 => ?_) hs
  obtain ⟨it, fp, tn, J, H2, e, I2, T, st2, f2, W, ⟨m0, w0⟩, turn⟩ := h2
  subst e
  -- what stays true of the iterator's objects through the loop
  have stat : ∀ {H' : Hp}, (∀ b ∈ fp, H' b = none) → ∀ b ∈ fp, FpOk X pins H' b := fun hn b hb => ⟨hn b hb, (f2 b hb).2⟩
  refine codeAny_forLoop_any (fun n s' => ∃ i σ' H', Inv X pins σ' H' s' ∧ tn i s'.heap ∧ (∀ b ∈ fp, H' b = none) ∧ W i n σ' H') ?_ m0 ⟨0, σ, H2, I2, st2, fun b hb => (f2 b hb).1, w0⟩
  rintro n s3 ⟨i, σ3, H3, I3, st3, fr3, w3⟩
  rcases turn i n σ3 H3 w3 with ⟨stop, qn⟩ | ⟨go, N, hN, step⟩
  · refine wpAny_passesOwn hp (thn (T.done X rfl rfl rfl hc i pins s3 σ3 H3 X.xe I3 (stat fr3) st3 stop) fun r s4 ⟨hr, I4⟩ => ?_)
    subst hr
    exact wpAny_execs_nil ⟨σ3, H3, I4, qn⟩
  · refine wpAny_passesOwn hp (thn (T.item X rfl rfl rfl hc i pins s3 σ3 H3 X.xe I3 (stat fr3) st3 go) fun r s4 ⟨u, hr, h4⟩ => ?_)
    subst hr
    refine wpAny_passesOwn hp (thn h4 fun _ s5 ⟨x, H5, I5, r5, y5, st5, fr5⟩ => ?_)
    have I5' := I5.pinned (stat fr5) (T.obj _ _ st5)
    refine wpAny_passesOwn hp (thn (hg _ s5 σ3 H5 x u _ I5' r5 (step x H5 y5)) fun _ s6 ⟨σ6, H6, I6, q6⟩ => ?_)
    refine wpAny_passesOwn hp (thn (hb _ s6 σ6 H6 _ I6 q6) fun f s7 q7 => ?_)
    have again : ∀ {σ7 : St} {H7 : Hp}, Inv X (pins ++ pinsAt fp s5.heap) σ7 H7 s7 → N σ7 H7 → ∃ m, m < n ∧ ∃ i σ' H', Inv X pins σ' H' s7 ∧ tn i s7.heap ∧ (∀ b ∈ fp, H' b = none) ∧ W i m σ' H' := fun {σ7 H7} I7 n7 => by
      obtain ⟨m', hm, w7⟩ := hN σ7 H7 n7
      refine ⟨m', hm, i + 1, σ7, H7, I7.unpinned, T.keep _ _ _ st5 fun b hb o e => (I7.pin (b, o) (List.mem_append_right _ (List.mem_append_right _ (mem_pinsAt hb e)))).1, fun b hb => ?_, w7⟩
      obtain ⟨o, e, d⟩ := T.obj _ _ st5 b hb
      exact (I7.pin (b, o) (List.mem_append_right _ (List.mem_append_right _ (mem_pinsAt hb e)))).2.1
    cases f with
    | next => obtain ⟨σ7, H7, I7, n7⟩ := q7; exact again I7 n7
    | cont => obtain ⟨σ7, H7, I7, n7⟩ := q7; exact again I7 n7
    | brk => obtain ⟨σ7, H7, I7, q7⟩ := q7; exact ⟨σ7, H7, I7.unpinned, q7⟩
    | ret v => obtain ⟨x7, σ7, H7, I7, r7, q7⟩ := q7; exact ⟨x7, σ7, H7, I7.unpinned, r7, q7⟩
end

/-! ### the forms one uses -/
/-- over a list that the body leaves as it is -/
theorem for_list {K : PySem.W.Frag} {a : Addr} {xs : List V} {g : TG} {tb : TS} {D : Ends} {σ : St} {H : Hp} (Pv : Nat → St → Hp → Prop) (h0 : Pv 0 σ H) (hl : ∀ i σ H, i ≤ xs.length → Pv i σ H → SqL K H a xs)
    (hs : ∀ i x σ H, xs[i]? = some x → Pv i σ H → g x σ H fun σ2 H2 => tb { D with nx := Pv (i + 1), ct := Pv (i + 1), bk := D.nx } σ2 H2) (hd : ∀ σ H, Pv xs.length σ H → D.nx σ H) :
    ∃ W : Nat → Nat → St → Hp → Prop, (∃ m, W 0 m σ H) ∧ ∀ i m σ H, W i m σ H →
      ((Itl K a).stop i H ∧ D.nx σ H) ∨ ((Itl K a).go i H ∧ ∃ N : St → Hp → Prop, (∀ σ' H', N σ' H' → ∃ m', m' < m ∧ W (i + 1) m' σ' H') ∧ ∀ x H', (Itl K a).yld i H x H' → g x σ H' fun σ2 H2 => tb { D with nx := N, ct := N, bk := D.nx } σ2 H2) := by
  refine ⟨fun i m σ H => m = xs.length - i ∧ i ≤ xs.length ∧ Pv i σ H, ⟨xs.length, by simp, Nat.zero_le _, h0⟩, ?_⟩
  rintro i m σ H ⟨rfl, hi, p⟩
  have q := hl i σ H hi p
  by_cases hlt : i < xs.length
  · refine .inr ⟨⟨xs, xs[i], q, by simp [hlt]⟩, Pv (i + 1), fun σ' H' p' => ⟨xs.length - (i + 1), by omega, rfl, hlt, p'⟩, fun x H' y => ?_⟩
    obtain ⟨e, y⟩ := y
    subst e
    exact hs i x σ _ (y xs q) p
  · have e : i = xs.length := by omega
    subst e
    exact .inl ⟨⟨xs, q, Nat.le_refl _⟩, hd σ H p⟩
theorem for_tup {K : PySem.W.Frag} {a : Addr} {xs : List V} {g : TG} {tb : TS} {D : Ends} {σ : St} {H : Hp} (Pv : Nat → St → Hp → Prop) (h0 : Pv 0 σ H) (hl : ∀ i σ H, i ≤ xs.length → Pv i σ H → SqT K H a xs)
    (hs : ∀ i x σ H, xs[i]? = some x → Pv i σ H → g x σ H fun σ2 H2 => tb { D with nx := Pv (i + 1), ct := Pv (i + 1), bk := D.nx } σ2 H2) (hd : ∀ σ H, Pv xs.length σ H → D.nx σ H) :
    ∃ W : Nat → Nat → St → Hp → Prop, (∃ m, W 0 m σ H) ∧ ∀ i m σ H, W i m σ H →
      ((Itt K a).stop i H ∧ D.nx σ H) ∨ ((Itt K a).go i H ∧ ∃ N : St → Hp → Prop, (∀ σ' H', N σ' H' → ∃ m', m' < m ∧ W (i + 1) m' σ' H') ∧ ∀ x H', (Itt K a).yld i H x H' → g x σ H' fun σ2 H2 => tb { D with nx := N, ct := N, bk := D.nx } σ2 H2) := by
  refine ⟨fun i m σ H => m = xs.length - i ∧ i ≤ xs.length ∧ Pv i σ H, ⟨xs.length, by simp, Nat.zero_le _, h0⟩, ?_⟩
  rintro i m σ H ⟨rfl, hi, p⟩
  have q := hl i σ H hi p
  by_cases hlt : i < xs.length
  · refine .inr ⟨⟨xs, xs[i], q, by simp [hlt]⟩, Pv (i + 1), fun σ' H' p' => ⟨xs.length - (i + 1), by omega, rfl, hlt, p'⟩, fun x H' y => ?_⟩
    obtain ⟨e, y⟩ := y
    subst e
    exact hs i x σ _ (y xs q) p
  · have e : i = xs.length := by omega
    subst e
    exact .inl ⟨⟨xs, q, Nat.le_refl _⟩, hd σ H p⟩
theorem for_range {lo : Int} {n : Nat} {g : TG} {tb : TS} {D : Ends} {σ : St} {H : Hp} (Pv : Nat → St → Hp → Prop) (h0 : Pv 0 σ H)
    (hs : ∀ i σ H, i < n → Pv i σ H → g (.int (lo + i)) σ H fun σ2 H2 => tb { D with nx := Pv (i + 1), ct := Pv (i + 1), bk := D.nx } σ2 H2) (hd : ∀ σ H, Pv n σ H → D.nx σ H) :
    ∃ W : Nat → Nat → St → Hp → Prop, (∃ m, W 0 m σ H) ∧ ∀ i m σ H, W i m σ H →
      ((Itr lo n).stop i H ∧ D.nx σ H) ∨ ((Itr lo n).go i H ∧ ∃ N : St → Hp → Prop, (∀ σ' H', N σ' H' → ∃ m', m' < m ∧ W (i + 1) m' σ' H') ∧ ∀ x H', (Itr lo n).yld i H x H' → g x σ H' fun σ2 H2 => tb { D with nx := N, ct := N, bk := D.nx } σ2 H2) := by
  refine ⟨fun i m σ H => m = n - i ∧ i ≤ n ∧ Pv i σ H, ⟨n, by simp, Nat.zero_le _, h0⟩, ?_⟩
  rintro i m σ H ⟨rfl, hi, p⟩
  by_cases hlt : i < n
  · refine .inr ⟨hlt, Pv (i + 1), fun σ' H' p' => ⟨n - (i + 1), by omega, rfl, hlt, p'⟩, fun x H' y => ?_⟩
    obtain ⟨e, y⟩ := y
    subst e y
    exact hs i σ _ hlt p
  · have e : i = n := by omega
    subst e
    exact .inl ⟨Nat.le_refl _, hd σ H p⟩
/-- while, by a word and a measure of the state -/
theorem while_by {c : TT} {tb : TS} {D : Ends} {σ : St} {H : Hp} (Pv : St → Hp → Prop) (μ : St → Hp → Nat) (h0 : Pv σ H)
    (hs : ∀ σ H, Pv σ H → c σ H fun b H1 => if b = true then tb { D with nx := fun σ' H' => Pv σ' H' ∧ μ σ' H' < μ σ H, ct := fun σ' H' => Pv σ' H' ∧ μ σ' H' < μ σ H, bk := D.nx } σ H1 else D.nx σ H1)
    (mono : ∀ σ H Q Q', (∀ b H1, Q b H1 → Q' b H1) → c σ H Q → c σ H Q') : tWhile c tb D σ H := by
  refine ⟨fun m σ H => m = μ σ H ∧ Pv σ H, ⟨_, rfl, h0⟩, ?_⟩
  rintro m σ H ⟨rfl, p⟩
  refine mono σ H _ _ (fun b H1 q => ?_) (hs σ H p)
  cases b with
  | true => exact ⟨_, fun σ' H' ⟨p', l⟩ => ⟨_, l, rfl, p'⟩, q⟩
  | false => exact q
end L2

namespace L2
open PySem PySem.Spec PyProof.Rows

abbrev R2 := V → V → Hp → VK → Prop
/-- a two-place operation on values: f is binaryOp op, inplaceOp op or compareOp op -/
def OpR (X : Cx) (f : Value → Value → Sem Value) (r : R2) : Prop :=
  ∀ (pins : List (Addr × Obj)) (s : Shared) (σ : St) (H : Hp) (x y : V) (v u : Value) (Q : VK), Inv X pins σ H s → RelV x v → RelV y u → r x y H Q →
    wpAny (model X.prog X.w) X.A (f v u) (EP X pins σ Q) X.xe s
/-- a one-place operation -/
def UnR (X : Cx) (f : Value → Sem Value) (r : V → Hp → VK → Prop) : Prop :=
  ∀ (pins : List (Addr × Obj)) (s : Shared) (σ : St) (H : Hp) (x : V) (v : Value) (Q : VK), Inv X pins σ H s → RelV x v → r x H Q →
    wpAny (model X.prog X.w) X.A (f v) (EP X pins σ Q) X.xe s
/-- a call of a value that is known (a builtin, a type) with values -/
def CallR (X : Cx) (f : Value) (r : List V → Hp → VK → Prop) : Prop :=
  ∀ (pins : List (Addr × Obj)) (s : Shared) (σ : St) (H : Hp) (xs : List V) (us : List Value) (Q : VK), Inv X pins σ H s → Vals xs us → r xs H Q →
    wpAny (model X.prog X.w) X.A (call f us) (EP X pins σ Q) X.xe s
/-- a value's truth -/
def TruR (X : Cx) (r : V → Hp → (Bool → Hp → Prop) → Prop) : Prop :=
  ∀ (pins : List (Addr × Obj)) (s : Shared) (σ : St) (H : Hp) (x : V) (v : Value) (Q : Bool → Hp → Prop), Inv X pins σ H s → RelV x v → r x H Q →
    wpAny (model X.prog X.w) X.A (truthy v) (TP X pins σ Q) X.xe s

def tOp (r : R2) (ta tb : TE) : TE := fun σ H Q => ta σ H fun x H1 => tb σ H1 fun y H2 => r x y H2 Q
def tUn (r : V → Hp → VK → Prop) (ta : TE) : TE := fun σ H Q => ta σ H fun x H1 => r x H1 Q
/-- ints in, under C, and a value out -/
def rI (C : Int → Int → Prop) (g : Int → Int → V) : R2 := fun x y H Q => ∃ i j, x = .int i ∧ y = .int j ∧ C i j ∧ Q (g i j) H
def rI0 (g : Int → Int → V) : R2 := fun x y H Q => ∃ i j, x = .int i ∧ y = .int j ∧ Q (g i j) H
def rU (g : Int → V) : V → Hp → VK → Prop := fun x H Q => ∃ i, x = .int i ∧ Q (g i) H

section
variable {X : Cx} {a b c : Expr} {ta tb tc : TE} {pos : Pos}

theorem binT (ha : PE X a ta) (hb : PE X b tb) {pins : List (Addr × Obj)} {s : Shared} {σ : St} {H : Hp} {R : V → V → Hp → Prop} (I : Inv X pins σ H s)
    (h : ta σ H fun x H1 => tb σ H1 fun y H2 => R x y H2) {Q : Value → Shared → Prop} {f : Value → Value → Sem Value}
    (hf : ∀ v u s2 x y H2, Inv X pins σ H2 s2 → RelV x v → RelV y u → R x y H2 → wpAny (model X.prog X.w) X.A (f v u) Q X.xe s2) :
    wpAny (model X.prog X.w) X.A (eval a X.env) (fun v s₁ => wpAny (model X.prog X.w) X.A (eval b X.env) (fun u s₂ => wpAny (model X.prog X.w) X.A (f v u) Q X.xe s₂) X.xe s₁) X.xe s := by
  refine thn (ha pins s σ H _ I h) fun v s1 ⟨x, H1, I1, r1, q1⟩ => ?_
  refine thn (hb pins s1 σ H1 _ I1 q1) fun u s2 ⟨y, H2, I2, r2, q2⟩ => ?_
  exact hf v u s2 x y H2 I2 r1 r2 q2

theorem pe_op {op : Operator} {r : R2} (ho : OpR X (binaryOp op) r) (ha : PE X a ta) (hb : PE X b tb) : PE X (.BinOp a op b pos) (tOp r ta tb) := by
  intro pins s σ H Q I h
  exact wpAny_BinOp (binT ha hb I h fun v u s2 x y H2 I2 rx ry q => ho pins s2 σ H2 x y v u Q I2 rx ry q)
theorem pe_un {op : UnaryOp} {r : V → Hp → VK → Prop} (ho : UnR X (unaryOp op) r) (ha : PE X a ta) : PE X (.UnaryOp op a pos) (tUn r ta) := by
  intro pins s σ H Q I h
  exact UnaryOp_ (thn (ha pins s σ H _ I h) fun v s1 ⟨x, H1, I1, r1, q1⟩ => ho pins s1 σ H1 x v Q I1 r1 q1)
/-- a op= e at a name: the name's slot i -/
theorem augR {op : Operator} {r : R2} (ho : OpR X (inplaceOp op) r) {pins : List (Addr × Obj)} {s : Shared} {σ : St} {H : Hp} {x y : V} {v u : Value} {Q : VK} (I : Inv X pins σ H s)
    (rx : RelV x v) (ry : RelV y u) (q : r x y H Q) : wpAny (model X.prog X.w) X.A (inplaceOp op v u) (EP X pins σ Q) X.xe s := ho pins s σ H x y v u Q I rx ry q

/-! ### ints -/
theorem opI {f : Value → Value → Sem Value} {C : Int → Int → Prop} {g : Int → Int → Int}
    (rule : ∀ (i j : Int) (t u : Tok) (s : Shared) (Q : Value → Shared → Prop) (E : Value → Shared → Prop), C i j → Q (.int (g i j) s.toks) { s with toks := s.toks + 1 } → wpAny (model X.prog X.w) X.A (f (.int i t) (.int j u)) Q E s) :
    OpR X f (rI C fun i j => .int (g i j)) := by
  intro pins s σ H x y v u Q I rx ry h
  obtain ⟨i, j, rfl, rfl, hc, q⟩ := h
  obtain ⟨t, rfl⟩ := rx
  obtain ⟨t', rfl⟩ := ry
  exact rule i j t t' s _ _ hc ⟨.int (g i j), H, I.tok _, ⟨_, rfl⟩, q⟩
theorem opI0 {f : Value → Value → Sem Value} {g : Int → Int → Int}
    (rule : ∀ (i j : Int) (t u : Tok) (s : Shared) (Q : Value → Shared → Prop) (E : Value → Shared → Prop), Q (.int (g i j) s.toks) { s with toks := s.toks + 1 } → wpAny (model X.prog X.w) X.A (f (.int i t) (.int j u)) Q E s) :
    OpR X f (rI0 fun i j => .int (g i j)) := by
  intro pins s σ H x y v u Q I rx ry h
  obtain ⟨i, j, rfl, rfl, q⟩ := h
  obtain ⟨t, rfl⟩ := rx
  obtain ⟨t', rfl⟩ := ry
  exact rule i j t t' s _ _ ⟨.int (g i j), H, I.tok _, ⟨_, rfl⟩, q⟩
theorem opB0 {f : Value → Value → Sem Value} {g : Int → Int → Bool}
    (rule : ∀ (i j : Int) (t u : Tok) (s : Shared) (Q : Value → Shared → Prop) (E : Value → Shared → Prop), Q (.bool (g i j)) s → wpAny (model X.prog X.w) X.A (f (.int i t) (.int j u)) Q E s) :
    OpR X f (rI0 fun i j => .bl (g i j)) := by
  intro pins s σ H x y v u Q I rx ry h
  obtain ⟨i, j, rfl, rfl, q⟩ := h
  obtain ⟨t, rfl⟩ := rx
  obtain ⟨t', rfl⟩ := ry
  exact rule i j t t' s _ _ ⟨.bl (g i j), H, I, rfl, q⟩

def CDiv (i j : Int) : Prop := 0 < j ∧ j < 1073741824
def CDivN (i j : Int) : Prop := j ≠ 0 ∧ j.natAbs < 1073741824
def CPow (i j : Int) : Prop := 0 ≤ j ∧ j ≤ 1000000 ∧ i.natAbs < 2 ^ 64
def CMul (i j : Int) : Prop := (-(2 ^ 64) < i ∧ i < 2 ^ 64) ∨ (-(2 ^ 64) < j ∧ j < 2 ^ 64)
theorem CMul.ok {i j : Int} (h : CMul i j) : IntMulOk i j := by
  rcases h with ⟨h1, h2⟩ | ⟨h1, h2⟩
  · exact .of_left (intBits_le_64 h1 h2)
  · exact .of_right (intBits_le_64 h1 h2)
theorem two_pow_nn (k : Nat) : (0 : Int) ≤ 2 ^ k := by
  rw [two_pow_cast]
  exact Int.natCast_nonneg _

theorem op_add : OpR X (binaryOp .Add) (rI0 fun i j => .int (i + j)) := opI0 fun _ _ _ _ _ _ _ q => add_int q
theorem op_sub : OpR X (binaryOp .Sub) (rI0 fun i j => .int (i - j)) := opI0 fun _ _ _ _ _ _ _ q => sub_int q
theorem op_mul : OpR X (binaryOp .Mult) (rI CMul fun i j => .int (i * j)) := opI fun _ _ _ _ _ _ _ hc q => mul_int q hc.ok
/-- // by a positive divisor -/
theorem op_fdiv : OpR X (binaryOp .FloorDiv) (rI CDiv fun i j => .int (i / j)) := opI fun i j _ _ _ _ _ hc q => by
  have h1 : (0 : Int) < j := hc.1
  have h2 : j < 1073741824 := hc.2
  exact floordiv_int (by omega) (by rw [Int.fdiv_eq_ediv_of_nonneg i (by omega)]; exact q) (.inl (PyProof.noPylong_small (by omega)))
theorem op_fdivN : OpR X (binaryOp .FloorDiv) (rI CDivN fun i j => .int (i.fdiv j)) := opI fun _ _ _ _ _ _ _ hc q => floordiv_int hc.1 q (.inl (PyProof.noPylong_small hc.2))
/-- % by a positive divisor of any size -/
theorem op_mod : OpR X (binaryOp .Mod) (rI (fun _ j => 0 < j) fun i j => .int (i % j)) := opI fun i j _ _ _ _ _ hc q => by
  have h1 : (0 : Int) < j := hc
  exact mod_int' (by omega) (by rw [Int.fmod_eq_emod_of_nonneg i (by omega)]; exact q)
theorem op_modN : OpR X (binaryOp .Mod) (rI (fun _ j => j ≠ 0) fun i j => .int (i.fmod j)) := opI fun _ _ _ _ _ _ _ hc q => mod_int' hc q
theorem op_pow : OpR X (binaryOp .Pow) (rI CPow fun i j => .int (i ^ j.toNat)) := opI fun _ _ _ _ _ _ _ hc q => pow_int_small hc.1 hc.2.1 hc.2.2 q
theorem op_shl : OpR X (binaryOp .LShift) (rI CPow fun i j => .int (i * 2 ^ j.toNat)) := opI fun _ _ _ _ _ _ _ hc q => lshift_int_small hc.1 hc.2.1 hc.2.2 q
theorem op_shr : OpR X (binaryOp .RShift) (rI (fun _ j => 0 ≤ j) fun i j => .int (i / 2 ^ j.toNat)) := opI fun i j _ _ _ _ _ hc q =>
  rshift_int hc (by rw [Int.fdiv_eq_ediv_of_nonneg i (two_pow_nn _)]; exact q)
theorem op_and : OpR X (binaryOp .BitAnd) (rI0 fun i j => .int (Builtin.bitAnd i j)) := opI0 fun _ _ _ _ _ _ _ q => and_int q
theorem op_or : OpR X (binaryOp .BitOr) (rI0 fun i j => .int (Builtin.bitOr i j)) := opI0 fun _ _ _ _ _ _ _ q => or_int q
theorem op_xor : OpR X (binaryOp .BitXor) (rI0 fun i j => .int (Builtin.bitXor i j)) := opI0 fun _ _ _ _ _ _ _ q => xor_int q

theorem iop_add : OpR X (inplaceOp .Add) (rI0 fun i j => .int (i + j)) := opI0 fun _ _ _ _ _ _ _ q => iadd_int q
theorem iop_sub : OpR X (inplaceOp .Sub) (rI0 fun i j => .int (i - j)) := opI0 fun _ _ _ _ _ _ _ q => isub_int q
theorem iop_mul : OpR X (inplaceOp .Mult) (rI CMul fun i j => .int (i * j)) := opI fun _ _ _ _ _ _ _ hc q => imul_int q hc.ok
theorem iop_fdiv : OpR X (inplaceOp .FloorDiv) (rI CDiv fun i j => .int (i / j)) := opI fun i j _ _ _ _ _ hc q => by
  have h1 : (0 : Int) < j := hc.1
  have h2 : j < 1073741824 := hc.2
  exact ifloordiv_int (by omega) (by rw [Int.fdiv_eq_ediv_of_nonneg i (by omega)]; exact q) (.inl (PyProof.noPylong_small (by omega)))
theorem iop_mod : OpR X (inplaceOp .Mod) (rI (fun _ j => 0 < j) fun i j => .int (i % j)) := opI fun i j _ _ _ _ _ hc q => by
  have h1 : (0 : Int) < j := hc
  exact imod_int (by omega) (by rw [Int.fmod_eq_emod_of_nonneg i (by omega)]; exact q)
theorem iop_shl : OpR X (inplaceOp .LShift) (rI CPow fun i j => .int (i * 2 ^ j.toNat)) := opI fun _ _ _ _ _ _ _ hc q => ilshift_int_small hc.1 hc.2.1 hc.2.2 q
theorem iop_shr : OpR X (inplaceOp .RShift) (rI (fun _ j => 0 ≤ j) fun i j => .int (i / 2 ^ j.toNat)) := opI fun i j _ _ _ _ _ hc q =>
  irshift_int hc (by rw [Int.fdiv_eq_ediv_of_nonneg i (two_pow_nn _)]; exact q)
theorem iop_and : OpR X (inplaceOp .BitAnd) (rI0 fun i j => .int (Builtin.bitAnd i j)) := opI0 fun _ _ _ _ _ _ _ q => iand_int q
theorem iop_or : OpR X (inplaceOp .BitOr) (rI0 fun i j => .int (Builtin.bitOr i j)) := opI0 fun _ _ _ _ _ _ _ q => ior_int q
theorem iop_xor : OpR X (inplaceOp .BitXor) (rI0 fun i j => .int (Builtin.bitXor i j)) := opI0 fun _ _ _ _ _ _ _ q => ixor_int q

theorem unI {f : Value → Sem Value} {g : Int → Int}
    (rule : ∀ (i : Int) (t : Tok) (s : Shared) (Q : Value → Shared → Prop) (E : Value → Shared → Prop), Q (.int (g i) s.toks) { s with toks := s.toks + 1 } → wpAny (model X.prog X.w) X.A (f (.int i t)) Q E s) :
    UnR X f (rU fun i => .int (g i)) := by
  intro pins s σ H x v Q I rx h
  obtain ⟨i, rfl, q⟩ := h
  obtain ⟨t, rfl⟩ := rx
  exact rule i t s _ _ ⟨.int (g i), H, I.tok _, ⟨_, rfl⟩, q⟩
theorem un_neg : UnR X (unaryOp .USub) (rU fun i => .int (-i)) := unI fun _ _ _ _ _ q => neg_int q
theorem un_inv : UnR X (unaryOp .Invert) (rU fun i => .int (Builtin.bitNot i)) := unI fun _ _ _ _ _ q => invert_int q

/-! ### bools among ints: n += (a < b) -/
theorem op_add_ib : OpR X (binaryOp .Add) (fun x y H Q => ∃ i k, x = .int i ∧ y = .bl k ∧ Q (.int (i + b2i k)) H) := by
  intro pins s σ H x y v u Q I rx ry h
  obtain ⟨i, k, rfl, rfl, q⟩ := h
  obtain ⟨t, rfl⟩ := rx
  cases ry
  exact add_int_bool ⟨.int (i + b2i k), H, I.tok _, ⟨_, rfl⟩, q⟩
end

/-! ### comparisons -/
/-- the scalars that == tells apart as data does -/
def scal : V → V → Bool
  | .non, .non => true | .non, .int _ => true | .int _, .non => true | .non, .bl _ => true | .bl _, .non => true | .non, .str _ => true | .str _, .non => true
  | .int _, .int _ => true | .bl _, .bl _ => true | .str _, .str _ => true | .byt _, .byt _ => true
  | .int _, .str _ => true | .str _, .int _ => true | .bl _, .str _ => true | .str _, .bl _ => true
  | _, _ => false
def rEq : R2 := fun x y H Q => scal x y = true ∧ Q (.bl (decide (x = y))) H
def rNe : R2 := fun x y H Q => scal x y = true ∧ Q (.bl (!decide (x = y))) H

theorem dec_int {i j : Int} : decide (V.int i = V.int j) = (i == j) := by
  rw [Bool.eq_iff_iff]
  simp
theorem dec_bl {i j : Bool} : decide (V.bl i = V.bl j) = (i == j) := by
  rw [Bool.eq_iff_iff]
  simp
theorem dec_str {i j : Str} : decide (V.str i = V.str j) = (i == j) := by
  rw [Bool.eq_iff_iff]
  simp
theorem dec_byt {i j : Array UInt8} : decide (V.byt i = V.byt j) = (i.toList == j.toList) := by
  rw [Bool.eq_iff_iff]
  cases i
  cases j
  simp

section
variable {X : Cx} {a b c : Expr} {ta tb tc : TE} {pos : Pos}
theorem fin_bl {pins : List (Addr × Obj)} {σ : St} {H : Hp} {s : Shared} {Q : VK} {k k' : Bool} (I : Inv X pins σ H s) (q : Q (.bl k) H) (e : k = k') : EP X pins σ Q (.bool k') s := by
  subst e
  exact ⟨.bl k, H, I, rfl, q⟩
theorem op_eq : OpR X (compareOp .Eq) rEq := by
  intro pins s σ H x y v u Q I rx ry h
  obtain ⟨hs, q⟩ := h
  cases x with
  | non =>
    cases rx
    cases y with
    | non => cases ry; exact PySem.EqNone.eq_none_none (fin_bl I q (by simp))
    | bl j => cases ry; exact PySem.EqNone.eq_none_bool (fin_bl I q (by simp))
    | int j => obtain ⟨t', rfl⟩ := ry; exact PySem.EqNone.eq_none_int (fin_bl I q (by simp))
    | str j => obtain ⟨t', rfl⟩ := ry; exact PySem.EqNone.eq_none_str (fin_bl I q (by simp))
    | _ => exact absurd (show false = true from hs) Bool.false_ne_true
  | bl i =>
    cases rx
    cases y with
    | non => cases ry; exact PySem.EqNone.eq_bool_none (fin_bl I q (by simp))
    | bl j => cases ry; exact eq_bool (fin_bl I q dec_bl)
    | str j => obtain ⟨t', rfl⟩ := ry; exact PySem.EqMixed.eq_bool_str (fin_bl I q (by simp))
    | _ => exact absurd (show false = true from hs) Bool.false_ne_true
  | int i =>
    obtain ⟨t, rfl⟩ := rx
    cases y with
    | non => cases ry; exact PySem.EqNone.eq_int_none (fin_bl I q (by simp))
    | int j => obtain ⟨t', rfl⟩ := ry; exact eq_int (fin_bl I q dec_int)
    | str j => obtain ⟨t', rfl⟩ := ry; exact PySem.EqMixed.eq_int_str (fin_bl I q (by simp))
    | _ => exact absurd (show false = true from hs) Bool.false_ne_true
  | str i =>
    obtain ⟨t, rfl⟩ := rx
    cases y with
    | non => cases ry; exact PySem.EqNone.eq_str_none (fin_bl I q (by simp))
    | bl j => cases ry; exact PySem.EqMixed.eq_str_bool (fin_bl I q (by simp))
    | int j => obtain ⟨t', rfl⟩ := ry; exact PySem.EqMixed.eq_str_int (fin_bl I q (by simp))
    | str j => obtain ⟨t', rfl⟩ := ry; exact eq_str (fin_bl I q dec_str)
    | _ => exact absurd (show false = true from hs) Bool.false_ne_true
  | byt i =>
    obtain ⟨t, rfl⟩ := rx
    cases y with
    | byt j => obtain ⟨t', rfl⟩ := ry; exact PySem.W.eq_bytes (fin_bl I q dec_byt)
    | _ => exact absurd (show false = true from hs) Bool.false_ne_true
  | _ => cases y <;> exact absurd (show false = true from hs) Bool.false_ne_true
theorem op_ne : OpR X (compareOp .NotEq) rNe := by
  intro pins s σ H x y v u Q I rx ry h
  obtain ⟨hs, q⟩ := h
  cases x with
  | non =>
    cases rx
    cases y with
    | non => cases ry; exact PySem.EqNone.ne_none_none (fin_bl I q (by simp))
    | bl j => cases ry; exact PySem.EqNone.ne_none_bool (fin_bl I q (by simp))
    | int j => obtain ⟨t', rfl⟩ := ry; exact PySem.EqNone.ne_none_int (fin_bl I q (by simp))
    | str j => obtain ⟨t', rfl⟩ := ry; exact PySem.EqNone.ne_none_str (fin_bl I q (by simp))
    | _ => exact absurd (show false = true from hs) Bool.false_ne_true
  | bl i =>
    cases rx
    cases y with
    | non => cases ry; exact PySem.EqNone.ne_bool_none (fin_bl I q (by simp))
    | bl j => cases ry; exact ne_bool (fin_bl I q (congrArg not dec_bl))
    | str j => obtain ⟨t', rfl⟩ := ry; exact PySem.EqMixed.ne_bool_str (fin_bl I q (by simp))
    | _ => exact absurd (show false = true from hs) Bool.false_ne_true
  | int i =>
    obtain ⟨t, rfl⟩ := rx
    cases y with
    | non => cases ry; exact PySem.EqNone.ne_int_none (fin_bl I q (by simp))
    | int j => obtain ⟨t', rfl⟩ := ry; exact ne_int (fin_bl I q (congrArg not dec_int))
    | str j => obtain ⟨t', rfl⟩ := ry; exact PySem.EqMixed.ne_int_str (fin_bl I q (by simp))
    | _ => exact absurd (show false = true from hs) Bool.false_ne_true
  | str i =>
    obtain ⟨t, rfl⟩ := rx
    cases y with
    | non => cases ry; exact PySem.EqNone.ne_str_none (fin_bl I q (by simp))
    | bl j => cases ry; exact PySem.EqMixed.ne_str_bool (fin_bl I q (by simp))
    | int j => obtain ⟨t', rfl⟩ := ry; exact PySem.EqMixed.ne_str_int (fin_bl I q (by simp))
    | str j => obtain ⟨t', rfl⟩ := ry; exact ne_str (fin_bl I q (congrArg not dec_str))
    | _ => exact absurd (show false = true from hs) Bool.false_ne_true
  | byt i =>
    obtain ⟨t, rfl⟩ := rx
    cases y with
    | byt j => obtain ⟨t', rfl⟩ := ry; exact PySem.W.ne_bytes (fin_bl I q (congrArg not dec_byt))
    | _ => exact absurd (show false = true from hs) Bool.false_ne_true
  | _ => cases y <;> exact absurd (show false = true from hs) Bool.false_ne_true

theorem op_lt : OpR X (compareOp .Lt) (rI0 fun i j => .bl (decide (i < j))) := opB0 fun _ _ _ _ _ _ _ q => lt_int q
theorem op_le : OpR X (compareOp .LtE) (rI0 fun i j => .bl (decide (i ≤ j))) := opB0 fun _ _ _ _ _ _ _ q => le_int q
theorem op_gt : OpR X (compareOp .Gt) (rI0 fun i j => .bl (decide (j < i))) := opB0 fun _ _ _ _ _ _ _ q => gt_int q
theorem op_ge : OpR X (compareOp .GtE) (rI0 fun i j => .bl (decide (j ≤ i))) := opB0 fun _ _ _ _ _ _ _ q => ge_int q
theorem op_lt_str : OpR X (compareOp .Lt) (fun x y H Q => ∃ i j, x = .str i ∧ y = .str j ∧ Q (.bl (decide (i.cps.toList < j.cps.toList))) H) := by
  intro pins s σ H x y v u Q I rx ry h
  obtain ⟨i, j, rfl, rfl, q⟩ := h
  obtain ⟨t, rfl⟩ := rx
  obtain ⟨t', rfl⟩ := ry
  exact lt_str (fin_bl I q rfl)
/-- the one string within the other -/
theorem op_in_str : OpR X (compareOp .In) (fun x y H Q => ∃ i j, x = .str i ∧ y = .str j ∧ Q (.bl (!(Builtin.Str.occurrences j i 0 j.length 1).isEmpty)) H) := by
  intro pins s σ H x y v u Q I rx ry h
  obtain ⟨i, j, rfl, rfl, q⟩ := h
  obtain ⟨t, rfl⟩ := rx
  obtain ⟨t', rfl⟩ := ry
  exact in_str (fin_bl I q rfl)

/-- is None, is not None: the right side a value none -/
theorem op_isN : OpR X (compareOp .Is) (fun x y H Q => y = .non ∧ Q (.bl (decide (x = .non))) H) := by
  intro pins s σ H x y v u Q I rx ry h
  obtain ⟨rfl, q⟩ := h
  cases ry
  refine is_none_gen (fin_bl I q ?_)
  cases x <;> first
    | (cases rx; rfl)
    | (obtain ⟨t, rfl⟩ := rx; rfl)
theorem op_notN : OpR X (compareOp .IsNot) (fun x y H Q => y = .non ∧ Q (.bl (!decide (x = .non))) H) := by
  intro pins s σ H x y v u Q I rx ry h
  obtain ⟨rfl, q⟩ := h
  cases ry
  refine isnot_none_gen (fin_bl I q ?_)
  cases x <;> first
    | (cases rx; rfl)
    | (obtain ⟨t, rfl⟩ := rx; rfl)

theorem op_notin_str : OpR X (compareOp .NotIn) (fun x y H Q => ∃ i j, x = .str i ∧ y = .str j ∧ Q (.bl (!(!(Builtin.Str.occurrences j i 0 j.length 1).isEmpty))) H) := by
  intro pins s σ H x y v u Q I rx ry h
  obtain ⟨i, j, rfl, rfl, q⟩ := h
  obtain ⟨t, rfl⟩ := rx
  obtain ⟨t', rfl⟩ := ry
  exact notIn_str (fin_bl I q rfl)
/-- is, is not of two objects that are tracked lists or instances -/
def isObj : HO → Bool
  | .lst _ => true
  | .ins _ _ _ => true
  | _ => false
theorem obj_there {pins : List (Addr × Obj)} {s : Shared} {σ : St} {H : Hp} {a : Addr} {o : HO} (I : Inv X pins σ H s) (h : H a = some o) (p : isObj o = true) : ∃ ob, s.heap.get? a = some ob ∧ ob.cls ≠ .type "tuple" := by
  cases o with
  | lst xs =>
    obtain ⟨_, its, n, _, e⟩ : xs.length ≤ sizeLine ∧ ∃ (its : List Value) (n : Nat), Vals xs its ∧ s.heap.get? a = some { cls := .type "list", data := .seq its.toArray n } := I.hok a _ h
    exact ⟨_, e, (by show Value.type "list" ≠ .type "tuple"; decide +kernel)⟩
  | ins C dx fs =>
    have x := I.hok a _ h
    obtain ⟨_, _, _, e, _⟩ := x
    exact ⟨_, e, (by show Value.ref C ≠ .type "tuple"; exact fun z => by cases z)⟩
  | _ => exact absurd (show false = true from p) Bool.false_ne_true
theorem op_is_ref : OpR X (compareOp .Is) (fun x y H Q => ∃ a b oa ob, x = .ref a ∧ y = .ref b ∧ H a = some oa ∧ isObj oa = true ∧ H b = some ob ∧ isObj ob = true ∧ Q (.bl (decide (a = b))) H) := by
  intro pins s σ H x y v u Q I rx ry h
  obtain ⟨a, b, oa, ob, rfl, rfl, ha, pa, hb, pb, q⟩ := h
  cases rx
  cases ry
  obtain ⟨o1, e1, n1⟩ := obj_there I ha pa
  obtain ⟨o2, e2, _⟩ := obj_there I hb pb
  by_cases z : a = b
  · subst z
    exact wpAny_is_ref_self (fin_bl I q (by simp))
  · exact wpAny_is_ref_other z e1 e2 n1 (fin_bl I q (by simp [z]))
theorem op_isnot_ref : OpR X (compareOp .IsNot) (fun x y H Q => ∃ a b oa ob, x = .ref a ∧ y = .ref b ∧ H a = some oa ∧ isObj oa = true ∧ H b = some ob ∧ isObj ob = true ∧ Q (.bl (!decide (a = b))) H) := by
  intro pins s σ H x y v u Q I rx ry h
  obtain ⟨a, b, oa, ob, rfl, rfl, ha, pa, hb, pb, q⟩ := h
  cases rx
  cases ry
  obtain ⟨o1, e1, n1⟩ := obj_there I ha pa
  obtain ⟨o2, e2, _⟩ := obj_there I hb pb
  by_cases z : a = b
  · subst z
    exact wpAny_isNot_ref_self (fin_bl I q (by simp))
  · exact wpAny_isNot_ref_other z e1 e2 n1 (fin_bl I q (by simp [z]))

/-- two rules for one operation: by cases -/
theorem OpR.or {f : Value → Value → Sem Value} {r r' : R2} (h : OpR X f r) (h' : OpR X f r') : OpR X f (fun x y H Q => r x y H Q ∨ r' x y H Q) := by
  intro pins s σ H x y v u Q I rx ry q
  rcases q with q | q
  · exact h pins s σ H x y v u Q I rx ry q
  · exact h' pins s σ H x y v u Q I rx ry q

theorem nomark (b : Expr) {op : CmpOp} (h : op ≠ .In := by decide) (h2 : op ≠ .NotIn := by decide) : behindInMarks op b = false := by
  have e1 : (op == CmpOp.In) = false := by cases op <;> first | rfl | exact absurd rfl h
  have e2 : (op == CmpOp.NotIn) = false := by cases op <;> first | rfl | exact absurd rfl h2
  cases b <;> simp [behindInMarks, e1, e2]
/-- a comparison as a value; hm: nomark b, or (for in, not in) by with_unfolding_all rfl -/
theorem pe_cmpR {op : CmpOp} {r : R2} (ho : OpR X (compareOp op) r) (ha : PE X a ta) (hb : PE X b tb) (hm : behindInMarks op b = false) : PE X (.Compare a [op] [b] pos) (tOp r ta tb) := by
  intro pins s σ H Q I h
  exact wpAny_Compare1 (binT ha hb I h fun v u s2 x y H2 I2 rx ry q => ho pins s2 σ H2 x y v u Q I2 rx ry q) hm
/-- a reading of a value as a test -/
def tTest (t : TE) : TT := fun σ H Q => t σ H fun x H' => ∃ k, x = .bl k ∧ Q k H'
theorem pt_cmpR {op : CmpOp} {r : R2} (ho : OpR X (compareOp op) r) (ha : PE X a ta) (hb : PE X b tb) (hm : behindInMarks op b = false) : PT X (.Compare a [op] [b] pos) (tTest (tOp r ta tb)) := by
  intro pins s σ H Q I h
  refine wpAny_isTrue_Compare1 (thn (ha pins s σ H _ I h) fun v s1 ⟨x, H1, I1, r1, q1⟩ => thn (hb pins s1 σ H1 _ I1 q1) fun u s2 ⟨y, H2, I2, r2, q2⟩ =>
    thn (ho pins s2 σ H2 x y v u _ I2 r1 r2 q2) fun c s3 ⟨z, H3, I3, r3, k, e, q3⟩ => ?_) hm
  subst e
  cases r3
  exact wpAny_truthy_bool ⟨H3, I3, q3⟩
/-- a op1 b op2 c -/
def tChain (r r' : R2) (ta tb tc : TE) : TE := fun σ H Q => ta σ H fun x H1 => tb σ H1 fun y H2 => r x y H2 fun z H3 => ∃ k, z = .bl k ∧
  (if k = true then tc σ H3 fun w' H4 => r' y w' H4 Q else Q (.bl false) H3)
theorem pe_chain {op op' : CmpOp} {r r' : R2} (ho : OpR X (compareOp op) r) (ho' : OpR X (compareOp op') r') (ha : PE X a ta) (hb : PE X b tb) (hc : PE X c tc)
    (hm : lastMarks [op, op'] [b, c] = false := by with_unfolding_all rfl) : PE X (.Compare a [op, op'] [b, c] pos) (tChain r r' ta tb tc) := by
  intro pins s σ H Q I h
  refine Compare_chain (thn (ha pins s σ H _ I h) fun v s1 ⟨x, H1, I1, r1, q1⟩ => chain_link (thn (hb pins s1 σ H1 _ I1 q1) fun u s2 ⟨y, H2, I2, r2, q2⟩ =>
    thn (ho pins s2 σ H2 x y v u _ I2 r1 r2 q2) fun d s3 ⟨z, H3, I3, r3, k, e, q3⟩ => ?_)) hm
  subst e
  cases r3
  refine wpAny_truthy_bool ?_
  cases k with
  | false => exact ite_ff ⟨.bl false, H3, I3, rfl, q3⟩
  | true => exact ite_tt (chain_last (thn (hc pins s3 σ H3 _ I3 q3) fun w' s4 ⟨z', H4, I4, r4, q4⟩ => ho' pins s4 σ H4 y z' u w' Q I4 r2 r4 q4))
theorem pt_chain {op op' : CmpOp} {r r' : R2} (ho : OpR X (compareOp op) r) (ho' : OpR X (compareOp op') r') (ha : PE X a ta) (hb : PE X b tb) (hc : PE X c tc)
    (hm : lastMarks [op, op'] [b, c] = false := by with_unfolding_all rfl) : PT X (.Compare a [op, op'] [b, c] pos) (tTest (tChain r r' ta tb tc)) := by
  intro pins s σ H Q I h
  refine isTrue_chain (thn (ha pins s σ H _ I h) fun v s1 ⟨x, H1, I1, r1, q1⟩ => test_link (thn (hb pins s1 σ H1 _ I1 q1) fun u s2 ⟨y, H2, I2, r2, q2⟩ =>
    thn (ho pins s2 σ H2 x y v u _ I2 r1 r2 q2) fun d s3 ⟨z, H3, I3, r3, k, e, q3⟩ => ?_)) hm
  subst e
  cases r3
  refine wpAny_truthy_bool ?_
  cases k with
  | false =>
    obtain ⟨k', e', q'⟩ := q3
    cases e'
    exact ite_ff ⟨H3, I3, q'⟩
  | true =>
    refine ite_tt (test_last (thn (hc pins s3 σ H3 _ I3 q3) fun w' s4 ⟨z', H4, I4, r4, q4⟩ => thn (ho' pins s4 σ H4 y z' u w' _ I4 r2 r4 q4) fun d' s5 ⟨z2, H5, I5, r5, k2, e2, q5⟩ => ?_))
    subst e2
    cases r5
    exact wpAny_truthy_bool ⟨H5, I5, q5⟩

/-! ### truth -/
/-- a value's truth by the abstract heap -/
def TruV (K : PySem.W.Frag) (x : V) (H : Hp) (k : Bool) : Prop :=
  match x with
  | .non => k = false
  | .bl b => k = b
  | .int i => k = (i != 0)
  | .str y => y.length ≤ sizeLine ∧ k = ((y.length : Int) != 0)
  | .byt y => y.size ≤ sizeLine ∧ k = ((y.size : Int) != 0)
  | .ref p => (∃ xs, SqL K H p xs ∧ k = !xs.isEmpty) ∨ (∃ xs, SqT K H p xs ∧ k = !xs.isEmpty) ∨ ∃ kvs, H p = some (.dK kvs) ∧ k = !kvs.isEmpty
  | _ => False
theorem isEmpty_kv {κ : Type} {kvs : List (κ × V)} {vs : List (κ × Value)} (r : KV kvs vs) : (!vs.isEmpty) = !kvs.isEmpty := by
  cases r <;> rfl
theorem isEmpty_of {xs : List V} {its : List Value} (r : Vals xs its) : (!its.toArray.isEmpty) = !xs.isEmpty := by
  cases r <;> simp
theorem line63 : (sizeLine : Nat) < 2 ^ 63 := by rw [sizeLine_eq]; decide
theorem tru_ok : TruR X (fun x H Q => ∃ k, TruV X.K x H k ∧ Q k H) := by
  intro pins s σ H x v Q I rx h
  obtain ⟨k, e, q⟩ := h
  have hl := line63
  have hs : sizeLine = 16777216 := sizeLine_eq
  cases x with
  | non =>
    cases rx
    have e' : k = false := e
    subst e'
    exact truthy_none ⟨H, I, q⟩
  | bl b =>
    cases rx
    have e' : k = b := e
    subst e'
    exact wpAny_truthy_bool ⟨H, I, q⟩
  | int i =>
    obtain ⟨t, rfl⟩ := rx
    have e' : k = (i != 0) := e
    subst e'
    exact PySem.P.truthy_int ⟨H, I, q⟩
  | str y =>
    obtain ⟨t, rfl⟩ := rx
    obtain ⟨hy, e'⟩ : y.length ≤ sizeLine ∧ k = ((y.length : Int) != 0) := e
    subst e'
    exact PySem.P.truthy_str (by omega) ⟨H, I.tok _, q⟩
  | byt y =>
    obtain ⟨t, rfl⟩ := rx
    obtain ⟨hy, e'⟩ : y.size ≤ sizeLine ∧ k = ((y.size : Int) != 0) := e
    subst e'
    exact PySem.W.truthy_bytes (by omega) ⟨H, I.tok _, q⟩
  | ref p =>
    cases rx
    have e' : (∃ xs, SqL X.K H p xs ∧ k = !xs.isEmpty) ∨ (∃ xs, SqT X.K H p xs ∧ k = !xs.isEmpty) ∨ ∃ kvs, H p = some (.dK kvs) ∧ k = !kvs.isEmpty := e
    rcases e' with ⟨xs, hx, e'⟩ | ⟨xs, hx, e'⟩ | ⟨kvs, hx, e'⟩
    · subst e'
      obtain ⟨its, r, pl, hz⟩ := I.list hx
      have hlen := r.length
      exact wpAny_truthy_list pl.isList (by simp only [List.size_toArray]; omega) ⟨H, I.tok _, by rw [isEmpty_of r]; exact q⟩
    · subst e'
      obtain ⟨its, r, pl, hz⟩ := I.tuple hx
      have hlen := r.length
      exact truthy_tuple pl (by simp only [List.size_toArray]; omega) ⟨H, I.tok _, by rw [isEmpty_of r]; exact q⟩
    · subst e'
      obtain ⟨hz, hS, vs, r, m⟩ : kvs.length ≤ sizeLine ∧ (p == sysModules) = false ∧ ∃ vs, KV kvs vs ∧ s.heap.DictOf (mixKind X.prog X.w) p vs := I.hok p _ hx
      have hlen : kvs.length = vs.length := Paired.length r
      exact wpAny_truthy_dict hS m (by omega) ⟨H, I.tok _, by rw [isEmpty_kv r]; exact q⟩
  | _ => exact (show False from e).elim
/-- any expression whose test is its value's truth (a name, a call, a subscript, a field ..: he by fun _ => rfl) -/
theorem pt_truth (ha : PE X a ta) (he : ∀ whole, isTrue a X.env whole = (do let v ← whole; standAt a.pos; holding [v] (truthy v))) :
    PT X a (fun σ H Q => ta σ H fun x H' => ∃ k, TruV X.K x H' k ∧ Q k H') := by
  intro pins s σ H Q I h
  exact isTrue_plain (thn (ha pins s σ H _ I h) fun v s1 ⟨x, H1, I1, r1, q1⟩ => tru_ok pins s1 σ H1 x v Q I1 r1 q1) (he _)

/-! ### strs and bytes -/
theorem pe_byt {x : List UInt8} {k : Nat} : PE X (.Constant (.bytes x) k pos) (fun _ H Q => Q (.byt x.toArray) H) := fun _ _ _ H _ I h => PySem.W.Constant_bytes ⟨.byt x.toArray, H, I.tok _, ⟨_, rfl⟩, h⟩
theorem op_add_str : OpR X (binaryOp .Add) (fun x y H Q => ∃ i j, x = .str i ∧ y = .str j ∧ i.length + j.length ≤ sizeLine ∧ Q (.str (i ++ j)) H) := by
  intro pins s σ H x y v u Q I rx ry h
  obtain ⟨i, j, rfl, rfl, hz, q⟩ := h
  obtain ⟨t, rfl⟩ := rx
  obtain ⟨t', rfl⟩ := ry
  exact add_str (fun t' tk => ⟨.str (i ++ j), H, I.tok _, ⟨_, rfl⟩, q⟩) hz
theorem iop_add_str : OpR X (inplaceOp .Add) (fun x y H Q => ∃ i j, x = .str i ∧ y = .str j ∧ i.length + j.length ≤ sizeLine ∧ Q (.str (i ++ j)) H) := by
  intro pins s σ H x y v u Q I rx ry h
  obtain ⟨i, j, rfl, rfl, hz, q⟩ := h
  obtain ⟨t, rfl⟩ := rx
  obtain ⟨t', rfl⟩ := ry
  exact iadd_str (fun t' tk => ⟨.str (i ++ j), H, I.tok _, ⟨_, rfl⟩, q⟩) hz
theorem op_add_byt : OpR X (binaryOp .Add) (fun x y H Q => ∃ i j, x = .byt i ∧ y = .byt j ∧ i.size + j.size ≤ 16777216 ∧ Q (.byt (i ++ j)) H) := by
  intro pins s σ H x y v u Q I rx ry h
  obtain ⟨i, j, rfl, rfl, hz, q⟩ := h
  obtain ⟨t, rfl⟩ := rx
  obtain ⟨t', rfl⟩ := ry
  exact PySem.W.KBy.add_bytes hz (fun t' tk => ⟨.byt (i ++ j), H, I.tok _, ⟨_, rfl⟩, q⟩)

def PlainIxT (b : Expr) : Prop := ∀ o i, subscripted b false o i = operate [o, i] (getItem o i)
/-- s[i], 0 ≤ i < len -/
theorem pe_item_str (ha : PE X a ta) (hb : PE X b tb) (hs : PlainIxT b) :
    PE X (.Subscript a b pos) (tOp (fun x y H Q => ∃ z i c, x = .str z ∧ y = .int i ∧ 0 ≤ i ∧ i < 2 ^ 63 ∧ i < z.length ∧ z.cps[i.toNat]? = some c ∧ Q (.str ⟨#[c]⟩) H) ta tb) := by
  intro pins s σ H Q I h
  refine Subscript_ (binT ha hb I h fun v u s2 x y H2 I2 rx ry q => ?_)
  obtain ⟨z, i, c, rfl, rfl, h0, h63, h1, hc, q⟩ := q
  obtain ⟨t, rfl⟩ := rx
  obtain ⟨t', rfl⟩ := ry
  have e : seqIndex? i z.length = some i.toNat := PySem.StrLaws.seqIndex_nonneg h0 h1
  exact tail_any (typeIs_str s2 z t) slot_str_getitem.lookup (getItem_str (c := c) (by
    have e1 : decide (i < -(2 ^ 63 : Int)) = false := decide_eq_false (by omega)
    have e2 : decide (i ≥ 2 ^ 63) = false := decide_eq_false (by omega)
    rw [e1, e2] <;> rfl) (by rw [e]; exact hc) ⟨.str ⟨#[c]⟩, H2, I2.tok _, ⟨_, rfl⟩, q⟩) (hs _ _)
/-- b[i], 0 ≤ i < len -/
theorem pe_item_byt (ha : PE X a ta) (hb : PE X b tb) (hs : PlainIxT b) :
    PE X (.Subscript a b pos) (tOp (fun x y H Q => ∃ (z : List UInt8) (i : Int), x = .byt z.toArray ∧ y = .int i ∧ z.length ≤ sizeLine ∧ 0 ≤ i ∧ i < z.length ∧ Q (.int ((z.getD i.toNat 0).toNat : Nat)) H) ta tb) := by
  intro pins s σ H Q I h
  refine Subscript_ (binT ha hb I h fun v u s2 x y H2 I2 rx ry q => ?_)
  obtain ⟨z, i, rfl, rfl, hz, h0, h1, q⟩ := q
  obtain ⟨t, rfl⟩ := rx
  obtain ⟨t', rfl⟩ := ry
  have hl : sizeLine = 16777216 := sizeLine_eq
  exact tail_any (PySem.W.typeIs_bytes s2 z.toArray t) PySem.W.FB.slot_bytes_getitem.lookup (PySem.W.getItem_bytes (by omega) h0 h1 ⟨.int ((z.getD i.toNat 0).toNat : Nat), H2, I2.tok _, ⟨_, rfl⟩, q⟩) (hs _ _)

/-! ### scalar builtins, by CallR -/
theorem vals1 {x : V} {us : List Value} (r : Vals [x] us) : ∃ u, us = [u] ∧ RelV x u := by
  cases r with
  | cons r1 r2 => cases r2; exact ⟨_, rfl, r1⟩
theorem vals2 {x y : V} {us : List Value} (r : Vals [x, y] us) : ∃ u w', us = [u, w'] ∧ RelV x u ∧ RelV y w' := by
  cases r with
  | cons r1 r2 =>
    cases r2 with
    | cons r3 r4 => cases r4; exact ⟨_, _, rfl, r1, r3⟩
theorem call_abs : CallR X (.builtin "abs") (fun xs H Q => ∃ i, xs = [.int i] ∧ Q (.int (if i < 0 then -i else i)) H) := by
  intro pins s σ H xs us Q I r h
  obtain ⟨i, rfl, q⟩ := h
  obtain ⟨u, rfl, t, rfl⟩ := vals1 r
  exact call_abs_int fun u tk => ⟨.int (if i < 0 then -i else i), H, I.tok _, ⟨_, rfl⟩, q⟩
theorem call_max2 (hc : X.calm = true) : CallR X (.builtin "max") (fun xs H Q => ∃ i j, xs = [.int i, .int j] ∧ Q (.int (if j > i then j else i)) H) := by
  intro pins s σ H xs us Q I r h
  obtain ⟨i, j, rfl, q⟩ := h
  obtain ⟨u, w', rfl, ⟨t, rfl⟩, ⟨t', rfl⟩⟩ := vals2 r
  refine max_two_ints (I.ok.hd hc) fun h' tk k => ⟨_, H, I.kept k, ?_, q⟩
  by_cases hj : j > i
  · rw [if_pos hj, if_pos hj]; exact ⟨_, rfl⟩
  · rw [if_neg hj, if_neg hj]; exact ⟨_, rfl⟩
theorem call_min2 (hc : X.calm = true) : CallR X (.builtin "min") (fun xs H Q => ∃ i j, xs = [.int i, .int j] ∧ Q (.int (if j < i then j else i)) H) := by
  intro pins s σ H xs us Q I r h
  obtain ⟨i, j, rfl, q⟩ := h
  obtain ⟨u, w', rfl, ⟨t, rfl⟩, ⟨t', rfl⟩⟩ := vals2 r
  refine min_two_ints (I.ok.hd hc) fun h' tk k => ⟨_, H, I.kept k, ?_, q⟩
  by_cases hj : j < i
  · rw [if_pos hj, if_pos hj]; exact ⟨_, rfl⟩
  · rw [if_neg hj, if_neg hj]; exact ⟨_, rfl⟩
theorem call_int1 : CallR X (.type "int") (fun xs H Q => (∃ i, xs = [.int i] ∧ Q (.int i) H) ∨ ∃ k, xs = [.bl k] ∧ Q (.int (if k then 1 else 0)) H) := by
  intro pins s σ H xs us Q I r h
  rcases h with ⟨i, rfl, q⟩ | ⟨k, rfl, q⟩
  · obtain ⟨u, rfl, t, rfl⟩ := vals1 r
    exact call_int_int ⟨.int i, H, I, ⟨_, rfl⟩, q⟩
  · obtain ⟨u, rfl, r1⟩ := vals1 r
    cases r1
    exact call_int_bool ⟨.int (if k then 1 else 0), H, I.tok _, ⟨_, rfl⟩, q⟩
theorem call_bool1 : CallR X (.type "bool") (fun xs H Q => (∃ i, xs = [.int i] ∧ Q (.bl (i != 0)) H) ∨ ∃ k, xs = [.bl k] ∧ Q (.bl k) H) := by
  intro pins s σ H xs us Q I r h
  rcases h with ⟨i, rfl, q⟩ | ⟨k, rfl, q⟩
  · obtain ⟨u, rfl, t, rfl⟩ := vals1 r
    exact call_bool_int ⟨.bl (i != 0), H, I, rfl, q⟩
  · obtain ⟨u, rfl, r1⟩ := vals1 r
    cases r1
    exact call_bool_bool ⟨.bl k, H, I, rfl, q⟩
theorem call_str_int : CallR X (.type "str") (fun xs H Q => ∃ i, xs = [.int i] ∧ i.natAbs.log2 < 1920 ∧ Q (.str (toString i)) H) := by
  intro pins s σ H xs us Q I r h
  obtain ⟨i, rfl, hz, q⟩ := h
  obtain ⟨u, rfl, t, rfl⟩ := vals1 r
  exact PySem.P.str_of_int hz ⟨.str _, H, I.tok _, ⟨_, rfl⟩, q⟩
theorem call_ord : CallR X (.builtin "ord") (fun xs H Q => ∃ x, xs = [.str x] ∧ x.length = 1 ∧ Q (.int (x.cps.getD 0 0 : Nat)) H) := by
  intro pins s σ H xs us Q I r h
  obtain ⟨x, rfl, hz, q⟩ := h
  obtain ⟨u, rfl, t, rfl⟩ := vals1 r
  exact ord_of_one hz ⟨.int _, H, I.tok _, ⟨_, rfl⟩, q⟩
theorem call_chr : CallR X (.builtin "chr") (fun xs H Q => ∃ i, xs = [.int i] ∧ 0 ≤ i ∧ i ≤ 1114111 ∧ Q (.str ⟨#[i.toNat]⟩) H) := by
  intro pins s σ H xs us Q I r h
  obtain ⟨i, rfl, h0, h1, q⟩ := h
  obtain ⟨u, rfl, t, rfl⟩ := vals1 r
  exact chr_of_range h0 h1 ⟨.str _, H, I.tok _, ⟨_, rfl⟩, q⟩
/-- len of a str, a bytes, a list, a tuple -/
def LenV (K : PySem.W.Frag) (x : V) (H : Hp) (n : Nat) : Prop :=
  match x with
  | .str y => y.length ≤ sizeLine ∧ n = y.length
  | .byt y => y.size ≤ sizeLine ∧ n = y.size
  | .ref p => (∃ xs, SqL K H p xs ∧ n = xs.length) ∨ ∃ xs, SqT K H p xs ∧ n = xs.length
  | _ => False
theorem call_len : CallR X (.builtin "len") (fun xs H Q => ∃ x n, xs = [x] ∧ LenV X.K x H n ∧ Q (.int n) H) := by
  intro pins s σ H xs us Q I r h
  obtain ⟨x, n, rfl, e, q⟩ := h
  obtain ⟨u, rfl, rx⟩ := vals1 r
  have hl := line63
  have hs : sizeLine = 16777216 := sizeLine_eq
  cases x with
  | str y =>
    obtain ⟨t, rfl⟩ := rx
    obtain ⟨hy, e'⟩ : y.length ≤ sizeLine ∧ n = y.length := e
    subst e'
    exact len_str (by omega) ⟨.int _, H, I.tok _, ⟨_, rfl⟩, q⟩
  | byt y =>
    obtain ⟨t, rfl⟩ := rx
    obtain ⟨hy, e'⟩ : y.size ≤ sizeLine ∧ n = y.size := e
    subst e'
    exact PySem.W.len_bytes (by omega) ⟨.int _, H, I.tok _, ⟨_, rfl⟩, q⟩
  | ref p =>
    cases rx
    have e' : (∃ xs, SqL X.K H p xs ∧ n = xs.length) ∨ ∃ xs, SqT X.K H p xs ∧ n = xs.length := e
    rcases e' with ⟨xs, hx, e'⟩ | ⟨xs, hx, e'⟩
    · subst e'
      obtain ⟨its, r', pl, hz⟩ := I.list hx
      have hlen := r'.length
      exact Calls.call_len_list pl.isList (by simp only [List.size_toArray]; omega) ⟨.int xs.length, H, I.tok _, ⟨_, by simp only [List.size_toArray]; rw [hlen]⟩, q⟩
    · subst e'
      obtain ⟨its, r', pl, hz⟩ := I.tuple hx
      have hlen := r'.length
      exact len_tuple pl (by simp only [List.size_toArray]; omega) ⟨.int xs.length, H, I.tok _, ⟨_, by simp only [List.size_toArray]; rw [hlen]⟩, q⟩
  | _ => exact (show False from e).elim
/-- divmod: a new tuple -/
theorem call_divmod : CallR X (.builtin "divmod") (fun xs H Q => ∃ i j, xs = [.int i, .int j] ∧ CDiv i j ∧ ∀ p, H p = none → Q (.ref p) (upd H p (.tup [.int (i / j), .int (i % j)]))) := by
  intro pins s σ H xs us Q I r h
  obtain ⟨i, j, rfl, ⟨h1, h2⟩, q⟩ := h
  obtain ⟨u, w', rfl, ⟨t, rfl⟩, ⟨t', rfl⟩⟩ := vals2 r
  refine divmod_int (by omega) ?_ (.inl (PyProof.noPylong_small (by omega)))
  rw [Int.fdiv_eq_ediv_of_nonneg i (by omega), Int.fmod_eq_emod_of_nonneg i (by omega)]
  have hn : H s.heap.objs.size = none := I.hok.fresh (Nat.le_refl _)
  refine ⟨.ref s.heap.objs.size, _, ?_, rfl, q _ hn⟩
  refine I.laid (fun b o e => Heap.get?_push_of_some _ e) (Nat.le_refl _) ⟨by simp only [List.length_cons, List.length_nil]; rw [sizeLine_eq]; decide, [.int (i / j) s.toks, .int (i % j) (s.toks + 1)], .cons ⟨_, rfl⟩ (.cons ⟨_, rfl⟩ .nil), ?_⟩
  exact ⟨_, Heap.get?_push_size s.heap rfl, rfl, 0, rfl⟩
end
end L2

namespace L2
open PySem PySem.Spec PyProof.Rows

/-! ### an instance, its attributes a map -/
structure ObjM (h : Heap) (x dx C : Addr) (mA : Str → Option Value) : Prop where
  obj : h.get? x = some (PySem.W.instObj C dx)
  ns : h.Ns1 dx mA
  ne : dx ≠ x

theorem lookIn_ns {h : Heap} {dx : Addr} {mA : Str → Option Value} (n : h.Ns1 dx mA) : ∃ od, h.get? dx = some od ∧ ∀ name, PySem.W.lookIn name od = some (mA name) := by
  obtain ⟨o, es, ep, ho, hd, hk, _, hm⟩ := n
  refine ⟨o, ho, fun name => ?_⟩
  have e := hm name
  unfold nsFind findBy at e
  rw [← Array.find?_toList] at e
  unfold PySem.W.lookIn
  rw [hd]
  dsimp only
  split
  · rename_i y q
    rw [q] at e
    exact congrArg some e
  · rename_i q
    rw [q] at e
    have a : es.toList.any (·.refKey) = false := by
      rw [List.any_eq_false]
      intro y hy
      obtain ⟨z, t, hkey⟩ := hk y (Array.mem_toList_iff.mp hy)
      simp [DictEntry.refKey, hkey]
    have a' : ¬ es.toList.any (·.refKey) = true := by rw [a]; exact Bool.false_ne_true
    rw [if_neg a']
    exact congrArg some e

theorem ObjM.look {h : Heap} {x dx C : Addr} {mA : Str → Option Value} (I : ObjM h x dx C mA) : ∃ od, PySem.W.InstAt h x (PySem.W.instObj C dx) C (some od) ∧ ∀ name, PySem.W.lookIn name od = some (mA name) :=
  let ⟨od, ho, hl⟩ := lookIn_ns I.ns
  ⟨od, ⟨I.obj, rfl, rfl, ho⟩, hl⟩

section
variable {prog : Program} {w : World} {A : Around} {E : Value → Shared → Prop} {s : Shared} {K : PySem.W.Frag} {x dx C f : Addr} {mA : Str → Option Value} {name : Str} {v : Value}

theorem get_map {expr : Bool} {Q : Value → Shared → Prop} (X : K.In s.heap) (I : ObjM s.heap x dx C mA) (hg : PySem.W.plainGet K C name = true) (hh : PySem.W.hasDictIn K C = true)
    (ha : PySem.W.findIn K (.ref C) name = some none) (hv : mA name = some v) (hv' : PySem.W.handedIn v = true) (h : Q v { s with toks := s.toks + 1 }) :
    wpAny (model prog w) A (getAttr (.ref x) name expr) Q E s := by
  obtain ⟨od, J, hl⟩ := I.look
  exact PySem.W.get_value X J (PySem.W.plainGet_of hg).1 (PySem.W.findObj_own hh ha rfl (by rw [hl, hv])) hv' h

theorem get_const {expr : Bool} {a : Value} {Q : Value → Shared → Prop} (X : K.In s.heap) (I : ObjM s.heap x dx C mA) (hg : PySem.W.plainGet K C name = true) (hh : PySem.W.hasDictIn K C = true)
    (ha : PySem.W.findIn K (.ref C) name = some (some a)) (hn : PySem.W.specialIn K a "__get__" = some none) (hc : PySem.W.copiedNames.contains name = false) (hv : mA name = none) (hv' : PySem.W.handedIn a = true)
    (h : Q a { s with toks := s.toks + 1 }) : wpAny (model prog w) A (getAttr (.ref x) name expr) Q E s := by
  obtain ⟨od, J, hl⟩ := I.look
  exact PySem.W.get_value X J (PySem.W.plainGet_of hg).1 (PySem.W.findObj_cls hh ha hn hv' hc (by rw [hl, hv])) hv' h

theorem get_meth {pl : Sem Bool} {Q : Value × List Value → Shared → Prop} (X : K.In s.heap) (I : ObjM s.heap x dx C mA) (hg : PySem.W.plainGet K C name = true)
    (hf : PySem.W.findIn K (.ref C) name = some (some (.ref f))) (ht : PySem.W.isFn K (.ref f) = true) (hv : mA name = none) (h : Q (.ref f, [.ref x]) s) :
    wpAny (model prog w) A (getMethod (.ref x) name pl) Q E s := by
  obtain ⟨od, J, hl⟩ := I.look
  exact PySem.W.method_fn X J (PySem.W.plainGet_of hg).1 (PySem.W.plainGet_of hg).2 hf (beq_iff_eq.mp ht) (by show (PySem.W.lookIn name od).map (·.isSome) = some false; rw [hl, hv]; rfl) h

theorem set_map {ns : List Str} {Q : Unit → Shared → Prop} (X : K.In s.heap) (I : ObjM s.heap x dx C mA)
    (hs : PySem.W.findIn K (.ref C) "__setattr__" = some (some (.builtin "object.__setattr__"))) (hp : PySem.W.plainOver K C = true) (ht : PySem.W.takerIn K C name = some none) (hh : PySem.W.hasDictIn K C = true)
    (hw : PySem.Within mA ns) (hsz : ns.length ≤ sizeLine)
    (h : ∀ h', ObjM h' x dx C (fun y => if y = name then some v else mA y) → Heap.SameBut dx s.heap h' → Q () { s with heap := h', toks := s.toks + 2 }) :
    wpAny (model prog w) A (setAttr (.ref x) name v) Q E s := by
  obtain ⟨od, J, hl⟩ := I.look
  refine PySem.W.set_plain X J hs (PySem.W.osa_open (s := { s with toks := s.toks + 1 }) (r := none) X J hp ht fun b => ?_)
  obtain ⟨cd, hc, hd'⟩ := PySem.W.any_some hh
  have hx : s.heap.get? x = some ⟨.ref C, some dx, .plain, #[]⟩ := I.obj
  refine wpAny_bind (wpAny_pure (wpAny_bind (wpAny_bind (wpAny_loadPart hx (wpAny_bind (PySem.W.Looks.here (s := { s with toks := s.toks + 1 }) (PySem.W.looks_clsIn X hc) ?_))))))
  rw [hd']
  refine wpAny_pure (a := some dx) (wpAny_bind (wpAny_pure (wpAny_bind ?_)))
  refine wpAny_nsSet1 (s := { s with toks := s.toks + 1 }) I.ns fun h' hn2 hs2 => ?_
  obtain ⟨oD, esD, epD, hoD, hdD, hcD⟩ := hn2.count (PySem.Within.cons name v hw)
  refine wpAny_bind (wpAny_lookBehind hoD (by rw [hdD]; exact pastItsLine_dict (Nat.le_trans hcD (by rw [List.length_cons]; omega))) ?_)
  exact wpAny_pure (h _ ⟨(hs2.2 _ (Ne.symm I.ne)).trans I.obj, hn2, I.ne⟩ hs2)

/-- C(..): the dict at the heap's end, the instance behind it; then its __init__ -/
theorem make_map {R : Result → Shared → Prop} {vs : List Value} {kw : List (Str × Value)} (X : K.In s.heap) (hm : PySem.W.makesIn K C = true)
    (hi : PySem.W.findIn K (.ref C) "__init__" = some (some (.ref f))) (hf : PySem.W.typeIn K (.ref f) = some (.type "function"))
    (h : codeAny (model prog w) (A.under (.builtin "type.__call__" ⟨.ref C :: vs, kw⟩)) (.call (.ref f) ⟨.ref (s.heap.objs.size + 1) :: vs, kw⟩) (PySem.W.InitBack (s.heap.objs.size + 1) R)
      { s with heap := (s.heap.push PySem.W.emptyDict).push (PySem.W.instObj C s.heap.objs.size) }) :
    codeAny (model prog w) A (.call (.ref C) ⟨vs, kw⟩) R s := by
  obtain ⟨hh, g, d, t, os⟩ := s
  exact PySem.W.make_core (PySem.W.makes_of X hm) (PySem.W.looks_findIn X hi) (fun self => PySem.W.bind_fn X self hf) (.inl rfl) h
/-- C() where there is no __init__ but object's -/
theorem make_map0 {R : Result → Shared → Prop} (X : K.In s.heap) (hm : PySem.W.makesIn K C = true)
    (hi : PySem.W.findIn K (.ref C) "__init__" = some (some (.builtin "object.__init__")))
    (hb : ∀ self, PySem.W.Looks (model prog w) s.heap (bindSpecial (.builtin "object.__init__") self) (.builtin "object.__init__", [self]))
    (h : codeAny (model prog w) (A.under (.builtin "type.__call__" ⟨[.ref C], []⟩)) (.call (.builtin "object.__init__") ⟨[.ref (s.heap.objs.size + 1)], []⟩) (PySem.W.InitBack (s.heap.objs.size + 1) R)
      { s with heap := (s.heap.push PySem.W.emptyDict).push (PySem.W.instObj C s.heap.objs.size) }) :
    codeAny (model prog w) A (.call (.ref C) ⟨[], []⟩) R s := by
  obtain ⟨hh, g, d, t, os⟩ := s
  exact PySem.W.make_core (PySem.W.makes_of X hm) (PySem.W.looks_findIn X hi) hb (.inr ⟨rfl, rfl⟩) h
end

/-! ### the attributes as a list of pairs -/
def putF (f : Str) (v : V) : List (Str × V) → List (Str × V)
  | [] => [(f, v)]
  | (g, x) :: r => if g = f then (g, v) :: r else (g, x) :: putF f v r
theorem lookup_putF (f g : Str) (v : V) : ∀ fs : List (Str × V), (putF f v fs).lookup g = if g = f then some v else fs.lookup g
  | [] => by
    show List.lookup g [(f, v)] = _
    by_cases h : g = f
    · have hb : (g == f) = true := beq_iff_eq.mpr h
      simp only [List.lookup, hb, if_pos h]
    · have hb : (g == f) = false := beq_eq_false_iff_ne.mpr h
      simp only [List.lookup, hb, if_neg h]
  | (k, x) :: r => by
    have ih := lookup_putF f g v r
    rw [show putF f v ((k, x) :: r) = (if k = f then (k, v) :: r else (k, x) :: putF f v r) from rfl]
    by_cases hk : k = f
    · rw [if_pos hk]
      by_cases h : g = k
      · have hb : (g == k) = true := beq_iff_eq.mpr h
        simp only [List.lookup, hb, if_pos (h.trans hk)]
      · have hb : (g == k) = false := beq_eq_false_iff_ne.mpr h
        simp only [List.lookup, hb, if_neg (fun e : g = f => h (e.trans hk.symm))]
    · rw [if_neg hk]
      by_cases h : g = k
      · have hb : (g == k) = true := beq_iff_eq.mpr h
        simp only [List.lookup, hb, if_neg (fun e : g = f => hk (h.symm.trans e))]
      · have hb : (g == k) = false := beq_eq_false_iff_ne.mpr h
        simp only [List.lookup, hb]
        exact ih
theorem keys_putF (f : Str) (v : V) : ∀ fs : List (Str × V), f ∈ (putF f v fs).map (·.1) ∧ ∀ g, g ∈ fs.map (·.1) → g ∈ (putF f v fs).map (·.1)
  | [] => ⟨by simp [putF], fun g h => by simp at h⟩
  | (k, x) :: r => by
    obtain ⟨i1, i2⟩ := keys_putF f v r
    rw [show putF f v ((k, x) :: r) = (if k = f then (k, v) :: r else (k, x) :: putF f v r) from rfl]
    by_cases hk : k = f
    · rw [if_pos hk]
      subst hk
      exact ⟨by simp, fun g h => by simpa using h⟩
    · rw [if_neg hk]
      refine ⟨?_, fun g h => ?_⟩
      · rw [List.map_cons]
        exact List.mem_cons_of_mem _ i1
      · rw [List.map_cons] at h ⊢
        rcases List.mem_cons.mp h with e | e
        · exact List.mem_cons.mpr (.inl e)
        · exact List.mem_cons_of_mem _ (i2 g e)
theorem length_putF (f : Str) (v : V) : ∀ fs : List (Str × V), (putF f v fs).length ≤ fs.length + 1
  | [] => by simp [putF]
  | (k, x) :: r => by
    have ih := length_putF f v r
    rw [show putF f v ((k, x) :: r) = (if k = f then (k, v) :: r else (k, x) :: putF f v r) from rfl]
    by_cases hk : k = f
    · rw [if_pos hk, List.length_cons, List.length_cons]; omega
    · rw [if_neg hk, List.length_cons, List.length_cons]; omega

theorem RelO.some_of {v : V} {o : Option Value} (r : RelO (some v) o) : ∃ u, o = some u ∧ RelV v u := by
  cases o with
  | none => exact (show False from r).elim
  | some u => exact ⟨u, rfl, r⟩
theorem RelO.none_of {o : Option Value} (r : RelO none o) : o = none := by
  cases o with
  | none => rfl
  | some u => exact (show False from r).elim
theorem handed_of {v : V} {u : Value} (r : RelV v u) : PySem.W.handedIn u = true := by
  cases v with
  | non => cases (show u = Value.none from r); rfl
  | bl b => cases (show u = Value.bool b from r); rfl
  | int i => obtain ⟨t, e⟩ := (show ∃ t, u = Value.int i t from r); cases e; rfl
  | str x => obtain ⟨t, e⟩ := (show ∃ t, u = Value.str x t from r); cases e; rfl
  | byt b => obtain ⟨t, e⟩ := (show ∃ t, u = Value.bytes b t from r); cases e; rfl
  | flt b => obtain ⟨t, e⟩ := (show ∃ t, u = Value.float b t from r); cases e; rfl
  | ref a => cases (show u = Value.ref a from r); rfl
  | ty n => cases (show u = Value.type n from r); rfl

section
variable {P : Program} {w : World} {H H' : Hp} {h h' : Heap} {a C dx : Addr} {fs fs' : List (Str × V)}
theorem ins_get (hok : HOk P w H h) (e : H a = some (.ins C dx fs)) : ∃ mA, ObjM h a dx C mA ∧ (∀ f, RelO (fs.lookup f) (mA f)) ∧ PySem.Within mA (fs.map (·.1)) ∧ fs.length ≤ 1000 ∧ H dx = some (.own a) := by
  obtain ⟨d, z, ne, ob, mA, n, r, q⟩ := (show ObjOk P w H h a (.ins C dx fs) from hok a _ e)
  exact ⟨mA, ⟨ob, n, ne⟩, r, q, z, d⟩
end

/-! ### what of the text a class must have -/
structure Cls (K : PySem.W.Frag) (C : Addr) : Prop where
  pg : PySem.W.plainGet K C Str.empty = true
  hd : PySem.W.hasDictIn K C = true
  po : PySem.W.plainOver K C = true
  sa : PySem.W.findIn K (.ref C) "__setattr__" = some (some (.builtin "object.__setattr__"))
theorem Cls.get {K : PySem.W.Frag} {C : Addr} (c : Cls K C) (f : Str) : PySem.W.plainGet K C f = true := c.pg
/-- no class of it has the name -/
def NoAttr (K : PySem.W.Frag) (C : Addr) (f : Str) : Prop := PySem.W.findIn K (.ref C) f = some none
theorem NoAttr.taker {K : PySem.W.Frag} {C : Addr} {f : Str} (n : NoAttr K C f) : PySem.W.takerIn K C f = some none := by
  unfold PySem.W.takerIn
  rw [show PySem.W.findIn K (.ref C) f = some none from n]
  rfl
/-- a constant of the class -/
structure Con (K : PySem.W.Frag) (C : Addr) (f : Str) (v : V) (u : Value) : Prop where
  at_ : PySem.W.findIn K (.ref C) f = some (some u)
  rel : RelV v u
  get : PySem.W.specialIn K u "__get__" = some none
  cp : PySem.W.copiedNames.contains f = false
/-- a method: a plain def of the class or of one above it -/
structure Meth (K : PySem.W.Frag) (C : Addr) (m : Str) (f : Addr) : Prop where
  at_ : PySem.W.findIn K (.ref C) m = some (some (.ref f))
  fn : PySem.W.isFn K (.ref f) = true
  kp : PySem.W.keepIn K (.ref f) = true

section
variable {X : Cx} {pins : List (Addr × Obj)} {σ : St} {H : Hp} {s : Shared} {a C dx : Addr} {fs : List (Str × V)} {f : Str} {v : V} {A : Around} {E : Value → Shared → Prop}

theorem getattr_ok {b : Bool} {Q : Value → Shared → Prop} (I : Inv X pins σ H s) (e : H a = some (.ins C dx fs)) (c : Cls X.K C) (n : NoAttr X.K C f) (l : fs.lookup f = some v)
    (h : ∀ u s', Inv X pins σ H s' → RelV v u → Q u s') : wpAny (model X.prog X.w) A (getAttr (.ref a) f b) Q E s := by
  obtain ⟨mA, O, r, _, _, _⟩ := ins_get I.hok e
  obtain ⟨u, hu, ru⟩ := RelO.some_of (v := v) (o := mA f) (by rw [← l]; exact r f)
  exact get_map I.kIn O (c.get f) c.hd n hu (handed_of ru) (h u _ (I.tok _) ru)

theorem getcon_ok {b : Bool} {u : Value} {Q : Value → Shared → Prop} (I : Inv X pins σ H s) (e : H a = some (.ins C dx fs)) (c : Cls X.K C) (k : Con X.K C f v u) (l : fs.lookup f = none)
    (h : ∀ s', Inv X pins σ H s' → Q u s') : wpAny (model X.prog X.w) A (getAttr (.ref a) f b) Q E s := by
  obtain ⟨mA, O, r, _, _, _⟩ := ins_get I.hok e
  have hn : mA f = none := RelO.none_of (by rw [← l]; exact r f)
  exact get_const I.kIn O (c.get f) c.hd k.at_ k.get k.cp hn (handed_of k.rel) (h _ (I.tok _))

theorem getmeth_ok {m : Str} {g : Addr} {pl : Sem Bool} {Q : Value × List Value → Shared → Prop} (I : Inv X pins σ H s) (e : H a = some (.ins C dx fs)) (c : Cls X.K C) (k : Meth X.K C m g) (l : fs.lookup m = none)
    (h : Q (.ref g, [.ref a]) s) : wpAny (model X.prog X.w) A (getMethod (.ref a) m pl) Q E s := by
  obtain ⟨mA, O, r, _, _, _⟩ := ins_get I.hok e
  have hn : mA m = none := RelO.none_of (by rw [← l]; exact r m)
  exact get_meth I.kIn O (c.get m) k.at_ k.fn hn h

theorem setattr_ok {y : V} {u : Value} {Q : Unit → Shared → Prop} (I : Inv X pins σ H s) (e : H a = some (.ins C dx fs)) (c : Cls X.K C) (n : NoAttr X.K C f) (hl : fs.length < 1000) (ry : RelV y u)
    (h : ∀ s', Inv X pins σ (upd H a (.ins C dx (putF f y fs))) s' → Q () s') : wpAny (model X.prog X.w) A (setAttr (.ref a) f u) Q E s := by
  obtain ⟨mA, O, r, wi, _, ho⟩ := ins_get I.hok e
  have hz : (fs.map (·.1)).length ≤ sizeLine := by rw [List.length_map, sizeLine_eq]; omega
  refine set_map I.kIn O c.sa c.po n.taker c.hd wi hz fun h' O' sb => h _ ?_
  have hd : ∃ o, h'.get? dx = some o := let ⟨o, _, _, e', _⟩ := O'.ns; ⟨o, e'⟩
  refine I.write (x := a) (e := dx) (by rw [e]; exact True.intro) (.inr ho) (fun b q hb z => (sb.2 b hb).trans z) hd ?_
  refine ⟨by rw [upd_ne O.ne]; exact ho, ?_, O.ne, O'.obj, _, O'.ns, fun g => ?_, fun g hg => ?_⟩
  · have := length_putF f y fs; omega
  · show RelO ((putF f y fs).lookup g) (if g = f then some u else mA g)
    rw [lookup_putF]
    by_cases q : g = f
    · rw [if_pos q, if_pos q]; exact ry
    · rw [if_neg q, if_neg q]; exact r g
  · by_cases q : g = f
    · rw [q]; exact (keys_putF f y fs).1
    · refine (keys_putF f y fs).2 g (wi g fun z => hg ?_)
      show (if g = f then some u else mA g) = none
      rw [if_neg q]; exact z

/-- a new instance, tracked, without attributes -/
theorem Inv.made (I : Inv X pins σ H s) : Inv X pins σ (upd (upd H s.heap.objs.size (.own (s.heap.objs.size + 1))) (s.heap.objs.size + 1) (.ins C s.heap.objs.size []))
    { s with heap := (s.heap.push PySem.W.emptyDict).push (PySem.W.instObj C s.heap.objs.size) } := by
  have e1 : (s.heap.push PySem.W.emptyDict).get? s.heap.objs.size = some PySem.W.emptyDict := Heap.get?_push_size s.heap rfl
  have e2 : ((s.heap.push PySem.W.emptyDict).push (PySem.W.instObj C s.heap.objs.size)).get? (s.heap.objs.size + 1) = some (PySem.W.instObj C s.heap.objs.size) := by
    have := Heap.get?_push_size (s.heap.push PySem.W.emptyDict) (o := PySem.W.instObj C s.heap.objs.size) rfl
    rwa [Heap.size_push] at this
  have e3 : (s.heap.push PySem.W.emptyDict).Ns s.heap.objs.size (fun _ => none) := ⟨PySem.W.emptyDict, #[], _, e1, rfl, (fun e he => absurd he (by simp)), fun _ => rfl⟩
  have I1 := I.laid (a := s.heap.objs.size) (o := .own (s.heap.objs.size + 1)) (h' := s.heap.push PySem.W.emptyDict) (t' := s.toks) (fun b u q => Heap.get?_push_of_some _ q) (Nat.le_refl _) ⟨_, e1⟩
  refine I1.laid (a := s.heap.objs.size + 1) (o := .ins C s.heap.objs.size []) (t' := s.toks) (fun b u q => Heap.get?_push_of_some _ q) (Nat.le_of_eq (Heap.size_push _ _)) ?_
  have ne : s.heap.objs.size ≠ s.heap.objs.size + 1 := Nat.ne_of_lt (Nat.lt_succ_self _)
  refine ⟨by rw [upd_ne ne, upd_same], Nat.zero_le _, ne, e2, fun _ => none, (Heap.Ns1.of_empty e3).at fun o q => Heap.get?_push_of_some _ q, fun _ => True.intro, fun y hy => absurd rfl hy⟩

/-- e.f where nothing but the object is asked: through attributeBase (super) and the last hold -/
theorem attr_of {prog : Program} {w : World} {env : Env} {e : Expr} {f : Str} {pos : Pos} {s : Shared} {Q : Value → Shared → Prop} (hb : attributeBase e f env (eval e env) = eval e env)
    (h : wpAny (model prog w) A (eval e env) (fun o s₁ => wpAny (model prog w) A (getAttr o f true) Q E s₁) E s) : wpAny (model prog w) A (eval (.Attribute e f pos) env) Q E s :=
  Attribute_any_ h (by rw [arm_eval_Attribute, hb])
end

/-! ### readings and rules -/
/-- e.f, an attribute of the instance -/
def tFld (K : PySem.W.Frag) (ta : TE) (f : Str) : TE := fun σ H Q => ta σ H fun x H1 => ∃ a C dx fs v, x = .ref a ∧ H1 a = some (.ins C dx fs) ∧ Cls K C ∧ NoAttr K C f ∧ fs.lookup f = some v ∧ Q v H1
/-- e.f, a constant of the class -/
def tCon (K : PySem.W.Frag) (ta : TE) (f : Str) : TE := fun σ H Q => ta σ H fun x H1 => ∃ a C dx fs v u, x = .ref a ∧ H1 a = some (.ins C dx fs) ∧ Cls K C ∧ Con K C f v u ∧ fs.lookup f = none ∧ Q v H1
/-- e.f = value -/
def sFld (K : PySem.W.Frag) (ta tv : TE) (f : Str) : TS := fun D σ H => tv σ H fun y H1 => ta σ H1 fun x H2 => ∃ a C dx fs, x = .ref a ∧ H2 a = some (.ins C dx fs) ∧ Cls K C ∧ NoAttr K C f ∧ fs.length < 1000 ∧
  D.nx σ (upd H2 a (.ins C dx (putF f y fs)))
/-- an augmented operator on two values -/
def InOp (X : Cx) (op : Operator) (rd : V → V → Hp → VK → Prop) : Prop :=
  ∀ (pins : List (Addr × Obj)) (s : Shared) (σ : St) (H : Hp) (x y : V) (u v : Value) (Q : VK), Inv X pins σ H s → RelV x u → RelV y v → rd x y H Q → wpAny (model X.prog X.w) X.A (inplaceOp op u v) (EP X pins σ Q) X.xe s
/-- e.f op= value -/
def sFldAug (K : PySem.W.Frag) (ta tv : TE) (rd : V → V → Hp → VK → Prop) (f : Str) : TS := fun D σ H => ta σ H fun x H1 => ∃ a C dx fs v, x = .ref a ∧ H1 a = some (.ins C dx fs) ∧ Cls K C ∧ NoAttr K C f ∧ fs.lookup f = some v ∧
  tv σ H1 fun y H2 => rd v y H2 fun z H3 => ∃ dx' fs', H3 a = some (.ins C dx' fs') ∧ fs'.length < 1000 ∧ D.nx σ (upd H3 a (.ins C dx' (putF f z fs')))

section
variable {X : Cx} {o e value : Expr} {f : Str} {pos pos' tpos : Pos} {ta tv : TE}
theorem pe_fld (he : PE X e ta) (hb : attributeBase e f X.env (eval e X.env) = eval e X.env) : PE X (.Attribute e f pos) (tFld X.K ta f) := by
  intro pins s σ H Q I h
  refine attr_of hb (thn (he pins s σ H _ I h) fun u s1 ⟨x, H1, I1, rx, a, C, dx, fs, v, ex, ea, c, n, l, q⟩ => ?_)
  subst ex
  obtain rfl : u = Value.ref a := rx
  exact getattr_ok I1 ea c n l fun u' s2 I2 ru => ⟨v, H1, I2, ru, q⟩
theorem pe_con (he : PE X e ta) (hb : attributeBase e f X.env (eval e X.env) = eval e X.env) : PE X (.Attribute e f pos) (tCon X.K ta f) := by
  intro pins s σ H Q I h
  refine attr_of hb (thn (he pins s σ H _ I h) fun u s1 ⟨x, H1, I1, rx, a, C, dx, fs, v, u0, ex, ea, c, k, l, q⟩ => ?_)
  subst ex
  obtain rfl : u = Value.ref a := rx
  exact getcon_ok I1 ea c k l fun s2 I2 => ⟨v, H1, I2, k.rel, q⟩
theorem ps_fld (ha : PE X o ta) (hv : PE X value tv) (hs : swapsWith value (some (.Attribute o f pos')) pos.line X.env = pure false) : PS X (.Assign [.Attribute o f pos'] value pos) (sFld X.K ta tv f) := by
  intro pins s σ H D I h
  refine plainObj_wpAny_Assign_Attribute (thn (hv pins s σ H _ I h) fun u s1 ⟨y, H1, I1, ry, q⟩ => thn (ha pins s1 σ H1 _ I1 q) fun ov s2 ⟨x, H2, I2, rx, a, C, dx, fs, ex, ea, c, n, l, q2⟩ => ?_) hs
  subst ex
  obtain rfl : ov = Value.ref a := rx
  exact setattr_ok I2 ea c n l ry fun s3 I3 => ⟨σ, _, I3, q2⟩
theorem ps_fldaug {op : Operator} {rd : V → V → Hp → VK → Prop} (ha : PE X o ta) (hv : PE X value tv) (hop : InOp X op rd) : PS X (.AugAssign (.Attribute o f tpos) op value pos) (sFldAug X.K ta tv rd f) := by
  intro pins s σ H D I h
  refine wpAny_AugAssign_AttributeAny (thn (ha pins s σ H _ I h) fun ov s1 ⟨x, H1, I1, rx, a, C, dx, fs, v, ex, ea, c, n, l, q⟩ => ?_)
  subst ex
  obtain rfl : ov = Value.ref a := rx
  refine getattr_ok I1 ea c n l fun u s2 I2 ru => thn (hv pins s2 σ H1 _ I2 q) fun w3 s3 ⟨y, H2, I3, ry, q3⟩ => thn (hop pins s3 σ H2 v y u w3 _ I3 ru ry q3) fun w4 s4 ⟨z, H3, I4, rz, dx', fs', ea', l', q4⟩ => ?_
  exact setattr_ok I4 ea' c n l' rz fun s5 I5 => ⟨σ, _, I5, q4⟩
def rAdd : V → V → Hp → VK → Prop := fun x y H Q => ∃ i j, x = .int i ∧ y = .int j ∧ Q (.int (i + j)) H
def rSub : V → V → Hp → VK → Prop := fun x y H Q => ∃ i j, x = .int i ∧ y = .int j ∧ Q (.int (i - j)) H
theorem in_add : InOp X .Add rAdd := by
  rintro pins s σ H x y u v Q I rx ry ⟨i, j, rfl, rfl, q⟩
  obtain ⟨t, rfl⟩ := (show ∃ t, u = Value.int i t from rx)
  obtain ⟨t', rfl⟩ := (show ∃ t', v = Value.int j t' from ry)
  exact PyProof.Rows.iadd_int ⟨.int (i + j), H, I.tok _, ⟨_, rfl⟩, q⟩
theorem in_sub : InOp X .Sub rSub := by
  rintro pins s σ H x y u v Q I rx ry ⟨i, j, rfl, rfl, q⟩
  obtain ⟨t, rfl⟩ := (show ∃ t, u = Value.int i t from rx)
  obtain ⟨t', rfl⟩ := (show ∃ t', v = Value.int j t' from ry)
  exact PyProof.Rows.isub_int ⟨.int (i - j), H, I.tok _, ⟨_, rfl⟩, q⟩

/-- what is between an instance and its method: the tree of a method call -/
theorem methcall_of {pl : Sem Bool} {m : Str} {apos : Pos} {args : List Expr} {pins : List (Addr × Obj)} {s : Shared} {σ : St} {H : Hp} {Q : Value → Shared → Prop} {te : TE} (he : PE X e te) (I : Inv X pins σ H s)
    (h : te σ H fun x H1 => ∃ a C dx fs g, x = .ref a ∧ H1 a = some (.ins C dx fs) ∧ Cls X.K C ∧ Meth X.K C m g ∧ fs.lookup m = none ∧
      ∀ s1, Inv X pins σ H1 s1 → wpAny (model X.prog X.w) X.A (callWith pos (.ref g) [.ref a] (backTo pos (starEach args X.env)) (backToKw pos (keywordEach [] X.env))) Q X.xe s1)
    (ht : eval (.Call (.Attribute e m apos) args [] pos) X.env = (do
      let ov ← eval e X.env
      standAt apos.atName
      let (f, first) ← holding [ov] (getMethod ov m pl)
      callWith pos f first (backTo pos (starEach args X.env)) (backToKw pos (keywordEach [] X.env)))) :
    wpAny (model X.prog X.w) X.A (eval (.Call (.Attribute e m apos) args [] pos) X.env) Q X.xe s := by
  refine PySem.W.methodCall_KW (pl := pl) (thn (he pins s σ H _ I h) fun u s1 ⟨x, H1, I1, rx, a, C, dx, fs, g, ex, ea, c, k, l, q⟩ => ?_) ht
  subst ex
  obtain rfl : u = Value.ref a := rx
  exact getmeth_ok I1 ea c k l (q s1 I1)
end

/-! ### isinstance -/
section
variable {X : Cx} {pins : List (Addr × Obj)} {σ : St} {H : Hp} {s : Shared} {A : Around} {E : Value → Shared → Prop} {Q : Value → Shared → Prop} {c : Value} {b : Bool}
/-- the type of a value, as the fragment's deciders take it; for an instance its class -/
inductive TyOf (K : PySem.W.Frag) (H : Hp) : V → Value → Prop where
  | non : TyOf K H .non (.type "NoneType")
  | bl (x : Bool) : TyOf K H (.bl x) (.type "bool")
  | int (i : Int) : TyOf K H (.int i) (.type "int")
  | str (x : Str) : TyOf K H (.str x) (.type "str")
  | flt (x : UInt64) : TyOf K H (.flt x) (.type "float")
  | lst {a : Addr} {xs : List V} (e : H a = some (.lst xs)) : TyOf K H (.ref a) (.type "list")
  | frz {a : Addr} {o : Obj} {xs : List V} (e : H a = some (.frz o (.lst xs))) : TyOf K H (.ref a) (.type "list")
  | tup {a : Addr} {xs : List V} (e : H a = some (.tup xs)) : TyOf K H (.ref a) (.type "tuple")
  | dK {a : Addr} {kvs : List (Key × V)} (e : H a = some (.dK kvs)) : TyOf K H (.ref a) (.type "dict")
  | dT {a : Addr} {kvs : List (List Key × V)} (e : H a = some (.dT kvs)) : TyOf K H (.ref a) (.type "dict")
  | ins {a C dx : Addr} {fs : List (Str × V)} (e : H a = some (.ins C dx fs)) (cl : Cls K C) (ha : PySem.W.findIn K (.ref C) "__class__" = some (some (.builtin "object.__class__")))
      (hn : PySem.W.specialIn K (.builtin "object.__class__") "__get__" = some (some (.builtin "getset_descriptor.__get__"))) (htk : PySem.W.takesIn K (.builtin "object.__class__") = some true)
      (hm : PySem.W.mroIn K C (.type "object") = some true) : TyOf K H (.ref a) (.ref C)
/-- isinstance(x, c) for one class c, a built-in or an own one: kitOne's answer -/
theorem isinst_ok {x : V} {u t : Value} (I : Inv X pins σ H s) (rx : RelV x u) (ty : TyOf X.K H x t) (e : PySem.W.kitOne X.K t c = some b) (h : ∀ tk, Q (.bool b) { s with toks := tk }) :
    wpAny (model X.prog X.w) A (call (.builtin "isinstance") [u, c]) Q E s := by
  cases ty with
  | non => cases (show u = Value.none from rx); exact PySem.W.kia_one PySem.W.kitx_none I.kIn True.intro e (fun z => nomatch z) h
  | bl y => cases (show u = Value.bool y from rx); exact PySem.W.kia_one PySem.W.kitx_bool I.kIn True.intro e (fun z => nomatch z) h
  | int i => obtain ⟨t, q⟩ := (show ∃ t, u = Value.int i t from rx); cases q; exact PySem.W.kia_one PySem.W.kitx_int I.kIn True.intro e (fun z => nomatch z) h
  | str y => obtain ⟨t, q⟩ := (show ∃ t, u = Value.str y t from rx); cases q; exact PySem.W.kia_one PySem.W.kitx_str I.kIn True.intro e (fun z => nomatch z) h
  | flt y => obtain ⟨t, q⟩ := (show ∃ t, u = Value.float y t from rx); cases q; exact PySem.W.kia_one PySem.W.kitx_float I.kIn True.intro e (fun z => nomatch z) h
  | @lst a xs ea =>
    cases (show u = Value.ref a from rx)
    obtain ⟨_, _, n, _, h1⟩ := (show ObjOk X.prog X.w H s.heap a (.lst xs) from I.hok a _ ea)
    exact PySem.W.kia_one PySem.W.kitx_list I.kIn ⟨_, h1, rfl⟩ e (fun z => nomatch z) h
  | @frz a ob xs ea =>
    cases (show u = Value.ref a from rx)
    obtain ⟨_, _, _, n, _, h1⟩ := (show ObjOk X.prog X.w H s.heap a (.frz ob (.lst xs)) from I.hok a _ ea)
    exact PySem.W.kia_one PySem.W.kitx_list I.kIn ⟨_, h1, rfl⟩ e (fun z => nomatch z) h
  | @tup a xs ea =>
    cases (show u = Value.ref a from rx)
    obtain ⟨_, _, _, p⟩ := (show ObjOk X.prog X.w H s.heap a (.tup xs) from I.hok a _ ea)
    obtain ⟨o, h1, h2, _⟩ := p
    exact PySem.W.kia_one PySem.W.kitx_tuple I.kIn ⟨o, h1, h2⟩ e (fun z => nomatch z) h
  | @dK a kvs ea =>
    cases (show u = Value.ref a from rx)
    obtain ⟨_, _, vs, _, p⟩ := (show ObjOk X.prog X.w H s.heap a (.dK kvs) from I.hok a _ ea)
    obtain ⟨o, es, ep, h1, h2, _⟩ := p
    exact PySem.W.kia_one PySem.W.kitx_dict I.kIn ⟨o, h1, h2.1⟩ e (fun z => nomatch z) h
  | @dT a kvs ea =>
    cases (show u = Value.ref a from rx)
    obtain ⟨_, _, xs, _, o, es, ep, h1, h2, _⟩ := (show ObjOk X.prog X.w H s.heap a (.dT kvs) from I.hok a _ ea)
    exact PySem.W.kia_one PySem.W.kitx_dict I.kIn ⟨o, h1, h2.1⟩ e (fun z => nomatch z) h
  | @ins a C dx fs ea cl ha hn htk hm =>
    cases (show u = Value.ref a from rx)
    obtain ⟨mA, O, _⟩ := ins_get I.hok ea
    obtain ⟨od, J, _⟩ := O.look
    exact PySem.W.kia_one (PySem.W.kitx_own (cl.get _) cl.hd ha hn htk hm) I.kIn J e (fun z => nomatch z) h
end
end L2

namespace L2
open PySem PySem.Spec PyProof.Rows

/-! ### room -/
structure Room (k : Nat) (A : Around) : Prop where
  hd : A.handled = none
  dp : A.depth + 3 * k + 5 < recursionLimit
  un : A.units + 16 * k + 200 < cLine
  gd : A.guards = some []
theorem Room.mono {j k : Nat} {A : Around} (r : Room k A) (h : j ≤ k) : Room j A := ⟨r.hd, by have := r.dp; omega, by have := r.un; omega, r.gd⟩
theorem Room.deeper {k : Nat} {A : Around} (r : Room (k + 1) A) (env : Env) : Room k (A.deeper env) :=
  ⟨r.hd, by have := r.dp; show A.depth + 1 + 3 * k + 5 < _; omega, by have := r.un; show A.units + 3 + 16 * k + 200 < _; omega, r.gd⟩
theorem Room.in1 {k : Nat} {A : Around} (r : Room (k + 1) A) : Room k A.in1 :=
  ⟨r.hd, by have := r.dp; show A.depth + 3 * k + 5 < _; omega, by have := r.un; show A.units + 1 + 16 * k + 200 < _; omega, r.gd⟩
theorem make_depth {A : Around} {C : Addr} {us : List Value} {kw : List (Str × Value)} : (A.under (.builtin "type.__call__" ⟨.ref C :: us, kw⟩)).depth = A.depth + 1 := by
  first | rfl | simp [Around.under, Code.weight, Code.isCreation, Code.isGuard, Code.isCaller, Code.frames, Code.isFrame, guardIds]
theorem make_units {A : Around} {C : Addr} {us : List Value} {kw : List (Str × Value)} : (A.under (.builtin "type.__call__" ⟨.ref C :: us, kw⟩)).units = A.units + 1 := by
  first | rfl | simp [Around.under, Code.cUnits, Code.frames, Code.isFrame]
theorem Room.make {k : Nat} {A : Around} (r : Room (k + 1) A) (C : Addr) (us : List Value) (kw : List (Str × Value)) : Room k (A.under (.builtin "type.__call__" ⟨.ref C :: us, kw⟩)) :=
  ⟨r.hd, by have := r.dp; rw [make_depth]; omega, by have := r.un; rw [make_units]; omega, r.gd⟩
theorem Room.depth {k : Nat} {A : Around} (r : Room k A) : A.depth < recursionLimit := by have := r.dp; omega
theorem Room.units {k : Nat} {A : Around} (r : Room k A) : A.units + 64 < cLine := by have := r.un; omega
theorem Room.units0 {k : Nat} {A : Around} (r : Room k A) : A.units < cLine := by have := r.un; omega

/-! ### argument lists and displays -/
def tNil : TA := fun _ H Q => Q [] H
def tCons (ta : TE) (tr : TA) : TA := fun σ H Q => ta σ H fun x H1 => tr σ H1 fun xs H2 => Q (x :: xs) H2
section
variable {X : Cx} {e : Expr} {es : List Expr} {te : TE} {t : TA} {pos : Pos}
theorem pa_nil : PA X [] tNil := fun _ _ _ _ H Q I h => Calls.spliced_nil ⟨[], H, I, .nil, h⟩
theorem pa_cons (ha : PE X e te) (hr : PA X es t) (hs : starEach (e :: es) X.env = (false, eval e X.env) :: starEach es X.env := by rfl) : PA X (e :: es) (tCons te t) := by
  intro pos pins s σ H Q I h
  rw [hs]
  show wpAny _ _ (spliced ((false, eval e X.env) :: backTo pos (starEach es X.env))) _ _ s
  refine Calls.spliced_cons (thn (ha pins s σ H _ I h) fun u s1 ⟨x, H1, I1, r1, q1⟩ => ?_)
  exact thn (hr pos pins s1 σ H1 _ I1 q1) fun us s2 ⟨xs, H2, I2, r2, q2⟩ => ⟨x :: xs, H2, I2, .cons r1 r2, q2⟩

/-- a tuple, a list of written items -/
def tTup (t : TA) : TE := fun σ H Q => t σ H fun xs H1 => xs.length ≤ sizeLine ∧ ∀ p, H1 p = none → Q (.ref p) (upd H1 p (.tup xs))
def tLst (t : TA) : TE := fun σ H Q => t σ H fun xs H1 => xs.length ≤ sizeLine ∧ ∀ p, H1 p = none → Q (.ref p) (upd H1 p (.lst xs))
theorem pe_tup {x1} (h : PA X es t) : PE X (.Tuple es x1 pos) (tTup t) := by
  intro pins s σ H Q I hq
  refine wpAny_Tuple_spliced (thn (h pos pins s σ H _ I hq) fun us s1 ⟨xs, H1, I1, r, z, q⟩ => ⟨by rw [← r.length]; exact z, ?_⟩)
  have hf : H1 s1.heap.objs.size = none := I1.hok.fresh (Nat.le_refl _)
  refine ⟨.ref s1.heap.objs.size, upd H1 s1.heap.objs.size (.tup xs), I1.laid (t' := s1.toks) (fun b u e => Heap.get?_push_of_some _ e) (Nat.le_refl _) ?_, rfl, q _ hf⟩
  exact ⟨z, us, r, ⟨_, Heap.get?_push_size _ rfl, rfl, _, rfl⟩⟩
theorem pe_lst (h : PA X es t) : PE X (.List es pos) (tLst t) := by
  intro pins s σ H Q I hq
  refine wpAny_List_spliced (thn (h pos pins s σ H _ I hq) fun us s1 ⟨xs, H1, I1, r, z, q⟩ => ⟨by rw [← r.length]; exact z, ?_⟩)
  have hf : H1 s1.heap.objs.size = none := I1.hok.fresh (Nat.le_refl _)
  refine ⟨.ref s1.heap.objs.size, upd H1 s1.heap.objs.size (.lst xs), I1.laid (t' := s1.toks) (fun b u e => Heap.get?_push_of_some _ e) (Nat.le_refl _) ?_, rfl, q _ hf⟩
  exact ⟨z, us, 0, r, Heap.get?_push_size _ rfl⟩
end

/-! ### what a def promises -/
/-- a def's promise: the bound arguments in the parameters' order, the heap, the wanted end, the wanted exception -/
abbrev Sp := List V → Hp → VK → XK → Prop
/-- how an exception lies behind a call (file 08 gives it): the callers' frames, abstract heap and state ahead of the call, the wish, the exception, the state -/
abbrev CXT := List Env → Hp → Shared → XK → Value → Shared → Prop

/-- the state at a call -/
structure Env0 (P : Program) (w : World) (K : PySem.W.Frag) (mg : Str → Option Value) (base : Heap) (A : Around) (outer : List Env) (s : Shared) (H : Hp) : Prop where
  frames : A.frames = some outer
  mod : Mod K mg base
  bs : ∀ b o, base.get? b = some o → s.heap.get? b = some o ∧ H b = none
  bsz : base.objs.size ≤ s.heap.objs.size
  funs : s.heap.FunFrames base outer
  frf : ∀ b ∈ frs outer, H b = none
  hok : HOk P w H s.heap
  bare : AllBare s.gens
/-- a call's end -/
def CE (outer : List Env) (P : Program) (w : World) (H : Hp) (s : Shared) (Q : VK) (u : Value) (s' : Shared) : Prop :=
  ∃ v H', s'.os = s.os ∧ AllBare s'.gens ∧ Un (frs outer) [] H H' s.heap s'.heap ∧ HOk P w H' s'.heap ∧ RelV v u ∧ Q v H'
def CR (CX : CXT) (outer : List Env) (P : Program) (w : World) (H : Hp) (s : Shared) (Q : VK) (E : XK) (r : Result) (s' : Shared) : Prop :=
  match r with
  | .ok (.ret u) => CE outer P w H s Q u s'
  | .ok _ => False
  | .error e => CX outer H s E e s'
structure FnOk (P : Program) (w : World) (K : PySem.W.Frag) (mg : Str → Option Value) (base : Heap) (CX : CXT) (k : Nat) (f : Addr) (fd : FuncData) (ps : List Str) (sp : Sp) : Prop where
  len : ∀ vs H Q E, sp vs H Q E → vs.length = ps.length
  run : ∀ (A : Around) (outer : List Env) (s : Shared) (H : Hp) (args : Args) (us : List Value) (vs : List V) (Q : VK) (E : XK), Room k A → Env0 P w K mg base A outer s H → BindsTo s fd args (ps.zip us) → Vals vs us → sp vs H Q E →
    codeAny (model P w) A (.call (.ref f) args) (CR CX outer P w H s Q E) s
theorem FnOk.mono {P : Program} {w : World} {K : PySem.W.Frag} {mg : Str → Option Value} {base : Heap} {CX : CXT} {j k : Nat} {f : Addr} {fd : FuncData} {ps : List Str} {sp : Sp} (F : FnOk P w K mg base CX j f fd ps sp) (h : j ≤ k) :
    FnOk P w K mg base CX k f fd ps sp := ⟨F.len, fun A outer s H args us vs Q E hr => F.run A outer s H args us vs Q E (hr.mono h)⟩
/-- a weaker promise -/
theorem FnOk.imp {P : Program} {w : World} {K : PySem.W.Frag} {mg : Str → Option Value} {base : Heap} {CX : CXT} {k : Nat} {f : Addr} {fd : FuncData} {ps : List Str} {sp sp' : Sp} (F : FnOk P w K mg base CX k f fd ps sp)
    (h : ∀ vs H Q E, sp' vs H Q E → sp vs H Q E) : FnOk P w K mg base CX k f fd ps sp' :=
  ⟨fun vs H Q E q => F.len vs H Q E (h _ _ _ _ q), fun A outer s H args us vs Q E hr he hb hv hs => F.run A outer s H args us vs Q E hr he hb hv (h _ _ _ _ hs)⟩

theorem Env0.make {P : Program} {w : World} {K : PySem.W.Frag} {mg : Str → Option Value} {base : Heap} {A : Around} {outer : List Env} {s : Shared} {H : Hp} (e : Env0 P w K mg base A outer s H) (C : Addr) (us : List Value) (kw : List (Str × Value)) :
    Env0 P w K mg base (A.under (.builtin "type.__call__" ⟨.ref C :: us, kw⟩)) outer s H := ⟨by first | exact e.frames | (simpa [Around.under, Code.envs, Code.isFrame, pushEnvs] using e.frames), e.mod, e.bs, e.bsz, e.funs, e.frf, e.hok, e.bare⟩
theorem Env0.in1 {P : Program} {w : World} {K : PySem.W.Frag} {mg : Str → Option Value} {base : Heap} {A : Around} {outer : List Env} {s : Shared} {H : Hp} (e : Env0 P w K mg base A outer s H) :
    Env0 P w K mg base A.in1 outer s H := ⟨e.frames, e.mod, e.bs, e.bsz, e.funs, e.frf, e.hok, e.bare⟩

section
variable {X : Cx} {pins : List (Addr × Obj)} {σ : St} {H : Hp} {s s' : Shared}
/-- from a body: what a callee wants -/
theorem Inv.env0 (I : Inv X pins σ H s) : Env0 X.prog X.w X.K X.mg X.base X.A X.stack s H :=
  ⟨I.ok.frames, I.ok.mod, I.bs, Nat.le_trans I.ok.bsz I.sz, I.stack, I.stkFree, I.hok, I.bare⟩
/-- behind a call -/
theorem Inv.after {Q : VK} {u : Value} (I : Inv X pins σ H s) (h : CE X.stack X.prog X.w H s Q u s') : EP X pins σ Q u s' := by
  obtain ⟨v, H', os, bare, un, hok, r, q⟩ := h
  obtain ⟨hh, g, d, t, os'⟩ := s'
  obtain rfl : os' = s.os := os
  exact ⟨v, H', I.call (h' := hh) (g' := g) (d' := d) (t' := t) (ch := []) un hok bare (fun b z => absurd z (by simp)), r, q⟩
end

/-! ### calls -/
/-- f(..): the written arguments, then the defaults dvs; E: what is wanted of an exception -/
def tCall (sp : Sp) (dvs : List V) (E : XK) (t : TA) : TE := fun σ H Q => t σ H fun vs H1 => sp (vs ++ dvs) H1 Q E
/-- o.m(..) of an instance of the class at C -/
def tMeth (C : Addr) (m : Str) (sp : Sp) (dvs : List V) (E : XK) (ta : TE) (t : TA) : TE := fun σ H Q => ta σ H fun x H1 => ∃ a dx fs, x = .ref a ∧ H1 a = some (.ins C dx fs) ∧ fs.lookup m = none ∧
  t σ H1 fun vs H2 => sp (x :: (vs ++ dvs)) H2 Q E
/-- C(..): a new instance and its dict, then __init__ -/
def tMake (C : Addr) (sp : Sp) (dvs : List V) (E : XK) (t : TA) : TE := fun σ H Q => t σ H fun vs H1 => ∀ x dx, H1 x = none → H1 dx = none → dx ≠ x →
  sp (.ref x :: (vs ++ dvs)) (upd (upd H1 dx (.own x)) x (.ins C dx [])) (fun v H2 => v = .non ∧ Q (.ref x) H2) E

/-- how the parameters are bound: us the positional arguments, kw the keywords' values by name, ds the defaults that fill up -/
def Binds (K : PySem.W.Frag) (fd : FuncData) (ps : List Str) (ds : List Value) : Prop :=
  ∀ (s : Shared) (us : List Value), K.In s.heap → (us ++ ds).length = ps.length → BindsTo s fd ⟨us, []⟩ (ps.zip (us ++ ds))
/-- every parameter is given -/
theorem Binds.all {K : PySem.W.Frag} {fd : FuncData} {ps : List Str} (h : ∀ us : List Value, us.length = ps.length → bindArgs fd ⟨us, []⟩ = pure (ps.zip us)) : Binds K fd ps [] := fun s us _ hl => by
  rw [List.append_nil] at hl ⊢
  exact .of_eq (h us hl)

/-- an exception of a callee reaches what this body wants of exceptions -/
def Passes (CX : CXT) (X : Cx) (E : XK) : Prop := ∀ (pins : List (Addr × Obj)) (σ : St) (H : Hp) (s : Shared) (e : Value) (s' : Shared), Inv X pins σ H s → CX X.stack H s E e s' → X.xe e s'

section
variable {X : Cx} {CX : CXT} {k : Nat} {f C : Addr} {fd : FuncData} {ps : List Str} {sp : Sp} {dvs : List V} {ds : List Value} {E : XK} {x m : Str} {p pos apos : Pos} {e o : Expr} {es : List Expr} {ta : TE} {t : TA}

/-- the callee runs -/
theorem run_fn {pins : List (Addr × Obj)} {σ : St} {H : Hp} {s : Shared} {Q : VK} {us : List Value} {vs : List V} (F : FnOk X.prog X.w X.K X.mg X.base CX k f fd ps sp) (hr : Room k X.A) (hb : Binds X.K fd ps ds) (hd : Vals dvs ds) (hx : Passes CX X E)
    (I : Inv X pins σ H s) (r : Vals vs us) (h : sp (vs ++ dvs) H Q E) : wpAny (model X.prog X.w) X.A (call (.ref f) us) (EP X pins σ Q) X.xe s := by
  have r2 : Vals (vs ++ dvs) (us ++ ds) := r.append hd
  have hl : (us ++ ds).length = ps.length := by rw [← r2.length]; exact F.len _ _ _ _ h
  refine wpAny_call (codeAny_mono (F.run X.A X.stack s H ⟨us, []⟩ (us ++ ds) (vs ++ dvs) Q E hr I.env0 (hb s us I.kIn hl) r2 h) fun r s' hq => ?_)
  cases r with
  | error e => exact hx pins σ H s e s' I hq
  | ok fl =>
    cases fl with
    | ret u => exact I.after hq
    | next => exact False.elim hq
    | brk => exact False.elim hq
    | cont => exact False.elim hq

theorem pe_call (F : FnOk X.prog X.w X.K X.mg X.base CX k f fd ps sp) (hr : Room k X.A) (hg : Gl X x) (hm : X.mg x = some (.ref f)) (hk : PySem.W.keepIn X.K (.ref f) = true) (hb : Binds X.K fd ps ds) (hd : Vals dvs ds) (hx : Passes CX X E)
    (ha : PA X (e :: es) t) (hdb : (x == ("__debug__" : Str)) = false := by decide) (he : starEach (e :: es) X.env = (false, eval e X.env) :: starEach es X.env := by rfl) (hpl : (backTo pos (starEach es X.env)).any (·.1) = false := by rfl) :
    PE X (.Call (.Name x p) (e :: es) [] pos) (tCall sp dvs E t) := by
  intro pins s σ H Q I h
  refine wpAny_Call_Name_kw (ld_glob I hg hm ?_ hdb)
  refine PySem.W.callWith_K (h₀ := X.base) I.ok.mod.kin hk (thn (ha pos pins s σ H _ I h) fun us s1 ⟨vs, H1, I1, r, q⟩ => ⟨I1.kIn, ?_⟩) he hpl
  exact run_fn F hr hb hd hx I1 r q
theorem pe_call0 (F : FnOk X.prog X.w X.K X.mg X.base CX k f fd ps sp) (hr : Room k X.A) (hg : Gl X x) (hm : X.mg x = some (.ref f)) (hk : PySem.W.keepIn X.K (.ref f) = true) (hb : Binds X.K fd ps ds) (hd : Vals dvs ds) (hx : Passes CX X E)
    (hdb : (x == ("__debug__" : Str)) = false := by decide) : PE X (.Call (.Name x p) [] [] pos) (tCall sp dvs E tNil) := by
  intro pins s σ H Q I h
  refine wpAny_Call_Name_kw (ld_glob I hg hm ?_ hdb)
  exact PySem.W.callWith_K0 I.kIn hk (run_fn (us := []) F hr hb hd hx I .nil h)

/-- o.m(e, ..) -/
theorem pe_meth {pl : Sem Bool} (he : PE X o ta) (c : Cls X.K C) (hm : Meth X.K C m f) (F : FnOk X.prog X.w X.K X.mg X.base CX k f fd ps sp) (hr : Room k X.A) (hb : Binds X.K fd ps ds) (hd : Vals dvs ds) (hx : Passes CX X E) (ha : PA X (e :: es) t)
    (hst : starEach (e :: es) X.env = (false, eval e X.env) :: starEach es X.env := by rfl) (hpl : (backTo pos (starEach es X.env)).any (·.1) = false := by rfl)
    (ht : eval (.Call (.Attribute o m apos) (e :: es) [] pos) X.env = (do
      let ov ← eval o X.env
      standAt apos.atName
      let (f, first) ← holding [ov] (getMethod ov m pl)
      callWith pos f first (backTo pos (starEach (e :: es) X.env)) (backToKw pos (keywordEach [] X.env))) := by rfl) :
    PE X (.Call (.Attribute o m apos) (e :: es) [] pos) (tMeth C m sp dvs E ta t) := by
  intro pins s σ H Q I h
  refine PySem.W.methodCall_KW (pl := pl) (thn (he pins s σ H _ I h) fun u s1 ⟨x, H1, I1, rx, a, dx, fs, ex, ea, l, q⟩ => ?_) ht
  subst ex
  obtain rfl : u = Value.ref a := rx
  refine getmeth_ok I1 ea c hm l ?_
  refine PySem.W.callWith_K (first := [.ref a]) (h₀ := X.base) I.ok.mod.kin hm.kp (thn (ha pos pins s1 σ H1 _ I1 q) fun us s2 ⟨vs, H2, I2, r, q2⟩ => ⟨I2.kIn, ?_⟩) hst hpl
  exact run_fn (us := .ref a :: us) (vs := .ref a :: vs) F hr hb hd hx I2 (.cons rfl r) q2
/-- o.m() -/
theorem pe_meth0 {pl : Sem Bool} (he : PE X o ta) (c : Cls X.K C) (hm : Meth X.K C m f) (F : FnOk X.prog X.w X.K X.mg X.base CX k f fd ps sp) (hr : Room k X.A) (hb : Binds X.K fd ps ds) (hd : Vals dvs ds) (hx : Passes CX X E)
    (ht : eval (.Call (.Attribute o m apos) [] [] pos) X.env = (do
      let ov ← eval o X.env
      standAt apos.atName
      let (f, first) ← holding [ov] (getMethod ov m pl)
      callWith pos f first (backTo pos (starEach [] X.env)) (backToKw pos (keywordEach [] X.env))) := by rfl) :
    PE X (.Call (.Attribute o m apos) [] [] pos) (tMeth C m sp dvs E ta tNil) := by
  intro pins s σ H Q I h
  refine PySem.W.methodCall_KW (pl := pl) (thn (he pins s σ H _ I h) fun u s1 ⟨x, H1, I1, rx, a, dx, fs, ex, ea, l, q⟩ => ?_) ht
  subst ex
  obtain rfl : u = Value.ref a := rx
  refine getmeth_ok I1 ea c hm l ?_
  exact PySem.W.callWith_K0 (first := [.ref a]) I1.kIn hm.kp (run_fn (us := [.ref a]) (vs := [.ref a]) F hr hb hd hx I1 (.cons rfl .nil) q)

/-- what a class must have to be made -/
structure Mk (K : PySem.W.Frag) (C f : Addr) : Prop where
  makes : PySem.W.makesIn K C = true
  init : PySem.W.findIn K (.ref C) "__init__" = some (some (.ref f))
  fn : PySem.W.isFn K (.ref f) = true
  kp : PySem.W.keepIn K (.ref C) = true

theorem run_make {pins : List (Addr × Obj)} {σ : St} {H : Hp} {s : Shared} {Q : VK} {us : List Value} {vs : List V} (M : Mk X.K C f) (F : FnOk X.prog X.w X.K X.mg X.base CX k f fd ps sp) (hr : Room (k + 1) X.A) (hb : Binds X.K fd ps ds) (hd : Vals dvs ds)
    (hx : Passes CX X E) (I : Inv X pins σ H s) (r : Vals vs us)
    (h : ∀ x dx, H x = none → H dx = none → dx ≠ x → sp (.ref x :: (vs ++ dvs)) (upd (upd H dx (.own x)) x (.ins C dx [])) (fun v H2 => v = .non ∧ Q (.ref x) H2) E) :
    wpAny (model X.prog X.w) X.A (call (.ref C) us) (EP X pins σ Q) X.xe s := by
  have hq := h (s.heap.objs.size + 1) s.heap.objs.size (I.hok.fresh (Nat.le_succ _)) (I.hok.fresh (Nat.le_refl _)) (Nat.ne_of_lt (Nat.lt_succ_self _))
  have I2 := Inv.made (C := C) I
  have r2 : Vals (V.ref (s.heap.objs.size + 1) :: (vs ++ dvs)) (Value.ref (s.heap.objs.size + 1) :: (us ++ ds)) := .cons rfl (r.append hd)
  have hl : (Value.ref (s.heap.objs.size + 1) :: us ++ ds).length = ps.length := by
    have e := r2.length
    rw [F.len _ _ _ _ hq] at e
    exact e.symm
  refine wpAny_call (make_map (f := f) I.kIn M.makes M.init (beq_iff_eq.mp M.fn) (codeAny_mono (F.run _ X.stack _ _ ⟨Value.ref (s.heap.objs.size + 1) :: us, []⟩ (Value.ref (s.heap.objs.size + 1) :: (us ++ ds)) _ _ E (hr.make C us [])
    (I2.env0.make C us []) (hb _ (Value.ref (s.heap.objs.size + 1) :: us) I2.kIn hl) r2 hq) fun r s' hq' => ?_))
  cases r with
  | error e => exact hx pins σ _ _ e s' I2 hq'
  | ok fl =>
    cases fl with
    | ret u =>
      obtain ⟨v, H', I3, rv, ev, q3⟩ := I2.after hq'
      subst ev
      exact ⟨rv, ⟨V.ref (s.heap.objs.size + 1), H', I3, rfl, q3⟩⟩
    | next => exact False.elim hq'
    | brk => exact False.elim hq'
    | cont => exact False.elim hq'
theorem pe_make (M : Mk X.K C f) (F : FnOk X.prog X.w X.K X.mg X.base CX k f fd ps sp) (hr : Room (k + 1) X.A) (hg : Gl X x) (hm : X.mg x = some (.ref C)) (hb : Binds X.K fd ps ds) (hd : Vals dvs ds) (hx : Passes CX X E)
    (ha : PA X (e :: es) t) (hdb : (x == ("__debug__" : Str)) = false := by decide) (he : starEach (e :: es) X.env = (false, eval e X.env) :: starEach es X.env := by rfl) (hpl : (backTo pos (starEach es X.env)).any (·.1) = false := by rfl) :
    PE X (.Call (.Name x p) (e :: es) [] pos) (tMake C sp dvs E t) := by
  intro pins s σ H Q I h
  refine wpAny_Call_Name_kw (ld_glob I hg hm ?_ hdb)
  refine PySem.W.callWith_K (h₀ := X.base) I.ok.mod.kin M.kp (thn (ha pos pins s σ H _ I h) fun us s1 ⟨vs, H1, I1, r, q⟩ => ⟨I1.kIn, ?_⟩) he hpl
  exact run_make M F hr hb hd hx I1 r q
theorem pe_make0 (M : Mk X.K C f) (F : FnOk X.prog X.w X.K X.mg X.base CX k f fd ps sp) (hr : Room (k + 1) X.A) (hg : Gl X x) (hm : X.mg x = some (.ref C)) (hb : Binds X.K fd ps ds) (hd : Vals dvs ds) (hx : Passes CX X E)
    (hdb : (x == ("__debug__" : Str)) = false := by decide) : PE X (.Call (.Name x p) [] [] pos) (tMake C sp dvs E tNil) := by
  intro pins s σ H Q I h
  refine wpAny_Call_Name_kw (ld_glob I hg hm ?_ hdb)
  exact PySem.W.callWith_K0 I.kIn M.kp (run_make (us := []) M F hr hb hd hx I .nil h)
end

/-! ### keywords -/
/-- the values of the keywords, from the left -/
def PK (X : Cx) (kws : List Keyword) (t : TA) : Prop :=
  ∀ (pos : Pos) (pins : List (Addr × Obj)) (s : Shared) (σ : St) (H : Hp) (Q : List V → Hp → Prop), Inv X pins σ H s → t σ H Q → wpAny (model X.prog X.w) X.A (evalAll ((backToKw pos (keywordEach kws X.env)).map (·.2))) (AP X pins σ Q) X.xe s
section
variable {X : Cx} {CX : CXT} {k : Nat} {f C : Addr} {fd : FuncData} {ps ks : List Str} {sp : Sp} {E : XK} {x m : Str} {p pos apos kpos : Pos} {e o : Expr} {es : List Expr} {kws : List Keyword} {te ta : TE} {t tk : TA} {nm : Option Str}
theorem pk_nil : PK X [] tNil := fun _ _ _ _ H Q I h => wpAny_evalAll_nil ⟨[], H, I, .nil, h⟩
theorem pk_cons (ha : PE X e te) (hr : PK X kws t) : PK X (⟨nm, e, kpos⟩ :: kws) (tCons te t) := by
  intro pos pins s σ H Q I h
  show wpAny _ _ (evalAll ((do let v ← eval e X.env; standAt pos; pure v) :: (backToKw pos (keywordEach kws X.env)).map (·.2))) _ _ s
  refine wpAny_evalAll_cons (wpAny_bind (thn (ha pins s σ H _ I h) fun u s1 ⟨x, H1, I1, r1, q1⟩ => wpAny_bind (wpAny_standAt (wpAny_pure ?_))))
  exact thn (hr pos pins s1 σ H1 _ I1 q1) fun us s2 ⟨xs, H2, I2, r2, q2⟩ => ⟨x :: xs, H2, I2, .cons r1 r2, q2⟩

/-- how a call with keywords binds: g puts the positional values us and the keywords' values ws (names ks) in the parameters' order, defaults among them -/
structure KBinds (K : PySem.W.Frag) (fd : FuncData) (ps ks : List Str) (g : List Value → List Value → List Value) (gV : List V → List V → List V) : Prop where
  to : ∀ (s : Shared) (us ws : List Value), K.In s.heap → (g us ws).length = ps.length → BindsTo s fd ⟨us, ks.zip ws⟩ (ps.zip (g us ws))
  rel : ∀ {vs : List V} {us : List Value} {zs : List V} {ws : List Value}, Vals vs us → Vals zs ws → Vals (gV vs zs) (g us ws)
def tCallK (sp : Sp) (gV : List V → List V → List V) (E : XK) (t tk : TA) : TE := fun σ H Q => t σ H fun vs H1 => tk σ H1 fun zs H2 => sp (gV vs zs) H2 Q E
variable {g : List Value → List Value → List Value} {gV : List V → List V → List V}
theorem run_fnk {pins : List (Addr × Obj)} {σ : St} {H : Hp} {s : Shared} {Q : VK} {us ws : List Value} {vs zs : List V} (F : FnOk X.prog X.w X.K X.mg X.base CX k f fd ps sp) (hr : Room k X.A) (hb : KBinds X.K fd ps ks g gV) (hx : Passes CX X E)
    (I : Inv X pins σ H s) (r : Vals vs us) (rz : Vals zs ws) (h : sp (gV vs zs) H Q E) : wpAny (model X.prog X.w) X.A (call (.ref f) us (ks.zip ws)) (EP X pins σ Q) X.xe s := by
  have r2 := hb.rel r rz
  have hl : (g us ws).length = ps.length := by rw [← r2.length]; exact F.len _ _ _ _ h
  refine wpAny_call (codeAny_mono (F.run X.A X.stack s H ⟨us, ks.zip ws⟩ (g us ws) (gV vs zs) Q E hr I.env0 (hb.to s us ws I.kIn hl) r2 h) fun r s' hq => ?_)
  cases r with
  | error e => exact hx pins σ H s e s' I hq
  | ok fl =>
    cases fl with
    | ret u => exact I.after hq
    | next => exact False.elim hq
    | brk => exact False.elim hq
    | cont => exact False.elim hq
/-- f(e, .., k = v, ..) -/
theorem pe_callK (F : FnOk X.prog X.w X.K X.mg X.base CX k f fd ps sp) (hr : Room k X.A) (hg : Gl X x) (hm : X.mg x = some (.ref f)) (hk : PySem.W.keepIn X.K (.ref f) = true) (hb : KBinds X.K fd ps ks g gV) (hx : Passes CX X E)
    (ha : PA X (e :: es) t) (hkw : PK X kws tk) (hall : (backToKw pos (keywordEach kws X.env)).all (·.1.isSome) = true := by rfl) (hks : (backToKw pos (keywordEach kws X.env)).filterMap (·.1) = ks := by rfl)
    (hdb : (x == ("__debug__" : Str)) = false := by decide) (he : starEach (e :: es) X.env = (false, eval e X.env) :: starEach es X.env := by rfl)
    (hpl : ((backTo pos (starEach (e :: es) X.env)).any (·.1) || (backToKw pos (keywordEach kws X.env)).any (·.1.isNone)) = false := by rfl) :
    PE X (.Call (.Name x p) (e :: es) kws pos) (tCallK sp gV E t tk) := by
  intro pins s σ H Q I h
  refine wpAny_Call_Name_kw (ld_glob I hg hm ?_ hdb)
  refine PySem.W.callWith_KW (h₀ := X.base) I.ok.mod.kin hk hall (thn (ha pos pins s σ H _ I h) fun us s1 ⟨vs, H1, I1, r, q⟩ => ?_) hpl he
  refine thn (hkw pos pins s1 σ H1 _ I1 q) fun ws s2 ⟨zs, H2, I2, rz, q2⟩ => ⟨I2.kIn, ?_⟩
  rw [hks]
  exact run_fnk F hr hb hx I2 r rz q2
end

/-! ### a def's body keeps its promise -/
/-- names: the parameters first -/
structure FnScope (N P : List Str) (sc : Scope) : Prop where
  kind : sc.kind = .function
  co : sc.isCoroutine = false
  gen : sc.isGenerator = false
  nd : N.Nodup
  pre : N.take P.length = P
  par : ∀ x ∈ P, sc.names.lookup x = some .local ∨ sc.names.lookup x = some .cell
  nofree : ∀ y ∈ sc.names, y.2 ≠ .free

theorem bindL_out {kindOf : Str → Option NameKind} {x : Str} : ∀ {binds : List (Str × Value)} {m : Str → Option Value}, (∀ v, (x, v) ∉ binds) → bindL kindOf binds m x = m x
  | [], _, _ => rfl
  | (n, v) :: r, m, h => by
    unfold bindL
    rw [bindL_out fun w hw => h w (List.mem_cons_of_mem _ hw)]
    split
    · have : x ≠ n := by rintro rfl; exact h v List.mem_cons_self
      simp [this]
    · rfl
theorem bindC_out {kindOf : Str → Option NameKind} {x : Str} : ∀ {binds : List (Str × Value)} {m : Str → Option Value}, (∀ v, (x, v) ∉ binds) → bindC kindOf binds m x = m x
  | [], _, _ => rfl
  | (n, v) :: r, m, h => by
    unfold bindC
    rw [bindC_out fun w hw => h w (List.mem_cons_of_mem _ hw)]
    split
    · rfl
    · have : x ≠ n := by rintro rfl; exact h v List.mem_cons_self
      simp [this]
theorem bindL_get {kindOf : Str → Option NameKind} {x : Str} {v : Value} : ∀ {P : List Str} {vs : List Value} {i : Nat} {m : Str → Option Value}, P.Nodup → P[i]? = some x → vs[i]? = some v → kindOf x = some .local →
    bindL kindOf (P.zip vs) m x = some v
  | [], _, _, _, _, h, _, _ => by simp at h
  | _ :: _, [], _, _, _, _, h, _ => by simp at h
  | p :: P, w :: vs, 0, m, nd, h1, h2, hk => by
    simp at h1 h2; subst h1; subst h2
    show bindL kindOf ((p, w) :: P.zip vs) m p = _
    unfold bindL
    rw [bindL_out fun v hv => (List.nodup_cons.mp nd).1 (List.of_mem_zip hv).1, if_pos hk]
    simp
  | p :: P, w :: vs, i + 1, m, nd, h1, h2, hk => by
    show bindL kindOf ((p, w) :: P.zip vs) m x = _
    unfold bindL
    exact bindL_get (i := i) (List.nodup_cons.mp nd).2 (by simpa using h1) (by simpa using h2) hk
theorem bindC_get {kindOf : Str → Option NameKind} {x : Str} {v : Value} : ∀ {P : List Str} {vs : List Value} {i : Nat} {m : Str → Option Value}, P.Nodup → P[i]? = some x → vs[i]? = some v → kindOf x ≠ some .local →
    bindC kindOf (P.zip vs) m x = some v
  | [], _, _, _, _, h, _, _ => by simp at h
  | _ :: _, [], _, _, _, _, h, _ => by simp at h
  | p :: P, w :: vs, 0, m, nd, h1, h2, hk => by
    simp at h1 h2; subst h1; subst h2
    show bindC kindOf ((p, w) :: P.zip vs) m p = _
    unfold bindC
    rw [bindC_out fun v hv => (List.nodup_cons.mp nd).1 (List.of_mem_zip hv).1, if_neg hk]
    simp
  | p :: P, w :: vs, i + 1, m, nd, h1, h2, hk => by
    show bindC kindOf ((p, w) :: P.zip vs) m x = _
    unfold bindC
    exact bindC_get (i := i) (List.nodup_cons.mp nd).2 (by simpa using h1) (by simpa using h2) hk

/-- the names' values at the entry -/
def start (N : List Str) (vs : List V) : St := vs.map some ++ List.replicate (N.length - vs.length) none

/-- the context of a def's body, at its entry; an exception leaves the frame, then lies as CX says -/
def cxOf (CX : CXT) (P : Program) (w : World) (K : PySem.W.Frag) (mg : Str → Option Value) (base : Heap) (N : List Str) (qual : Str) (scope : Scope) (f : Addr) (cd : Value) (A : Around) (outer : List Env) (s : Shared) (H : Hp) (E : XK) : Cx where
  prog := P
  w := w
  K := K
  mg := mg
  base := base
  A := A.deeper (envOfC qual scope s.heap.objs.size f cd)
  N := N
  s₀ := s
  H₀ := H
  env := envOfC qual scope s.heap.objs.size f cd
  outer := outer
  stack := envOfC qual scope s.heap.objs.size f cd :: outer
  ex := []
  calm := true
  fn := fun _ => true
  pn := []
  xe := fun e s' => wpAny (model P w) (A.deeper (envOfC qual scope s.heap.objs.size f cd)) («leaving» (envOfC qual scope s.heap.objs.size f cd) e) (fun _ s'' => CX outer H s E e s'') (fun e' s'' => CX outer H s E e' s'') s'

theorem cell_has {sc : Scope} {n : Nat} {x : Str} (h : sc.names.lookup x = some .cell) : ∃ c, (cellsFrom n sc.names []).lookup x = some c := by
  have q := PySem.W.cellsFrom_some sc.names n [] (.inl h)
  exact Option.isSome_iff_exists.mp q

theorem inv_start {CX : CXT} {P : Program} {w : World} {K : PySem.W.Frag} {mg : Str → Option Value} {base : Heap} {N ps : List Str} {qual : Str} {scope : Scope} {f : Addr} {cd : Value} {A : Around} {outer : List Env} {s s1 : Shared} {H : Hp} {E : XK} {us : List Value} {vs : List V}
    (S : FnScope N ps scope) (hd : A.handled = none) (e0 : Env0 P w K mg base A outer s H) (hl : vs.length = ps.length) (r : Vals vs us)
    (x : InCallC s s.heap.objs.size (bindL (envOfC qual scope s.heap.objs.size f cd).kindOf (ps.zip us) fun _ => none) (cellsFrom (s.heap.objs.size + 1) scope.names []) (bindC (envOfC qual scope s.heap.objs.size f cd).kindOf (ps.zip us) fun _ => none) s1) :
    Inv (cxOf CX P w K mg base N qual scope f cd A outer s H E) [] (start N vs) H s1 := by
  have hpl : ps.length ≤ N.length := by have := congrArg List.length S.pre; rw [List.length_take] at this; omega
  obtain ⟨h1, tk, rfl, hk⟩ := x.done
  have noA : ∀ b : Addr, b ∉ (cxOf CX P w K mg base N qual scope f cd A outer s H E).ex := fun b z => absurd (show b ∈ ([] : List Addr) from z) (by simp)
  refine ⟨⟨e0.mod, S.kind, rfl, rfl, Nat.le_refl _, fun y z c h1 h2 => ?_, fun y hy => ?_, fun y c _ h => ?_, fun _ => hd, Around.frames_deeper e0.frames, .inr ⟨rfl, rfl⟩, fun b z => absurd z (noA b), e0.bs, e0.bsz, fun b _ _ => noA b, fun b z => absurd z (noA b), e0.funs, e0.frf⟩,
    rfl, e0.bare, Un.kept hk, ⟨_, x.toInCall.ns, fun i y v h1 h2 h3 => ?_⟩, fun y c h => ⟨_, x.cell y c h⟩, e0.hok.fresh (Nat.le_refl _), fun y c h => ?_, fun p hp => absurd (show p ∈ ([] : List (Addr × Obj)) from hp) (by simp), e0.hok.kept hk, ?_⟩
  · exact name_of_addr x.apart (PySem.mem_of_lookup h1) (PySem.mem_of_lookup h2)
  · have hy : scope.names.lookup y = some .cell ∨ scope.names.lookup y = some .free := hy
    rcases hy with hy | hy
    · exact cell_has hy
    · exact absurd rfl (S.nofree _ (PySem.mem_of_lookup hy))
  · exact Nat.le_of_lt (x.above y c (PySem.mem_of_lookup h))
  · have hi : i < vs.length := by
      unfold start at h2
      by_cases hi : i < vs.length
      · exact hi
      · rw [List.getElem?_append_right (by simpa using hi)] at h2
        rw [List.getElem?_replicate] at h2
        split at h2 <;> cases h2
    have ha : vs[i]? = some v := by
      unfold start at h2
      rw [List.getElem?_append_left (by simpa using hi), List.getElem?_map] at h2
      cases e : vs[i]? with
      | none => rw [e] at h2; cases h2
      | some a => rw [e] at h2; cases h2; rfl
    obtain ⟨u, hu, rv⟩ := r.get ha
    have hp : ps[i]? = some y := by
      rw [← S.pre, List.getElem?_take_of_lt (by omega)]; exact h1
    have ndP : ps.Nodup := by rw [← S.pre]; exact S.nd.sublist (List.take_sublist _ _)
    refine ⟨u, rv, ?_⟩
    rcases S.par y (List.mem_of_getElem? hp) with k | k
    · exact .inl ⟨k, bindL_get ndP hp hu k⟩
    · obtain ⟨c, e⟩ := cell_has (n := s.heap.objs.size + 1) k
      refine .inr ⟨.inl k, c, e, ?_⟩
      have q := x.cell y c e
      rw [bindC_get ndP hp hu (by show scope.names.lookup y ≠ _; rw [k]; decide)] at q
      exact q
  · exact e0.hok.fresh (Nat.le_of_lt (x.above y c (PySem.mem_of_lookup h)))
  · unfold start
    show _ = N.length
    rw [List.length_append, List.length_map, List.length_replicate]
    omega

/-- THE RULE: a def (or a method) of the text, by its body. The body's reading t is chosen for each entry; it is run at the parameters' values -/
theorem fn_of {CX : CXT} {P : Program} {w : World} {K : PySem.W.Frag} {mg : Str → Option Value} {base : Heap} {k : Nat} {f : Addr} {name qual : Str} {params : Arguments} {body : List Stmt} {scope : Scope} {dV kV doc pm cdv ct oc : Value} {an od : Option Addr}
    {osl : Array (Option Value)} {N ps : List Str} {sp : Sp} (lk : K.lookup f = some ⟨oc, od, .func (PySem.W.fnOf name qual params body scope dV kV doc pm an cdv ct), osl⟩) (hcd : PySem.W.codeIn K cdv qual = true) (S : FnScope N ps scope)
    (len : ∀ vs H Q E, sp vs H Q E → vs.length = ps.length)
    (hbody : ∀ (A : Around) (outer : List Env) (s : Shared) (H : Hp) (vs : List V) (Q : VK) (E : XK), Room k (A.deeper (envOfC qual scope s.heap.objs.size f cdv)) → sp vs H Q E →
      ∃ t, PSs (cxOf CX P w K mg base N qual scope f cdv A outer s H E) body t ∧ t { nx := fun _ H' => Q .non H', rt := Q } (start N vs) H) :
    FnOk P w K mg base CX (k + 1) f (PySem.W.fnOf name qual params body scope dV kV doc pm an cdv ct) ps sp := by
  refine ⟨len, fun A outer s H args us vs Q E hr e0 hb r hsp => ?_⟩
  have hl := len _ _ _ _ hsp
  have KX : K.In s.heap := e0.mod.kin.keeps fun b o e => (e0.bs b o e).1
  have lim : s.heap.NoLimit := e0.mod.nolimit.keeps fun b o e => (e0.bs b o e).1
  have hkind : ∀ y ∈ ps.zip us, scope.names.lookup y.1 = some .local ∨ (scope.names.lookup y.1 = some .cell ∧ ((cellsFrom (s.heap.objs.size + 1) scope.names []).lookup y.1).isSome = true) := fun ⟨n, v⟩ hy => by
    rcases S.par n (List.of_mem_zip hy).1 with q | q
    · exact .inl q
    · exact .inr ⟨q, PySem.W.cellsFrom_some _ _ _ (.inl q)⟩
  refine codeAny_call_function hr.depth (KX _ _ lk) rfl S.co S.gen rfl (PySem.W.codeRec_of KX hcd) (hb _ _ _ _ ?_)
  refine wpAny_newFunctionEnv_cells S.kind hkind fun env he s1 x => ?_
  subst he
  refine ⟨lim.keeps x.toInCall.keep, codeAny_func ?_⟩
  obtain ⟨t, ht, hq⟩ := hbody A outer s H vs Q E (hr.deeper _) hsp
  have I : Inv (cxOf CX P w K mg base N qual scope f cdv A outer s H E) [] (start N vs) H s1 := inv_start S hr.hd e0 hl r x
  refine wpAny_mono (ht [] s1 (start N vs) H _ I hq) (fun fl s' hs => ?_) fun e s' hs => hs
  have fin : ∀ {σ' : St} {H' : Hp} {v : V} {u : Value}, Inv (cxOf CX P w K mg base N qual scope f cdv A outer s H E) [] σ' H' s' → RelV v u → Q v H' → CE outer P w H s Q u s' :=
    fun {σ' H' v u} J rv q => ⟨v, H', J.os, J.bare, J.base, J.hok, rv, q⟩
  cases fl with
  | ret u =>
    obtain ⟨v, σ', H', J, rv, q⟩ := hs
    exact fin J rv q
  | next =>
    obtain ⟨σ', H', J, q⟩ := hs
    exact fin (v := V.non) (u := Value.none) J rfl q
  | brk =>
    obtain ⟨_, _, _, q⟩ := hs
    exact False.elim q
  | cont =>
    obtain ⟨_, _, _, q⟩ := hs
    exact False.elim q
end L2

namespace L2
open PySem PySem.Spec PyProof.Rows
section
variable {X : Cx} {x : Str} {p pos : Pos} {e : Expr} {es : List Expr} {t : TA} {id T : String} {r : List V → Hp → VK → Prop}

def tCB (r : List V → Hp → VK → Prop) (t : TA) : TE := fun σ H Q => t σ H fun vs H1 => r vs H1 Q
/-- f(e, ..), f a built-in function -/
theorem pe_callB (hc : CallR X (.builtin id) r) (hg : Gl X x) (hm : X.mg x = none) (hv : bootBuiltins x = some (.builtin id)) (ha : PA X (e :: es) t) (hn : x ≠ "__name__" := by decide) (hdb : (x == ("__debug__" : Str)) = false := by decide)
    (he : starEach (e :: es) X.env = (false, eval e X.env) :: starEach es X.env := by rfl) (hpl : (backTo pos (starEach es X.env)).any (·.1) = false := by rfl) : PE X (.Call (.Name x p) (e :: es) [] pos) (tCB r t) := by
  intro pins s σ H Q I h
  refine wpAny_Call_Name_kw (ld_blt I hg hm hv ?_ hn hdb)
  exact PyProof.Rows.callWith_builtin1 (thn (ha pos pins s σ H _ I h) fun us s1 ⟨vs, H1, I1, r1, q1⟩ => hc pins s1 σ H1 vs us Q I1 r1 q1) he hpl
/-- T(e, ..), T a built-in type -/
theorem pe_callTy (hc : CallR X (.type T) r) (hg : Gl X x) (hm : X.mg x = none) (hv : bootBuiltins x = some (.type T)) (ha : PA X (e :: es) t) (hn : x ≠ "__name__" := by decide) (hdb : (x == ("__debug__" : Str)) = false := by decide)
    (he : starEach (e :: es) X.env = (false, eval e X.env) :: starEach es X.env := by rfl) (hpl : (backTo pos (starEach es X.env)).any (·.1) = false := by rfl) : PE X (.Call (.Name x p) (e :: es) [] pos) (tCB r t) := by
  intro pins s σ H Q I h
  refine wpAny_Call_Name_kw (ld_blt I hg hm hv ?_ hn hdb)
  exact PyProof.Rows.callWith_type1 (thn (ha pos pins s σ H _ I h) fun us s1 ⟨vs, H1, I1, r1, q1⟩ => hc pins s1 σ H1 vs us Q I1 r1 q1) he hpl
/-- T() -/
theorem pe_callTy0 (hc : CallR X (.type T) r) (hg : Gl X x) (hm : X.mg x = none) (hv : bootBuiltins x = some (.type T)) (hn : x ≠ "__name__" := by decide) (hdb : (x == ("__debug__" : Str)) = false := by decide) :
    PE X (.Call (.Name x p) [] [] pos) (tCB r tNil) := by
  intro pins s σ H Q I h
  refine wpAny_Call_Name_kw (ld_blt I hg hm hv ?_ hn hdb)
  exact PyProof.Rows.callWith_type0 (hc pins s σ H [] [] Q I .nil h)
end
end L2

namespace HT
open PySem PyProof.Rows

/-- t < u of tuples of ints -/
def lexLt : List Int → List Int → Bool
  | [], [] => false
  | [], _ :: _ => true
  | _ :: _, [] => false
  | x :: xs, y :: ys => if x = y then lexLt xs ys else decide (x < y)
theorem lexLt_cons (x y : Int) (xs ys : List Int) : lexLt (x :: xs) (y :: ys) = if x = y then lexLt xs ys else decide (x < y) := rfl
theorem lexLt_nil_nil : lexLt [] [] = false := rfl
theorem lexLt_nil_cons (y : Int) (ys : List Int) : lexLt [] (y :: ys) = true := rfl
theorem lexLt_cons_nil (x : Int) (xs : List Int) : lexLt (x :: xs) [] = false := rfl

theorem eqAt_int (A : Around) (s : Shared) (a : Int) (t : Tok) (c : Int) (u : Tok) : ∃ e, SeqAt.EqAt A s (.int a t) (.int c u) e ∧ (e = true ↔ a = c) :=
  ⟨(a == c), SeqAt.EqAt.int_int a t c u, by simp⟩
theorem rcLt_int (A : Around) (s : Shared) (a : Int) (t : Tok) (c : Int) (u : Tok) (prog : Program) (w : World) (E : Value → Shared → Prop) (Q : Value → Shared → Prop) (h : Q (.bool (decide (a < c))) s) :
    wpAny (model prog w) A (richCompare .Lt (.int a t) (.int c u)) Q E s :=
  (PyProof.Rows.lt_int h : wpAny (model prog w) A (compareOp .Lt (.int a t) (.int c u)) Q E s)

section
open PySem.SeqAt
open PySem.AutoSeq1 (wpAny_loadPart')
open PySem.MeetsSeq PySem.MeetsSeq2 PySem.MeetsSeq3

theorem tuple_lt_ints (l b : Addr) (items items2 : Array Value) (n n2 : Nat) (dd dd2 : Option Addr) (sl sl2 : Array (Option Value)) (ns ms : List Int) (hi : IntsAre items.toList ns) (hj : IntsAre items2.toList ms) :
    Meets (Builtin.«tuple.__lt__» ⟨[.ref l, .ref b], []⟩)
      (fun _ R s => s.heap.get? l = some { cls := .type "tuple", dict := dd, data := .seq items n, slots := sl } ∧ s.heap.get? b = some { cls := .type "tuple", dict := dd2, data := .seq items2 n2, slots := sl2 } ∧
        R (.ok (.ret (.bool (lexLt ns ms)))) s) :=
  .of_wp fun prog w A R s h => by
    obtain ⟨hp, g, d, tk, os⟩ := s; obtain ⟨hl, hb, h⟩ := h
    have f2 := AutoSeq1.sub_tuple_tuple
    have z1 : items.size = ns.length := by rw [← hi.length]; simp
    have z2 : items2.size = ms.length := by rw [← hj.length]; simp
    wp_walk using wpAny_loadPart' hl, wpAny_loadPart' hb, wpAny_forIn_list _ (fun rest b s' => b.1 = none ∧ s' = ⟨hp, g, d, tk, os⟩ ∧ ∃ (vs ws : List Value) (ns' ms' : List Int), rest = vs.zip ws ∧
      IntsAre vs ns' ∧ IntsAre ws ms' ∧ ns'.length + items2.size = ms'.length + items.size ∧ R (.ok (.ret (.bool (lexLt ns' ms')))) ⟨hp, g, d, tk, os⟩) _
    case turn =>
      rintro ⟨y, x⟩ rest b s' ⟨hb', rfl, vs, ws, ns', ms', hz, hvi, hwi, hlen, hR⟩
      cases hvi with
      | nil => rw [List.zip_nil_left] at hz; cases hz
      | cons a t hvi' =>
        cases hwi with
        | nil => rw [List.zip_nil_right] at hz; cases hz
        | cons c u hwi' =>
          rw [List.zip_cons_cons] at hz
          injection hz with hyx hrest
          injection hyx with hy hx
          subst hy hx
          rw [lexLt_cons] at hR
          simp only [List.length_cons] at hlen
          obtain ⟨e, he, hiff⟩ := eqAt_int A.in1 ⟨hp, g, d, tk, os⟩ a t c u
          refine wpAny_bind (he prog w _ _ ?_)
          cases e with
          | true =>
            rw [if_pos (hiff.mp rfl)] at hR
            wp_walk
            exact ⟨rfl, rfl, _, _, _, _, hrest, hvi', hwi', by omega, hR⟩
          | false =>
            rw [if_neg (fun q => absurd (hiff.mpr q) Bool.false_ne_true)] at hR
            have hri := rcLt_int A.in1 ⟨hp, g, d, tk, os⟩ a t c u prog w
            wp_walk using hri
            exact ⟨_, rfl, by simpa using hR⟩
    case fin =>
      rintro ⟨b1, b2⟩ s' ⟨hb', rfl, vs, ws, ns', ms', hz, hvi, hwi, hlen, hR⟩
      simp only at hb'
      subst hb'
      have hv : lexLt ns' ms' = decide (items.size < items2.size) := by
        cases hvi with
        | nil =>
          cases hwi with
          | nil =>
            simp only [List.length_nil] at hlen
            rw [lexLt_nil_nil]
            exact (decide_eq_false (by omega)).symm
          | cons c u hw =>
            simp only [List.length_nil, List.length_cons] at hlen
            rw [lexLt_nil_cons]
            exact (decide_eq_true (by omega)).symm
        | cons a t hv =>
          cases hwi with
          | nil =>
            simp only [List.length_nil, List.length_cons] at hlen
            rw [lexLt_cons_nil]
            exact (decide_eq_false (by omega)).symm
          | cons c u hw =>
            rw [List.zip_cons_cons] at hz
            cases hz
      rw [hv] at hR
      wp_walk
      exact ⟨_, rfl, by simpa [Builtin.Tuple.tupleCompareSizes] using hR⟩
    case h =>
      exact ⟨rfl, rfl, items.toList, items2.toList, ns, ms, rfl, hi, hj, by omega, h⟩
end

section
variable {prog : Program} {w : World} {A : Around} {E : Value → Shared → Prop} {s : Shared}

theorem lt_tupInts {l b : Addr} {items items2 : Array Value} {ns ms : List Int} {Q : Value → Shared → Prop} (hl : IsTup s.heap l items) (hb : IsTup s.heap b items2) (hi : IntsAre items.toList ns) (hj : IntsAre items2.toList ms)
    (hu : A.units < cLine) (h : Q (.bool (lexLt ns ms)) s) : wpAny (model prog w) A (compareOp .Lt (.ref l) (.ref b)) Q E s := by
  obtain ⟨⟨cls, dd, data, sl⟩, ho, hc, n, hd⟩ := id hl
  obtain ⟨⟨cls2, dd2, data2, sl2⟩, ho2, hc2, n2, hd2⟩ := id hb
  simp only at hc hd hc2 hd2
  subst hc hd hc2 hd2
  exact richCompare_meets_room (op := .Lt) ⟨_, ho, rfl⟩ ⟨_, ho2, rfl⟩ PySem.F.slot_tuple_lt PySem.F.entry_tuple_lt (PySem.F.args_tuple_lt_2 _ _) (tuple_lt_ints l b items items2 n n2 dd dd2 sl sl2 ns ms hi hj)
    ⟨ho, ho2, show Value.bool (lexLt ns ms) ≠ Value.notImplemented ∧ Q (.bool (lexLt ns ms)) s from ⟨(fun x => nomatch x), h⟩⟩ hu

/-- t + u, t not empty -/
theorem cat_tup {t b : Addr} {vs ws : List Value} {Q : Value → Shared → Prop} (ht : IsTup s.heap t vs.toArray) (hb : IsTup s.heap b ws.toArray) (hv : vs ≠ [])
    (h1 : ws = [] → Q (.ref t) s) (h2 : ws ≠ [] → Q (.ref s.heap.objs.size) { s with heap := s.heap.push { cls := .type "tuple", data := .seq (vs ++ ws).toArray } })
    (hsz : vs.length + ws.length ≤ sizeLine) : wpAny (model prog w) A (binaryOp .Add (.ref t) (.ref b)) Q E s := by
  obtain ⟨⟨cls, dd, data, sl⟩, ho, hc, n, hd⟩ := id ht
  obtain ⟨⟨cls2, dd2, data2, sl2⟩, ho2, hc2, n2, hd2⟩ := id hb
  simp only at hc hd hc2 hd2
  subst hc hd hc2 hd2
  have e : vs.toArray ++ ws.toArray = (vs ++ ws).toArray := by simp
  by_cases hw : ws = []
  · exact concat_meets ⟨_, ho, rfl⟩ ⟨_, ho2, rfl⟩ noFill_tuple_add seq_tuple_add PySem.F.slot_tuple_add PySem.F.entry_tuple_add (PySem.F.args_tuple_add_2 _ _)
      (tuple_addW1 t b vs.toArray ws.toArray n n2 dd dd2 sl sl2 (by simpa using hv) (by simp [hw])) ⟨ho, ho2, h1 hw⟩
  · refine concat_meets ⟨_, ho, rfl⟩ ⟨_, ho2, rfl⟩ noFill_tuple_add seq_tuple_add PySem.F.slot_tuple_add PySem.F.entry_tuple_add (PySem.F.args_tuple_add_2 _ _)
      (tuple_addW2 t b vs.toArray ws.toArray n n2 dd dd2 sl sl2 (by simpa using hv) (by simpa using hw) (by rw [List.size_toArray, List.size_toArray]; exact hsz)) ⟨ho, ho2, ?_⟩
    rw [e]
    exact h2 hw

/-! ### t[a:b], not the whole -/
/-- a slice's bound as a place among n (d where it is left out) -/
def sIx (n d : Nat) : Option Int → Nat
  | none => d
  | some v => if v < 0 then (v + (n : Int)).toNat else min v.toNat n
theorem sIx_none (n d : Nat) : sIx n d none = d := rfl
theorem sIx_nat (n d k : Nat) : sIx n d (some (k : Int)) = min k n := by
  show (if (k : Int) < 0 then ((k : Int) + (n : Int)).toNat else min (k : Int).toNat n) = min k n
  rw [if_neg (by omega), Int.toNat_natCast]
theorem sIx_le (n d : Nat) (hd : d ≤ n) (o : Option Int) : sIx n d o ≤ n := by
  cases o with
  | none => exact hd
  | some v =>
    show (if v < 0 then (v + (n : Int)).toNat else min v.toNat n) ≤ n
    by_cases hv : v < 0
    · rw [if_pos hv]; omega
    · rw [if_neg hv]; exact Nat.min_le_right _ _
theorem clip_eq (v : Int) (n d : Nat) : (if v < 0 then max (v + (n : Int)) 0 else min v (n : Int)) = ((sIx n d (some v) : Nat) : Int) := by
  show (if v < 0 then max (v + (n : Int)) 0 else min v (n : Int)) = (((if v < 0 then (v + (n : Int)).toNat else min v.toNat n) : Nat) : Int)
  by_cases hv : v < 0
  · simp only [if_pos hv]; omega
  · simp only [if_neg hv]; omega
theorem adjust_gen (lo hi : Option Int) (n : Nat) : Builtin.Slice.sliceAdjust lo hi 1 (n : Int) = (((sIx n 0 lo : Nat) : Int), ((sIx n n hi : Nat) : Int)) := by
  have h1 : ¬ ((1 : Int) < 0) := by omega
  unfold Builtin.Slice.sliceAdjust
  simp only [h1, if_false]
  refine Prod.ext ?_ ?_
  · cases lo with
    | none => rfl
    | some v => exact clip_eq v n 0
  · cases hi with
    | none => rfl
    | some v => exact clip_eq v n n
theorem places_gen (i j : Nat) : Builtin.Slice.slicePlaces (i : Int) (j : Int) 1 = j - i := by
  unfold Builtin.Slice.slicePlaces
  have h1 : (1 : Int) > 0 := by omega
  simp only [h1, if_true, Int.ediv_one]
  split <;> omega
theorem slicePart_ {v : Value} {o : Option Int} {Q : Option Int → Shared → Prop} (p : IsPart v o) (h : Q o s) : wpAny (model prog w) A (Builtin.Slice.slicePartIndex v) Q E s := by
  cases p with
  | none => exact slicePart_none h
  | int i t => exact slicePart_int h
theorem sliceApplied_gen {sl : Addr} {vl vu : Value} {lo hi : Option Int} {n : Nat} {Q : Int × Int × Nat → Shared → Prop} (hs : s.heap.IsSliceOf sl vl vu .none) (pl : IsPart vl lo) (pu : IsPart vu hi)
    (h : Q (((sIx n 0 lo : Nat) : Int), 1, sIx n n hi - sIx n 0 lo) s) : wpAny (model prog w) A (Builtin.Slice.sliceApplied (.ref sl) (pure (n : Int))) Q E s := by
  obtain ⟨os, hos, hcs, hds⟩ := id hs
  unfold Builtin.Slice.sliceApplied Builtin.Slice.sliceFields
  refine wpAny_bind (wpAny_bind (wpAny_field hos hds (x := vl) rfl (wpAny_bind (wpAny_field hos hds (x := vu) rfl (wpAny_bind (wpAny_field hos hds (x := .none) rfl (wpAny_pure ?_)))))))
  refine wpAny_bind (slicePart_none ?_)
  show wpAny _ _ (if ((1 : Int) == 0) = true then _ else _) _ _ s
  rw [if_neg (by decide)]
  refine wpAny_bind (slicePart_ pl (wpAny_bind (slicePart_ pu (wpAny_bind (wpAny_pure ?_)))))
  show wpAny _ _ (match Builtin.Slice.sliceAdjust lo hi 1 (n : Int) with | (lo, hi) => pure (lo, (1 : Int), Builtin.Slice.slicePlaces lo hi 1)) _ _ s
  rw [adjust_gen lo hi n]
  show wpAny _ _ (pure (((sIx n 0 lo : Nat) : Int), (1 : Int), Builtin.Slice.slicePlaces ((sIx n 0 lo : Nat) : Int) ((sIx n n hi : Nat) : Int) 1)) _ _ s
  rw [places_gen]
  exact wpAny_pure h
theorem pick_gen (xs : Array Value) (i k : Nat) : ((List.range k).filterMap fun (m : Nat) => xs[((i : Int) + (m : Int) * 1).toNat]?).toArray = ((xs.toList.drop i).take k).toArray := by
  have e : (fun (m : Nat) => xs[((i : Int) + (m : Int) * 1).toNat]?) = fun m => xs[i + m]? := by
    funext m
    have : ((i : Int) + (m : Int) * 1).toNat = i + m := by omega
    rw [this]
  rw [e]
  have := pick_run xs i k
  rw [List.filterMap_map] at this
  have e2 : ((fun x => xs[x]?) ∘ fun x => i + x) = fun m => xs[i + m]? := rfl
  rw [e2] at this
  rw [this]

theorem getItem_tuple_cut {t sl : Addr} {items : Array Value} {vl vu : Value} {lo hi : Option Int} {Q : Value → Shared → Prop} (ht : IsTup s.heap t items) (hs : s.heap.IsSliceOf sl vl vu .none) (pl : IsPart vl lo) (pu : IsPart vu hi)
    (hw : ¬ (sIx items.size 0 lo = 0 ∧ sIx items.size items.size hi = items.size))
    (h : Q (.ref s.heap.objs.size) { s with heap := s.heap.push { cls := .type "tuple", data := .seq ((items.toList.drop (sIx items.size 0 lo)).take (sIx items.size items.size hi - sIx items.size 0 lo)).toArray } })
    (hsz : items.size ≤ sizeLine) : wpAny (model prog w) A (getItem (.ref t) (.ref sl)) Q E s := by
  have htake : sizeOk (.seq ((items.toList.drop (sIx items.size 0 lo)).take (sIx items.size items.size hi - sIx items.size 0 lo)).toArray) := by
    show ((items.toList.drop (sIx items.size 0 lo)).take (sIx items.size items.size hi - sIx items.size 0 lo)).toArray.size ≤ sizeLine
    rw [List.size_toArray, List.length_take, List.length_drop, Array.length_toList]
    omega
  have hj : sIx items.size items.size hi ≤ items.size := sIx_le _ _ (Nat.le_refl _) hi
  obtain ⟨os, hos, hcs, hds⟩ := id hs
  have hTs : s.TypeIs (.ref sl) "slice" := ⟨os, hos, hcs⟩
  unfold getItem
  try with_reducible refine wpAny_holding ?_
  first | refine wpAny_bind (wpAny_pure ?_) | skip
  refine wpAny_bind (wpAny_sequenceKey ht.typeIs (by decide) ?_)
  refine wpAny_bind (wpAny_callSpecial?_slot (name := Str.ofString "__getitem__") ht.typeIs PyProof.Rows.slot_tuple_getitem
    (wpAny_call_entry PyProof.Rows.slot_tuple_getitem ht.typeIs entry_tuple_getitem ?_ (args_tuple_getitem _ _)))
  show wpAny _ _ (Builtin.Tuple.tupleItemsOf (.ref t) >>= _) _ _ s
  refine wpAny_bind (tupleItemsOf_ ht ?_)
  refine wpAny_bind (wpAny_typeOf hTs ?_)
  rw [if_pos (by decide)]
  refine wpAny_bind (sliceApplied_gen hs pl pu ?_)
  have hno : ¬ ((((sIx items.size 0 lo : Nat) : Int) == 0 && (1 : Int) == 1 && (sIx items.size items.size hi - sIx items.size 0 lo) == items.size) = true) := by
    intro q
    rw [Bool.and_eq_true, Bool.and_eq_true] at q
    have q1 : ((sIx items.size 0 lo : Nat) : Int) = 0 := eq_of_beq q.1.1
    have q2 : sIx items.size items.size hi - sIx items.size 0 lo = items.size := eq_of_beq q.2
    exact hw ⟨by omega, by omega⟩
  show wpAny _ _ (if (((sIx items.size 0 lo : Nat) : Int) == 0 && (1 : Int) == 1 && (sIx items.size items.size hi - sIx items.size 0 lo) == items.size) = true then _ else _) _ _ s
  rw [if_neg hno, pick_gen]
  first
    | exact wpAny_bind (m := Builtin.Tuple.tupleExact _) (wpAny_newObj_type (wpAny_pure ⟨_, rfl, wpAny_pure h⟩) htake)
    | exact wpAny_bind (m := Builtin.Tuple.tupleExact _) (wpAny_newObj_type (wpAny_bind (wpAny_pure (wpAny_pure ⟨_, rfl, wpAny_pure h⟩))) htake)
    | exact wpAny_bind (wpAny_bind (m := Builtin.Tuple.tupleExact _) (wpAny_newObj_type (wpAny_pure (wpAny_pure ⟨_, rfl, wpAny_pure h⟩)) htake))
    | exact wpAny_bind (wpAny_bind (m := Builtin.Tuple.tupleExact _) (wpAny_newObj_type (wpAny_pure ⟨_, rfl, wpAny_pure h⟩) htake))
end
end HT

namespace L2
open PySem PySem.Spec PyProof.Rows

/-! ### the parts of a slice -/
abbrev TO := St → Hp → (Option Int → Hp → Prop) → Prop
/-- a slice's part (left out, or an int) -/
def PO (X : Cx) (e : Option Expr) (t : TO) : Prop :=
  ∀ (pins : List (Addr × Obj)) (s : Shared) (σ : St) (H : Hp) (Q : Option Int → Hp → Prop), Inv X pins σ H s → t σ H Q →
    wpAny (model X.prog X.w) X.A (evalPart e X.env) (fun u s' => ∃ o H', Inv X pins σ H' s' ∧ IsPart u o ∧ Q o H') X.xe s
def tNoPart : TO := fun _ H Q => Q none H
def tPart (t : TE) : TO := fun σ H Q => t σ H fun x H1 => ∃ i, x = .int i ∧ Q (some i) H1

theorem intsAre_of {ns : List Int} : ∀ {us : List Value}, Vals (ns.map V.int) us → IntsAre us ns := by
  induction ns with
  | nil => intro us r; rw [List.map_nil] at r; cases r; exact .nil
  | cons n ns ih =>
    intro us r
    rw [List.map_cons] at r
    cases r with
    | cons r1 r2 =>
      obtain ⟨t, e⟩ := r1
      subst e
      exact .cons n t (ih r2)

section
variable {X : Cx} {e : Expr} {te : TE} {lo hi : Option Expr} {tl th : TO} {pos p2 : Pos}

theorem po_none : PO X none tNoPart := by
  intro pins s σ H Q I h
  rw [evalPart_none]
  exact wpAny_pure ⟨none, H, I, .none, h⟩
theorem po_some (h : PE X e te) : PO X (some e) (tPart te) := by
  intro pins s σ H Q I hw
  rw [evalPart_some]
  refine thn (h pins s σ H _ I hw) fun u s1 ⟨x, H1, I1, r1, q1⟩ => ?_
  obtain ⟨i, rfl, q⟩ := q1
  obtain ⟨t, rfl⟩ := r1
  exact ⟨some i, H1, I1, .int i t, q⟩

/-- what a slice of a value is, by values: the slice object stands at sl -/
def SlR (X : Cx) (r : V → Option Int → Option Int → Hp → VK → Prop) : Prop :=
  ∀ (pins : List (Addr × Obj)) (s : Shared) (σ : St) (H : Hp) (x : V) (v vl vu : Value) (lo hi : Option Int) (sl : Addr) (Q : VK), Inv X pins σ H s → RelV x v → s.heap.IsSliceOf sl vl vu .none → IsPart vl lo → IsPart vu hi → r x lo hi H Q →
    ∃ T id, typeLookup (.type T) "__getitem__" = pure (some (.builtin id)) ∧ s.TypeIs v T ∧ wpAny (model X.prog X.w) X.A (getItem v (.ref sl)) (EP X pins σ Q) X.xe s
theorem SlR.or {r r' : V → Option Int → Option Int → Hp → VK → Prop} (h : SlR X r) (h' : SlR X r') : SlR X (fun x lo hi H Q => r x lo hi H Q ∨ r' x lo hi H Q) := by
  intro pins s σ H x v vl vu lo hi sl Q I rx hs pl pu q
  rcases q with q | q
  · exact h pins s σ H x v vl vu lo hi sl Q I rx hs pl pu q
  · exact h' pins s σ H x v vl vu lo hi sl Q I rx hs pl pu q
def tSl (r : V → Option Int → Option Int → Hp → VK → Prop) (te : TE) (tl th : TO) : TE := fun σ H Q => te σ H fun x H1 => tl σ H1 fun l H2 => th σ H2 fun u H3 => r x l u H3 Q
/-- a[lo:hi], any a -/
theorem pe_slice {r : V → Option Int → Option Int → Hp → VK → Prop} (hr : SlR X r) (he : PE X e te) (hl : PO X lo tl) (hu : PO X hi th) : PE X (.Subscript e (.Slice lo hi none p2) pos) (tSl r te tl th) := by
  intro pins s σ H Q I h
  refine Subscript_ (thn (he pins s σ H _ I h) fun v s1 ⟨x, H1, I1, r1, q1⟩ => ?_)
  refine wpAny_Slice (thn (hl pins s1 σ H1 _ I1 q1) fun vl s2 ⟨l, H2, I2, pl, q2⟩ => thn (hu pins s2 σ H2 _ I2 q2) fun vu s3 ⟨u, H3, I3, pu, q3⟩ => ?_)
  rw [evalPart_none]
  refine wpAny_pure ?_
  have I4 : Inv X pins σ H3 { s3 with heap := s3.heap.push { cls := .type "slice", data := .fields #[vl, vu, .none] } } := I3.kept (t' := s3.toks) fun b ob q => Heap.get?_push_of_some _ q
  obtain ⟨T, id, hT, ht, hg⟩ := hr pins { s3 with heap := s3.heap.push { cls := .type "slice", data := .fields #[vl, vu, .none] } } σ H3 x v vl vu l u s3.heap.objs.size Q I4 r1 (Heap.IsSliceOf.new ..) pl pu q3
  show wpAny (model X.prog X.w) X.A (subscriptTail e (.Slice lo hi none p2) v (.ref s3.heap.objs.size)) (EP X pins σ Q) X.xe { s3 with heap := s3.heap.push { cls := .type "slice", data := .fields #[vl, vu, .none] } }
  exact tail_any (ops := [.ref s3.heap.objs.size, v]) ht hT hg (by with_unfolding_all rfl)

/-- the items of xs[lo:hi] -/
def cutV (xs : List V) (lo hi : Option Int) : List V := (xs.drop (HT.sIx xs.length 0 lo)).take (HT.sIx xs.length xs.length hi - HT.sIx xs.length 0 lo)
theorem cutV_length (xs : List V) (lo hi : Option Int) : (cutV xs lo hi).length ≤ xs.length := by
  unfold cutV
  rw [List.length_take, List.length_drop]
  omega
/-- t[lo:hi], not the whole of it (the whole would be t itself) -/
def rSlT (K : PySem.W.Frag) : V → Option Int → Option Int → Hp → VK → Prop := fun x lo hi H Q => ∃ a xs, x = .ref a ∧ SqT K H a xs ∧
  ¬ (HT.sIx xs.length 0 lo = 0 ∧ HT.sIx xs.length xs.length hi = xs.length) ∧ ∀ p, H p = none → Q (.ref p) (upd H p (.tup (cutV xs lo hi)))
theorem sl_tup : SlR X (rSlT X.K) := by
  intro pins s σ H x v vl vu lo hi sl Q I rx hs pl pu h
  obtain ⟨a, xs, rfl, hx, hw, q⟩ := h
  cases rx
  obtain ⟨its, r, ht, hz⟩ := I.tuple hx
  have hlen : its.toArray.size = xs.length := by rw [List.size_toArray]; exact r.length.symm
  refine ⟨"tuple", _, PyProof.Rows.slot_tuple_getitem.lookup, ht.typeIs, ?_⟩
  refine HT.getItem_tuple_cut ht hs pl pu (by rw [hlen]; exact hw) ?_ (by rw [hlen]; exact hz)
  rw [hlen]
  refine ⟨.ref s.heap.objs.size, _, I.laid (t' := s.toks) (o := .tup (cutV xs lo hi)) (fun b ob q => Heap.get?_push_of_some _ q) (Nat.le_refl _) ?_, rfl, q _ (I.hok.fresh (Nat.le_refl _))⟩
  exact ⟨Nat.le_trans (cutV_length xs lo hi) hz, _, (r.drop (HT.sIx xs.length 0 lo)).take (HT.sIx xs.length xs.length hi - HT.sIx xs.length 0 lo), IsTup.new _ _⟩

/-! ### t < u, t + u -/
def rLtT (K : PySem.W.Frag) : R2 := fun x y H Q => ∃ a b ns ms, x = .ref a ∧ y = .ref b ∧ SqT K H a (ns.map V.int) ∧ SqT K H b (ms.map V.int) ∧ Q (.bl (HT.lexLt ns ms)) H
theorem op_ltT (hu : X.A.units < cLine) : OpR X (compareOp .Lt) (rLtT X.K) := by
  intro pins s σ H x y v u Q I rx ry h
  obtain ⟨a, b, ns, ms, rfl, rfl, ha, hb, q⟩ := h
  cases rx
  cases ry
  obtain ⟨its, r1, p1, _⟩ := I.tuple ha
  obtain ⟨its2, r2, p2, _⟩ := I.tuple hb
  have i1 : IntsAre its.toArray.toList ns := intsAre_of r1
  have i2 : IntsAre its2.toArray.toList ms := intsAre_of r2
  exact HT.lt_tupInts p1 p2 i1 i2 hu ⟨.bl (HT.lexLt ns ms), H, I, rfl, q⟩
/-- t + u, t not empty: u empty gives t itself -/
def rCatT (K : PySem.W.Frag) : R2 := fun x y H Q => ∃ a b xs ys, x = .ref a ∧ y = .ref b ∧ SqT K H a xs ∧ SqT K H b ys ∧ xs ≠ [] ∧ xs.length + ys.length ≤ sizeLine ∧
  (ys = [] → Q (.ref a) H) ∧ (ys ≠ [] → ∀ p, H p = none → Q (.ref p) (upd H p (.tup (xs ++ ys))))
theorem Vals.nil_iff {xs : List V} {us : List Value} (r : Vals xs us) : us = [] ↔ xs = [] := by
  cases r with
  | nil => simp
  | cons _ _ => simp
theorem op_catT : OpR X (binaryOp .Add) (rCatT X.K) := by
  intro pins s σ H x y v u Q I rx ry h
  obtain ⟨a, b, xs, ys, rfl, rfl, ha, hb, hx, hz, q1, q2⟩ := h
  cases rx
  cases ry
  obtain ⟨its, r1, p1, _⟩ := I.tuple ha
  obtain ⟨its2, r2, p2, _⟩ := I.tuple hb
  refine HT.cat_tup p1 p2 (fun z => hx (r1.nil_iff.mp z)) (fun z => ⟨.ref a, H, I, rfl, q1 (r2.nil_iff.mp z)⟩) (fun z => ?_) (by rw [← r1.length, ← r2.length]; exact hz)
  refine ⟨.ref s.heap.objs.size, _, I.laid (t' := s.toks) (o := .tup (xs ++ ys)) (fun b ob q => Heap.get?_push_of_some _ q) (Nat.le_refl _) ?_, rfl, q2 (fun w => z (r2.nil_iff.mpr w)) _ (I.hok.fresh (Nat.le_refl _))⟩
  exact ⟨by rw [List.length_append]; exact hz, _, r1.append r2, IsTup.new _ _⟩
/-- tuple(t) -/
theorem call_tupleT : CallR X (.type "tuple") (fun xs H Q => ∃ a ys, xs = [.ref a] ∧ SqT X.K H a ys ∧ Q (.ref a) H) := by
  intro pins s σ H xs us Q I r h
  obtain ⟨a, ys, rfl, ha, q⟩ := h
  obtain ⟨u, rfl, ru⟩ := vals1 r
  cases ru
  obtain ⟨its, _, p1, _⟩ := I.tuple ha
  exact call_tuple_same (items := its.toArray) p1 ⟨.ref a, H, I, rfl, q⟩
end
end L2

namespace L2
open PySem PySem.Spec PyProof.Rows

/-! ### places -/
/-- the place that an index of any sign means -/
def ixN (n : Nat) (i : Int) : Option Nat := if 0 ≤ i then (if i < n then some i.toNat else none) else if -(n : Int) ≤ i then some (i + n).toNat else none
def atI {α : Type} (xs : List α) (i : Int) : Option α := (ixN xs.length i).bind fun j => xs[j]?
theorem ixN_seq {n : Nat} {i : Int} {j : Nat} (h : ixN n i = some j) : seqIndex? i n = some j ∧ j < n ∧ -(n : Int) ≤ i ∧ i < n := by
  unfold ixN at h
  by_cases h0 : 0 ≤ i
  · rw [if_pos h0] at h
    by_cases h1 : i < n
    · rw [if_pos h1] at h
      have e : i.toNat = j := Option.some.inj h
      exact ⟨by rw [seqIndex_of h0 h1, e], by omega, by omega, h1⟩
    · rw [if_neg h1] at h; cases h
  · rw [if_neg h0] at h
    by_cases h1 : -(n : Int) ≤ i
    · rw [if_pos h1] at h
      have e : (i + n).toNat = j := Option.some.inj h
      exact ⟨by rw [seqIndex_neg (by omega) h1, e], by omega, h1, by omega⟩
    · rw [if_neg h1] at h; cases h
theorem atI_get {α : Type} {xs : List α} {i : Int} {v : α} (h : atI xs i = some v) : ∃ j, seqIndex? i xs.length = some j ∧ xs[j]? = some v ∧ j < xs.length ∧ -(xs.length : Int) ≤ i ∧ i < xs.length := by
  unfold atI at h
  cases e : ixN xs.length i with
  | none => rw [e] at h; cases h
  | some j =>
    rw [e] at h
    obtain ⟨h1, h2, h3, h4⟩ := ixN_seq e
    exact ⟨j, h1, h, h2, h3, h4⟩
theorem atI_nat {α : Type} {xs : List α} {j : Nat} {v : α} (h : xs[j]? = some v) : atI xs (j : Int) = some v := by
  have hj : j < xs.length := (List.getElem?_eq_some_iff.mp h).1
  have e : ixN xs.length (j : Int) = some j := by
    unfold ixN
    rw [if_pos (by omega), if_pos (by omega)]; simp
  unfold atI; rw [e]; exact h
theorem atI_last {α : Type} (xs : List α) (v : α) : atI (xs ++ [v]) (-1) = some v := by
  have hl : (xs ++ [v]).length = xs.length + 1 := by simp
  have e : ixN (xs ++ [v]).length (-1) = some xs.length := by
    unfold ixN
    rw [hl, if_neg (by decide), if_pos (by omega)]
    congr 1
    omega
  unfold atI
  rw [e]
  show (xs ++ [v])[xs.length]? = some v
  simp

/-! ### what may be subscripted -/
/-- what stands as an index of a plain subscript -/
def PlainIx (b : Expr) : Prop := ∀ o i, subscripted b false o i = operate [o, i] (getItem o i)
/-- a subscript by values -/
def IxR (X : Cx) (r : R2) : Prop :=
  ∀ (value slice : Expr) (pins : List (Addr × Obj)) (s : Shared) (σ : St) (H : Hp) (x y : V) (v u : Value) (Q : VK), Inv X pins σ H s → RelV x v → RelV y u → r x y H Q →
    subscripted slice false v u = operate [v, u] (getItem v u) → wpAny (model X.prog X.w) X.A (subscriptTail value slice v u) (EP X pins σ Q) X.xe s
/-- a call of a builtin's method by values: the receiver, the arguments -/
def MtR (X : Cx) (id : String) (r : V → List V → Hp → VK → Prop) : Prop :=
  ∀ (pins : List (Addr × Obj)) (s : Shared) (σ : St) (H : Hp) (x : V) (xs : List V) (v : Value) (us : List Value) (Q : VK), Inv X pins σ H s → RelV x v → Vals xs us → r x xs H Q →
    wpAny (model X.prog X.w) X.A (call (.builtin id) (v :: us)) (EP X pins σ Q) X.xe s
section
variable {X : Cx} {a b : Expr} {ta tb : TE} {pos : Pos}
theorem IxR.or {r r' : R2} (h : IxR X r) (h' : IxR X r') : IxR X (fun x y H Q => r x y H Q ∨ r' x y H Q) := by
  intro value slice pins s σ H x y v u Q I rx ry q hs
  rcases q with q | q
  · exact h value slice pins s σ H x y v u Q I rx ry q hs
  · exact h' value slice pins s σ H x y v u Q I rx ry q hs
theorem MtR.or {id : String} {r r' : V → List V → Hp → VK → Prop} (h : MtR X id r) (h' : MtR X id r') : MtR X id (fun x xs H Q => r x xs H Q ∨ r' x xs H Q) := by
  intro pins s σ H x xs v us Q I rx rs q
  rcases q with q | q
  · exact h pins s σ H x xs v us Q I rx rs q
  · exact h' pins s σ H x xs v us Q I rx rs q
/-- a[b] -/
theorem pe_ix {r : R2} (hr : IxR X r) (ha : PE X a ta) (hb : PE X b tb) (hs : PlainIx b) : PE X (.Subscript a b pos) (tOp r ta tb) := by
  intro pins s σ H Q I h
  exact Subscript_ (binT ha hb I h fun v u s2 x y H2 I2 rx ry q => hr a b pins s2 σ H2 x y v u Q I2 rx ry q (hs _ _))

def rIxL (K : PySem.W.Frag) : R2 := fun x y H Q => ∃ p xs i v, x = .ref p ∧ y = .int i ∧ SqL K H p xs ∧ atI xs i = some v ∧ Q v H
def rIxT (K : PySem.W.Frag) : R2 := fun x y H Q => ∃ p xs i v, x = .ref p ∧ y = .int i ∧ SqT K H p xs ∧ atI xs i = some v ∧ Q v H
def rIxS : R2 := fun x y H Q => ∃ z i c, x = .str z ∧ y = .int i ∧ z.length ≤ sizeLine ∧ atI z.cps.toList i = some c ∧ Q (.str ⟨#[c]⟩) H
theorem ix_list : IxR X (rIxL X.K) := by
  intro value slice pins s σ H x y v u Q I rx ry h hs
  obtain ⟨p, xs, i, z, rfl, rfl, hq, he, q⟩ := h
  cases rx
  obtain ⟨t, rfl⟩ := ry
  obtain ⟨its, r, pl, hz⟩ := I.list hq
  obtain ⟨j, h1, h2, h3, h4, h5⟩ := atI_get he
  obtain ⟨w, ew, rw'⟩ := r.get h2
  have hl := r.length
  have hn := line63
  have fin : EP X pins σ Q w s := ⟨z, H, I, rw', q⟩
  by_cases h0 : 0 ≤ i
  · have hj : i.toNat = j := by
      rw [seqIndex_of h0 h5] at h1
      exact Option.some.inj h1
    exact item_listR pl.isList h0 (by omega) (by rw [hj]; simpa using ew) fin hs
  · have hj : (i + (its.toArray.size : Int)).toNat = j := by
      rw [seqIndex_neg (by omega) h4] at h1
      rw [List.size_toArray, ← hl]
      exact Option.some.inj h1
    exact subscriptTail_builtinR (x := w) pl.isList.typeIs slot_list_getitem.lookup
      (wpAny_getItem_list_neg (Q := fun r s' => r = w ∧ EP X pins σ Q r s') pl.isList (by omega) (by rw [List.size_toArray] <;> omega) (by omega) (by rw [hj]; simpa using ew) ⟨rfl, fin⟩) hs
theorem ix_tup : IxR X (rIxT X.K) := by
  intro value slice pins s σ H x y v u Q I rx ry h hs
  obtain ⟨p, xs, i, z, rfl, rfl, hq, he, q⟩ := h
  cases rx
  obtain ⟨t, rfl⟩ := ry
  obtain ⟨its, r, pl, hz⟩ := I.tuple hq
  obtain ⟨j, h1, h2, h3, h4, h5⟩ := atI_get he
  obtain ⟨w, ew, rw'⟩ := r.get h2
  have hl := r.length
  have hn := line63
  have fin : EP X pins σ Q w s := ⟨z, H, I, rw', q⟩
  exact subscriptTail_builtinR (x := w) pl.typeIs slot_tuple_getitem.lookup
    (getItem_tuple (j := j) (Q := fun r s' => r = w ∧ EP X pins σ Q r s') pl (by omega) (by omega) (by rw [List.size_toArray, ← hl]; exact h1) (by simpa using ew) ⟨rfl, fin⟩) hs
theorem ix_str : IxR X rIxS := by
  intro value slice pins s σ H x y v u Q I rx ry h hs
  obtain ⟨z, i, c, rfl, rfl, hz, he, q⟩ := h
  obtain ⟨t, rfl⟩ := rx
  obtain ⟨t', rfl⟩ := ry
  obtain ⟨j, h1, h2, h3, h4, h5⟩ := atI_get he
  have hl : z.cps.toList.length = z.length := by simp [Str.length]
  rw [hl] at h1 h4 h5
  have hn := line63
  exact tail_any (typeIs_str s z t) slot_str_getitem.lookup (getItem_str (c := c) (by
    have e1 : decide (i < -(2 ^ 63 : Int)) = false := decide_eq_false (by omega)
    have e2 : decide (i ≥ 2 ^ 63) = false := decide_eq_false (by omega)
    rw [e1, e2, Bool.or_false]) (by rw [h1]; simpa using h2) ⟨.str ⟨#[c]⟩, H, I.tok _, ⟨_, rfl⟩, q⟩) hs
/-- list, tuple or str -/
def rIx (K : PySem.W.Frag) : R2 := fun x y H Q => rIxL K x y H Q ∨ rIxT K x y H Q ∨ rIxS x y H Q
theorem ix_seq : IxR X (rIx X.K) := ix_list.or (ix_tup.or ix_str)

/-! ### xs[i] = v, any sign -/
/-- the list's object behind a store -/
theorem mapSeq_set (its : List Value) (n j : Nat) (u : Value) : Obj.mapSeq (·.setIfInBounds j u) { cls := .type "list", data := .seq its.toArray n } = { cls := .type "list", data := .seq (its.set j u).toArray n } := by
  simp [Obj.mapSeq]
theorem Inv.lst {pins : List (Addr × Obj)} {σ : St} {H : Hp} {s : Shared} {p : Addr} {xs : List V} (I : Inv X pins σ H s) (h : H p = some (.lst xs)) :
    ∃ (its : List Value) (n : Nat), Vals xs its ∧ s.heap.get? p = some { cls := .type "list", data := .seq its.toArray n } ∧ xs.length ≤ sizeLine := by
  obtain ⟨z, its, n, r, e⟩ := I.hok p _ h
  exact ⟨its, n, r, e, z⟩
/-- the list at p is written by an update of its object -/
theorem Inv.lstUpd {pins : List (Addr × Obj)} {σ : St} {H : Hp} {s : Shared} {p : Addr} {xs ys : List V} {its its' : List Value} {n n' : Nat} {f : Obj → Obj} (I : Inv X pins σ H s) (h : H p = some (.lst xs))
    (ho : s.heap.get? p = some { cls := .type "list", data := .seq its.toArray n }) (hf : f { cls := .type "list", data := .seq its.toArray n } = { cls := .type "list", data := .seq its'.toArray n' }) (r : Vals ys its') (hz : ys.length ≤ sizeLine) (t : Nat) :
    Inv X pins σ (upd H p (.lst ys)) { s with heap := s.heap.update p f, toks := t } := by
  have e : (s.heap.update p f).get? p = some { cls := .type "list", data := .seq its'.toArray n' } := by
    rw [Heap.get?_update_self f ho (by rw [hf] <;> rfl), hf]
  refine I.write (x := p) (e := p) (by rw [h]; trivial) (.inl rfl) (fun b u hb q => (Heap.get?_update_other _ _ (Ne.symm hb)).trans q) ⟨_, e⟩ ?_
  exact ⟨hz, its', n', r, e⟩
def rSetL : V → V → V → Hp → (Hp → Prop) → Prop := fun o i v H Q => ∃ p xs k j, o = .ref p ∧ i = .int k ∧ H p = some (.lst xs) ∧ ixN xs.length k = some j ∧ Q (upd H p (.lst (xs.set j v)))
theorem set_list : PSet X rSetL := by
  intro pins s σ H o i v ov iv u Q I ro ri rv h
  obtain ⟨p, xs, k, j, rfl, rfl, hp, hj, q⟩ := h
  cases ro
  obtain ⟨t, rfl⟩ := ri
  obtain ⟨its, n, r, ho, hz⟩ := I.lst hp
  obtain ⟨h1, h2, h3, h4⟩ := ixN_seq hj
  have hl := r.length
  have hn := line63
  have I' : Inv X pins σ (upd H p (.lst (xs.set j v))) { s with heap := s.heap.update p (Obj.mapSeq (·.setIfInBounds j u)) } :=
    I.lstUpd hp ho (mapSeq_set its n j u) (r.set rv j) (by rw [List.length_set]; exact hz) s.toks
  by_cases h0 : 0 ≤ k
  · have hk : k.toNat = j := by
      rw [seqIndex_of h0 h4] at h1
      exact Option.some.inj h1
    exact PySem.W.ki_setAt ho h0 (by omega) (by rw [List.size_toArray, ← hl]; exact h4) (by rw [hk]; exact ⟨_, I', q⟩)
  · have hk : (k + (its.toArray.size : Int)).toNat = j := by
      rw [seqIndex_neg (by omega) h3] at h1
      rw [List.size_toArray, ← hl]
      exact Option.some.inj h1
    exact PySem.W.ki_setBack ho (by omega) (by rw [List.size_toArray, ← hl]; exact h3) (by omega) (by rw [hk]; exact ⟨_, I', q⟩)

/-! ### slices -/
theorem slice_bounds (lo hi : Option Int) (n : Nat) : (sliceBounds lo hi none n).1 = ((HT.sIx n 0 lo : Nat) : Int) ∧ (sliceBounds lo hi none n).2.1 = ((HT.sIx n n hi : Nat) : Int) ∧ (sliceBounds lo hi none n).2.2 = 1 := by
  refine ⟨?_, ?_, rfl⟩
  · cases lo with
    | none => simp [sliceBounds, HT.sIx]
    | some i =>
      simp only [sliceBounds, HT.sIx, Option.getD_none, show (1 : Int) > 0 by decide, if_true]
      by_cases h : i < 0
      · simp only [h, if_true] <;> omega
      · simp only [h, if_false] <;> omega
  · cases hi with
    | none => simp [sliceBounds, HT.sIx]
    | some i =>
      simp only [sliceBounds, HT.sIx, Option.getD_none, show (1 : Int) > 0 by decide, if_true]
      by_cases h : i < 0
      · simp only [h, if_true] <;> omega
      · simp only [h, if_false] <;> omega
theorem slicePick_cut (its : List Value) (lo hi : Option Int) : slicePick its.toArray lo hi none = ((its.drop (HT.sIx its.length 0 lo)).take (HT.sIx its.length its.length hi - HT.sIx its.length 0 lo)).toArray := by
  obtain ⟨h1, h2, h3⟩ := slice_bounds lo hi its.toArray.size
  unfold slicePick
  rw [h1, h2, h3]
  simp only [sliceRange_one, pick_run, List.size_toArray] <;> rfl
/-- xs[lo:hi] of a list: a new list -/
def rSlL (K : PySem.W.Frag) : V → Option Int → Option Int → Hp → VK → Prop := fun x lo hi H Q => ∃ a xs, x = .ref a ∧ SqL K H a xs ∧ ∀ p, H p = none → Q (.ref p) (upd H p (.lst (cutV xs lo hi)))
theorem sl_list : SlR X (rSlL X.K) := by
  intro pins s σ H x v vl vu lo hi sl Q I rx hs pl pu h
  obtain ⟨a, xs, rfl, hx, q⟩ := h
  cases rx
  obtain ⟨its, r, ht, hz⟩ := I.list hx
  have hlen := r.length
  refine ⟨"list", _, slot_list_getitem.lookup, ht.isList.typeIs, ?_⟩
  refine wpAny_getItem_list_slice ht.isList hs pl pu .none (by simp) ?_ (by rw [List.size_toArray] <;> omega)
  rw [slicePick_cut, ← hlen]
  refine ⟨.ref s.heap.objs.size, _, I.laid (t' := s.toks) (o := .lst (cutV xs lo hi)) (fun b ob q => Heap.get?_push_of_some _ q) (Nat.le_refl _) ?_, rfl, q _ (I.hok.fresh (Nat.le_refl _))⟩
  exact ⟨Nat.le_trans (cutV_length xs lo hi) hz, _, 0, (r.drop (HT.sIx xs.length 0 lo)).take (HT.sIx xs.length xs.length hi - HT.sIx xs.length 0 lo), Heap.get?_push_size _ rfl⟩

/-! ### in, not in: flat items -/
def flatV : V → Bool
  | .non => true
  | .bl _ => true
  | .int _ => true
  | .str _ => true
  | _ => false
/-- == of flat values -/
def eqV : V → V → Bool
  | .non, .non => true
  | .bl a, .bl b => a == b
  | .bl a, .int b => (if a then 1 else 0) == b
  | .int a, .bl b => a == (if b then 1 else 0)
  | .int a, .int b => a == b
  | .str a, .str b => a == b
  | _, _ => false
theorem eqAt_V {A : Around} {s : Shared} {y x : V} {u v : Value} (ry : RelV y u) (rx : RelV x v) (fy : flatV y = true) (fx : flatV x = true) : SeqAt.EqAt A s u v (eqV y x) := by
  cases y with
  | non =>
    cases ry
    cases x with
    | non => cases rx; exact SeqAt.EqAt.same _
    | bl b => cases rx; exact SeqAt.EqAt.none_bool b
    | int b => obtain ⟨t, rfl⟩ := rx; exact SeqAt.EqAt.none_int b t
    | str b => obtain ⟨t, rfl⟩ := rx; exact SeqAt.EqAt.none_str b t
    | _ => exact absurd (show false = true from fx) Bool.false_ne_true
  | bl a =>
    cases ry
    cases x with
    | non => cases rx; exact SeqAt.EqAt.bool_none a
    | bl b => cases rx; exact SeqAt.EqAt.bool_bool a b
    | int b => obtain ⟨t, rfl⟩ := rx; exact SeqAt.EqAt.bool_int a b t
    | str b => obtain ⟨t, rfl⟩ := rx; exact SeqAt.EqAt.bool_str a b t
    | _ => exact absurd (show false = true from fx) Bool.false_ne_true
  | int a =>
    obtain ⟨t', rfl⟩ := ry
    cases x with
    | non => cases rx; exact SeqAt.EqAt.int_none a t'
    | bl b => cases rx; exact SeqAt.EqAt.int_bool a t' b
    | int b => obtain ⟨t, rfl⟩ := rx; exact SeqAt.EqAt.int_int a t' b t
    | str b => obtain ⟨t, rfl⟩ := rx; exact SeqAt.EqAt.int_str a t' b t
    | _ => exact absurd (show false = true from fx) Bool.false_ne_true
  | str a =>
    obtain ⟨t', rfl⟩ := ry
    cases x with
    | non => cases rx; exact SeqAt.EqAt.str_none a t'
    | bl b => cases rx; exact SeqAt.EqAt.str_bool a t' b
    | int b => obtain ⟨t, rfl⟩ := rx; exact SeqAt.EqAt.str_int a t' b t
    | str b => obtain ⟨t, rfl⟩ := rx; exact SeqAt.EqAt.str_str a t' b t
    | _ => exact absurd (show false = true from fx) Bool.false_ne_true
  | _ => exact absurd (show false = true from fy) Bool.false_ne_true
/-- the items' answers, read off the values (a value's own answer does not lean on its token) -/
def eqU (x : V) (u : Value) : Bool := match u with
  | .none => eqV .non x
  | .bool b => eqV (.bl b) x
  | .int i _ => eqV (.int i) x
  | .str z _ => eqV (.str z) x
  | _ => false
theorem eqU_of {x y : V} {u : Value} (r : RelV y u) (f : flatV y = true) : eqU x u = eqV y x := by
  cases y with
  | non => cases r; rfl
  | bl b => cases r; rfl
  | int i => obtain ⟨t, rfl⟩ := r; rfl
  | str z => obtain ⟨t, rfl⟩ := r; rfl
  | _ => exact absurd (show false = true from f) Bool.false_ne_true
theorem any_eqU {x : V} : ∀ {xs : List V} {us : List Value}, Vals xs us → xs.all flatV = true → us.any (eqU x) = xs.any fun y => eqV y x
  | _, _, .nil, _ => rfl
  | y :: xs, u :: us, .cons r t, f => by
    rw [List.all_cons, Bool.and_eq_true] at f
    rw [List.any_cons, List.any_cons, eqU_of r f.1, any_eqU t f.2]
theorem mem_eqAt {A : Around} {s : Shared} {x : V} {v : Value} (rx : RelV x v) (fx : flatV x = true) : ∀ {xs : List V} {us : List Value}, Vals xs us → xs.all flatV = true → ∀ u ∈ us, SeqAt.EqAt A s u v (eqU x u)
  | _, _, .nil, _ => fun u hu => by cases hu
  | y :: xs, u :: us, .cons r t, f => fun u' hu => by
    rw [List.all_cons, Bool.and_eq_true] at f
    rcases List.mem_cons.mp hu with rfl | hu
    · rw [eqU_of r f.1]; exact eqAt_V r rx f.1 fx
    · exact mem_eqAt rx fx t f.2 u' hu
def inV (x : V) (xs : List V) : Bool := xs.any fun y => eqV y x
/-- x in a list or tuple of flat items -/
def rIn (K : PySem.W.Frag) (neg : Bool) : R2 := fun x y H Q => ∃ p xs, y = .ref p ∧ (SqL K H p xs ∨ SqT K H p xs) ∧ flatV x = true ∧ xs.all flatV = true ∧ Q (.bl (if neg then !inV x xs else inV x xs)) H
theorem op_in_seq : OpR X (compareOp .In) (rIn X.K false) := by
  intro pins s σ H x y v u Q I rx ry h
  obtain ⟨p, xs, rfl, hq, fx, fs, q⟩ := h
  cases ry
  rcases hq with hq | hq
  · obtain ⟨its, r, pl, hz⟩ := I.list hq
    refine SeqAt.in_listAt (eqU x) pl.isList (fun w hw => mem_eqAt rx fx r fs w (by simpa using hw)) ⟨.bl _, H, I, rfl, ?_⟩
    rw [show its.toArray.any (eqU x) = its.any (eqU x) by simp, any_eqU r fs]
    exact q
  · obtain ⟨its, r, pl, hz⟩ := I.tuple hq
    refine SeqAt.in_tupleAt (eqU x) pl (fun w hw => mem_eqAt rx fx r fs w (by simpa using hw)) ⟨.bl _, H, I, rfl, ?_⟩
    rw [show its.toArray.any (eqU x) = its.any (eqU x) by simp, any_eqU r fs]
    exact q
theorem op_notIn_seq : OpR X (compareOp .NotIn) (rIn X.K true) := by
  intro pins s σ H x y v u Q I rx ry h
  obtain ⟨p, xs, rfl, hq, fx, fs, q⟩ := h
  cases ry
  rcases hq with hq | hq
  · obtain ⟨its, r, pl, hz⟩ := I.list hq
    refine SeqAt.notIn_listAt (eqU x) pl.isList (fun w hw => mem_eqAt rx fx r fs w (by simpa using hw)) ⟨.bl _, H, I, rfl, ?_⟩
    rw [show its.toArray.any (eqU x) = its.any (eqU x) by simp, any_eqU r fs]
    exact q
  · obtain ⟨its, r, pl, hz⟩ := I.tuple hq
    refine SeqAt.notIn_tupleAt (eqU x) pl (fun w hw => mem_eqAt rx fx r fs w (by simpa using hw)) ⟨.bl _, H, I, rfl, ?_⟩
    rw [show its.toArray.any (eqU x) = its.any (eqU x) by simp, any_eqU r fs]
    exact q
theorem op_notIn_str : OpR X (compareOp .NotIn) (fun x y H Q => ∃ i j, x = .str i ∧ y = .str j ∧ Q (.bl (!(!(Builtin.Str.occurrences j i 0 j.length 1).isEmpty))) H) := by
  intro pins s σ H x y v u Q I rx ry h
  obtain ⟨i, j, rfl, rfl, q⟩ := h
  obtain ⟨t, rfl⟩ := rx
  obtain ⟨t', rfl⟩ := ry
  exact notIn_str ⟨.bl _, H, I, rfl, q⟩

/-! ### len, list(x), tuple(x) of any list or tuple that is read -/
theorem call_len_seq : CallR X (.builtin "len") (fun xs H Q => ∃ p ys, xs = [.ref p] ∧ (SqL X.K H p ys ∨ SqT X.K H p ys) ∧ Q (.int ys.length) H) := by
  intro pins s σ H xs us Q I r h
  obtain ⟨p, ys, rfl, hq, q⟩ := h
  obtain ⟨u, rfl, rx⟩ := vals1 r
  cases rx
  have hn := line63
  rcases hq with hq | hq
  · obtain ⟨its, r', pl, hz⟩ := I.list hq
    have hlen := r'.length
    exact Calls.call_len_list pl.isList (by simp only [List.size_toArray] <;> omega) ⟨.int ys.length, H, I.tok _, ⟨s.toks + 1, by rw [List.size_toArray, hlen]⟩, q⟩
  · obtain ⟨its, r', pl, hz⟩ := I.tuple hq
    have hlen := r'.length
    exact len_tuple pl (by simp only [List.size_toArray] <;> omega) ⟨.int ys.length, H, I.tok _, ⟨s.toks + 1, by rw [List.size_toArray, hlen]⟩, q⟩
theorem call_len_str : CallR X (.builtin "len") (fun xs H Q => ∃ z, xs = [.str z] ∧ z.length ≤ sizeLine ∧ Q (.int z.length) H) := by
  intro pins s σ H xs us Q I r h
  obtain ⟨z, rfl, hz, q⟩ := h
  obtain ⟨u, rfl, t, rfl⟩ := vals1 r
  have hn := line63
  exact len_str (by omega) ⟨.int z.length, H, I.tok _, ⟨_, rfl⟩, q⟩
theorem CallR.or {f : Value} {r r' : List V → Hp → VK → Prop} (h : CallR X f r) (h' : CallR X f r') : CallR X f (fun xs H Q => r xs H Q ∨ r' xs H Q) := by
  intro pins s σ H xs us Q I rs q
  rcases q with q | q
  · exact h pins s σ H xs us Q I rs q
  · exact h' pins s σ H xs us Q I rs q
theorem call_list_of : CallR X (.type "list") (fun xs H Q => ∃ p ys, xs = [.ref p] ∧ (SqL X.K H p ys ∨ SqT X.K H p ys) ∧ ∀ l, H l = none → Q (.ref l) (upd H l (.lst ys))) := by
  intro pins s σ H xs us Q I r h
  obtain ⟨p, ys, rfl, hq, q⟩ := h
  obtain ⟨u, rfl, rx⟩ := vals1 r
  cases rx
  have fin : ∀ (its : List Value), Vals ys its → ys.length ≤ sizeLine → ∀ (h' : Heap) (c' : Nat), (∀ b o', s.heap.get? b = some o' → h'.get? b = some o') →
      h'.get? s.heap.objs.size = some { cls := .type "list", dict := none, data := .seq its.toArray c', slots := #[] } → EP X pins σ Q (.ref s.heap.objs.size) { s with heap := h' } := fun its r' hz h' c' kp e =>
    ⟨.ref s.heap.objs.size, _, I.laid (t' := s.toks) kp (Nat.le_refl _) (show ObjOk X.prog X.w _ h' _ (.lst ys) from ⟨hz, its, c', r', e⟩), rfl, q _ (I.hok.fresh (Nat.le_refl _))⟩
  rcases hq with hq | hq
  · obtain ⟨its, r', pl, hz⟩ := I.list hq
    have hlen := r'.length
    obtain ⟨o, ho, hc, n, hd⟩ := pl.isList
    exact call_list_seq p (.inl rfl) ho hc hd (fun h' c' kp e => fin its r' hz h' c' kp e) (by simp only [List.size_toArray] <;> omega)
  · obtain ⟨its, r', pl, hz⟩ := I.tuple hq
    have hlen := r'.length
    obtain ⟨o, ho, hc, n, hd⟩ := pl
    exact call_list_seq p (.inr rfl) ho hc hd (fun h' c' kp e => fin its r' hz h' c' kp e) (by simp only [List.size_toArray] <;> omega)
theorem call_tuple_of : CallR X (.type "tuple") (fun xs H Q => ∃ p ys, xs = [.ref p] ∧ ((SqL X.K H p ys ∧ ∀ l, H l = none → Q (.ref l) (upd H l (.tup ys))) ∨ (SqT X.K H p ys ∧ Q (.ref p) H))) := by
  intro pins s σ H xs us Q I r h
  obtain ⟨p, ys, rfl, h⟩ := h
  obtain ⟨u, rfl, rx⟩ := vals1 r
  cases rx
  rcases h with ⟨hq, q⟩ | ⟨hq, q⟩
  · obtain ⟨its, r', pl, hz⟩ := I.list hq
    have hlen := r'.length
    refine call_tuple_list pl.isList (fun h' kp => ?_) (by simp only [List.size_toArray] <;> omega)
    have I1 : Inv X pins σ H { s with heap := h' } := I.kept (t' := s.toks) kp
    have I2 : Inv X pins σ (upd H h'.objs.size (.tup ys)) { s with heap := h'.push { cls := .type "tuple", data := .seq its.toArray } } :=
      I1.laid (t' := s.toks) (fun b o e => Heap.get?_push_of_some _ e) (Nat.le_refl _) (show ObjOk X.prog X.w _ _ _ (.tup ys) from ⟨hz, its, r', IsTup.new _ _⟩)
    exact ⟨.ref h'.objs.size, _, I2, rfl, q _ (I1.hok.fresh (Nat.le_refl _))⟩
  · obtain ⟨its, r', pl, hz⟩ := I.tuple hq
    exact call_tuple_same pl ⟨.ref p, H, I, rfl, q⟩

/-! ### the call of a builtin's method: o.m(..) -/
/-- the value is of that builtin type -/
def tyV (K : PySem.W.Frag) (T : String) (x : V) (H : Hp) : Prop := match x with
  | .str _ => T = "str"
  | .int _ => T = "int"
  | .ref p => (T = "list" ∧ ∃ xs, SqL K H p xs) ∨ (T = "tuple" ∧ ∃ o, K.lookup p = some o ∧ o.cls = .type "tuple" ∧ o.dict = none) ∨
      (T = "dict" ∧ ((∃ kvs, H p = some (.dK kvs)) ∨ ∃ kvs, H p = some (.dT kvs))) ∨ (T = "set" ∧ ∃ S n, H p = some (.set S n))
  | _ => False
theorem tyV_is {pins : List (Addr × Obj)} {σ : St} {H : Hp} {s : Shared} {T : String} {x : V} {v : Value} (I : Inv X pins σ H s) (r : RelV x v) (ty : tyV X.K T x H) :
    s.TypeIs v T ∧ ∀ a, v = .ref a → ∃ ob, s.heap.get? a = some ob ∧ ob.dict = none := by
  cases x with
  | str z =>
    obtain ⟨t, rfl⟩ := r
    cases (show T = "str" from ty)
    exact ⟨typeIs_str s z t, fun _ e => nomatch e⟩
  | int i =>
    obtain ⟨t, rfl⟩ := r
    cases (show T = "int" from ty)
    exact ⟨typeIs_int s i t, fun _ e => nomatch e⟩
  | ref p =>
    cases r
    rcases ty with ⟨rfl, xs, hq⟩ | ⟨rfl, o, hk, hc, hd⟩ | ⟨rfl, hk⟩ | ⟨rfl, S, n, hk⟩
    · obtain ⟨its, _, pl, _⟩ := I.list hq
      refine ⟨pl.isList.typeIs, fun a e => ?_⟩
      cases e
      obtain ⟨o, n, e, c, hd, _⟩ := pl
      exact ⟨o, e, hd⟩
    · refine ⟨⟨o, I.kIn p o hk, hc⟩, fun a e => ?_⟩
      cases e
      exact ⟨o, I.kIn _ o hk, hd⟩
    · have z : ∃ o, s.heap.get? p = some o ∧ o.ExactDict := by
        rcases hk with ⟨kvs, hk⟩ | ⟨kvs, hk⟩
        · obtain ⟨_, _, _, _, o, _, _, e, ex, _⟩ := I.hok p _ hk
          exact ⟨o, e, ex⟩
        · obtain ⟨_, _, _, _, o, _, _, e, ex, _⟩ := I.hok p _ hk
          exact ⟨o, e, ex⟩
      obtain ⟨o, e, ex⟩ := z
      refine ⟨⟨o, e, ex.1⟩, fun a e2 => ?_⟩
      cases e2
      exact ⟨o, e, ex.2.1⟩
    · obtain ⟨o, _, _, _, e, ex, _⟩ := I.hok p _ hk
      refine ⟨⟨o, e, ex.1⟩, fun a e2 => ?_⟩
      cases e2
      exact ⟨o, e, ex.2.1⟩
  | _ => exact False.elim ty
def tBM0 (K : PySem.W.Frag) (T : String) (r : V → List V → Hp → VK → Prop) (to : TE) : TE := fun σ H Q => to σ H fun x H1 => tyV K T x H1 ∧ r x [] H1 Q
def tBM (K : PySem.W.Frag) (T : String) (r : V → List V → Hp → VK → Prop) (to : TE) (t : TA) : TE := fun σ H Q => to σ H fun x H1 => tyV K T x H1 ∧ t σ H1 fun xs H2 => r x xs H2 Q
variable {o e : Expr} {es : List Expr} {to : TE} {t : TA} {name : Str} {apos cpos : Pos} {T id : String} {r : V → List V → Hp → VK → Prop}
theorem pe_bm0 (pa : PlainAttrs T) (slot : Slot T name id) (hty : typeOf (.builtin id) = pure (.type "method_descriptor")) (hm : MtR X id r) (ho : PE X o to)
    (hbase : attributeBase o name X.env (eval o X.env) = eval o X.env := by rfl) (hline : (apos.endLine == cpos.line) = true := by rfl) : PE X (.Call (.Attribute o name apos) [] [] cpos) (tBM0 X.K T r to) := by
  intro pins s σ H Q I h
  refine wpAny_Call_method0_late hbase hline (thn (ho pins s σ H _ I h) fun v s1 ⟨x, H1, I1, r1, ty, q1⟩ => ?_)
  obtain ⟨h1, h2⟩ := tyV_is I1 r1 ty
  exact ⟨T, id, pa, slot, hty, h1, h2, Calls.callWith_builtin rfl (PySem.evalArgs_none (hm pins s1 σ H1 x [] v [] Q I1 r1 .nil q1))⟩
theorem pe_bm (pa : PlainAttrs T) (slot : Slot T name id) (hty : typeOf (.builtin id) = pure (.type "method_descriptor")) (hm : MtR X id r) (ho : PE X o to) (ha : PA X (e :: es) t)
    (hbase : attributeBase o name X.env (eval o X.env) = eval o X.env := by rfl)
    (hfew : ((backTo cpos (starEach (e :: es) X.env)).all (fun x => !x.1) && (backToKw cpos (keywordEach [] X.env)).all (fun x => x.1.isSome)
      && decide ((e :: es).length + ([] : List Keyword).length + (if ([] : List Keyword).isEmpty then 0 else 1) < 30)) = true := by rfl)
    (hline : (apos.endLine == cpos.line) = true := by rfl) (hs : starEach (e :: es) X.env = (false, eval e X.env) :: starEach es X.env := by rfl) (hplain : (backTo cpos (starEach es X.env)).any (·.1) = false := by rfl) :
    PE X (.Call (.Attribute o name apos) (e :: es) [] cpos) (tBM X.K T r to t) := by
  intro pins s σ H Q I h
  refine wpAny_Call_method_late hbase hfew hline rfl (thn (ho pins s σ H _ I h) fun v s1 ⟨x, H1, I1, r1, ty, q1⟩ => ?_)
  obtain ⟨h1, h2⟩ := tyV_is I1 r1 ty
  refine ⟨T, id, pa, slot, hty, h1, h2, ?_⟩
  have hA := ha cpos pins s1 σ H1 _ I1 q1
  rw [hs] at hA ⊢
  refine Calls.callWith_builtin (by show (false || (backTo cpos (starEach es X.env)).any (·.1)) = false; rw [hplain] <;> rfl) (Calls.evalArgs_plain ?_)
  exact thn hA fun us s2 ⟨vs, H2, I2, r2, q2⟩ => hm pins s2 σ H2 x vs v us Q I2 r1 r2 q2
/- xs.append(e), list.index on a module's tuple .. are MtR facts of 06m -/
end
end L2

namespace L2
open PySem PySem.Spec PyProof.Rows

def MtM (X : Cx) (id : String) (r : V → List V → Hp → VK → Prop) : Prop :=
  ∀ (pins : List (Addr × Obj)) (s : Shared) (σ : St) (H : Hp) (x : V) (xs : List V) (v : Value) (us : List Value) (Q : VK), Inv X pins σ H s → RelV x v → Vals xs us → r x xs H Q →
    wpAny (model X.prog X.w) X.A (call (.builtin id) (v :: us)) (EP X pins σ Q) X.xe s

/-! ### lists of values -/
theorem Vals.one : ∀ {x : V} {us : List Value}, Vals [x] us → ∃ u, us = [u] ∧ RelV x u
  | _, _, .cons r .nil => ⟨_, rfl, r⟩
theorem Vals.two : ∀ {x y : V} {us : List Value}, Vals [x, y] us → ∃ u v, us = [u, v] ∧ RelV x u ∧ RelV y v
  | _, _, _, .cons r (.cons q .nil) => ⟨_, _, rfl, r, q⟩
theorem Vals.zero : ∀ {us : List Value}, Vals [] us → us = []
  | _, .nil => rfl
theorem Vals.dropLast {xs : List V} {us : List Value} (h : Vals xs us) : Vals xs.dropLast us.dropLast := by
  induction h with
  | nil => exact .nil
  | cons r t ih =>
    cases t with
    | nil => exact .nil
    | cons q t' => exact .cons r ih
theorem Vals.eraseIdx : ∀ {xs : List V} {us : List Value} (i : Nat), Vals xs us → Vals (xs.eraseIdx i) (us.eraseIdx i)
  | _, _, _, .nil => .nil
  | _, _, 0, .cons _ t => t
  | _, _, i + 1, .cons r t => .cons r (Vals.eraseIdx i t)
theorem Vals.reverse {xs : List V} {us : List Value} (h : Vals xs us) : Vals xs.reverse us.reverse := by
  induction h with
  | nil => exact .nil
  | cons r t ih => rw [List.reverse_cons, List.reverse_cons]; exact Vals.append ih (.cons r .nil)
theorem Vals.rep {xs : List V} {us : List Value} (h : Vals xs us) : ∀ k : Nat, Vals (List.replicate k xs).flatten (List.replicate k us).flatten
  | 0 => .nil
  | k + 1 => by
    rw [List.replicate_succ, List.replicate_succ, List.flatten_cons, List.flatten_cons]
    exact Vals.append h (Vals.rep h k)
theorem erase_last {α : Type} (l : List α) : l.eraseIdx (l.length - 1) = l.dropLast := by
  induction l with
  | nil => rfl
  | cons a r ih =>
    cases r with
    | nil => rfl
    | cons b r =>
      have e : (a :: b :: r).length - 1 = ((b :: r).length - 1) + 1 := by
        have h1 : (a :: b :: r).length = r.length + 2 := rfl
        have h2 : (b :: r).length = r.length + 1 := rfl
        omega
      rw [e, List.eraseIdx_cons_succ, ih]
      all_goals rfl
theorem len_erase {α : Type} : ∀ (l : List α) (i : Nat), (l.eraseIdx i).length ≤ l.length
  | [], _ => Nat.le_refl _
  | _ :: _, 0 => Nat.le_succ _
  | _ :: r, i + 1 => Nat.succ_le_succ (len_erase r i)
theorem foldl_rep (its : List Value) : ∀ (k : Nat) (acc : List Value),
    List.foldl (fun x1 x2 => x1 ++ x2) acc.toArray (List.replicate k its.toArray) = (acc ++ (List.replicate k its).flatten).toArray
  | 0, acc => by simp
  | k + 1, acc => by
    have e : acc.toArray ++ its.toArray = (acc ++ its).toArray := by simp
    have e2 : (acc ++ its) ++ (List.replicate k its).flatten = acc ++ (List.replicate (k + 1) its).flatten := by
      rw [List.replicate_succ, List.flatten_cons, List.append_assoc]
    rw [← e2, ← foldl_rep its k (acc ++ its), ← e, List.replicate_succ, List.foldl_cons]

section
variable {X : Cx} {pins : List (Addr × Obj)} {σ : St} {H : Hp} {s : Shared} {l b : Addr} {xs ys zs : List V}

/-! ### the two steps: a tracked list is rewritten, a new list is laid -/
theorem Inv.lset {its its' : List Value} {n : Nat} {f : Array Value → Array Value} {t' : Nat} (I : Inv X pins σ H s) (hH : H l = some (.lst xs))
    (e : s.heap.get? l = some { cls := .type "list", data := .seq its.toArray n }) (hf : f its.toArray = its'.toArray) (hv : Vals ys its') (hz : ys.length ≤ sizeLine) :
    Inv X pins σ (upd H l (.lst ys)) { s with heap := s.heap.update l (Obj.mapSeq f), toks := t' } := by
  have q := PySem.IsL.update e f
  rw [hf] at q
  refine I.write (x := l) (e := l) (by rw [hH]; exact trivial) (.inl rfl) (fun b' u hb hu => (Heap.get?_update_other s.heap (Obj.mapSeq f) (Ne.symm hb)).trans hu) ⟨_, q⟩ ?_
  exact ⟨hz, its', _, hv, q⟩
theorem Inv.lnew {its : List Value} {t' : Nat} (I : Inv X pins σ H s) (hv : Vals ys its) (hz : ys.length ≤ sizeLine) :
    Inv X pins σ (upd H s.heap.objs.size (.lst ys)) { s with heap := s.heap.push { cls := .type "list", data := .seq its.toArray }, toks := t' } :=
  I.laid (fun _ _ q => Heap.get?_push_of_some _ q) (Nat.le_refl _) ⟨hz, its, 0, hv, Heap.get?_push_size _ rfl⟩
theorem Inv.fresh (I : Inv X pins σ H s) : H s.heap.objs.size = none := I.hok.fresh (Nat.le_refl _)
theorem Inv.lstM (I : Inv X pins σ H s) (hH : H l = some (.lst xs)) : xs.length ≤ sizeLine ∧ ∃ (its : List Value) (n : Nat), Vals xs its ∧ xs.length = its.length ∧ s.heap.get? l = some { cls := .type "list", data := .seq its.toArray n } := by
  obtain ⟨z, its, n, r, e⟩ := I.hok l _ hH
  exact ⟨z, its, n, r, r.length, e⟩

theorem notLongL {n : Nat} (h : n ≤ sizeLine) : Builtin.List.listTooLong n = false := by
  unfold Builtin.List.listTooLong
  exact decide_eq_false (by omega)
end

section
variable {X : Cx}

/-! ### methods -/
def rAppend : V → List V → Hp → VK → Prop := fun x vs H Q => ∃ l xs y, x = .ref l ∧ vs = [y] ∧ H l = some (.lst xs) ∧ xs.length < sizeLine ∧ Q .non (upd H l (.lst (xs ++ [y])))
theorem mt_append : MtM X "list.append" rAppend := by
  intro pins s σ H x vs v us Q I rx rv h
  obtain ⟨l, xs, y, rfl, rfl, hH, hz, q⟩ := h
  cases rx
  obtain ⟨u, rfl, ru⟩ := rv.one
  obtain ⟨z, its, n, r, hl, e⟩ := I.lstM hH
  refine call_meets F.slot_list_append ⟨_, e, rfl⟩ F.entry_list_append (F.args_list_append_2 _ _) (PySem.list_append l its.toArray n u (by rw [List.size_toArray]; omega)) ⟨e, ?_⟩
  refine ⟨.non, _, I.lset (its' := its ++ [u]) hH e (by simp) (r.append (.cons ru .nil)) ?_, rfl, q⟩
  rw [List.length_append, List.length_singleton]
  omega

def rExtend : V → List V → Hp → VK → Prop := fun x vs H Q => ∃ l b xs zs, x = .ref l ∧ vs = [.ref b] ∧ H l = some (.lst xs) ∧ H b = some (.lst zs) ∧ xs.length + zs.length ≤ sizeLine ∧ Q .non (upd H l (.lst (xs ++ zs)))
theorem mt_extend : MtM X "list.extend" rExtend := by
  intro pins s σ H x vs v us Q I rx rv h
  obtain ⟨l, b, xs, zs, rfl, rfl, hH, hB, hz, q⟩ := h
  cases rx
  obtain ⟨u, rfl, ru⟩ := rv.one
  cases ru
  obtain ⟨z, its, n, r, hl, e⟩ := I.lstM hH
  obtain ⟨z2, its2, n2, r2, hl2, e2⟩ := I.lstM hB
  have hsz : its.toArray.size + its2.toArray.size ≤ sizeLine := by rw [List.size_toArray, List.size_toArray]; omega
  have hlong : ¬ (!its.toArray.isEmpty && Builtin.List.listTooLong (its.toArray.size + its2.toArray.size)) = true := by
    rw [notLongL hsz, Bool.and_false]
    exact Bool.false_ne_true
  refine call_meets F.slot_list_extend ⟨_, e, rfl⟩ F.entry_list_extend (F.args_list_extend_2 _ _)
    (AutoSeq1.list_extend_list_list_0 l its.toArray n b its2.toArray n2 hlong (by rw [List.size_toArray]; omega) (by omega)) ⟨e, e2, ?_⟩
  refine ⟨.non, _, I.lset (its' := its ++ its2) hH e (by simp) (r.append r2) ?_, rfl, q⟩
  rw [List.length_append]
  omega

def rPop : V → List V → Hp → VK → Prop := fun x vs H Q => ∃ l xs y, x = .ref l ∧ vs = [] ∧ H l = some (.lst xs) ∧ xs[xs.length - 1]? = some y ∧ Q y (upd H l (.lst xs.dropLast))
theorem mt_pop : MtM X "list.pop" rPop := by
  intro pins s σ H x vs v us Q I rx rv h
  obtain ⟨l, xs, y, rfl, rfl, hH, hy, q⟩ := h
  cases rx
  have hus := rv.zero
  subst hus
  obtain ⟨z, its, n, r, hl, e⟩ := I.lstM hH
  obtain ⟨u, hu, ru⟩ := r.get hy
  have hy' : its.toArray[its.toArray.size - 1]? = some u := by
    show its.toArray[its.length - 1]? = some u
    rw [← Array.getElem?_toList, ← hl]
    exact hu
  refine call_meets F.slot_list_pop ⟨_, e, rfl⟩ F.entry_list_pop (F.args_list_pop_1 _) (MeetsSeq.list_pop_last l its.toArray n u hy' (by rw [List.size_toArray]; omega)) ⟨e, ?_⟩
  refine ⟨y, _, I.lset (its' := its.dropLast) hH e ?_ r.dropLast ?_, ru, q⟩
  · show its.toArray.eraseIdxIfInBounds (its.toArray.size - 1) = its.dropLast.toArray
    rw [List.size_toArray, List.eraseIdxIfInBounds_toArray, erase_last]
  · rw [List.length_dropLast]
    omega

def rPopAt : V → List V → Hp → VK → Prop := fun x vs H Q => ∃ l xs i k y, x = .ref l ∧ vs = [.int i] ∧ H l = some (.lst xs) ∧ -(2 ^ 63) ≤ i ∧ i < 2 ^ 63 ∧ seqIndex? i xs.length = some k ∧ xs[k]? = some y ∧ Q y (upd H l (.lst (xs.eraseIdx k)))
theorem mt_popAt : MtM X "list.pop" rPopAt := by
  intro pins s σ H x vs v us Q I rx rv h
  obtain ⟨l, xs, i, k, y, rfl, rfl, hH, h1, h2, hk, hy, q⟩ := h
  cases rx
  obtain ⟨u, rfl, ru⟩ := rv.one
  obtain ⟨t, rfl⟩ := ru
  obtain ⟨z, its, n, r, hl, e⟩ := I.lstM hH
  obtain ⟨w, hw, rw'⟩ := r.get hy
  refine call_meets F.slot_list_pop ⟨_, e, rfl⟩ F.entry_list_pop (F.args_list_pop_2 _ _)
    (MeetsSeq.list_pop_at l its.toArray n i t k w (fitsIndex_both h1 h2) (by rw [List.size_toArray, ← hl]; exact hk) (by rw [← Array.getElem?_toList]; exact hw) (by rw [List.size_toArray]; omega)) ⟨e, ?_⟩
  refine ⟨y, _, I.lset (its' := its.eraseIdx k) hH e ?_ (r.eraseIdx k) ?_, rw', q⟩
  · show its.toArray.eraseIdxIfInBounds k = (its.eraseIdx k).toArray
    rw [List.eraseIdxIfInBounds_toArray]
  · have := len_erase xs k
    omega

def rReverse : V → List V → Hp → VK → Prop := fun x vs H Q => ∃ l xs, x = .ref l ∧ vs = [] ∧ H l = some (.lst xs) ∧ Q .non (upd H l (.lst xs.reverse))
theorem mt_reverse : MtM X "list.reverse" rReverse := by
  intro pins s σ H x vs v us Q I rx rv h
  obtain ⟨l, xs, rfl, rfl, hH, q⟩ := h
  cases rx
  have hus := rv.zero
  subst hus
  obtain ⟨z, its, n, r, hl, e⟩ := I.lstM hH
  refine call_meets F.slot_list_reverse ⟨_, e, rfl⟩ F.entry_list_reverse (F.args_list_reverse_1 _) (AutoSeq1.list_reverse_list_0 l its.toArray n (by rw [List.size_toArray]; omega)) ⟨e, ?_⟩
  refine ⟨.non, _, I.lset (its' := its.reverse) hH e (by simp) r.reverse ?_, rfl, q⟩
  rw [List.length_reverse]
  omega

def rClear : V → List V → Hp → VK → Prop := fun x vs H Q => ∃ l xs, x = .ref l ∧ vs = [] ∧ H l = some (.lst xs) ∧ Q .non (upd H l (.lst []))
theorem mt_clear : MtM X "list.clear" rClear := by
  intro pins s σ H x vs v us Q I rx rv h
  obtain ⟨l, xs, rfl, rfl, hH, q⟩ := h
  cases rx
  have hus := rv.zero
  subst hus
  obtain ⟨z, its, n, r, hl, e⟩ := I.lstM hH
  refine call_meets F.slot_list_clear ⟨_, e, rfl⟩ F.entry_list_clear (F.args_list_clear_1 _) (AutoSeq1.list_clear_list_0 l its.toArray n (by rw [List.size_toArray]; omega)) ⟨e, ?_⟩
  exact ⟨.non, _, I.lset (its' := []) (ys := []) hH e rfl .nil (Nat.zero_le _), rfl, q⟩

/-! ### list + list, list += list, list * int -/
def rCat : R2 := fun x y H Q => ∃ l b xs zs, x = .ref l ∧ y = .ref b ∧ H l = some (.lst xs) ∧ H b = some (.lst zs) ∧ xs.length + zs.length ≤ sizeLine ∧ ∀ p, H p = none → Q (.ref p) (upd H p (.lst (xs ++ zs)))
theorem op_cat : OpR X (binaryOp .Add) rCat := by
  intro pins s σ H x y v u Q I rx ry h
  obtain ⟨l, b, xs, zs, rfl, rfl, hH, hB, hz, q⟩ := h
  cases rx
  cases ry
  obtain ⟨z, its, n, r, hl, e⟩ := I.lstM hH
  obtain ⟨z2, its2, n2, r2, hl2, e2⟩ := I.lstM hB
  refine PySem.P.add_list e e2 ?_ (by rw [List.size_toArray, List.size_toArray]; omega)
  have ea : its.toArray ++ its2.toArray = (its ++ its2).toArray := by simp
  rw [ea]
  exact ⟨.ref _, _, I.lnew (t' := s.toks) (r.append r2) (by rw [List.length_append]; omega), rfl, q _ I.fresh⟩
/-- a list times an int (a negative one is nothing) -/
def rRep : R2 := fun x y H Q => ∃ l k xs, x = .ref l ∧ y = .int k ∧ H l = some (.lst xs) ∧ -(2 ^ 63) ≤ k ∧ k < 2 ^ 63 ∧ xs.length * k.toNat ≤ sizeLine ∧
  ∀ p, H p = none → Q (.ref p) (upd H p (.lst (List.replicate k.toNat xs).flatten))
theorem len_rep {α : Type} (xs : List α) (k : Nat) : (List.replicate k xs).flatten.length = k * xs.length := by
  induction k with
  | zero => simp
  | succ k ih => rw [List.replicate_succ, List.flatten_cons, List.length_append, ih, Nat.succ_mul, Nat.add_comm]
theorem op_rep : OpR X (binaryOp .Mult) rRep := by
  intro pins s σ H x y v u Q I rx ry h
  obtain ⟨l, k, xs, rfl, rfl, hH, h1, h2, hz, q⟩ := h
  cases rx
  obtain ⟨t, rfl⟩ := ry
  obtain ⟨z, its, n, r, hl, e⟩ := I.lstM hH
  have hlen : its.toArray.size * k.toNat ≤ sizeLine := by rw [List.size_toArray, ← hl]; exact hz
  have hcap : ¬ its.toArray.size * k.toNat > (2 ^ 63 - 1) / 8 := by
    have : (sizeLine : Nat) ≤ (2 ^ 63 - 1) / 8 := by decide
    omega
  have hfit : ¬ (!Builtin.List.listFitsIndex k) = true := by
    rw [fitsIndex_both h1 h2]
    exact Bool.false_ne_true
  have hlong : ¬ Builtin.List.listTooLong (its.toArray.size * k.toNat) = true := by
    rw [notLongL hlen]
    exact Bool.false_ne_true
  have hnew : List.foldl (fun x1 x2 => x1 ++ x2) #[] (List.replicate (if its.toArray.isEmpty = true then 0 else k.toNat) its.toArray) = (List.replicate k.toNat its).flatten.toArray := by
    have f0 : ∀ m : Nat, List.foldl (fun x1 x2 => x1 ++ x2) #[] (List.replicate m its.toArray) = (List.replicate m its).flatten.toArray := fun m => by
      have := foldl_rep its m []
      rw [List.nil_append] at this
      exact this
    rw [f0]
    cases its with
    | nil => simp
    | cons a r' => rw [if_neg (by simp)]
  refine wpAny_binaryOp_repeat_ref (T := "list") (U := "int") (by decide) ⟨_, e, rfl⟩ (fun s' => typeIs_int s' k t) noFill_list_mul F.fills_int_mul F.slot_int_rmul repeat_list F.slot_int_index.lookup
    (call_meets F.slot_int_rmul (typeIs_int s k t) F.entry_int_rmul (F.args_int_rmul_2 _ _) (int___rmul___int_list k t l its.toArray n)
      ⟨e, rfl, ⟨_, e, rfl⟩, call_meets F.slot_list_mul ⟨_, e, rfl⟩ F.entry_list_mul (F.args_list_mul_2 _ _) (AutoListH.list___mul___list_int_3 l its.toArray n k t hfit hcap hlong) ⟨e, ?_⟩⟩)
  rw [hnew]
  exact ⟨.ref _, _, I.lnew (t' := s.toks) (r.rep k.toNat) (by rw [len_rep, Nat.mul_comm]; exact hz), rfl, q _ I.fresh⟩

/-! ### del xs[i] -/
theorem del_list {pins : List (Addr × Obj)} {s : Shared} {σ : St} {H : Hp} {l : Addr} {xs : List V} {i : Int} {t : Tok} {k : Nat} {Q : Unit → Shared → Prop} (I : Inv X pins σ H s) (hH : H l = some (.lst xs))
    (h1 : -(2 ^ 63) ≤ i) (h2 : i < 2 ^ 63) (hk : seqIndex? i xs.length = some k) (h : ∀ s', Inv X pins σ (upd H l (.lst (xs.eraseIdx k))) s' → Q () s') :
    wpAny (model X.prog X.w) X.A (delItem (.ref l) (.int i t)) Q X.xe s := by
  obtain ⟨z, its, n, r, hl, e⟩ := I.lstM hH
  refine PySem.P.delItem_list (k := k) e (fitsIndex_both h1 h2) (by rw [List.size_toArray, ← hl]; exact hk) (h _ ?_) (by rw [List.size_toArray]; omega)
  refine I.lset (its' := its.eraseIdx k) (t' := s.toks) hH e ?_ (r.eraseIdx k) ?_
  · show its.toArray.eraseIdxIfInBounds k = (its.eraseIdx k).toArray
    rw [List.eraseIdxIfInBounds_toArray]
  · have := len_erase xs k
    omega
end

/-! ### xs[a:b] = ys -/
section
variable {prog : Program} {w : World} {A : Around} {E : Value → Shared → Prop} {s : Shared}
theorem splice_eq (its its2 : List Value) (a c : Nat) : its.toArray.extract 0 a ++ its2.toArray ++ its.toArray.extract c its.toArray.size = (its.take a ++ its2 ++ its.drop c).toArray := by
  apply Array.toList_inj.mp
  first
    | (simp
       exact List.take_of_length_le (by simp))
    | simp [List.take_of_length_le]
    | simp
theorem bounds_run {a c n : Nat} (hac : a ≤ c) (hc : c ≤ n) : sliceBounds (some (a : Int)) (some (c : Int)) none n = ((a : Int), (c : Int), 1) := by
  simp only [sliceBounds, Option.getD_none]
  have h1 : ¬ ((a : Int) < 0) := by omega
  have h2 : ¬ ((c : Int) < 0) := by omega
  simp only [h1, h2, if_false, show (1 : Int) > 0 by decide, if_true]
  congr 1
  · omega
  · congr 1; omega
set_option maxRecDepth 100000 in
/-- list.__setitem__ with a slice of step one and another list -/
theorem setItem_slice {l b sl : Addr} {items new : Array Value} {n n2 : Nat} {vl vu : Value} {a c : Nat} {Q : Unit → Shared → Prop}
    (e : s.heap.get? l = some { cls := .type "list", data := .seq items n }) (e2 : s.heap.get? b = some { cls := .type "list", data := .seq new n2 }) (hne : l ≠ b)
    (hs : s.heap.IsSliceOf sl vl vu .none) (pl : IsPart vl (some (a : Int))) (pu : IsPart vu (some (c : Int))) (hac : a ≤ c) (hc : c ≤ items.size)
    (hsz : items.size + new.size ≤ sizeLine) (h : Q () { s with heap := s.heap.update l (Obj.mapSeq fun xs => xs.extract 0 a ++ new ++ xs.extract c xs.size) }) :
    wpAny (model prog w) A (setItem (.ref l) (.ref sl) (.ref b)) Q E s := by
  have hl : s.heap.IsList l items := PySem.IsL.isList e
  have hb : s.heap.IsList b new := PySem.IsL.isList e2
  obtain ⟨os, hos, hcs, hds⟩ := id hs
  have hTs : s.TypeIs (.ref sl) "slice" := ⟨os, hos, hcs⟩
  have hstep : ¬ ((rawPart none == rawInt 0) = true) := Bool.false_ne_true
  have hsame : Builtin.List.listSameRef (.ref l) (.ref b) = false := by
    unfold Builtin.List.listSameRef
    exact beq_eq_false_iff_ne.mpr hne
  have hmax : (max (a : Int) (c : Int)).toNat = c := by omega
  have hz' : ((fun xs : Array Value => xs.extract 0 a ++ new ++ xs.extract c xs.size) items).size ≤ sizeLine + 1 := by
    simp only [Array.size_append, Array.size_extract]
    omega
  unfold setItem
  try with_reducible refine wpAny_holding ?_
  first | refine wpAny_bind (wpAny_pure ?_) | skip
  refine wpAny_bind (wpAny_sequenceKey hl.typeIs (by decide) ?_)
  refine wpAny_bind (wpAny_callSpecial?_slot (name := Str.ofString "__setitem__") hl.typeIs slot_list_setitem
    (wpAny_call_entry slot_list_setitem hl.typeIs entry_list_setitem ?_ (args_list_setitem _ _ _)))
  show wpAny _ _ (Builtin.List.listSubscript? (.ref sl) >>= _) _ _ s
  refine wpAny_bind ?_
  unfold Builtin.List.listSubscript?
  refine wpAny_bind (wpAny_specialOf hTs slice_no_index ?_)
  simp only [Option.isNone_none, if_true]
  refine wpAny_pure ?_
  show wpAny _ _ (typeOf (.ref sl) >>= _) _ _ s
  refine wpAny_bind (wpAny_typeOf hTs ?_)
  first
    | rw [if_neg (by decide)]
    | refine PySem.W.KFB.if_not (by decide) ?_
  rw [listSliceParts_eq]
  refine wpAny_bind (wpAny_bind (wpAny_field hos hds (x := .none) rfl (wpAny_bind (wpAny_listPart .none ?_))))
  rw [if_neg hstep]
  refine wpAny_bind (wpAny_field hos hds (x := vl) rfl (wpAny_bind (wpAny_listPart pl ?_)))
  refine wpAny_bind (wpAny_field hos hds (x := vu) rfl (wpAny_bind (wpAny_listPart pu (wpAny_pure ?_))))
  first
    | simp only [hsame, Bool.false_eq_true, if_false]
    | refine PySem.W.KFB.if_not hsame ?_
    | (dsimp only
       rw [if_neg (by rw [hsame]; exact Bool.false_ne_true)])
  refine wpAny_bind (m := Builtin.List.listAllItems (.ref b) "must assign iterable to extended slice") ?_
  unfold Builtin.List.listAllItems
  refine wpAny_bind (wpAny_typeOf hb.typeIs ?_)
  first
    | refine PySem.W.KFB.if_so (by decide) ?_
    | rw [if_pos (by decide)]
    | simp only [beq_self_eq_true, Bool.true_or, if_true]
  unfold Builtin.List.listItems
  refine wpAny_bind (wpAny_seqItems e2 rfl (wpAny_pure ?_))
  refine wpAny_bind (wpAny_bind (wpAny_seqItems e rfl (wpAny_pure ?_)))
  refine wpAny_bind (wpAny_of_eq ((sliceIndices_raw (some (a : Int)) (some (c : Int)) none items.size (by simp)).trans (congrArg (pure : Int × Int × Int → Sem (Int × Int × Int)) (bounds_run hac hc))) ?_)
  show wpAny _ _ (if ((1 : Int) == 1) = true then _ else _) _ _ s
  rw [if_pos (by decide)]
  refine wpAny_bind (wpAny_rule ?_)
  first
    | simp only [notLongL hsz, Bool.false_eq_true, if_false]
    | refine PySem.W.KFB.if_not (notLongL hsz) ?_
  first | refine wpAny_bind (wpAny_pure ?_) | skip
  show wpAny _ _ (updateSeq l (fun xs => xs.extract 0 ((a : Int)).toNat ++ new ++ xs.extract (max (a : Int) (c : Int)).toNat xs.size) >>= _) _ _ s
  rw [hmax, Int.toNat_natCast]
  refine wpAny_bind (wpAny_updateSeq (hz := Nat.le_trans (Nat.le_add_right _ _) hsz) (_hz' := hz') e rfl ?_)
  refine wpAny_bind (wpAny_letGo ?_)
  first
    | exact wpAny_bind (wpAny_pure (wpAny_pure ⟨.none, rfl, wpAny_pure h⟩))
    | exact wpAny_pure ⟨.none, rfl, wpAny_pure h⟩
end

section
variable {X : Cx}
/-- xs[a:c] = ys of another list, at the value level: sl is the slice object that was just made -/
theorem set_slice {pins : List (Addr × Obj)} {s : Shared} {σ : St} {H : Hp} {l b sl : Addr} {xs ys : List V} {a c : Int} {vl vu : Value} {Q : Unit → Shared → Prop} (I : Inv X pins σ H s)
    (hH : H l = some (.lst xs)) (hB : H b = some (.lst ys)) (hne : l ≠ b) (hs : s.heap.IsSliceOf sl vl vu .none) (ra : RelV (.int a) vl) (rc : RelV (.int c) vu) (h0 : 0 ≤ a) (hac : a ≤ c) (hc : c ≤ xs.length)
    (hz : xs.length + ys.length ≤ sizeLine) (h : ∀ s', Inv X pins σ (upd H l (.lst (xs.take a.toNat ++ ys ++ xs.drop c.toNat))) s' → Q () s') :
    wpAny (model X.prog X.w) X.A (setItem (.ref l) (.ref sl) (.ref b)) Q X.xe s := by
  obtain ⟨ta, rfl⟩ := ra
  obtain ⟨tc, rfl⟩ := rc
  obtain ⟨z, its, n, r, hl, e⟩ := I.lstM hH
  obtain ⟨z2, its2, n2, r2, hl2, e2⟩ := I.lstM hB
  obtain ⟨a', rfl⟩ := Int.eq_ofNat_of_zero_le h0
  obtain ⟨c', rfl⟩ := Int.eq_ofNat_of_zero_le (Int.le_trans h0 hac)
  simp only [Int.toNat_natCast] at h
  refine setItem_slice (a := a') (c := c') e e2 hne hs (.int _ _) (.int _ _) (by omega) (by rw [List.size_toArray]; omega) (by rw [List.size_toArray, List.size_toArray]; omega) (h _ ?_)
  refine I.lset (its' := its.take a' ++ its2 ++ its.drop c') (t' := s.toks) hH e ?_ (Vals.append (Vals.append (r.take _) r2) (r.drop _)) ?_
  · exact splice_eq its its2 a' c'
  · rw [List.length_append, List.length_append, List.length_take, List.length_drop]
    omega
end
end L2

namespace L2
open PySem PySem.Spec PyProof.Rows

/-! ### lists of pairs as tables -/
section
variable {κ : Type} [DecidableEq κ]
def valV (kvs : List (κ × V)) (k : κ) : Option V := (kvs.find? fun kv => decide (kv.1 = k)).map (·.2)
/-- in its place, or at the end -/
def putK (kvs : List (κ × V)) (k : κ) (v : V) : List (κ × V) :=
  if (kvs.any fun kv => decide (kv.1 = k)) = true then kvs.map (fun kv => if kv.1 = k then (kv.1, v) else kv) else kvs ++ [(k, v)]
def dropK (kvs : List (κ × V)) (k : κ) : List (κ × V) := kvs.filter fun kv => decide (kv.1 ≠ k)

theorem valV_nil {k : κ} : valV ([] : List (κ × V)) k = none := rfl
theorem valV_pos {p : κ × V} {r : List (κ × V)} {k : κ} (e : p.1 = k) : valV (p :: r) k = some p.2 := by simp [valV, List.find?_cons, e]
theorem valV_neg {p : κ × V} {r : List (κ × V)} {k : κ} (e : ¬ p.1 = k) : valV (p :: r) k = valV r k := by simp [valV, List.find?_cons, e]
theorem valV_any (k : κ) : ∀ kvs : List (κ × V), (kvs.any fun kv => decide (kv.1 = k)) = (valV kvs k).isSome
  | [] => rfl
  | p :: r => by
    rw [List.any_cons]
    by_cases e : p.1 = k
    · simp only [valV_pos e, decide_eq_true e, Bool.true_or, Option.isSome_some]
    · rw [valV_neg e, decide_eq_false e, Bool.false_or]; exact valV_any k r
theorem valV_map (k j : κ) (y : V) : ∀ kvs : List (κ × V), valV (kvs.map fun kv => if kv.1 = k then (kv.1, y) else kv) j = (valV kvs j).map fun x => if j = k then y else x
  | [] => rfl
  | p :: r => by
    have ih := valV_map k j y r
    rw [List.map_cons]
    by_cases h : p.1 = k
    · rw [if_pos h]
      by_cases e : p.1 = j
      · rw [valV_pos (p := (p.1, y)) e, valV_pos e, Option.map_some, if_pos (e.symm.trans h)]
      · rw [valV_neg (p := (p.1, y)) e, valV_neg e, ih]
    · rw [if_neg h]
      by_cases e : p.1 = j
      · rw [valV_pos (p := p) e, valV_pos e, Option.map_some, if_neg (fun z => h (e.trans z))]
      · rw [valV_neg (p := p) e, valV_neg e, ih]
theorem valV_snoc (k j : κ) (y : V) : ∀ kvs : List (κ × V), valV kvs k = none → valV (kvs ++ [(k, y)]) j = if j = k then some y else valV kvs j
  | [], _ => by
    by_cases e : k = j
    · rw [if_pos e.symm]; exact valV_pos (p := (k, y)) e
    · rw [if_neg (fun z => e z.symm)]; exact valV_neg (p := (k, y)) e
  | p :: r, hn => by
    rw [List.cons_append]
    have hk : ¬ p.1 = k := fun z => by rw [valV_pos z] at hn; cases hn
    rw [valV_neg hk] at hn
    have ih := valV_snoc k j y r hn
    by_cases e : p.1 = j
    · rw [valV_pos e, valV_pos e, if_neg (fun z => hk (e.trans z))]
    · rw [valV_neg e, valV_neg e, ih]
theorem valV_put (kvs : List (κ × V)) (k j : κ) (y : V) : valV (putK kvs k y) j = if j = k then some y else valV kvs j := by
  unfold putK
  by_cases a : (kvs.any fun kv => decide (kv.1 = k)) = true
  · rw [if_pos a, valV_map]
    rw [valV_any] at a
    by_cases e : j = k
    · obtain ⟨x, hx⟩ := Option.isSome_iff_exists.mp a
      rw [if_pos e, e, hx, Option.map_some, if_pos rfl]
    · rw [if_neg e]
      cases valV kvs j with
      | none => rfl
      | some x => rw [Option.map_some, if_neg e]
  · rw [if_neg a]
    refine valV_snoc k j y kvs ?_
    rw [valV_any] at a
    cases q : valV kvs k with
    | none => rfl
    | some x => rw [q] at a; exact (a rfl).elim
theorem length_putK (kvs : List (κ × V)) (k : κ) (v : V) : (putK kvs k v).length ≤ kvs.length + 1 := by
  unfold putK
  split
  · rw [List.length_map]; omega
  · rw [List.length_append, List.length_cons, List.length_nil]; omega
theorem putK_new {kvs : List (κ × V)} {k : κ} (v : V) (h : valV kvs k = none) : putK kvs k v = kvs ++ [(k, v)] := by
  unfold putK
  rw [valV_any, h]
  exact if_neg (by decide)

theorem RelO.isSome_eq {o : Option V} {u : Option Value} (r : RelO o u) : o.isSome = u.isSome := by
  cases o with
  | none => cases u with
    | none => rfl
    | some _ => exact (show False from r).elim
  | some _ => cases u with
    | none => exact (show False from r).elim
    | some _ => rfl
theorem RelO.getD {o : Option V} {u : Option Value} {d : V} {d' : Value} (r : RelO o u) (rd : RelV d d') : RelV (o.getD d) (u.getD d') := by
  cases o with
  | none => cases u with
    | none => exact rd
    | some _ => exact (show False from r).elim
  | some _ => cases u with
    | none => exact (show False from r).elim
    | some _ => exact r

/-- raw tables of the same keys -/
theorem KV.val {kvs : List (κ × V)} {vs : List (κ × Value)} (r : KV kvs vs) (k : κ) : RelO (valV kvs k) (valueAt vs k) := by
  unfold KV at r
  induction r with
  | nil => exact True.intro
  | @cons p q ps qs h t ih =>
    obtain ⟨h1, h2⟩ := h
    by_cases e : p.1 = k
    · have e' : q.1 = k := h1.symm.trans e
      have b : valueAt (q :: qs) k = some q.2 := by simp [valueAt, List.find?_cons, e']
      rw [valV_pos e, b]; exact h2
    · have e' : ¬ q.1 = k := fun z => e (h1.trans z)
      have b : valueAt (q :: qs) k = valueAt qs k := by simp [valueAt, List.find?_cons, e']
      rw [valV_neg e, b]; exact ih
theorem KV.any {kvs : List (κ × V)} {vs : List (κ × Value)} (r : KV kvs vs) (k : κ) : (kvs.any fun kv => decide (kv.1 = k)) = vs.any fun kv => decide (kv.1 = k) := by
  unfold KV at r
  induction r with
  | nil => rfl
  | cons h t ih => rw [List.any_cons, List.any_cons, ih, h.1]
theorem KV.repl {kvs : List (κ × V)} {vs : List (κ × Value)} (r : KV kvs vs) (k : κ) {y : V} {u : Value} (ry : RelV y u) :
    KV (kvs.map fun kv => if kv.1 = k then (kv.1, y) else kv) (vs.map fun kv => if kv.1 = k then (kv.1, u) else kv) := by
  unfold KV at r ⊢
  induction r with
  | nil => exact .nil
  | @cons p q ps qs h t ih =>
    rw [List.map_cons, List.map_cons]
    refine .cons ?_ ih
    obtain ⟨h1, h2⟩ := h
    by_cases e : p.1 = k
    · rw [if_pos e, if_pos (h1.symm.trans e)]; exact ⟨h1, ry⟩
    · rw [if_neg e, if_neg (fun z => e (h1.trans z))]; exact ⟨h1, h2⟩
theorem KV.put {kvs : List (κ × V)} {vs : List (κ × Value)} (r : KV kvs vs) (k : κ) {y : V} {u : Value} (ry : RelV y u) : KV (putK kvs k y) (stored vs k u) := by
  unfold putK stored
  rw [r.any k]
  by_cases e : (vs.any fun kv => decide (kv.1 = k)) = true
  · rw [if_pos e, if_pos e]; exact r.repl k ry
  · rw [if_neg e, if_neg e]; exact Paired.snoc r ⟨rfl, ry⟩
theorem KV.drop {kvs : List (κ × V)} {vs : List (κ × Value)} (r : KV kvs vs) (k : κ) : KV (dropK kvs k) (without vs k) := by
  unfold KV at r ⊢
  unfold dropK without
  induction r with
  | nil => exact .nil
  | @cons p q ps qs h t ih =>
    obtain ⟨h1, h2⟩ := h
    rw [List.filter_cons, List.filter_cons]
    by_cases e : p.1 = k
    · have a : ¬ decide (p.1 ≠ k) = true := by simp [e]
      have b : ¬ decide (q.1 ≠ k) = true := by simp [h1.symm.trans e]
      rw [if_neg a, if_neg b]; exact ih
    · have e' : ¬ q.1 = k := fun z => e (h1.trans z)
      have a : decide (p.1 ≠ k) = true := by simp [e]
      have b : decide (q.1 ≠ k) = true := by simp [e']
      rw [if_pos a, if_pos b]; exact .cons ⟨h1, h2⟩ ih
theorem KV.keys {kvs : List (κ × V)} {vs : List (κ × Value)} (r : KV kvs vs) : kvs.map (·.1) = vs.map (·.1) := by
  unfold KV at r
  induction r with
  | nil => rfl
  | cons h t ih => rw [List.map_cons, List.map_cons, ih, h.1]
theorem KV.length {kvs : List (κ × V)} {vs : List (κ × Value)} (r : KV kvs vs) : kvs.length = vs.length := Paired.length r
theorem dropK_le (kvs : List (κ × V)) (k : κ) : (dropK kvs k).length ≤ kvs.length := List.length_filter_le _ _
end


/-! ### a tracked dict, its keys ints and texts or tuples of these -/
theorem kV_is {P : Program} {w : World} {k : Key} {u : Value} (r : RelV (kV k) u) : (mixKind P w).is k u = true := by
  cases k with
  | inl i => obtain ⟨t, e⟩ := (show ∃ t, u = Value.int i t from r); subst e; exact mixKind_int P w i t
  | inr x => obtain ⟨t, e⟩ := (show ∃ t, u = Value.str x t from r); subst e; exact mixKind_str P w x t
theorem kV_inj {a b : Key} (e : kV a = kV b) : a = b := by
  cases a with
  | inl i => cases b with
    | inl j => have e' : V.int i = V.int j := e; injection e' with e'; rw [e']
    | inr y => exact nomatch (show V.int i = V.str y from e)
  | inr x => cases b with
    | inl j => exact nomatch (show V.str x = V.int j from e)
    | inr y => have e' : V.str x = V.str y := e; injection e' with e'; rw [e']
theorem kVs_inj : ∀ {a b : List Key}, a.map kV = b.map kV → a = b
  | [], [], _ => rfl
  | [], _ :: _, e => by simp at e
  | _ :: _, [], e => by simp at e
  | x :: xs, y :: ys, e => by
    rw [List.map_cons, List.map_cons] at e
    injection e with e1 e2
    rw [kV_inj e1, kVs_inj e2]
theorem items_are {P : Program} {w : World} : ∀ {ks : List Key} {us : List Value}, Vals (ks.map kV) us → ItemsAre (mixKind P w) ks us
  | [], _, r => by rw [List.map_nil] at r; cases r; exact .nil
  | k :: ks, _, r => by
    rw [List.map_cons] at r
    cases r with
    | cons h t => exact .cons (kV_is h) (items_are t)

/-- raw entries of a dict with tuple keys -/
abbrev KT (H : Hp) : List (List Key × V) → List (List Key × Addr × Value) → Prop := Paired fun p q => p.1 = q.1 ∧ H q.2.1 = some (.tup (p.1.map kV)) ∧ RelV p.2 q.2.2
theorem KT.val {H : Hp} {kvs : List (List Key × V)} {xs : List (List Key × Addr × Value)} (r : KT H kvs xs) (k : List Key) : RelO (valV kvs k) ((atKey xs k).map (·.2)) := by
  induction r with
  | nil => exact True.intro
  | @cons p q ps qs h t ih =>
    obtain ⟨h1, _, h2⟩ := h
    by_cases e : p.1 = k
    · have e' : q.1 = k := h1.symm.trans e
      have b : atKey (q :: qs) k = some q.2 := by simp [atKey, List.find?_cons, e']
      rw [valV_pos e, b]; exact h2
    · have e' : ¬ q.1 = k := fun z => e (h1.trans z)
      have b : atKey (q :: qs) k = atKey qs k := by simp [atKey, List.find?_cons, e']
      rw [valV_neg e, b]; exact ih
theorem KT.repl {H : Hp} {kvs : List (List Key × V)} {xs : List (List Key × Addr × Value)} (r : KT H kvs xs) (k : List Key) {y : V} {u : Value} (ry : RelV y u) :
    KT H (kvs.map fun kv => if kv.1 = k then (kv.1, y) else kv) (xs.map (putAt k u)) := by
  induction r with
  | nil => exact .nil
  | @cons p q ps qs h t ih =>
    rw [List.map_cons, List.map_cons]
    refine .cons ?_ ih
    obtain ⟨h1, h2, h3⟩ := h
    unfold putAt
    by_cases e : p.1 = k
    · rw [if_pos e, if_pos (h1.symm.trans e)]; exact ⟨h1, h2, ry⟩
    · rw [if_neg e, if_neg (fun z => e (h1.trans z))]; exact ⟨h1, h2, h3⟩
theorem KT.put {H : Hp} {kvs : List (List Key × V)} {xs : List (List Key × Addr × Value)} (r : KT H kvs xs) (k : List Key) {b : Addr} {y : V} {u : Value} (hb : H b = some (.tup (k.map kV))) (ry : RelV y u) :
    KT H (putK kvs k y) (storedH xs k b u) := by
  have e : (kvs.any fun kv => decide (kv.1 = k)) = (atKey xs k).isSome := by
    rw [valV_any, (r.val k).isSome_eq, Option.isSome_map]
  unfold putK storedH
  rw [e]
  by_cases q : (atKey xs k).isSome = true
  · rw [if_pos q, if_pos q]; exact r.repl k ry
  · rw [if_neg q, if_neg q]; exact Paired.snoc r ⟨rfl, hb, ry⟩
theorem KT.keeps {H H' : Hp} {kvs : List (List Key × V)} {xs : List (List Key × Addr × Value)} (r : KT H kvs xs) (ht : ∀ b ys, H b = some (.tup ys) → H' b = some (.tup ys)) : KT H' kvs xs :=
  Paired.mapP r fun _ _ z => ⟨z.1, ht _ _ z.2.1, z.2.2⟩

section
variable {P : Program} {w : World} {H : Hp} {h : Heap} {a : Addr}
theorem rd_of {u : HO} (ok : HOk P w H h) (e : Rd H a u) : ObjOk P w H h a u := e.ok ok
theorem dk_rd {kvs : List (Key × V)} (ok : HOk P w H h) (e : Rd H a (.dK kvs)) : kvs.length ≤ sizeLine ∧ (a == sysModules) = false ∧ ∃ vs, KV kvs vs ∧ h.DictOf (mixKind P w) a vs :=
  show ObjOk P w H h a (.dK kvs) from rd_of ok e
theorem dk_of {kvs : List (Key × V)} (ok : HOk P w H h) (e : H a = some (.dK kvs)) : kvs.length ≤ sizeLine ∧ (a == sysModules) = false ∧ ∃ vs, KV kvs vs ∧ h.DictOf (mixKind P w) a vs := dk_rd ok (.inl e)
/-- a tracked tuple of ints and texts is a key -/
theorem key_of {ks : List Key} (ok : HOk P w H h) (e : H a = some (.tup (ks.map kV))) : (tupleKind (mixKind P w)).is h ks a := by
  obtain ⟨_, its, r, o, h1, h2, n, h3⟩ := (show ObjOk P w H h a (.tup (ks.map kV)) from ok a _ e)
  exact ⟨o, its.toArray, n, h1, h2, h3, by simpa using items_are r⟩
theorem dt_rd {kvs : List (List Key × V)} (ok : HOk P w H h) (e : Rd H a (.dT kvs)) : kvs.length ≤ sizeLine ∧ (a == sysModules) = false ∧
    ∃ xs, KT H kvs xs ∧ h.DictOfH (tupleKind (mixKind P w)) a xs := by
  obtain ⟨z, y, xs, r, o, es, ep, h1, h2, h3, h4, h5⟩ := (show ObjOk P w H h a (.dT kvs) from rd_of ok e)
  refine ⟨z, y, xs, r, o, es, ep, h1, h2, h3, h4, fun x hx => ?_, h5⟩
  have all : ∀ {l : List (List Key × V)} {m : List (List Key × Addr × Value)}, KT H l m → ∀ x ∈ m, (tupleKind (mixKind P w)).is h x.1 x.2.1 := by
    intro l m q
    induction q with
    | nil => intro x hx; exact nomatch hx
    | @cons p q ps qs hq t ih =>
      intro x hx
      rcases List.mem_cons.mp hx with e | hx
      · subst e
        exact key_of ok (by rw [← hq.1]; exact hq.2.1)
      · exact ih x hx
  exact all r x hx
theorem dt_of {kvs : List (List Key × V)} (ok : HOk P w H h) (e : H a = some (.dT kvs)) : kvs.length ≤ sizeLine ∧ (a == sysModules) = false ∧
    ∃ xs, KT H kvs xs ∧ h.DictOfH (tupleKind (mixKind P w)) a xs := dt_rd ok (.inl e)
end

/-- what the dict at a holds at the key y -/
def DGet (H : Hp) (a : Addr) (y : V) (r : Option V) : Prop :=
  (∃ kvs k, Rd H a (.dK kvs) ∧ y = kV k ∧ r = valV kvs k) ∨ ∃ kvs k b, Rd H a (.dT kvs) ∧ y = .ref b ∧ H b = some (.tup (k.map kV)) ∧ r = valV kvs k
/-- the heap behind a[y] = v -/
def DPut (H : Hp) (a : Addr) (y v : V) (H' : Hp) : Prop :=
  (∃ kvs k, H a = some (.dK kvs) ∧ y = kV k ∧ kvs.length < sizeLine ∧ H' = upd H a (.dK (putK kvs k v))) ∨
  ∃ kvs k b, H a = some (.dT kvs) ∧ y = .ref b ∧ H b = some (.tup (k.map kV)) ∧ kvs.length < sizeLine ∧ H' = upd H a (.dT (putK kvs k v))
theorem DGet.k {H : Hp} {a : Addr} {kvs : List (Key × V)} {k : Key} (e : H a = some (.dK kvs)) : DGet H a (kV k) (valV kvs k) := .inl ⟨kvs, k, .inl e, rfl, rfl⟩
theorem DGet.t {H : Hp} {a b : Addr} {kvs : List (List Key × V)} {k : List Key} (e : H a = some (.dT kvs)) (eb : H b = some (.tup (k.map kV))) : DGet H a (.ref b) (valV kvs k) := .inr ⟨kvs, k, b, .inl e, rfl, eb, rfl⟩
theorem DPut.k {H : Hp} {a : Addr} {kvs : List (Key × V)} {k : Key} {v : V} (e : H a = some (.dK kvs)) (hl : kvs.length < sizeLine) : DPut H a (kV k) v (upd H a (.dK (putK kvs k v))) := .inl ⟨kvs, k, e, rfl, hl, rfl⟩
theorem DPut.t {H : Hp} {a b : Addr} {kvs : List (List Key × V)} {k : List Key} {v : V} (e : H a = some (.dT kvs)) (eb : H b = some (.tup (k.map kV))) (hl : kvs.length < sizeLine) :
    DPut H a (.ref b) v (upd H a (.dT (putK kvs k v))) := .inr ⟨kvs, k, b, e, rfl, eb, hl, rfl⟩


section
variable {X : Cx} {pins : List (Addr × Obj)} {σ : St} {H : Hp} {s : Shared} {a : Addr} {y v : V} {u r : Value} {o : Option V} {A : Around} {E : Value → Shared → Prop}

theorem Inv.big (I : Inv X pins σ H s) : sysModules < s.heap.objs.size := by
  have h : mainGlobals < s.heap.objs.size := (I.mod.glob.keeps I.bk).lt
  exact Nat.lt_trans (by decide) h

/-- d[y], there -/
theorem d_getItem {Q : Value → Shared → Prop} (hu : A.units + 1 < cLine) (I : Inv X pins σ H s) (g : DGet H a y (some v)) (ry : RelV y u) (h : ∀ w' s', Inv X pins σ H s' → RelV v w' → Q w' s') :
    wpAny (model X.prog X.w) A (getItem (.ref a) u) Q E s := by
  rcases g with ⟨kvs, k, e, ey, l⟩ | ⟨kvs, k, b, e, ey, eb, l⟩
  · subst ey
    obtain ⟨z, hd, vs, rel, dd⟩ := dk_rd I.hok e
    obtain ⟨w', hw, rw'⟩ := RelO.some_of (v := v) (o := valueAt vs k) (by rw [l]; exact rel.val k)
    exact wpAny_getItem_of (kV_is ry) dd.mapOf hw (h w' _ (I.tok _) rw')
  · subst ey
    cases (show u = Value.ref b from ry)
    obtain ⟨z, hd, xs, rel, dd⟩ := dt_rd I.hok e
    obtain ⟨w', hw, rw'⟩ := RelO.some_of (v := v) (o := (atKey xs k).map (·.2)) (by rw [l]; exact rel.val k)
    obtain ⟨p, hp, hp2⟩ := Option.map_eq_some_iff.mp hw
    refine wpAny_getItem_heap (tupleKind_room_in1 hu) (key_of I.hok eb) dd hp ?_
    rw [hp2]
    exact h w' _ (I.tok _) rw'
/-- y in d -/
theorem d_in {Q : Value → Shared → Prop} (hu : A.units + 1 < cLine) (I : Inv X pins σ H s) (g : DGet H a y o) (ry : RelV y u) (h : ∀ s', Inv X pins σ H s' → Q (.bool o.isSome) s') :
    wpAny (model X.prog X.w) A (compareOp .In u (.ref a)) Q E s := by
  rcases g with ⟨kvs, k, e, ey, l⟩ | ⟨kvs, k, b, e, ey, eb, l⟩
  · subst ey
    obtain ⟨z, hd, vs, rel, dd⟩ := dk_rd I.hok e
    refine wpAny_in_of (kV_is ry) hd dd.mapOf ?_
    rw [← (rel.val k).isSome_eq, ← l]
    exact h _ (I.tok _)
  · subst ey
    cases (show u = Value.ref b from ry)
    obtain ⟨z, hd, xs, rel, dd⟩ := dt_rd I.hok e
    refine wpAny_in_heap (tupleKind_room_in1 hu) (key_of I.hok eb) hd dd ?_
    have q := (rel.val k).isSome_eq
    rw [Option.isSome_map] at q
    rw [← q, ← l]
    exact h _ (I.tok _)
theorem d_notIn {Q : Value → Shared → Prop} (hu : A.units + 1 < cLine) (I : Inv X pins σ H s) (g : DGet H a y o) (ry : RelV y u) (h : ∀ s', Inv X pins σ H s' → Q (.bool (!o.isSome)) s') :
    wpAny (model X.prog X.w) A (compareOp .NotIn u (.ref a)) Q E s := by
  rcases g with ⟨kvs, k, e, ey, l⟩ | ⟨kvs, k, b, e, ey, eb, l⟩
  · subst ey
    obtain ⟨z, hd, vs, rel, dd⟩ := dk_rd I.hok e
    refine wpAny_notIn_of (kV_is ry) hd dd.mapOf ?_
    rw [← (rel.val k).isSome_eq, ← l]
    exact h _ (I.tok _)
  · subst ey
    cases (show u = Value.ref b from ry)
    obtain ⟨z, hd, xs, rel, dd⟩ := dt_rd I.hok e
    refine wpAny_notIn_heap (tupleKind_room_in1 hu) (key_of I.hok eb) hd dd ?_
    have q := (rel.val k).isSome_eq
    rw [Option.isSome_map] at q
    rw [← q, ← l]
    exact h _ (I.tok _)
/-- a dict's object is replaced -/
theorem d_write {h' : Heap} {t' : Nat} {ob : HO} (I : Inv X pins σ H s) (mu : Mut (H a)) (hs : Heap.SameBut a s.heap h') (he : ∃ q, h'.get? a = some q) (new : ObjOk X.prog X.w (upd H a ob) h' a ob) :
    Inv X pins σ (upd H a ob) { s with heap := h', toks := t' } :=
  I.write (x := a) (e := a) mu (.inl rfl) (fun b q hb z => (hs.2 b hb).trans z) he new
theorem dk_new {P : Program} {w : World} {H' : Hp} {h' : Heap} {kvs : List (Key × V)} {vs : List (Key × Value)} (z : kvs.length ≤ sizeLine) (hd : (a == sysModules) = false) (rel : KV kvs vs) (dd : h'.DictOf (mixKind P w) a vs) :
    ObjOk P w H' h' a (.dK kvs) := ⟨z, hd, vs, rel, dd⟩
/-- d[y] = v -/
theorem d_setItem {H' : Hp} {Q : Unit → Shared → Prop} (hu : A.units + 1 < cLine) (I : Inv X pins σ H s) (g : DPut H a y v H') (ry : RelV y u) (rv : RelV v r) (h : ∀ s', Inv X pins σ H' s' → Q () s') :
    wpAny (model X.prog X.w) A (setItem (.ref a) u r) Q E s := by
  rcases g with ⟨kvs, k, e, ey, l, eH⟩ | ⟨kvs, k, b, e, ey, eb, l, eH⟩
  · subst ey eH
    obtain ⟨z, hd, vs, rel, dd⟩ := dk_of I.hok e
    have hz : vs.length ≤ sizeLine := by rw [← rel.length]; exact z
    have hl : (putK kvs k v).length ≤ sizeLine := by have := length_putK kvs k v; omega
    refine wpAny_setItem_pairs (hsz := hz) (kV_is ry) dd fun h' dd' hs => h _ ?_
    have he : ∃ q, h'.get? a = some q := let ⟨q, _, _, hq, _⟩ := dd'; ⟨q, hq⟩
    exact d_write I (by rw [e]; exact True.intro) hs he (dk_new hl hd (rel.put k rv) dd')
  · subst ey eH
    cases (show u = Value.ref b from ry)
    obtain ⟨z, hd, xs, rel, dd⟩ := dt_of I.hok e
    have hz : xs.length ≤ sizeLine := by rw [← Paired.length rel]; exact z
    have hl : (putK kvs k v).length ≤ sizeLine := by have := length_putK kvs k v; omega
    refine wpAny_setItem_heap (hsz := hz) (tupleKind_room_in1 hu) (key_of I.hok eb) dd fun h' dd' hs => h _ ?_
    obtain ⟨q, es, ep, hq, h2, h3, h4, _, h5⟩ := dd'
    refine d_write I (by rw [e]; exact True.intro) hs ⟨q, hq⟩ ⟨hl, hd, _, (rel.put k eb rv).keeps fun c ys ec => ?_, q, es, ep, hq, h2, h3, h4, h5⟩
    rw [upd_ne (ne_of ec e (fun z => nomatch z))]
    exact ec
end

section
variable {X : Cx} {pins : List (Addr × Obj)} {σ : St} {H : Hp} {s : Shared} {a : Addr} {kvs : List (Key × V)} {k : Key} {u : Value} {A : Around} {E : Value → Shared → Prop}
/-- del d[k] -/
theorem d_delItem {Q : Unit → Shared → Prop} (I : Inv X pins σ H s) (e : H a = some (.dK kvs)) (ry : RelV (kV k) u) (l : (valV kvs k).isSome = true) (h : ∀ s', Inv X pins σ (upd H a (.dK (dropK kvs k))) s' → Q () s') :
    wpAny (model X.prog X.w) A (delItem (.ref a) u) Q E s := by
  obtain ⟨z, hd, vs, rel, dd⟩ := dk_of I.hok e
  refine wpAny_delItem_slot dd.typeIs (by decide) PySem.F.slot_dict_delitem
    (call_meetsIn PySem.F.slot_dict_delitem dd.typeIs PySem.F.entry_dict_delitem (PySem.F.args_dict_delitem_2 _ _) (meets_dict_delitem_pairs (mixKind X.prog X.w) a (kV_is ry)) ⟨vs, dd, by rw [← rel.length]; exact z, by rw [← (rel.val k).isSome_eq]; exact l, fun h' dd' hs => h _ ?_⟩)
  have he : ∃ q, h'.get? a = some q := let ⟨q, _, _, hq, _⟩ := dd'; ⟨q, hq⟩
  exact d_write I (by rw [e]; exact True.intro) hs he (dk_new (Nat.le_trans (dropK_le kvs k) z) hd (rel.drop k) dd')
/-- d.pop(k[, x]), there -/
theorem d_pop {v : V} {more : List Value} {Q : Value → Shared → Prop} (I : Inv X pins σ H s) (e : H a = some (.dK kvs)) (ry : RelV (kV k) u) (l : valV kvs k = some v) (hm : more = [] ∨ ∃ x, more = [x])
    (h : ∀ w' s', Inv X pins σ (upd H a (.dK (dropK kvs k))) s' → RelV v w' → Q w' s') : wpAny (model X.prog X.w) A (call (.builtin "dict.pop") (.ref a :: u :: more)) Q E s := by
  obtain ⟨z, hd, vs, rel, dd⟩ := dk_of I.hok e
  obtain ⟨w', hw, rw'⟩ := RelO.some_of (v := v) (o := valueAt vs k) (by rw [← l]; exact rel.val k)
  have hp : (keyPart u).isSome = true := by
    cases k with
    | inl i => obtain ⟨t, q⟩ := (show ∃ t, u = Value.int i t from ry); subst q; rfl
    | inr x => obtain ⟨t, q⟩ := (show ∃ t, u = Value.str x t from ry); subst q; rfl
  have ha : argsOk "dict.pop" ⟨.ref a :: u :: more, []⟩ := by
    rcases hm with q | ⟨x, q⟩
    · subst q; exact PySem.F.args_dict_pop_2 _ _
    · subst q; exact PySem.F.args_dict_pop_3 _ _ _
  refine call_meetsIn PySem.F.slot_dict_pop dd.typeIs PySem.F.entry_dict_pop ha (meets_dict_pop_there (mixKind X.prog X.w) a (kV_is ry) more hm hp)
    ⟨vs, w', dd, by rw [← rel.length]; exact z, hw, fun h' dd' hs => h w' _ ?_ rw'⟩
  have he : ∃ q, h'.get? a = some q := let ⟨q, _, _, hq, _⟩ := dd'; ⟨q, hq⟩
  exact d_write I (by rw [e]; exact True.intro) hs he (dk_new (Nat.le_trans (dropK_le kvs k) z) hd (rel.drop k) dd')
/-- d.pop(k, x), not there -/
theorem d_popD {r : Value} {Q : Value → Shared → Prop} (I : Inv X pins σ H s) (e : H a = some (.dK kvs)) (ry : RelV (kV k) u) (l : valV kvs k = none) (h : ∀ s', Inv X pins σ H s' → Q r s') :
    wpAny (model X.prog X.w) A (call (.builtin "dict.pop") [.ref a, u, r]) Q E s := by
  obtain ⟨z, hd, vs, rel, dd⟩ := dk_of I.hok e
  have hn : valueAt vs k = none := RelO.none_of (by rw [← l]; exact rel.val k)
  have hp : (keyPart u).isSome = true := by
    cases k with
    | inl i => obtain ⟨t, q⟩ := (show ∃ t, u = Value.int i t from ry); subst q; rfl
    | inr x => obtain ⟨t, q⟩ := (show ∃ t, u = Value.str x t from ry); subst q; rfl
  exact call_meetsIn PySem.F.slot_dict_pop dd.typeIs PySem.F.entry_dict_pop (PySem.F.args_dict_pop_3 _ _ _) (meets_dict_pop_default (mixKind X.prog X.w) a (kV_is ry) hd hp r) ⟨vs, dd, hn, h _ (I.tok _)⟩
/-- d.clear() -/
theorem d_clear {Q : Value → Shared → Prop} (I : Inv X pins σ H s) (e : H a = some (.dK kvs)) (h : ∀ s', Inv X pins σ (upd H a (.dK [])) s' → Q .none s') : wpAny (model X.prog X.w) A (call (.builtin "dict.clear") [.ref a]) Q E s := by
  obtain ⟨z, hd, vs, rel, dd⟩ := dk_of I.hok e
  refine call_meetsIn PySem.F.slot_dict_clear dd.typeIs PySem.F.entry_dict_clear (PySem.F.args_dict_clear_1 _) (meets_dict_clear (mixKind X.prog X.w) a) ⟨vs, dd, by rw [← rel.length]; exact z, fun h' dd' hs => h _ ?_⟩
  have he : ∃ q, h'.get? a = some q := let ⟨q, _, _, hq, _⟩ := dd'; ⟨q, hq⟩
  exact d_write (t' := s.toks) I (by rw [e]; exact True.intro) hs he (dk_new (Nat.zero_le _) hd .nil dd')
/-- len(d) -/
theorem d_len {Q : Value → Shared → Prop} (I : Inv X pins σ H s) (e : Rd H a (.dK kvs)) (h : ∀ t s', Inv X pins σ H s' → Q (.int kvs.length t) s') : wpAny (model X.prog X.w) A (call (.builtin "len") [.ref a]) Q E s := by
  obtain ⟨z, hd, vs, rel, dd⟩ := dk_rd I.hok e
  refine call_len_dict hd dd (by rw [← rel.length]; rw [sizeLine_eq] at z; omega) ?_
  rw [← rel.length]
  exact h _ _ (I.tok _)
/-- if d -/
theorem d_truth {Q : Bool → Shared → Prop} (I : Inv X pins σ H s) (e : Rd H a (.dK kvs)) (h : ∀ s', Inv X pins σ H s' → Q (!kvs.isEmpty) s') : wpAny (model X.prog X.w) A (truthy (.ref a)) Q E s := by
  obtain ⟨z, hd, vs, rel, dd⟩ := dk_rd I.hok e
  refine wpAny_truthy_dict hd dd (by rw [← rel.length]; rw [sizeLine_eq] at z; omega) ?_
  have q : kvs.isEmpty = vs.isEmpty := by cases rel <;> rfl
  rw [← q]
  exact h _ (I.tok _)
end


/-! ### readings and rules -/
/-- the element of a subscription, not a slice -/
def NoSl (i : Expr) : Prop := ∀ ov iv, subscripted i false ov iv = operate [ov, iv] (getItem ov iv)
theorem subD_of {prog : Program} {w : World} {A : Around} {E : Value → Shared → Prop} {s : Shared} {env : Env} {value slice : Expr} {pos : Pos} {T id : String} {Q : Value → Shared → Prop}
    (hl : typeLookup (.type T) "__getitem__" = pure (some (.builtin id))) (hs : NoSl slice)
    (h : wpAny (model prog w) A (eval value env) (fun o s₁ => wpAny (model prog w) A (eval slice env) (fun i s₂ => s₂.TypeIs o T ∧ wpAny (model prog w) A (getItem o i) Q E s₂) E s₁) E s) :
    wpAny (model prog w) A (eval (.Subscript value slice pos) env) Q E s := by
  refine Subscript_ (wpAny_mono h (fun o s₁ h₁ => wpAny_mono h₁ (fun i s₂ h₂ => ?_) fun _ _ x => x) fun _ _ x => x)
  obtain ⟨hT, h₂⟩ := h₂
  unfold subscriptTail
  refine wpAny_bind ?_
  rw [getitemInPython_of_ne hT.not_modules]
  refine wpAny_bind (wpAny_specialOf hT hl ?_)
  have fin : wpAny (model prog w) A (subscripted slice false o i) (fun r s₃ => wpAny (model prog w) A (letTemporaryGo value o r >>= fun _ => pure r) Q E s₃) E s₂ := by
    rw [hs o i]
    exact wpAny_operating (wpAny_mono h₂ (fun r s₃ h₃ => wpAny_bind (wpAny_letTemporaryGo (wpAny_pure h₃))) fun _ _ x => x)
  first
    | exact wpAny_pure (wpAny_bind fin)
    | exact wpAny_bind (wpAny_pure (wpAny_bind fin))
    | exact wpAny_bind fin

theorem dict_typeIs {X : Cx} {pins : List (Addr × Obj)} {σ : St} {H : Hp} {s : Shared} {a : Addr} {y : V} {o : Option V} (I : Inv X pins σ H s) (g : DGet H a y o) : s.TypeIs (.ref a) "dict" := by
  rcases g with ⟨kvs, k, e, _, _⟩ | ⟨kvs, k, b, e, _, _, _⟩
  · obtain ⟨_, _, vs, _, dd⟩ := dk_rd I.hok e
    exact dd.typeIs
  · obtain ⟨_, _, xs, _, dd⟩ := dt_rd I.hok e
    exact dd.typeIs
theorem dict_noDict {X : Cx} {pins : List (Addr × Obj)} {σ : St} {H : Hp} {s : Shared} {a : Addr} {y : V} {o : Option V} (I : Inv X pins σ H s) (g : DGet H a y o) :
    ∀ b, Value.ref a = .ref b → ∃ ob, s.heap.get? b = some ob ∧ ob.dict = none := fun b q => by
  cases q
  rcases g with ⟨kvs, k, e, _, _⟩ | ⟨kvs, k, b, e, _, _, _⟩
  · obtain ⟨_, _, vs, _, ob, _, _, h1, h2, _⟩ := dk_rd I.hok e
    exact ⟨ob, h1, h2.2.1⟩
  · obtain ⟨_, _, xs, _, ob, _, _, h1, h2, _⟩ := dt_rd I.hok e
    exact ⟨ob, h1, h2.2.1⟩

/-- d[y] -/
def tDGet (td ty : TE) : TE := fun σ H Q => td σ H fun x H1 => ty σ H1 fun y H2 => ∃ a v, x = .ref a ∧ DGet H2 a y (some v) ∧ Q v H2
/-- y in d, y not in d -/
def tDIn (ty td : TE) : TE := fun σ H Q => ty σ H fun y H1 => td σ H1 fun x H2 => ∃ a o, x = .ref a ∧ DGet H2 a y o ∧ Q (.bl o.isSome) H2
def tDNotIn (ty td : TE) : TE := fun σ H Q => ty σ H fun y H1 => td σ H1 fun x H2 => ∃ a o, x = .ref a ∧ DGet H2 a y o ∧ Q (.bl (!o.isSome)) H2
/-- d[y] = v -/
def sDPut (td ty tv : TE) : TS := fun D σ H => tv σ H fun v H1 => td σ H1 fun x H2 => ty σ H2 fun y H3 => ∃ a H4, x = .ref a ∧ DPut H3 a y v H4 ∧ D.nx σ H4
/-- d[y] op= v -/
def sDAug (td ty tv : TE) (rd : V → V → Hp → VK → Prop) : TS := fun D σ H => td σ H fun x H1 => ty σ H1 fun y H2 => ∃ a v, x = .ref a ∧ DGet H2 a y (some v) ∧
  tv σ H2 fun y2 H3 => rd v y2 H3 fun z H4 => ∃ H5, DPut H4 a y z H5 ∧ D.nx σ H5
/-- del d[y] -/
def sDDel (td ty : TE) : TS := fun D σ H => td σ H fun x H1 => ty σ H1 fun y H2 => ∃ a kvs k, x = .ref a ∧ H2 a = some (.dK kvs) ∧ y = kV k ∧ (valV kvs k).isSome = true ∧ D.nx σ (upd H2 a (.dK (dropK kvs k)))

section
variable {X : Cx} {o i e value : Expr} {pos pos' tpos : Pos} {td ty tv : TE}
theorem pe_dget (hu : X.A.units + 1 < cLine) (ho : PE X o td) (hi : PE X i ty) (hs : NoSl i) : PE X (.Subscript o i pos) (tDGet td ty) := by
  intro pins s σ H Q I h
  refine subD_of PySem.F.slot_dict_getitem.lookup hs (thn (ho pins s σ H _ I h) fun u s1 ⟨x, H1, I1, rx, q1⟩ => thn (hi pins s1 σ H1 _ I1 q1) fun iv s2 ⟨y, H2, I2, ry, a, v, ex, g, q2⟩ => ?_)
  subst ex
  obtain rfl : u = Value.ref a := rx
  exact ⟨dict_typeIs I2 g, d_getItem hu I2 g ry fun w' s3 I3 rw' => ⟨v, H2, I3, rw', q2⟩⟩
theorem pc_din (hu : X.A.units + 1 < cLine) (hi : PE X i ty) (ho : PE X o td) : PC X .In i o (tDIn ty td) := by
  intro pins s σ H Q I h
  refine thn (hi pins s σ H _ I h) fun iv s1 ⟨y, H1, I1, ry, q1⟩ => thn (ho pins s1 σ H1 _ I1 q1) fun u s2 ⟨x, H2, I2, rx, a, ov, ex, g, q2⟩ => ?_
  subst ex
  obtain rfl : u = Value.ref a := rx
  exact d_in hu I2 g ry fun s3 I3 => ⟨.bl ov.isSome, H2, I3, rfl, q2⟩
theorem pc_dnotin (hu : X.A.units + 1 < cLine) (hi : PE X i ty) (ho : PE X o td) : PC X .NotIn i o (tDNotIn ty td) := by
  intro pins s σ H Q I h
  refine thn (hi pins s σ H _ I h) fun iv s1 ⟨y, H1, I1, ry, q1⟩ => thn (ho pins s1 σ H1 _ I1 q1) fun u s2 ⟨x, H2, I2, rx, a, ov, ex, g, q2⟩ => ?_
  subst ex
  obtain rfl : u = Value.ref a := rx
  exact d_notIn hu I2 g ry fun s3 I3 => ⟨.bl (!ov.isSome), H2, I3, rfl, q2⟩
theorem ps_dput (hu : X.A.units + 1 < cLine) (ho : PE X o td) (hi : PE X i ty) (hv : PE X value tv) (hs : swapsWith value (some (.Subscript o i pos')) pos.line X.env = pure false) :
    PS X (.Assign [.Subscript o i pos'] value pos) (sDPut td ty tv) := by
  intro pins s σ H D I h
  refine wpAny_Assign_Subscript (thn (hv pins s σ H _ I h) fun r s1 ⟨v, H1, I1, rv, q1⟩ => thn (ho pins s1 σ H1 _ I1 q1) fun u s2 ⟨x, H2, I2, rx, q2⟩ => thn (hi pins s2 σ H2 _ I2 q2) fun iv s3 ⟨y, H3, I3, ry, a, H4, ex, g, q3⟩ => ?_) hs
  subst ex
  obtain rfl : u = Value.ref a := rx
  exact d_setItem hu I3 g ry rv fun s4 I4 => ⟨σ, H4, I4, q3⟩
theorem ps_daug {op : Operator} {rd : V → V → Hp → VK → Prop} (hu : X.A.units + 1 < cLine) (ho : PE X o td) (hi : PE X i ty) (hv : PE X value tv) (hop : InOp X op rd)
    (ha : ∀ ov iv new, augStore i ov iv new = (do holding [new, ov, iv] (setItem ov iv new); release [new, ov, iv] []; pure .next)) : PS X (.AugAssign (.Subscript o i tpos) op value pos) (sDAug td ty tv rd) := by
  intro pins s σ H D I h
  refine wpAny_AugAssign_SubscriptAny (thn (ho pins s σ H _ I h) fun u s1 ⟨x, H1, I1, rx, q1⟩ => thn (hi pins s1 σ H1 _ I1 q1) fun iv s2 ⟨y, H2, I2, ry, a, v, ex, g, q2⟩ => ?_) ha
  subst ex
  obtain rfl : u = Value.ref a := rx
  refine d_getItem hu I2 g ry fun w' s3 I3 rw' => thn (hv pins s3 σ H2 _ I3 q2) fun w2 s4 ⟨y2, H3, I4, ry2, q3⟩ => thn (hop pins s4 σ H3 v y2 w' w2 _ I4 rw' ry2 q3) fun w3 s5 ⟨z, H4, I5, rz, H5, g5, q4⟩ => ?_
  exact d_setItem hu I5 g5 ry rz fun s6 I6 => ⟨σ, H5, I6, q4⟩
theorem ps_ddel (ho : PE X o td) (hi : PE X i ty) : PS X (.Delete [.Subscript o i tpos] pos) (sDDel td ty) := by
  intro pins s σ H D I h
  refine wpAny_Delete (wpAny_deleteEach_cons (wpAny_delete_Subscript (thn (ho pins s σ H _ I h) fun u s1 ⟨x, H1, I1, rx, q1⟩ => thn (hi pins s1 σ H1 _ I1 q1) fun iv s2 ⟨y, H2, I2, ry, a, kvs, k, ex, e, ey, l, q2⟩ => ?_)))
  subst ex ey
  obtain rfl : u = Value.ref a := rx
  exact d_delItem I2 e ry l fun s3 I3 => wpAny_deleteEach_nil ⟨σ, _, I3, q2⟩
end


/-! ### displays -/
theorem dk_empty {P : Program} {w : World} {H : Hp} (h : Heap) (hb : sysModules < h.objs.size) : ObjOk P w H (h.push { cls := .type "dict", data := .dict #[] }) h.objs.size (.dK []) :=
  ⟨Nat.zero_le _, beq_eq_false_iff_ne.mpr (Ne.symm (Nat.ne_of_lt hb)), [], .nil, Heap.DictOf.new h⟩
theorem dt_empty {P : Program} {w : World} {H : Hp} (h : Heap) (hb : sysModules < h.objs.size) : ObjOk P w H (h.push { cls := .type "dict", data := .dict #[] }) h.objs.size (.dT []) :=
  ⟨Nat.zero_le _, beq_eq_false_iff_ne.mpr (Ne.symm (Nat.ne_of_lt hb)), [], .nil, _, #[], 0, Heap.get?_push_size _ rfl, ⟨rfl, rfl, rfl⟩, rfl, rfl, List.nodup_nil⟩
/-- {}, to be a dict of the kind that is wanted -/
def tDNewK : TE := fun _ H Q => ∀ p, H p = none → Q (.ref p) (upd H p (.dK []))
def tDNewT : TE := fun _ H Q => ∀ p, H p = none → Q (.ref p) (upd H p (.dT []))
section
variable {X : Cx} {pos : Pos}
theorem pe_dnewK : PE X (.Dict [] [] pos) tDNewK := fun pins s σ H Q I h =>
  wpAny_Dict_empty ⟨.ref s.heap.objs.size, _, I.laid (a := s.heap.objs.size) (o := .dK []) (t' := s.toks) (fun _ _ q => Heap.get?_push_of_some _ q) (Nat.le_refl _) (dk_empty s.heap I.big), rfl, h _ (I.hok.fresh (Nat.le_refl _))⟩
theorem pe_dnewT : PE X (.Dict [] [] pos) tDNewT := fun pins s σ H Q I h =>
  wpAny_Dict_empty ⟨.ref s.heap.objs.size, _, I.laid (a := s.heap.objs.size) (o := .dT []) (t' := s.toks) (fun _ _ q => Heap.get?_push_of_some _ q) (Nat.le_refl _) (dt_empty s.heap I.big), rfl, h _ (I.hok.fresh (Nat.le_refl _))⟩
end

/-- the pairs of a display, from the left -/
def tPairs : List (TE × TE) → St → Hp → (List (V × V) → Hp → Prop) → Prop
  | [], _, H, Q => Q [] H
  | (tk, tv) :: r, σ, H, Q => tk σ H fun x H1 => tv σ H1 fun y H2 => tPairs r σ H2 fun ps H3 => Q ((x, y) :: ps) H3
abbrev VV : List (V × V) → List (Value × Value) → Prop := Paired fun p q => RelV p.1 q.1 ∧ RelV p.2 q.2
def PPs (X : Cx) (pos : Pos) (keys : List (Option Expr)) (values : List Expr) (trs : List (TE × TE)) : Prop :=
  ∀ (pins : List (Addr × Obj)) (s : Shared) (σ : St) (H : Hp) (Q : List (V × V) → Hp → Prop), Inv X pins σ H s → tPairs trs σ H Q →
    wpAny (model X.prog X.w) X.A (evalPairs (pairTrees keys values X.env pos)) (fun vs s' => ∃ ps H', Inv X pins σ H' s' ∧ VV ps vs ∧ Q ps H') X.xe s
theorem pps_nil {X : Cx} {pos : Pos} : PPs X pos [] [] [] := fun pins s σ H Q I h => pairTrees_nil_walk ⟨[], H, I, .nil, h⟩
theorem pps_cons {X : Cx} {pos : Pos} {k v : Expr} {ks : List (Option Expr)} {vs : List Expr} {tk tv : TE} {trs : List (TE × TE)} (hk : PE X k tk) (hv : PE X v tv) (hr : PPs X pos ks vs trs) :
    PPs X pos (some k :: ks) (v :: vs) ((tk, tv) :: trs) := fun pins s σ H Q I h =>
  pairTrees_cons_walk (thn (hk pins s σ H _ I h) fun u s1 ⟨x, H1, I1, rx, q1⟩ => thn (hv pins s1 σ H1 _ I1 q1) fun w2 s2 ⟨y, H2, I2, ry, q2⟩ =>
    thn (hr pins s2 σ H2 _ I2 q2) fun ws s3 ⟨ps, H3, I3, rel, q3⟩ => ⟨(x, y) :: ps, H3, I3, .cons ⟨rx, ry⟩ rel, q3⟩)

def mergeK (kvs more : List (Key × V)) : List (Key × V) := more.foldl (fun acc kv => putK acc kv.1 kv.2) kvs
theorem KV.merge : ∀ {more : List (Key × V)} {rs : List (Key × Value)} {kvs : List (Key × V)} {vs : List (Key × Value)}, KV more rs → KV kvs vs → KV (mergeK kvs more) (merged vs rs) := by
  intro more rs kvs vs r
  unfold KV at r
  induction r generalizing kvs vs with
  | nil => intro q; exact q
  | @cons p q ps qs h t ih =>
    intro r0
    have e : KV (putK kvs p.1 p.2) (stored vs q.1 q.2) := by
      have := r0.put p.1 h.2
      rw [← h.1]; exact this
    exact ih e
theorem length_mergeK : ∀ (more kvs : List (Key × V)), (mergeK kvs more).length ≤ kvs.length + more.length
  | [], kvs => by show kvs.length ≤ kvs.length + 0; omega
  | p :: r, kvs => by
    have h1 := length_mergeK r (putK kvs p.1 p.2)
    have h2 := length_putK kvs p.1 p.2
    show (mergeK (putK kvs p.1 p.2) r).length ≤ _
    rw [List.length_cons]; omega
theorem carries_of {P : Program} {w : World} : ∀ {kvs : List (Key × V)} {ws : List (Value × Value)}, VV (kvs.map fun kv => (kV kv.1, kv.2)) ws → ∃ rs, Carries (mixKind P w) ws rs ∧ KV kvs rs
  | [], _, r => by rw [List.map_nil] at r; cases r; exact ⟨[], True.intro, .nil⟩
  | p :: kvs, _, r => by
    rw [List.map_cons] at r
    cases r with
    | @cons a b as bs h t =>
      obtain ⟨rs, c, q⟩ := carries_of (P := P) (w := w) t
      obtain ⟨b1, b2⟩ := b
      exact ⟨(p.1, b2) :: rs, ⟨kV_is h.1, rfl, c⟩, .cons ⟨rfl, h.2⟩ q⟩
/-- {k: v, ..} with keys ints and texts; the new dict stands empty while the pairs are made -/
def tDisp (trs : List (TE × TE)) : TE := fun σ H Q => ∀ p, H p = none → tPairs trs σ (upd H p (.dK [])) fun ps H2 => H2 p = some (.dK []) ∧ ∃ kvs : List (Key × V), ps = kvs.map (fun kv => (kV kv.1, kv.2)) ∧ kvs.length ≤ 15 ∧ Q (.ref p) (upd H2 p (.dK (mergeK [] kvs)))
theorem pe_disp {X : Cx} {pos : Pos} {keys : List (Option Expr)} {values : List Expr} {trs : List (TE × TE)} (h : PPs X pos keys values trs) (hall : keys.all (·.isSome) = true) (hl : keys.length = values.length) (h0 : keys ≠ [])
    (h15 : keys.length ≤ 15) : PE X (.Dict keys values pos) (tDisp trs) := by
  intro pins s σ H Q I q
  have hn := I.hok.fresh (Nat.le_refl s.heap.objs.size)
  have I1 := I.laid (a := s.heap.objs.size) (o := .dK []) (h' := s.heap.push { cls := .type "dict", data := .dict #[] }) (t' := s.toks) (fun _ _ q => Heap.get?_push_of_some _ q) (Nat.le_refl _) (dk_empty s.heap I.big)
  refine wpAny_Dict_walk (knd := mixKind X.prog X.w) hall hl h0 h15 (thn (h pins _ σ _ _ I1 (q _ hn)) fun ws s2 ⟨ps, H2, I2, rel, e, kvs, ep, lk, q2⟩ => ?_)
  subst ep
  obtain ⟨rs, c, rk⟩ := carries_of (P := X.prog) (w := X.w) rel
  obtain ⟨z, hd, vs0, r0, dd⟩ := dk_of I2.hok e
  cases r0
  refine ⟨rs, c, dd, fun h' dd' hs => ⟨.ref s.heap.objs.size, _, ?_, rfl, q2⟩⟩
  have hz : (mergeK [] kvs).length ≤ sizeLine := by
    have h1 := length_mergeK kvs []
    rw [List.length_nil] at h1
    rw [sizeLine_eq]; omega
  have he : ∃ q, h'.get? s.heap.objs.size = some q := let ⟨q, _, _, hq, _⟩ := dd'; ⟨q, hq⟩
  exact d_write I2 (by rw [e]; exact True.intro) hs he (dk_new hz hd (rk.merge .nil) dd')


/-! ### methods -/
/-- a method call o.m(e) of a built-in, with one argument: what must be seen of the text -/
structure M1 (X : Cx) (o : Expr) (m : Str) (apos : Pos) (e : Expr) (cpos : Pos) : Prop where
  base : attributeBase o m X.env (eval o X.env) = eval o X.env
  few : ((backTo cpos (starEach [e] X.env)).all (fun x => !x.1) && (backToKw cpos (keywordEach [] X.env)).all (fun x => x.1.isSome)
    && decide (([e] : List Expr).length + ([] : List Keyword).length + (if ([] : List Keyword).isEmpty then 0 else 1) < 30)) = true
  line : (apos.endLine == cpos.line) = true
  trees : backTo cpos (starEach [e] X.env) = [(false, eval e X.env)]
structure M2 (X : Cx) (o : Expr) (m : Str) (apos : Pos) (e f : Expr) (cpos : Pos) : Prop where
  base : attributeBase o m X.env (eval o X.env) = eval o X.env
  few : ((backTo cpos (starEach [e, f] X.env)).all (fun x => !x.1) && (backToKw cpos (keywordEach [] X.env)).all (fun x => x.1.isSome)
    && decide (([e, f] : List Expr).length + ([] : List Keyword).length + (if ([] : List Keyword).isEmpty then 0 else 1) < 30)) = true
  line : (apos.endLine == cpos.line) = true
  trees : backTo cpos (starEach [e, f] X.env) = [(false, eval e X.env), (false, eval f X.env)]

/-- a is a dict, whatever its keys -/
def IsD (H : Hp) (a : Addr) : Prop := (∃ kvs, Rd H a (.dK kvs)) ∨ ∃ kvs, Rd H a (.dT kvs)
theorem isD_at {X : Cx} {pins : List (Addr × Obj)} {σ : St} {H : Hp} {s : Shared} {a : Addr} (I : Inv X pins σ H s) (d : IsD H a) :
    s.TypeIs (.ref a) "dict" ∧ (∀ b, Value.ref a = .ref b → ∃ ob, s.heap.get? b = some ob ∧ ob.dict = none) ∧ (a == sysModules) = false := by
  rcases d with ⟨kvs, e⟩ | ⟨kvs, e⟩
  · obtain ⟨_, hd, vs, _, dd⟩ := dk_rd I.hok e
    refine ⟨dd.typeIs, fun b q => ?_, hd⟩
    cases q
    obtain ⟨ob, _, _, h1, h2, _⟩ := dd
    exact ⟨ob, h1, h2.2.1⟩
  · obtain ⟨_, hd, xs, _, dd⟩ := dt_rd I.hok e
    refine ⟨dd.typeIs, fun b q => ?_, hd⟩
    cases q
    obtain ⟨ob, _, _, h1, h2, _⟩ := dd
    exact ⟨ob, h1, h2.2.1⟩

section
variable {X : Cx} {pins : List (Addr × Obj)} {σ : St} {H : Hp} {s : Shared} {a : Addr} {y d : V} {u r : Value} {o : Option V} {A : Around} {E : Value → Shared → Prop}
/-- d.get(y) -/
theorem d_get1 {Q : Value → Shared → Prop} (hu : A.units + 1 < cLine) (I : Inv X pins σ H s) (g : DGet H a y o) (ry : RelV y u) (h : ∀ w' s', Inv X pins σ H s' → RelV (o.getD .non) w' → Q w' s') :
    wpAny (model X.prog X.w) A (call (.builtin "dict.get") [.ref a, u]) Q E s := by
  rcases g with ⟨kvs, k, e, ey, l⟩ | ⟨kvs, k, b, e, ey, eb, l⟩
  · subst ey
    obtain ⟨z, hd, vs, rel, dd⟩ := dk_rd I.hok e
    refine call_meetsIn PySem.F.slot_dict_get dd.typeIs PySem.F.entry_dict_get (PySem.F.args_dict_get_2 _ _) (meets_dict_get (mixKind X.prog X.w) a (kV_is ry) hd) ⟨_, dd.mapOf, h _ _ (I.tok _) ?_⟩
    rw [l]
    exact (rel.val k).getD rfl
  · subst ey
    cases (show u = Value.ref b from ry)
    obtain ⟨z, hd, xs, rel, dd⟩ := dt_rd I.hok e
    refine call_meetsIn PySem.F.slot_dict_get dd.typeIs PySem.F.entry_dict_get (PySem.F.args_dict_get_2 _ _) (meetsH_dict_get (tupleKind (mixKind X.prog X.w)) a b hd) ⟨tupleKind_room_in1 hu, k, xs, key_of I.hok eb, dd, h _ _ (I.tok _) ?_⟩
    rw [l]
    exact (rel.val k).getD rfl
/-- d.get(y, x) -/
theorem d_get2 {Q : Value → Shared → Prop} (hu : A.units + 1 < cLine) (I : Inv X pins σ H s) (g : DGet H a y o) (ry : RelV y u) (rd : RelV d r) (h : ∀ w' s', Inv X pins σ H s' → RelV (o.getD d) w' → Q w' s') :
    wpAny (model X.prog X.w) A (call (.builtin "dict.get") [.ref a, u, r]) Q E s := by
  rcases g with ⟨kvs, k, e, ey, l⟩ | ⟨kvs, k, b, e, ey, eb, l⟩
  · subst ey
    obtain ⟨z, hd, vs, rel, dd⟩ := dk_rd I.hok e
    refine call_meetsIn PySem.F.slot_dict_get dd.typeIs PySem.F.entry_dict_get (PySem.F.args_dict_get_3 _ _ _) (meets_dict_get_default (mixKind X.prog X.w) a (kV_is ry) hd r) ⟨_, dd.mapOf, h _ _ (I.tok _) ?_⟩
    rw [l]
    exact (rel.val k).getD rd
  · subst ey
    cases (show u = Value.ref b from ry)
    obtain ⟨z, hd, xs, rel, dd⟩ := dt_rd I.hok e
    refine call_meetsIn PySem.F.slot_dict_get dd.typeIs PySem.F.entry_dict_get (PySem.F.args_dict_get_3 _ _ _) (meetsH_dict_get_default (tupleKind (mixKind X.prog X.w)) a b hd r) ⟨tupleKind_room_in1 hu, k, xs, key_of I.hok eb, dd, h _ _ (I.tok _) ?_⟩
    rw [l]
    exact (rel.val k).getD rd
end

def tDGet1 (td ty : TE) : TE := fun σ H Q => td σ H fun x H1 => ∃ a, x = .ref a ∧ IsD H1 a ∧ ty σ H1 fun y H2 => ∃ o, DGet H2 a y o ∧ Q (o.getD .non) H2
def tDGet2 (td ty tx : TE) : TE := fun σ H Q => td σ H fun x H1 => ∃ a, x = .ref a ∧ IsD H1 a ∧ ty σ H1 fun y H2 => tx σ H2 fun z H3 => ∃ o, DGet H3 a y o ∧ Q (o.getD z) H3
/-- d.pop(k): there; d.pop(k, x): there or not -/
def tDPop1 (td ty : TE) : TE := fun σ H Q => td σ H fun x H1 => ∃ a, x = .ref a ∧ IsD H1 a ∧ ty σ H1 fun y H2 => ∃ kvs k v, H2 a = some (.dK kvs) ∧ y = kV k ∧ valV kvs k = some v ∧ Q v (upd H2 a (.dK (dropK kvs k)))
def tDPop2 (td ty tx : TE) : TE := fun σ H Q => td σ H fun x H1 => ∃ a, x = .ref a ∧ IsD H1 a ∧ ty σ H1 fun y H2 => tx σ H2 fun z H3 => ∃ kvs k, H3 a = some (.dK kvs) ∧ y = kV k ∧
  (∀ v, valV kvs k = some v → Q v (upd H3 a (.dK (dropK kvs k)))) ∧ (valV kvs k = none → Q z H3)
section
variable {X : Cx} {o e f : Expr} {apos cpos : Pos} {td ty tx : TE}
theorem pe_dget1 (hu : X.A.units + 1 < cLine) (ho : PE X o td) (he : PE X e ty) (m : M1 X o "get" apos e cpos) : PE X (.Call (.Attribute o "get" apos) [e] [] cpos) (tDGet1 td ty) := by
  intro pins s σ H Q I h
  refine wpAny_Call_method m.base m.few m.line PySem.F.plainAttrs_dict PySem.F.slot_dict_get PySem.F.type_dict_get (thn (ho pins s σ H _ I h) fun u s1 ⟨x, H1, I1, rx, a, ex, d, q1⟩ => ?_)
  subst ex
  obtain rfl : u = Value.ref a := rx
  obtain ⟨t1, t2, _⟩ := isD_at I1 d
  refine ⟨t1, t2, ?_⟩
  rw [m.trees]
  refine Calls.callWith_builtin rfl (Calls.evalArgs_plain (Calls.spliced_cons (thn (he pins s1 σ H1 _ I1 q1) fun iv s2 ⟨y, H2, I2, ry, ov, g, q2⟩ => Calls.spliced_nil ?_)))
  exact d_get1 hu I2 g ry fun w' s3 I3 rw' => ⟨_, H2, I3, rw', q2⟩
theorem pe_dget2 (hu : X.A.units + 1 < cLine) (ho : PE X o td) (he : PE X e ty) (hf : PE X f tx) (m : M2 X o "get" apos e f cpos) : PE X (.Call (.Attribute o "get" apos) [e, f] [] cpos) (tDGet2 td ty tx) := by
  intro pins s σ H Q I h
  refine wpAny_Call_method m.base m.few m.line PySem.F.plainAttrs_dict PySem.F.slot_dict_get PySem.F.type_dict_get (thn (ho pins s σ H _ I h) fun u s1 ⟨x, H1, I1, rx, a, ex, d, q1⟩ => ?_)
  subst ex
  obtain rfl : u = Value.ref a := rx
  obtain ⟨t1, t2, _⟩ := isD_at I1 d
  refine ⟨t1, t2, ?_⟩
  rw [m.trees]
  refine Calls.callWith_builtin rfl (Calls.evalArgs_plain (Calls.spliced_cons (thn (he pins s1 σ H1 _ I1 q1) fun iv s2 ⟨y, H2, I2, ry, q2⟩ =>
    Calls.spliced_cons (thn (hf pins s2 σ H2 _ I2 q2) fun fv s3 ⟨z, H3, I3, rz, ov, g, q3⟩ => Calls.spliced_nil ?_))))
  exact d_get2 hu I3 g ry rz fun w' s4 I4 rw' => ⟨_, H3, I4, rw', q3⟩
theorem pe_dpop1 (ho : PE X o td) (he : PE X e ty) (m : M1 X o "pop" apos e cpos) : PE X (.Call (.Attribute o "pop" apos) [e] [] cpos) (tDPop1 td ty) := by
  intro pins s σ H Q I h
  refine wpAny_Call_method m.base m.few m.line PySem.F.plainAttrs_dict PySem.F.slot_dict_pop PySem.F.type_dict_pop (thn (ho pins s σ H _ I h) fun u s1 ⟨x, H1, I1, rx, a, ex, d, q1⟩ => ?_)
  subst ex
  obtain rfl : u = Value.ref a := rx
  obtain ⟨t1, t2, _⟩ := isD_at I1 d
  refine ⟨t1, t2, ?_⟩
  rw [m.trees]
  refine Calls.callWith_builtin rfl (Calls.evalArgs_plain (Calls.spliced_cons (thn (he pins s1 σ H1 _ I1 q1) fun iv s2 ⟨y, H2, I2, ry, kvs, k, v, ea, ey, l, q2⟩ => Calls.spliced_nil ?_)))
  subst ey
  exact d_pop I2 ea ry l (.inl rfl) fun w' s3 I3 rw' => ⟨v, _, I3, rw', q2⟩
theorem pe_dpop2 (ho : PE X o td) (he : PE X e ty) (hf : PE X f tx) (m : M2 X o "pop" apos e f cpos) : PE X (.Call (.Attribute o "pop" apos) [e, f] [] cpos) (tDPop2 td ty tx) := by
  intro pins s σ H Q I h
  refine wpAny_Call_method m.base m.few m.line PySem.F.plainAttrs_dict PySem.F.slot_dict_pop PySem.F.type_dict_pop (thn (ho pins s σ H _ I h) fun u s1 ⟨x, H1, I1, rx, a, ex, d, q1⟩ => ?_)
  subst ex
  obtain rfl : u = Value.ref a := rx
  obtain ⟨t1, t2, _⟩ := isD_at I1 d
  refine ⟨t1, t2, ?_⟩
  rw [m.trees]
  refine Calls.callWith_builtin rfl (Calls.evalArgs_plain (Calls.spliced_cons (thn (he pins s1 σ H1 _ I1 q1) fun iv s2 ⟨y, H2, I2, ry, q2⟩ =>
    Calls.spliced_cons (thn (hf pins s2 σ H2 _ I2 q2) fun fv s3 ⟨z, H3, I3, rz, kvs, k, ea, ey, q3, q4⟩ => Calls.spliced_nil ?_))))
  subst ey
  cases l : valV kvs k with
  | some v => exact d_pop I3 ea ry l (.inr ⟨fv, rfl⟩) fun w' s4 I4 rw' => ⟨v, _, I4, rw', q3 v l⟩
  | none => exact d_popD I3 ea ry l fun s4 I4 => ⟨z, H3, I4, rz, q4 l⟩
end

/-! ### dict(d): a copy -/
section
variable {X : Cx} {pins : List (Addr × Obj)} {σ : St} {H : Hp} {s : Shared} {a : Addr} {kvs : List (Key × V)} {A : Around} {E : Value → Shared → Prop}
theorem d_copyOf {Q : Value → Shared → Prop} (I : Inv X pins σ H s) (e : Rd H a (.dK kvs)) (h : ∀ p s', H p = none → Inv X pins σ (upd H p (.dK kvs)) s' → Q (.ref p) s') : wpAny (model X.prog X.w) A (call (.type "dict") [.ref a]) Q E s := by
  obtain ⟨z, hd, vs, rel, dd⟩ := dk_rd I.hok e
  refine kt_call_dict hd dd (by rw [← rel.length]; exact z) fun h' dd' hs => ?_
  refine h _ _ (I.hok.fresh (Nat.le_refl _)) (I.laid (a := s.heap.objs.size) (o := .dK kvs) (t' := s.toks) (fun b q hq => ?_) (Nat.le_refl _) (dk_new z (beq_eq_false_iff_ne.mpr (Ne.symm (Nat.ne_of_lt I.big))) rel dd'))
  exact (hs.2 b (Nat.ne_of_lt (Heap.lt_size hq))).trans (Heap.get?_push_of_some _ hq)
end


section
variable {X : Cx} {pins : List (Addr × Obj)} {σ : St} {H : Hp} {s : Shared} {a : Addr} {y : V} {u : Value} {A : Around} {E : Value → Shared → Prop}
/-- d[y], not there: a KeyError -/
theorem d_missing {Q : Value → Shared → Prop} (hu : A.units + 1 < cLine) (hh : A.handled = none) (I : Inv X pins σ H s) (g : DGet H a y none) (ry : RelV y u)
    (h : ∀ h' e t', Heap.NewExc s.heap h' e "KeyError" → E (.ref e) { s with heap := h', toks := t' }) : wpAny (model X.prog X.w) A (getItem (.ref a) u) Q E s := by
  rcases g with ⟨kvs, k, e, ey, l⟩ | ⟨kvs, k, b, e, ey, eb, l⟩
  · subst ey
    obtain ⟨z, hd, vs, rel, dd⟩ := dk_rd I.hok e
    have hn : valueAt vs k = none := RelO.none_of (by rw [l]; exact rel.val k)
    exact wpAny_getItem_missing_of (kV_is ry) hd hh dd.mapOf hn fun h' ex ne => h h' ex _ ne
  · subst ey
    cases (show u = Value.ref b from ry)
    obtain ⟨z, hd, xs, rel, dd⟩ := dt_rd I.hok e
    have hn : (atKey xs k).map (·.2) = none := RelO.none_of (by rw [l]; exact rel.val k)
    exact wpAny_getItem_missing_heap (tupleKind_room_in1 hu) (key_of I.hok eb) hd hh dd (Option.map_eq_none_iff.mp hn) fun h' ex ne => h h' ex _ ne
end
end L2

namespace Att
open PySem PySem.W PySem.Calls PyProof.Rows

/-! ### the script -/
theorem ints_of_wellAll {P : Params} {h : Heap} : ∀ (ns : List Int) (vs : List Value), WellAll P h vs (ns.map WData.int) → IntsAre vs ns := by
  intro ns
  induction ns with
  | nil =>
    intro vs w
    rw [List.map_nil] at w
    cases w
    exact .nil
  | cons n ns ih =>
    intro vs w
    rw [List.map_cons] at w
    cases w with
    | cons a b =>
      cases a
      exact .cons _ _ (ih _ b)

theorem script_of {l : OpenLaw} {n : Nat} (hn : l.most = some n) {P : Params} {h : Heap} {args : List WData} {vals : List Value}
    (hpre : l.row.toRowW.claim.pre args = true) (hwl : WellAll P h vals args) :
    ∃ a vs ns, vals = [Value.ref a] ∧ args = [WData.list (ns.map WData.int)] ∧ h.get? a = some { cls := .type "list", data := .seq vs.toArray } ∧ IntsAre vs ns ∧ ns.length ≤ n := by
  have hsh : WShape.hasAll [] args [.list .int] = true := (pre_splitW hpre).1
  have hc : l.pre.holds [] { args := args } = true := (pre_splitW hpre).2
  obtain ⟨d, r, rfl, h1, h2⟩ := hasAllW_cons hsh
  obtain rfl := hasAllW_nil h2
  obtain ⟨xs, rfl, h3⟩ := hasW_list h1
  obtain ⟨ns, rfl⟩ := items_int h3
  have hlen : ns.length ≤ n := by
    unfold OpenLaw.pre at hc
    have h4 : (WTm.not (.lt (.lit (.int (n : Int))) (.len (.arg 0)))).holds [] { args := [.list (ns.map .int)] } = true := by
      have h4 := (holds_andW hc).1
      rw [hn] at h4
      exact h4
    have h5 := condW_of h4 (w_not (w_lt w_lit (w_len_list (w_arg rfl))))
    rw [List.length_map] at h5
    refine Nat.le_of_not_lt fun q => ?_
    have q' : (n : Int) < ((ns.length : Nat) : Int) := by omega
    first
      | (rw [decide_eq_true q'] at h5; exact absurd h5 (by decide))
      | (simp at h5; omega)
  cases hwl with
  | cons w1 w2 =>
    cases w2
    cases w1 with
    | list ho hall => exact ⟨_, _, ns, rfl, rfl, ho, ints_of_wellAll ns _ hall, hlen⟩

theorem post_true (l : OpenLaw) (args : List WData) : l.row.toRowW.claim.post args (.bool true) args = true :=
  postW_of (r := l.row.toRowW) (X := (true == true))
    (show WShape.has [] (.bool true) .bool = true by first | rfl | decide | simp [WShape.has, WShape.arms, WShape.armsAll])
    (show (WTm.eq .res (.lit (.bool true))).value [] { args := args, res := some (.bool true), after := args } = some (.bool (true == true)) from w_eq_bool (w_res rfl) w_lit) rfl

/-! ### the attachment: holds_open's last premise (the goal 'hc' behind k_head) from a wpAny of the law's body -/
theorem attach {l : OpenLaw} {n : Nat} {q : Program} {loose : List Str} {XP : (Str → Option Value) → Heap → Prop} {YP : World → Heap → Prop} {d : DefRec} {x : Str}
    (hn : l.most = some n) (hdf : d.params.defaults = [])
    (hbind : ∀ pm cd doc v : Value, bindArgs (docDef d.name d.params d.body d.scope pm cd doc) ⟨[v], []⟩ = pure [(x, v)])
    (hx : d.scope.names.lookup x = some .local ∨ d.scope.names.lookup x = some .cell)
    (hk : d.scope.kind = .function) (hco : d.scope.isCoroutine = false) (hgen : d.scope.isGenerator = false)
    (body : ∀ (w : World) (s₀ s₁ s : Shared) (mg mb : Str → Option Value) (fa : Addr) (o : Obj) (pm cd doc : Value) (a : Addr) (vs : List Value) (ns : List Int),
      Ground q loose [] XP w s₀ mg mb s₁.heap → YP w s₁.heap →
      s₁.heap.get? fa = some o → o.data = .func (docDef d.name d.params d.body d.scope pm cd doc) → s₁.heap.CodeRec cd d.name → mg d.name = some (.ref fa) →
      s₁.heap.get? a = some { cls := .type "list", data := .seq vs.toArray } → IntsAre vs ns → ns.length ≤ n →
      s.gens = #[] → s.os = s₁.os →
      Fr s₁.heap s₁.heap.objs.size s.heap (bindL (envOfC d.name d.scope s₁.heap.objs.size fa cd).kindOf [(x, .ref a)] fun _ => none) →
      Cl s₁.heap.objs.size (cellsFrom (s₁.heap.objs.size + 1) d.scope.names []) s.heap (bindC (envOfC d.name d.scope s₁.heap.objs.size fa cd).kindOf [(x, .ref a)] fun _ => none) →
      wpAny (model l.prog w) (callerA.deeper (envOfC d.name d.scope s₁.heap.objs.size fa cd)) (execs d.body (envOfC d.name d.scope s₁.heap.objs.size fa cd))
        (fun f s' => f = .ret (.bool true) ∧ OldK s₁.heap s'.heap ∧ s'.os = s₁.os ∧ AllBare s'.gens) (fun _ _ => False) s) :
    WalkO q loose XP YP l.row.toRowW d [] (fun f vs => PySem.call f vs) := by
  intro w s₀ s₁ mg mb G Y fa o pm cd doc dV kV ho hd hcd hD hmg hg args vals as hpre hlay hrd hwl hlo
  obtain rfl : dV = .none := Dflts.none hD hdf
  obtain rfl : kV = .none := Dflts.noKw hD
  obtain ⟨a, vs, ns, rfl, rfl, hobj, hints, hlen⟩ := script_of hn hpre hwl
  refine enter_call ?_
  refine call_cells_ret (o := o) (by rw [depth_caller]; decide) ho (fd_plain hd) G.T.nolimit hcd (hbind pm cd doc (.ref a)) (fun y hy => ?_) (fun h₁ tk F X => ?_) hco hgen hk
  · obtain rfl : y = (x, Value.ref a) := List.mem_singleton.mp hy
    rcases hx with e | e
    · exact .inl e
    · exact .inr ⟨e, cellsFrom_some _ _ _ (.inl e)⟩
  · refine wpAny_mono (body w s₀ s₁ { s₁ with heap := h₁, toks := tk } mg mb fa o pm cd doc a vs ns G Y ho (fd_plain hd) hcd hmg hobj hints hlen hg rfl F X) (fun f s' hq => ?_) (fun _ _ hq => hq)
    obtain ⟨rfl, h2, h3, h4⟩ := hq
    exact ⟨.inl ⟨.bool true, .bool true, [], rfl, fun _ => rfl, .bool true, post_true l _, fun _ => ⟨List.Pairwise.nil, fun _ hm => (nomatch hm)⟩⟩, h2, h3, h4⟩

/-- the same from a codeAny of the CALL (for a layer whose function contracts speak of calls) -/
theorem attach_call {l : OpenLaw} {n : Nat} {q : Program} {loose : List Str} {XP : (Str → Option Value) → Heap → Prop} {YP : World → Heap → Prop} {d : DefRec}
    (hn : l.most = some n) (hdf : d.params.defaults = [])
    (call : ∀ (w : World) (s₀ s₁ : Shared) (mg mb : Str → Option Value) (fa : Addr) (o : Obj) (pm cd doc : Value) (a : Addr) (vs : List Value) (ns : List Int),
      Ground q loose [] XP w s₀ mg mb s₁.heap → YP w s₁.heap →
      s₁.heap.get? fa = some o → o.data = .func (docDef d.name d.params d.body d.scope pm cd doc) → s₁.heap.CodeRec cd d.name → mg d.name = some (.ref fa) →
      s₁.heap.get? a = some { cls := .type "list", data := .seq vs.toArray } → IntsAre vs ns → ns.length ≤ n → s₁.gens = #[] →
      codeAny (model l.prog w) callerA (.call (.ref fa) ⟨[.ref a], []⟩) (fun r s' => r = .ok (.ret (.bool true)) ∧ OldK s₁.heap s'.heap ∧ s'.os = s₁.os ∧ AllBare s'.gens) s₁) :
    WalkO q loose XP YP l.row.toRowW d [] (fun f vs => PySem.call f vs) := by
  intro w s₀ s₁ mg mb G Y fa o pm cd doc dV kV ho hd hcd hD hmg hg args vals as hpre hlay hrd hwl hlo
  obtain rfl : dV = .none := Dflts.none hD hdf
  obtain rfl : kV = .none := Dflts.noKw hD
  obtain ⟨a, vs, ns, rfl, rfl, hobj, hints, hlen⟩ := script_of hn hpre hwl
  refine enter_call (codeAny_mono (call w s₀ s₁ mg mb fa o pm cd doc a vs ns G Y ho (fd_plain hd) hcd hmg hobj hints hlen hg) fun r s' hq => ?_)
  obtain ⟨rfl, h2, h3, h4⟩ := hq
  exact ⟨.inl ⟨.bool true, .bool true, [], rfl, fun _ => rfl, .bool true, post_true l _, fun _ => ⟨List.Pairwise.nil, fun _ hm => (nomatch hm)⟩⟩, h2, h3, h4⟩

/-- the same where the top left finished generators (o_head chose holds_openN): nothing may have changed at all and no generator may be left -/
theorem attachN {l : OpenLaw} {n : Nat} {q : Program} {loose : List Str} {XP : (Str → Option Value) → Heap → Prop} {YP : World → Heap → Prop} {d : DefRec} {x : Str}
    (hn : l.most = some n) (hdf : d.params.defaults = [])
    (hbind : ∀ pm cd doc v : Value, bindArgs (docDef d.name d.params d.body d.scope pm cd doc) ⟨[v], []⟩ = pure [(x, v)])
    (hx : d.scope.names.lookup x = some .local ∨ d.scope.names.lookup x = some .cell)
    (hk : d.scope.kind = .function) (hco : d.scope.isCoroutine = false) (hgen : d.scope.isGenerator = false)
    (body : ∀ (w : World) (s₀ s₁ s : Shared) (mg mb : Str → Option Value) (fa : Addr) (o : Obj) (pm cd doc : Value) (a : Addr) (vs : List Value) (ns : List Int),
      Ground q loose [] XP w s₀ mg mb s₁.heap → YP w s₁.heap →
      s₁.heap.get? fa = some o → o.data = .func (docDef d.name d.params d.body d.scope pm cd doc) → s₁.heap.CodeRec cd d.name → mg d.name = some (.ref fa) →
      s₁.heap.get? a = some { cls := .type "list", data := .seq vs.toArray } → IntsAre vs ns → ns.length ≤ n →
      s.gens = #[] → s.os = s₁.os →
      Fr s₁.heap s₁.heap.objs.size s.heap (bindL (envOfC d.name d.scope s₁.heap.objs.size fa cd).kindOf [(x, .ref a)] fun _ => none) →
      Cl s₁.heap.objs.size (cellsFrom (s₁.heap.objs.size + 1) d.scope.names []) s.heap (bindC (envOfC d.name d.scope s₁.heap.objs.size fa cd).kindOf [(x, .ref a)] fun _ => none) →
      wpAny (model l.prog w) (callerA.deeper (envOfC d.name d.scope s₁.heap.objs.size fa cd)) (execs d.body (envOfC d.name d.scope s₁.heap.objs.size fa cd))
        (fun f s' => f = .ret (.bool true) ∧ (∀ b o, s₁.heap.get? b = some o → s'.heap.get? b = some o) ∧ s'.os = s₁.os ∧ s'.gens = #[]) (fun _ _ => False) s) :
    WalkN q loose XP YP l.row.toRowW d [] (fun f vs => PySem.call f vs) := by
  intro w s₀ s₁ mg mb G Y fa o pm cd doc dV kV ho hd hcd hD hmg hg args vals as hpre hlay hrd hwl hlo
  obtain rfl : dV = .none := Dflts.none hD hdf
  obtain rfl : kV = .none := Dflts.noKw hD
  obtain ⟨a, vs, ns, rfl, rfl, hobj, hints, hlen⟩ := script_of hn hpre hwl
  refine enter_callW ?_
  refine call_cells_ret (o := o) (by rw [depth_caller]; decide) ho (fd_plain hd) G.T.nolimit hcd (hbind pm cd doc (.ref a)) (fun y hy => ?_) (fun h₁ tk F X => ?_) hco hgen hk
  · obtain rfl : y = (x, Value.ref a) := List.mem_singleton.mp hy
    rcases hx with e | e
    · exact .inl e
    · exact .inr ⟨e, cellsFrom_some _ _ _ (.inl e)⟩
  · refine wpAny_mono (body w s₀ s₁ { s₁ with heap := h₁, toks := tk } mg mb fa o pm cd doc a vs ns G Y ho (fd_plain hd) hcd hmg hobj hints hlen hg rfl F X) (fun f s' hq => ?_) (fun _ _ hq => hq)
    obtain ⟨rfl, h2, h3, h4⟩ := hq
    exact ⟨.inl ⟨.bool true, .bool true, [], rfl, fun _ => rfl, .bool true, post_true l _, fun _ => ⟨List.Pairwise.nil, fun _ hm => (nomatch hm)⟩⟩, h2, h3, h4⟩

/-! ### rules over ANY heap (no ledger) from facts about the written part K: the library's own take a ledger (News) for what they write -/
section
variable {prog : Program} {w : World} {A : Around} {E : Value → Shared → Prop} {s : Shared} {K : Frag}

/-- a def of the module, or a method (qual 'C.m'), entered: the frame is the next address; cells behind it -/
theorem call_fn {R : Result → Shared → Prop} {name qual : Str} {params : Arguments} {body : List Stmt} {scope : Scope} {dV kV doc pm cdv ct oc : Value} {an od : Option Addr} {osl : Array (Option Value)} {f : Addr} {args : Args} {binds : List (Str × Value)}
    (X : K.In s.heap) (hlim : s.heap.NoLimit) (ho : K.lookup f = some ⟨oc, od, .func (fnOf name qual params body scope dV kV doc pm an cdv ct), osl⟩) (hcd : codeIn K cdv qual = true) (hroom : A.depth < recursionLimit)
    (hbind : BindsTo s (fnOf name qual params body scope dV kV doc pm an cdv ct) args binds)
    (hkind : (binds.all fun y => scope.names.lookup y.1 == some .local || scope.names.lookup y.1 == some .cell) = true)
    (h : ∀ s₁, InCallC s s.heap.objs.size (bindL (envOfC qual scope s.heap.objs.size f cdv).kindOf binds fun _ => none) (cellsFrom (s.heap.objs.size + 1) scope.names [])
        (bindC (envOfC qual scope s.heap.objs.size f cdv).kindOf binds fun _ => none) s₁ →
      wpAny (model prog w) (A.deeper (envOfC qual scope s.heap.objs.size f cdv)) (execs body (envOfC qual scope s.heap.objs.size f cdv))
        (fun fl s' => R (.ok (.ret (match fl with | .ret v => v | _ => .none))) s')
        (fun e s' => wpAny (model prog w) (A.deeper (envOfC qual scope s.heap.objs.size f cdv)) («leaving» (envOfC qual scope s.heap.objs.size f cdv) e) (fun _ s'' => R (.error e) s'') (fun e' s'' => R (.error e') s'') s') s₁)
    (hco : scope.isCoroutine = false) (hgen : scope.isGenerator = false) (hk : scope.kind = .function) : codeAny (model prog w) A (.call (.ref f) args) R s := by
  refine codeAny_call_function hroom (X _ _ ho) rfl hco hgen rfl (codeRec_of X hcd) (hbind _ _ _ _ ?_)
  refine wpAny_newFunctionEnv_cells hk (kindsX hkind _) fun env he s₁ x => ?_
  subst he
  exact ⟨hlim.keeps x.toInCall.keep, codeAny_func (h s₁ x)⟩

/-- C(..): dict at size, instance at size + 1, then __init__ -/
theorem make_obj {R : Result → Shared → Prop} {C fI : Addr} {rest : List Value} {kw : List (Str × Value)}
    (X : K.In s.heap) (hm : makesIn K C = true) (hi : findIn K (.ref C) "__init__" = some (some (.ref fI))) (hf : isFn K (.ref fI) = true)
    (h : codeAny (model prog w) (A.under (.builtin "type.__call__" ⟨.ref C :: rest, kw⟩)) (.call (.ref fI) ⟨.ref (s.heap.objs.size + 1) :: rest, kw⟩) (InitBack (s.heap.objs.size + 1) R)
      { s with heap := (s.heap.push emptyDict).push (instObj C s.heap.objs.size) }) : codeAny (model prog w) A (.call (.ref C) ⟨rest, kw⟩) R s := by
  obtain ⟨hh, g, d, t, os⟩ := s
  exact make_core (makes_of X hm) (looks_findIn X hi) (fun self => bind_fn X self (beq_iff_eq.mp hf)) (.inl rfl) h

/-- x.name where the instance's dict holds the name and the class does not -/
theorem get_field {x C : Addr} {ox : Obj} {es : List DictEntry} {n : Nat} {name : Str} {expr : Bool} {v : Value} {Q : Value → Shared → Prop}
    (X : K.In s.heap) (I : PySem.W.InstAt s.heap x ox C (some (dictOf es n))) (hg : plainGet K C name = true) (hh : hasDictIn K C = true) (ha : findIn K (.ref C) name = some none)
    (hl : getL name es = some (some v)) (hv : handedIn v = true) (h : Q v { s with toks := s.toks + 1 }) : wpAny (model prog w) A (getAttr (.ref x) name expr) Q E s :=
  get_value X I (plainGet_of hg).1 (findObj_own hh ha rfl hl) hv h

/-- x.m(..): the method found in the class -/
theorem get_method {x C f : Addr} {ox : Obj} {es : List DictEntry} {n : Nat} {name : Str} {pl : Sem Bool} {Q : Value × List Value → Shared → Prop}
    (X : K.In s.heap) (I : PySem.W.InstAt s.heap x ox C (some (dictOf es n))) (hg : plainGet K C name = true) (hf : findIn K (.ref C) name = some (some (.ref f))) (ht : isFn K (.ref f) = true)
    (hl : getL name es = some none) (h : Q (.ref f, [.ref x]) s) : wpAny (model prog w) A (getMethod (.ref x) name pl) Q E s :=
  method_fn X I (plainGet_of hg).1 (plainGet_of hg).2 hf (beq_iff_eq.mp ht) (by show (lookIn name (dictOf es n)).map _ = _; rw [lookIn_dict, hl]; rfl) h

/-! the whole heap as the ledger: makes every rule that writes through a ledger a rule over any heap -/
def noObjs (h : Heap) : Heap := { h with objs := #[] }
theorem noObjs_get (h : Heap) (b : Addr) : (noObjs h).get? b = none := by
  cases e : (noObjs h).get? b with
  | none => rfl
  | some o => exact absurd (Heap.lt_size e) (Nat.not_lt_zero _)
def ledger (h : Heap) (L d : Addr) : List (Addr × Obj) := (List.range h.objs.size).filterMap fun a => if a = L ∨ a = d then none else (h.get? a).map fun o => (a, o)
theorem mem_ledger {h : Heap} {L d a : Addr} {o : Obj} : (a, o) ∈ ledger h L d ↔ a ≠ L ∧ a ≠ d ∧ h.get? a = some o := by
  unfold ledger
  rw [List.mem_filterMap]
  constructor
  · rintro ⟨b, _, e⟩
    split at e
    · cases e
    · rename_i hb
      obtain ⟨o', ho, e'⟩ := Option.map_eq_some_iff.mp e
      cases e'
      exact ⟨fun q => hb (.inl q), fun q => hb (.inr q), ho⟩
  · rintro ⟨n1, n2, ho⟩
    refine ⟨a, List.mem_range.mpr (Heap.lt_size ho), ?_⟩
    rw [if_neg (show ¬ (a = L ∨ a = d) from fun q => q.elim n1 n2), ho] <;> rfl
theorem news_ledger {h : Heap} {L d : Addr} {od : Obj} (hne : d ≠ L) (ho : h.get? d = some od) : News (noObjs h) L h ([] ++ (d, od) :: ledger h L d) := by
  rintro ⟨a, o⟩ hp
  rcases List.mem_cons.mp hp with e | hp
  · cases e
    exact ⟨ho, hne, noObjs_get _ _⟩
  · obtain ⟨n1, n2, e⟩ := mem_ledger.mp hp
    exact ⟨e, n1, noObjs_get _ _⟩
theorem fr_all {h : Heap} {L : Addr} {m : Str → Option Value} (n : h.Ns L m) : Fr (noObjs h) L h m :=
  ⟨n, fun b o e => (by rw [noObjs_get] at e; cases e), Nat.zero_le _⟩
/-- Upd of the head entry (for append_K, setItem_K ..) -/
theorem upd_ledger {h : Heap} {L d : Addr} {o o' : Obj} : Upd d o o' ((d, o) :: ledger h L d) ((d, o') :: ledger h L d) :=
  .head fun ⟨_, _⟩ hp => (mem_ledger.mp hp).2.1

/-- x.name = v over any heap: L is any namespace of the heap (the frame's, say): its map stays, its object is not told; all else but the dict stays -/
theorem set_field {x C dx L : Addr} {ox : Obj} {m : Str → Option Value} {es es' : List DictEntry} {n n' : Nat} {name : Str} {v : Value} {Q : Unit → Shared → Prop}
    (X : K.In s.heap) (I : PySem.W.InstAt s.heap x ox C (some (dictOf es n))) (hd : ox.dict = some dx) (hL : s.heap.Ns L m) (hne : dx ≠ L)
    (hs : findIn K (.ref C) "__setattr__" = some (some (.builtin "object.__setattr__"))) (hp : plainOver K C = true) (ht : takerIn K C name = some none) (hh : hasDictIn K C = true) (hl : (getL name es).isSome = true)
    (e : (putL name (PyData.keyHash w.params name) (.str name (s.toks + 1)) v es, putN name es n) = (es', n')) (hz : es'.length ≤ 1000)
    (h : ∀ h' : Heap, h'.Ns L m → h'.get? dx = some (dictOf es' n') → (∀ b o, b ≠ dx → b ≠ L → s.heap.get? b = some o → h'.get? b = some o) → Q () { s with heap := h', toks := s.toks + 2 }) :
    wpAny (model prog w) A (setAttr (.ref x) name v) Q E s := by
  obtain ⟨e1, e2⟩ := Prod.mk.inj e
  have hdx : s.heap.get? dx = some (dictOf es n) := by
    have := I.dict
    rw [hd] at this
    exact this
  refine set_plain X I hs (osa_dict (s := { s with toks := s.toks + 1 }) (h₀ := noObjs s.heap) (L := L) (m := m) (od := dictOf es n) (od' := dictOf es' n') (es := es') (n := n') (pre := []) (post := ledger s.heap L dx)
    (fr_all hL) (news_ledger hne hdx) X I hd hp ht hh hl (fun _ q => nomatch q) (fun ⟨_, _⟩ q => (mem_ledger.mp q).2.1) (by rw [putName_dict, e1, e2]) rfl hz fun h' F' N' => ?_)
  exact h h' F'.ns (N'.get (List.Mem.head _)) fun b o n1 n2 ho => N'.get (List.Mem.tail _ (mem_ledger.mpr ⟨n2, n1, ho⟩))
end
end Att

namespace L2
open PySem PySem.Spec PyProof.Rows

theorem vals_ints : ∀ {vs : List Value} {ns : List Int}, IntsAre vs ns → Vals (ns.map V.int) vs
  | _, _, .nil => .nil
  | _, _, .cons n t h => .cons ⟨t, rfl⟩ (vals_ints h)

/-- nothing is tracked but the script, known to the object (or it is an object of the module) -/
def Only (H : Hp) : Prop := ∀ b, H b = none ∨ ∃ o xs, H b = some (.frz o (.lst xs))

/-- THE HEAD: the law's promise, at the heap behind the top. F, the promise of the law's def, may use that base is part of the heap (so K.In base, base.Ns mainGlobals mg stand in Mod) -/
theorem law_call {P : Program} {w : World} {K : PySem.W.Frag} {mg mb : Str → Option Value} {CX : CXT} {k : Nat} {fa a : Addr} {fd : FuncData} {x : Str} {sp : Sp} {s₁ : Shared} {vs : List Value} {ns : List Int}
    (KX : K.In s₁.heap) (hns : s₁.heap.Ns mainGlobals mg) (hb : s₁.heap.Ns builtinsNs mb) (hbb : ∀ x : Str, x ≠ "__name__" → mb x = bootBuiltins x) (hlim : s₁.heap.NoLimit) (hg : s₁.gens = #[])
    (ha : s₁.heap.get? a = some { cls := .type "list", data := .seq vs.toArray }) (hi : IntsAre vs ns) (hl : ns.length ≤ sizeLine) (hr : Room k callerA)
    (F : ∀ base : Heap, K.In base → base.Ns mainGlobals mg → FnOk P w K mg base CX k fa fd [x] sp) (hbind : ∀ (s : Shared) (u : Value), BindsTo s fd ⟨[u], []⟩ [(x, u)])
    (hsp : ∀ H : Hp, Only H → SqL K H a (ns.map V.int) → sp [.ref a] H (fun v _ => v = .bl true) fun _ _ _ => False)
    (hCX : ∀ H e s', CX [] H s₁ (fun _ _ _ => False) e s' → False) :
    codeAny (model P w) callerA (.call (.ref fa) ⟨[.ref a], []⟩) (fun r s' => r = .ok (.ret (.bool true)) ∧ OldK s₁.heap s'.heap ∧ s'.os = s₁.os ∧ AllBare s'.gens) s₁ := by
  have rv := vals_ints hi
  have lenV := hi.length
  -- from an abstract heap in which nothing but the script may be tracked
  have core : ∀ H : Hp, Only H → SqL K H a (ns.map V.int) → HOk P w H s₁.heap → (∀ b, H b ≠ none → b = a) → (H a ≠ none → K.lookup a = none) →
      codeAny (model P w) callerA (.call (.ref fa) ⟨[.ref a], []⟩) (fun r s' => r = .ok (.ret (.bool true)) ∧ OldK s₁.heap s'.heap ∧ s'.os = s₁.os ∧ AllBare s'.gens) s₁ := by
    intro H hO hS hok hA hK
    have base_of : ∀ {b : Addr} {o : Obj}, s₁.heap.get? b = some o → H b = none → (hidT s₁.heap H).get? b = some o := fun e n => hidT_get e n
    have noA : ∀ {b : Addr} {o : Obj} {es : Array DictEntry} {ep : Nat}, s₁.heap.get? b = some o → o.data = .dict es ep → H b = none := fun {b o es ep} e d => by
      cases q : H b with
      | none => rfl
      | some u =>
        have e' : b = a := hA b (by rw [q]; simp)
        subst e'
        rw [ha] at e; cases e
        have d' : Data.seq vs.toArray _ = Data.dict es ep := d
        cases d'
    have nsK : ∀ {b : Addr} {m : Str → Option Value}, s₁.heap.Ns b m → (hidT s₁.heap H).Ns b m := fun {b m} ⟨o, es, ep, e, d, r⟩ => ⟨o, es, ep, base_of e (noA e d), d, r⟩
    have hKb : K.In (hidT s₁.heap H) := fun b o e => base_of (KX b o e) (by
      cases q : H b with
      | none => rfl
      | some u =>
        have e' : b = a := hA b (by rw [q]; simp)
        subst e'
        rw [hK (by rw [q]; simp)] at e; cases e)
    have hM : Mod K mg (hidT s₁.heap H) := ⟨hKb, nsK hns, ⟨mb, nsK hb, hbb⟩, let ⟨mc, h1, h2⟩ := hlim; ⟨mc, nsK h1, h2⟩⟩
    have e0 : Env0 P w K mg (hidT s₁.heap H) callerA [] s₁ H := ⟨rfl, hM, fun b o e => of_hidT e, Nat.le_of_eq (hidT_size _ _), trivial, fun b hb => absurd (show b ∈ ([] : List Addr) from hb) (by simp), hok, .of_eq hg⟩
    refine codeAny_mono ((F _ hKb (nsK hns)).run callerA [] s₁ H ⟨[.ref a], []⟩ [.ref a] [.ref a] _ _ hr e0 (hbind s₁ (.ref a)) (.cons rfl .nil) (hsp H hO hS)) fun r s' h => ?_
    cases r with
    | error e => exact (hCX H e s' h).elim
    | ok fl =>
      cases fl with
      | next => exact False.elim h
      | brk => exact False.elim h
      | cont => exact False.elim h
      | ret u =>
        obtain ⟨v, H', os, bare, un, hok', r', q⟩ := h
        have q' : v = .bl true := q
        subst q'
        obtain rfl : u = Value.bool true := r'
        refine ⟨rfl, OldK.of_keep fun b o e => ?_, os, bare⟩
        cases q : H b with
        | none => exact un.keep b o e q (by intro z; exact absurd (show b ∈ ([] : List Addr) from z) (by simp)) (by simp)
        | some u =>
          rcases hO b with z | ⟨ob, xs, z⟩
          · rw [q] at z; cases z
          · have z2 := un.frzs b ob _ z
            obtain ⟨e1, _⟩ := hok b _ z
            obtain ⟨e2, _⟩ := hok' b _ z2
            rw [e] at e1; cases e1
            exact e2
  cases hk : K.lookup a with
  | some o =>
    -- the script is one of the module's own objects
    have e := KX a o hk
    rw [ha] at e
    cases e
    refine core (fun _ => none) (fun _ => .inl rfl) (.inr ⟨_, vs.toArray, _, hk, rfl, rfl, rfl, by rw [List.size_toArray, lenV]; exact hl, by simpa using rv⟩) (fun b u z => by have z' : (none : Option HO) = some u := z; cases z') (fun b z => absurd rfl z) fun z => absurd rfl z
  | none =>
    refine core (fun b => if b = a then some (.frz { cls := .type "list", data := .seq vs.toArray } (.lst (ns.map V.int))) else none) (fun b => ?_) (.inl (.inr ⟨{ cls := .type "list", data := .seq vs.toArray }, if_pos rfl⟩)) (fun b u z => ?_) (fun b z => ?_) fun _ => hk
    · by_cases hb : b = a
      · exact .inr ⟨_, _, if_pos hb⟩
      · exact .inl (if_neg hb)
    · by_cases hb : b = a
      · have z' := (if_pos hb).symm.trans z
        cases z'
        subst hb
        exact ⟨ha, by rw [List.length_map]; exact hl, vs, _, rv, ha⟩
      · have z' := (if_neg hb).symm.trans z
        cases z'
    · by_cases hb : b = a
      · exact hb
      · exact absurd (if_neg hb) z
end L2

namespace L2
open PySem PySem.Spec PyProof.Rows

abbrev KOf {K : PySem.W.Frag} {h : Heap} (_ : K.In h) : PySem.W.Frag := K

/-- the goal that k_head leaves (case hc), from the law's promise. F gives the function object fd (K's own) once, then the promise over every base -/
theorem walk_of {l : PySem.W.OpenLaw} {n k : Nat} {q : Program} {loose : List Str} {XP : (Str → Option Value) → Heap → Prop} {YP : World → Heap → Prop} {d : DefRec} {K : Params → PySem.W.Frag} {CX : World → CXT} {sp : World → Sp} {x : Str}
    (hn : l.most = some n) (hn2 : n ≤ sizeLine) (hdf : d.params.defaults = []) (hr : Room k callerA)
    (hY : ∀ (w : World) (h : Heap), YP w h → (K w.params).In h)
    (F : ∀ (w : World) (mg : Str → Option Value) (fa : Addr) (h : Heap), (K w.params).In h → h.Ns mainGlobals mg → mg d.name = some (.ref fa) →
      ∃ fd : FuncData, (∀ (s : Shared) (u : Value), BindsTo s fd ⟨[u], []⟩ [(x, u)]) ∧
        ∀ base : Heap, (K w.params).In base → base.Ns mainGlobals mg → FnOk l.prog w (K w.params) mg base (CX w) k fa fd [x] (sp w))
    (hsp : ∀ (w : World) (H : Hp) (a : Addr) (ns : List Int), ns.length ≤ n → Only H → SqL (K w.params) H a (ns.map V.int) → sp w [.ref a] H (fun v _ => v = .bl true) fun _ _ _ => False)
    (hCX : ∀ (w : World) (H : Hp) (s : Shared) (e : Value) (s' : Shared), CX w [] H s (fun _ _ _ => False) e s' → False) :
    PySem.W.WalkO q loose XP YP l.row.toRowW d [] (fun f vs => PySem.call f vs) := by
  refine Att.attach_call hn hdf fun w s₀ s₁ mg mb fa o pm cd doc a vs ns G Y ho hd hcd hmg hobj hints hlen hg => ?_
  have KX := hY w _ Y
  obtain ⟨fd, hb, hF⟩ := F w mg fa _ KX G.T.g hmg
  exact law_call KX G.T.g G.T.b G.T.builtins G.T.nolimit hg hobj hints (Nat.le_trans hlen hn2) hr hF hb (fun H hO hS => hsp w H a ns hlen hO hS) fun H e s' => hCX w H s₁ e s'
/-- the same where the promise hangs on the written part alone: (sp := My.sp_law), no hole under a binder -/
theorem walk_ofK {l : PySem.W.OpenLaw} {n k : Nat} {q : Program} {loose : List Str} {XP : (Str → Option Value) → Heap → Prop} {YP : World → Heap → Prop} {d : DefRec} {K : Params → PySem.W.Frag} {CX : CXT} {sp : PySem.W.Frag → Sp} {x : Str}
    (hn : l.most = some n) (hn2 : n ≤ sizeLine) (hdf : d.params.defaults = []) (hr : Room k callerA)
    (hY : ∀ (w : World) (h : Heap), YP w h → (K w.params).In h)
    (F : ∀ (w : World) (mg : Str → Option Value) (fa : Addr) (h : Heap), (K w.params).In h → h.Ns mainGlobals mg → mg d.name = some (.ref fa) →
      ∃ fd : FuncData, (∀ (s : Shared) (u : Value), BindsTo s fd ⟨[u], []⟩ [(x, u)]) ∧
        ∀ base : Heap, (K w.params).In base → base.Ns mainGlobals mg → FnOk l.prog w (K w.params) mg base CX k fa fd [x] (sp (K w.params)))
    (hsp : ∀ (K : PySem.W.Frag) (H : Hp) (a : Addr) (ns : List Int), ns.length ≤ n → Only H → SqL K H a (ns.map V.int) → sp K [.ref a] H (fun v _ => v = .bl true) fun _ _ _ => False)
    (hCX : ∀ (H : Hp) (s : Shared) (e : Value) (s' : Shared), CX [] H s (fun _ _ _ => False) e s' → False) :
    PySem.W.WalkO q loose XP YP l.row.toRowW d [] (fun f vs => PySem.call f vs) :=
  walk_of (K := K) (CX := fun _ => CX) (sp := fun w => sp (K w.params)) hn hn2 hdf hr hY F (fun w H a ns h1 h2 h3 => hsp (K w.params) H a ns h1 h2 h3) fun _ H s e s' => hCX H s e s'
end L2



/-! SHORT WORDS over the layer: a def of the text, its body, what a loop and a test want. -/
namespace L2
open PySem PySem.Spec PyProof.Rows

/-! ### the text by places -/
/-- the j-th statement of a class's body -/
def inClass (s : Stmt) (j : Nat) : Stmt := match s with
  | .ClassDef _ _ _ body _ _ _ _ _ _ _ => body.getD j (.Pass ⟨0, 0, 0, 0⟩)
  | _ => .Pass ⟨0, 0, 0, 0⟩
def defArgs (s : Stmt) : Arguments := match s with
  | .FunctionDef _ a _ _ _ _ _ _ _ _ => a
  | _ => { posonlyargs := [], args := [], vararg := none, kwonlyargs := [], kw_defaults := [], kwarg := none, defaults := [] }
def defBody (s : Stmt) : List Stmt := match s with
  | .FunctionDef _ _ b _ _ _ _ _ _ _ => b
  | _ => []
def defScope (s : Stmt) : Scope := match s with
  | .FunctionDef _ _ _ _ _ _ sc _ _ _ => sc
  | _ => { kind := .function, names := [], isGenerator := false, isCoroutine := false }

/-! ### no exception leaves a def -/
abbrev CX0 : CXT := fun _ _ _ _ _ _ => False
abbrev E0 : XK := fun _ _ _ => False
theorem pass0 {X : Cx} : Passes CX0 X E0 := fun _ _ _ _ _ _ _ h => h.elim

/-! ### a def (or method) of the text as it stands behind the top -/
structure Fun (K : PySem.W.Frag) (x qual : Str) (st : Stmt) (f : Addr) (fd : FuncData) : Prop where
  ex : ∃ (oc : Value) (od : Option Addr) (kV doc pm : Value) (an : Option Addr) (cdv ct : Value) (osl : Array (Option Value)),
    fd = PySem.W.fnOf x qual (defArgs st) (defBody st) (defScope st) .none kV doc pm an cdv ct ∧ K.lookup f = some ⟨oc, od, .func fd, osl⟩ ∧ PySem.W.codeIn K cdv qual = true
  kp : PySem.W.keepIn K (.ref f) = true
section
variable {P : Program} {w : World} {K : PySem.W.Frag} {mg : Str → Option Value} {base : Heap}
/-- THE RULE for a def: its body as a term of rules, and the reading of that term -/
theorem Fun.ok {x qual : Str} {st : Stmt} {f : Addr} {fd : FuncData} {N ps : List Str} {k : Nat} {sp : Sp} (F : Fun K x qual st f fd) (S : FnScope N ps (defScope st)) (len : ∀ vs H Q E, sp vs H Q E → vs.length = ps.length)
    (hbody : ∀ (cdv : Value) (A : Around) (outer : List Env) (s : Shared) (H : Hp) (vs : List V) (Q : VK) (E : XK), Room k (A.deeper (envOfC qual (defScope st) s.heap.objs.size f cdv)) → sp vs H Q E →
      ∃ t, PSs (cxOf CX0 P w K mg base N qual (defScope st) f cdv A outer s H E).nox (defBody st) t ∧ t { nx := fun _ H' => Q .non H', rt := Q } (start N vs) H) : FnOk P w K mg base CX0 (k + 1) f fd ps sp := by
  obtain ⟨oc, od, kV, doc, pm, an, cdv, ct, osl, rfl, lk, hcd⟩ := F.ex
  refine fn_of lk hcd S len fun A outer s H vs Q E hr hsp => ?_
  obtain ⟨t, h, q⟩ := hbody cdv A outer s H vs Q E hr hsp
  exact ⟨t, h.nox, q⟩
/-- how its arguments bind (no defaults): h is «fun _ _ _ _ _ _ us hl => match us, hl with | [_, _], _ => rfl», one _ a parameter -/
theorem Fun.binds {x qual : Str} {st : Stmt} {f : Addr} {fd : FuncData} {ps : List Str} (F : Fun K x qual st f fd)
    (h : ∀ (kV doc pm : Value) (an : Option Addr) (cdv ct : Value) (us : List Value), us.length = ps.length → bindArgs (PySem.W.fnOf x qual (defArgs st) (defBody st) (defScope st) .none kV doc pm an cdv ct) ⟨us, []⟩ = pure (ps.zip us)) : Binds K fd ps [] := by
  obtain ⟨oc, od, kV, doc, pm, an, cdv, ct, osl, rfl, lk, hcd⟩ := F.ex
  exact .all (h kV doc pm an cdv ct)
theorem fun_mk {x qual : Str} {st : Stmt} {f : Addr} {oc : Value} {od an : Option Addr} {osl : Array (Option Value)} {kV doc pm cdv ct : Value} (l : K.lookup f = some ⟨oc, od, .func (PySem.W.fnOf x qual (defArgs st) (defBody st) (defScope st) .none kV doc pm an cdv ct), osl⟩)
    (c : PySem.W.codeIn K cdv qual = true) (k : PySem.W.keepIn K (.ref f) = true) : Fun K x qual st f (PySem.W.fnOf x qual (defArgs st) (defBody st) (defScope st) .none kV doc pm an cdv ct) := ⟨⟨oc, od, kV, doc, pm, an, cdv, ct, osl, rfl, l, c⟩, k⟩
end
theorem hu_of {A : Around} {k : Nat} (hr : Room k A) : A.units + 1 < cLine := Nat.lt_of_le_of_lt (Nat.add_le_add_left (by decide : 1 ≤ 64) _) hr.units
theorem small1000 {n : Nat} (h : n ≤ 1000) : n < sizeLine := Nat.lt_of_le_of_lt h (by decide)

/-! ### expressions in short: the name that stands in the i-th slot -/
section
variable {X : Cx}
theorem pv (i : Nat) {x : Str} {pos : Pos} (hN : X.N[i]? = some x := by rfl) (hv : Vis X.env.scope x := by first | exact Or.inl rfl | exact Or.inr (Or.inl rfl) | exact Or.inr (Or.inr rfl)) (hd : (x == ("__debug__" : Str)) = false := by decide)
    (hcd : (x == ("__classdict__" : Str)) = false := by decide) : PE X (.Name x pos) (tVar i) := pe_var hN hv hd hcd
/-- len of a dict -/
theorem call_lenD : CallR X (.builtin "len") (fun xs H Q => ∃ a kvs, xs = [V.ref a] ∧ H a = some (.dK kvs) ∧ Q (.int kvs.length) H) := by
  intro pins s σ H xs us Q I r h
  obtain ⟨a, kvs, rfl, ha, q⟩ := h
  obtain ⟨u, rfl, ru⟩ := vals1 r
  cases ru
  exact d_len I (.inl ha) fun t s' I' => ⟨.int kvs.length, H, I', ⟨t, rfl⟩, q⟩
end

/-! ### tests -/
theorem iteF {A B : Prop} (h : B) : if false = true then A else B := by
  rw [if_neg Bool.false_ne_true]
  exact h
theorem iteT {A B : Prop} (h : A) : if true = true then A else B := by
  rw [if_pos rfl]
  exact h
theorem ite2 {c A B : Prop} [Decidable c] (h1 : c → A) (h2 : ¬ c → B) : if c then A else B := by
  by_cases h : c
  · rw [if_pos h]
    exact h1 h
  · rw [if_neg h]
    exact h2 h
theorem iteNS {c A B : Prop} [Decidable c] (hc : c) (h : B) : if (!decide c) = true then A else B := by
  rw [decide_eq_true hc]
  exact iteF h

/-! ### heaps -/
/-- all that was tracked is as it was -/
def Same (H H' : Hp) : Prop := ∀ b o, H b = some o → H' b = some o
theorem Same.refl (H : Hp) : Same H H := fun _ _ h => h
theorem Same.trans {H H1 H2 : Hp} (a : Same H H1) (b : Same H1 H2) : Same H H2 := fun c o h => b c o (a c o h)
theorem Same.free {H H' : Hp} (e : Same H H') {l : Addr} (h : H' l = Option.none) : H l = Option.none := by
  cases q : H l with
  | none => rfl
  | some o =>
    rw [e l o q] at h
    cases h
theorem Same.seq {K : PySem.W.Frag} {H H' : Hp} {a : Addr} {xs : List V} (e : Same H H') (h : SqL K H a xs) : SqL K H' a xs := by
  rcases h with (h | ⟨o, h⟩) | h
  · exact .inl (.inl (e _ _ h))
  · exact .inl (.inr ⟨o, e _ _ h⟩)
  · exact .inr h

/-! ### a dict's pairs: keys that differ -/
section
variable {κ : Type} [DecidableEq κ]
theorem valV_not {kvs : List (κ × V)} {k : κ} (h : valV kvs k = none) : ¬ k ∈ kvs.map (·.1) := by
  intro m
  obtain ⟨p, hp, e⟩ := List.mem_map.mp m
  have q : (kvs.any fun kv => decide (kv.1 = k)) = true := List.any_eq_true.mpr ⟨p, hp, decide_eq_true e⟩
  rw [valV_any, h] at q
  exact absurd q (by simp)
theorem valV_in {kvs : List (κ × V)} {k : κ} {v : V} (h : valV kvs k = some v) : k ∈ kvs.map (·.1) := by
  have q : (kvs.any fun kv => decide (kv.1 = k)) = true := by
    rw [valV_any, h]
    all_goals rfl
  obtain ⟨p, hp, e⟩ := List.any_eq_true.mp q
  exact List.mem_map.mpr ⟨p, hp, of_decide_eq_true e⟩
theorem nd_snoc : ∀ {l : List κ} {k : κ}, l.Nodup → ¬ k ∈ l → (l ++ [k]).Nodup
  | [], k, _, _ => by simp
  | a :: r, k, h, hk => by
    obtain ⟨h1, h2⟩ := List.nodup_cons.mp h
    show (a :: (r ++ [k])).Nodup
    refine List.nodup_cons.mpr ⟨fun m => ?_, nd_snoc h2 fun m => hk (List.mem_cons.mpr (Or.inr m))⟩
    rcases List.mem_append.mp m with q | q
    · exact h1 q
    · exact hk (List.mem_cons.mpr (Or.inl (List.mem_singleton.mp q).symm))
theorem nd_putK {kvs : List (κ × V)} {k : κ} (v : V) (hn : (kvs.map (·.1)).Nodup) (h : valV kvs k = none) : ((putK kvs k v).map (·.1)).Nodup := by
  rw [putK_new v h, List.map_append]
  exact nd_snoc hn (valV_not h)
theorem dropK_pos {p : κ × V} {r : List (κ × V)} {k : κ} (e : p.1 = k) : dropK (p :: r) k = dropK r k := by
  unfold dropK
  rw [List.filter_cons, if_neg (by simp [e])]
theorem dropK_neg {p : κ × V} {r : List (κ × V)} {k : κ} (e : ¬ p.1 = k) : dropK (p :: r) k = p :: dropK r k := by
  unfold dropK
  rw [List.filter_cons, if_pos (by simp [e])]
theorem dropK_no : ∀ {kvs : List (κ × V)} {k : κ}, ¬ k ∈ kvs.map (·.1) → dropK kvs k = kvs
  | [], _, _ => rfl
  | p :: r, k, h => by
    have h' : ¬ k ∈ r.map (·.1) := fun m => by
      obtain ⟨q, hq, e⟩ := List.mem_map.mp m
      exact h (List.mem_map.mpr ⟨q, List.mem_cons.mpr (Or.inr hq), e⟩)
    rw [dropK_neg fun e => h (List.mem_map.mpr ⟨p, List.mem_cons.mpr (Or.inl rfl), e⟩), dropK_no h']
theorem dropK_mem {kvs : List (κ × V)} {k : κ} {p : κ × V} (h : p ∈ dropK kvs k) : p ∈ kvs := (List.mem_filter.mp h).1
theorem nd_dropK : ∀ {kvs : List (κ × V)} {k : κ}, (kvs.map (·.1)).Nodup → ((dropK kvs k).map (·.1)).Nodup
  | [], _, _ => List.nodup_nil
  | p :: r, k, h => by
    have h : (p.1 :: r.map (·.1)).Nodup := h
    obtain ⟨h1, h2⟩ := List.nodup_cons.mp h
    by_cases e : p.1 = k
    · rw [dropK_pos e]
      exact nd_dropK h2
    · rw [dropK_neg e]
      show (p.1 :: (dropK r k).map (·.1)).Nodup
      refine List.nodup_cons.mpr ⟨fun m => h1 ?_, nd_dropK h2⟩
      obtain ⟨q, hq, eq⟩ := List.mem_map.mp m
      exact List.mem_map.mpr ⟨q, dropK_mem hq, eq⟩
theorem dropK_len : ∀ {kvs : List (κ × V)} {k : κ}, (kvs.map (·.1)).Nodup → k ∈ kvs.map (·.1) → (dropK kvs k).length + 1 = kvs.length
  | [], _, _, m => by simp at m
  | p :: r, k, h, m => by
    have h : (p.1 :: r.map (·.1)).Nodup := h
    have m : k = p.1 ∨ k ∈ r.map (·.1) := List.mem_cons.mp m
    obtain ⟨h1, h2⟩ := List.nodup_cons.mp h
    by_cases e : p.1 = k
    · subst e
      rw [dropK_pos rfl, dropK_no h1]
      all_goals rfl
    · have m' : k ∈ r.map (·.1) := m.resolve_left fun z => e z.symm
      have q := dropK_len h2 m'
      rw [dropK_neg e, List.length_cons, List.length_cons]
      omega
end
end L2

set_option maxHeartbeats 4000000
namespace L2
open PySem
def clOf (cells : List (Str × Addr)) : List (Str × NameKind) → List (Str × Addr) → List (Str × Addr)
  | [], acc => acc
  | (n, k) :: r, acc => if k = NameKind.free then clOf cells r ((n, (cells.lookup n).getD 0) :: acc) else clOf cells r acc
theorem closureFor_of {scope : Scope} {env : Env} (h : ∀ x ∈ scope.names, x.2 = .free → ∃ c, env.cells.lookup x.1 = some c) :
    closureFor scope env = pure (clOf env.cells scope.names []) := by
  have key : ∀ (names : List (Str × NameKind)) (acc : List (Str × Addr)), (∀ x ∈ names, x.2 = .free → ∃ c, env.cells.lookup x.1 = some c) →
      (do let mut cs := acc
          for (name, kind) in names do
            if kind == .free then cs := (name, ← cellOf env name) :: cs
          return cs : Sem (List (Str × Addr))) = pure (clOf env.cells names acc) := by
    intro names
    induction names with
    | nil => intro acc _; rfl
    | cons x r ih =>
      intro acc h
      obtain ⟨n, k⟩ := x
      have hr : ∀ y ∈ r, y.2 = .free → ∃ c, env.cells.lookup y.1 = some c := fun y hy => h y (List.mem_cons_of_mem _ hy)
      by_cases hk : k = .free
      · subst hk
        obtain ⟨c, hc⟩ := h (n, .free) List.mem_cons_self rfl
        have e : cellOf env n = pure c := by unfold cellOf; rw [hc]
        have q := ih ((n, c) :: acc) hr
        simp only [List.forIn_cons, beq_self_eq_true, if_true, e]
        unfold clOf
        rw [if_pos rfl, hc]
        exact q
      · have hb : (k == NameKind.free) = false := by simpa using hk
        have q := ih acc hr
        simp only [List.forIn_cons, hb, Bool.false_eq_true, if_false]
        unfold clOf
        rw [if_neg hk]
        exact q
  exact key scope.names [] h
theorem clOf_sub {cells : List (Str × Addr)} : ∀ {names : List (Str × NameKind)} {acc : List (Str × Addr)},
    (∀ x ∈ names, x.2 = .free → ∃ c, cells.lookup x.1 = some c) → (∀ x c, acc.lookup x = some c → cells.lookup x = some c) →
    ∀ x c, (clOf cells names acc).lookup x = some c → cells.lookup x = some c
  | [], _, _, h, x, c, e => h x c e
  | (n, k) :: r, acc, hf, h, x, c, e => by
    unfold clOf at e
    have hr : ∀ y ∈ r, y.2 = .free → ∃ c, cells.lookup y.1 = some c := fun y hy => hf y (List.mem_cons_of_mem _ hy)
    by_cases hk : k = .free
    · rw [if_pos hk] at e
      refine clOf_sub hr (fun y d q => ?_) x c e
      obtain ⟨c', hc'⟩ := hf (n, k) List.mem_cons_self hk
      have hc' : cells.lookup n = some c' := hc'
      rw [List.lookup_cons] at q
      cases hy : y == n with
      | true =>
        rw [hy, hc'] at q
        have e1 : y = n := by simpa using hy
        rw [e1, hc']
        exact q
      | false => rw [hy] at q; exact h y d q
    · rw [if_neg hk] at e
      exact clOf_sub hr h x c e
theorem clOf_keeps {cells : List (Str × Addr)} {x : Str} : ∀ {names : List (Str × NameKind)} {acc : List (Str × Addr)},
    (∃ c, acc.lookup x = some c) → ∃ c, (clOf cells names acc).lookup x = some c
  | [], _, h => h
  | (n, k) :: r, acc, ⟨c, h⟩ => by
    unfold clOf
    split
    · refine clOf_keeps ?_
      rw [List.lookup_cons]
      cases x == n with
      | true => exact ⟨_, rfl⟩
      | false => exact ⟨c, h⟩
    · exact clOf_keeps ⟨c, h⟩
theorem clOf_has {cells : List (Str × Addr)} {x : Str} : ∀ {names : List (Str × NameKind)} {acc : List (Str × Addr)},
    (x, NameKind.free) ∈ names → ∃ c, (clOf cells names acc).lookup x = some c
  | (n, k) :: r, acc, h => by
    unfold clOf
    rcases List.mem_cons.mp h with e | e
    · cases e
      rw [if_pos rfl]
      refine clOf_keeps ?_
      rw [List.lookup_cons, beq_self_eq_true]
      exact ⟨_, rfl⟩
    · split
      · exact clOf_has e
      · exact clOf_has e
end L2

namespace PySem
open Sem (wp)
section
variable {prog : Program} {w : World} {A : Around} {E : Value → Shared → Prop} {R : Result → Shared → Prop} {s : Shared}
theorem L2_compLoop {elt target iter : Expr} {ifs : List Expr} {scope : Scope} {pos : Pos} {it acc : Value} {env : Env} (I : Nat → Shared → Prop)
    (turn : ∀ n s, I n s → wpAny (model prog w) A (pyNext it) (fun r s₁ => match r with
      | none => R (.ok .next) s₁
      | some v => wpAny (model prog w) A (letOwnedTupleGo target it v) (fun _ s₁' => wpAny (model prog w) A (assign target env v) (fun _ s₂ =>
          wpAny (model prog w) A (forIn ifs true fun c r => if r = true then do let ok ← isTrue c env (eval c env); pure (ForInStep.yield ok) else pure (ForInStep.yield r)) (fun ok s₃ =>
            if ok = true then wpAny (model prog w) A (eval elt env) (fun x s₄ =>
              wpAny (model prog w) A (call (.builtin "list.append") [acc, x]) (fun _ s₅ => ∃ m, m < n ∧ I m s₅) (fun _ _ => False) s₄) (fun _ _ => False) s₃
            else ∃ m, m < n ∧ I m s₃) (fun _ _ => False) s₂) (fun _ _ => False) s₁') (fun _ _ => False) s₁) (fun _ _ => False) s)
    (n : Nat) (h : I n s) :
    codeAny (model prog w) A (.compLoop (.ListComp elt [⟨target, iter, ifs, 0⟩] scope pos) 0 it acc env) R s := by
  refine codeAny_loop rfl I (fun n s hI => ?_) n h
  show wpAny _ A ((compTurn (.ListComp elt [⟨target, iter, ifs, 0⟩] scope pos) 0 it acc env).onRaise (fun x => do noteFrame x env; theTreesLotGoes x)) _ _ s
  refine wpAny_noted ?_
  rw [compTurn_list]
  refine wpAny_bind (wpAny_standAt (wpAny_bind (wpAny_mono (turn n s hI) (fun r s₁ h₁ => ?_) fun _ _ h' => h'.elim)))
  cases r with
  | none => exact wpAny_pure h₁
  | some v =>
    refine wpAny_bind (wpAny_mono h₁ (fun _ s₁' h₁' => ?_) fun _ _ h' => h'.elim)
    refine wpAny_bind (wpAny_mono h₁' (fun _ s₂ h₂ => wpAny_bind (wpAny_mono h₂ (fun ok s₃ h₃ => ?_) fun _ _ h' => h'.elim)) fun _ _ h' => h'.elim)
    cases ok with
    | false => exact wpAny_pure ⟨rfl, h₃⟩
    | true =>
      exact wpAny_bind (wpAny_bind (wpAny_mono h₃ (fun x s₄ h₄ => wpAny_bind (wpAny_mono h₄ (fun _ s₅ h₅ => wpAny_pure (wpAny_pure ⟨rfl, h₅⟩)) fun _ _ h' => h'.elim)) fun _ _ h' => h'.elim))
end
end PySem

namespace L2
open PySem PySem.Spec PyProof.Rows

/-! ### the names of a comprehension's block -/
def subS (mp : List (Option Nat)) (σ : St) : St := mp.map fun o => match o with | some i => (σ[i]?).join | none => none
def visB (pn : List (Str × NameKind)) (x : Str) : Bool := decide (pn.lookup x = some .cell) || decide (pn.lookup x = some .free)
def compOk (N : List Str) (pn cn : List (Str × NameKind)) (N' : List Str) (mp : List (Option Nat)) : Bool :=
  decide (N'.length = mp.length) && decide N'.Nodup &&
  (List.range N'.length).all (fun k => match mp[k]?, N'[k]? with
    | some (some i), some x => decide (N[i]? = some x) && visB pn x && decide ((x, NameKind.free) ∈ cn) && decide (cn.lookup x = some .free)
    | _, _ => true) &&
  cn.all (fun p => decide (p.2 ≠ .cell)) && cn.all (fun p => decide (p.2 ≠ .free) || visB pn p.1) && cn.all (fun p => decide (p.2 ≠ .local) || decide (cn.lookup p.1 = some .local))
structure CompOk (N : List Str) (pn cn : List (Str × NameKind)) (N' : List Str) (mp : List (Option Nat)) : Prop where
  len : N'.length = mp.length
  nd : N'.Nodup
  map : ∀ (k i : Nat) (x : Str), mp[k]? = some (some i) → N'[k]? = some x → N[i]? = some x ∧ (pn.lookup x = some .cell ∨ pn.lookup x = some .free) ∧ (x, NameKind.free) ∈ cn ∧ cn.lookup x = some .free
  nocell : ∀ p ∈ cn, p.2 ≠ .cell
  free : ∀ p ∈ cn, p.2 = .free → (pn.lookup p.1 = some .cell ∨ pn.lookup p.1 = some .free)
  loc : ∀ p ∈ cn, p.2 = .local → cn.lookup p.1 = some .local
theorem visB_iff {pn : List (Str × NameKind)} {x : Str} (h : visB pn x = true) : pn.lookup x = some .cell ∨ pn.lookup x = some .free := by
  unfold visB at h
  rcases (Bool.or_eq_true _ _).mp h with h | h
  · exact .inl (of_decide_eq_true h)
  · exact .inr (of_decide_eq_true h)
theorem compOk_of {N : List Str} {pn cn : List (Str × NameKind)} {N' : List Str} {mp : List (Option Nat)} (h : compOk N pn cn N' mp = true) : CompOk N pn cn N' mp := by
  unfold compOk at h
  obtain ⟨h, h6⟩ := (Bool.and_eq_true _ _).mp h
  obtain ⟨h, h5⟩ := (Bool.and_eq_true _ _).mp h
  obtain ⟨h, h4⟩ := (Bool.and_eq_true _ _).mp h
  obtain ⟨h, h3⟩ := (Bool.and_eq_true _ _).mp h
  obtain ⟨h1, h2⟩ := (Bool.and_eq_true _ _).mp h
  refine ⟨of_decide_eq_true h1, of_decide_eq_true h2, fun k i x e1 e2 => ?_, fun p hp => of_decide_eq_true (List.all_eq_true.mp h4 p hp), fun p hp e => ?_, fun p hp e => ?_⟩
  · have hk : k < N'.length := (List.getElem?_eq_some_iff.mp e2).1
    have q := List.all_eq_true.mp h3 k (List.mem_range.mpr hk)
    simp only [e1, e2] at q
    obtain ⟨q, q4⟩ := (Bool.and_eq_true _ _).mp q
    obtain ⟨q, q3⟩ := (Bool.and_eq_true _ _).mp q
    obtain ⟨q1, q2⟩ := (Bool.and_eq_true _ _).mp q
    exact ⟨of_decide_eq_true q1, visB_iff q2, of_decide_eq_true q3, of_decide_eq_true q4⟩
  · rcases (Bool.or_eq_true _ _).mp (List.all_eq_true.mp h5 p hp) with z | z
    · exact absurd e (of_decide_eq_true z)
    · exact visB_iff z
  · rcases (Bool.or_eq_true _ _).mp (List.all_eq_true.mp h6 p hp) with z | z
    · exact absurd e (of_decide_eq_true z)
    · exact of_decide_eq_true z
theorem relabel_free {env : Env} : ∀ {names : List (Str × NameKind)} {x : Str}, names.lookup x = some .free →
    (names.map fun (n, k) => if (k == NameKind.free && env.scope.kind == .function && env.kindOf n == some .cell) then (n, NameKind.cell) else (n, k)).lookup x = some .cell ∨
    (names.map fun (n, k) => if (k == NameKind.free && env.scope.kind == .function && env.kindOf n == some .cell) then (n, NameKind.cell) else (n, k)).lookup x = some .free
  | [], _, h => by simp at h
  | (n, k) :: r, x, h => by
    have ih := @relabel_free env r x
    rw [List.map_cons]
    cases hx : x == n with
    | true =>
      simp only [List.lookup_cons, hx] at h
      cases h
      by_cases hc : (NameKind.free == NameKind.free && env.scope.kind == .function && env.kindOf n == some .cell) = true
      · refine .inl ?_
        simp only [hc, if_true, List.lookup_cons, hx]
      · refine .inr ?_
        simp only [if_neg hc, List.lookup_cons, hx]
    | false =>
      simp only [List.lookup_cons, hx] at h
      by_cases hc : (k == NameKind.free && env.scope.kind == .function && env.kindOf n == some .cell) = true
      · simp only [hc, if_true, List.lookup_cons, hx]; exact ih h
      · simp only [if_neg hc, List.lookup_cons, hx]; exact ih h
theorem relabel_back {env : Env} : ∀ {names : List (Str × NameKind)} {x : Str}, (∀ p ∈ names, p.2 ≠ .cell) →
    ((names.map fun (n, k) => if (k == NameKind.free && env.scope.kind == .function && env.kindOf n == some .cell) then (n, NameKind.cell) else (n, k)).lookup x = some .cell ∨
    (names.map fun (n, k) => if (k == NameKind.free && env.scope.kind == .function && env.kindOf n == some .cell) then (n, NameKind.cell) else (n, k)).lookup x = some .free) → (x, NameKind.free) ∈ names
  | [], _, _, h => by simp at h
  | (n, k) :: r, x, hn, h => by
    have ih := @relabel_back env r x fun p hp => hn p (List.mem_cons_of_mem _ hp)
    rw [List.map_cons] at h
    cases hx : x == n with
    | true =>
      have e : x = n := by simpa using hx
      subst e
      have hk := hn (x, k) List.mem_cons_self
      by_cases hc : (k == NameKind.free && env.scope.kind == .function && env.kindOf x == some .cell) = true
      · have : k = .free := by
          simp only [Bool.and_eq_true] at hc
          simpa using hc.1.1
        rw [this]; exact List.mem_cons_self
      · simp only [if_neg hc, List.lookup_cons, hx] at h
        rcases h with h | h
        · exact absurd (Option.some.inj h) hk
        · rw [Option.some.inj h]; exact List.mem_cons_self
    | false =>
      by_cases hc : (k == NameKind.free && env.scope.kind == .function && env.kindOf n == some .cell) = true
      · simp only [hc, if_true, List.lookup_cons, hx] at h; exact List.mem_cons_of_mem _ (ih h)
      · simp only [if_neg hc, List.lookup_cons, hx] at h; exact List.mem_cons_of_mem _ (ih h)
end L2

namespace PySem
open Sem (wp)
/-! ### list(reversed(xs)) -/
section
variable {prog : Program} {w : World} {A : Around} {E : Value → Shared → Prop} {R : Result → Shared → Prop} {s : Shared}
variable {I : Addr} {fp wr : List Addr} {G : Array GenState → Array GenState → Prop} {n : Nat} {P : Nat → Value → Prop} {St : Nat → Shared → Prop}
theorem L2_nolen_lri : typeLookup (.type "list_reverseiterator") "__len__" = pure none := by rw [typeLookup_type, builtinLookup_eq_fast]; kernel_rfl
theorem L2_hint_lri : typeLookup (.type "list_reverseiterator") "__length_hint__" = pure (some (.builtin "list_reverseiterator.__length_hint__")) := by rw [typeLookup_type, builtinLookup_eq_fast]; kernel_rfl
set_option maxRecDepth 100000 in
theorem L2_extend_rev (W : WalksS prog w A.in1 I fp wr G n P St) (hT : ∀ i s, St i s → s.TypeIs (.ref I) "list_reverseiterator") (S : Addr) (res : Value) (hst : St 0 s) (hSf : S ∉ fp) (hI : I ∈ fp)
    {c : Nat} (hS : s.heap.get? S = some { cls := .type "list", dict := none, data := .seq #[] c, slots := #[] })
    (hR : ∀ s' acc' c', Moved (S :: wr) G s s' → s'.heap.get? S = some { cls := .type "list", dict := none, data := .seq acc' c', slots := #[] } → ItemsOf P acc' n → R (.ok (.ret res)) s') (hn : n ≤ sizeLine := by size_fits) :
    wpAny (model prog w) A.in1 (Builtin.List.listExtendWith (.ref S) (.ref I) res)
      (fun fin s' => match fin with | .done f => R (.ok f) s' | .again c' => c'.quiet = true ∧ codeAny (model prog w) A c' R s') (fun e s' => R (.error e) s') s := by
  have hSI : S ≠ I := fun e => hSf (e ▸ hI)
  have h1 : Builtin.List.listSameRef (.ref S) (.ref I) = false := by simp [Builtin.List.listSameRef, hSI]
  unfold Builtin.List.listExtendWith
  refine wpAny_bind (wpAny_typeOf (hT 0 _ hst) ?_)
  rw [if_neg (by rw [h1]; decide)]
  refine wpAny_bind (W.self 0 _ _ _ hst ?_)
  refine wpAny_bind (wpAny_holding ?_)
  unfold Builtin.List.listLengthHint
  refine wpAny_bind (wpAny_specialOf (hT 0 _ hst) L2_nolen_lri ?_)
  show wpAny _ A.in1 (specialOf (Value.ref I) (Str.ofString "__length_hint__") >>= _) _ _ _
  refine wpAny_bind (wpAny_specialOf (hT 0 _ hst) L2_hint_lri ?_)
  generalize hid : ("list_reverseiterator.__length_hint__" : String) = id0
  wp_delta
  rw [show splitId id0 = some ("list_reverseiterator", "__length_hint__") from by subst hid; decide +kernel]
  subst hid
  refine wpAny_bind (wpAny_isInstance (b := true) (hT 0 _ hst) (by rw [isSubtype_type]; kernel_rfl) ?_)
  refine wpAny_pure ?_
  rw [if_neg (by decide)]
  exact wpAny_pure ⟨plainId_quiet F.plain_extend_loop _, codeAny_extend_loopS W hn _ hSf _ n 0 _ _ _ rfl (Nat.zero_le _) hst hS (ItemsOf.nil P) fun s' acc' c' hm hS' hacc => hR s' acc' c' hm hS' hacc⟩
set_option maxRecDepth 100000 in
theorem L2_list_init_rev (W : WalksS prog w A.in1 I fp wr G n P St) (hT : ∀ i s, St i s → s.TypeIs (.ref I) "list_reverseiterator") (S : Addr) (hst : St 0 s) (hSf : S ∉ fp) (hI : I ∈ fp)
    (hS : s.heap.get? S = some { cls := .type "list", data := .seq #[] })
    (hR : ∀ s' acc' c', Moved (S :: wr) G s s' → s'.heap.get? S = some { cls := .type "list", dict := none, data := .seq acc' c', slots := #[] } → ItemsOf P acc' n → R (.ok (.ret .none)) s') (hn : n ≤ sizeLine := by size_fits) :
    wpAny (model prog w) A.in1 (Builtin.«list.__init__» ⟨[.ref S, .ref I], []⟩)
      (fun fin s' => match fin with | .done f => R (.ok f) s' | .again c' => c'.quiet = true ∧ codeAny (model prog w) A c' R s') (fun e s' => R (.error e) s') s := by
  show wpAny _ A.in1 (do let old ← Builtin.List.listItems (.ref S); Builtin.List.listUpdate (.ref S) (fun _ => #[]); letGo old.toList.reverse; Builtin.List.listExtendWith (.ref S) (.ref I) .none) _ _ s
  refine wpAny_bind ?_
  unfold Builtin.List.listItems
  refine wpAny_bind (wpAny_seqItems hS rfl (wpAny_pure ?_))
  show wpAny _ A.in1 (updateSeq S (fun _ => #[]) >>= fun _ => letGo (#[] : Array Value).toList.reverse >>= fun _ => Builtin.List.listExtendWith (.ref S) (.ref I) .none) _ _ s
  refine wpAny_bind (wpAny_updateSeq hS rfl ?_)
  have hS₂ := Heap.get?_update_self (Obj.mapSeq (fun _ => (#[] : Array Value))) hS rfl
  have oth : ∀ b o, b ≠ S → s.heap.get? b = some o → (s.heap.update S (Obj.mapSeq (fun _ => (#[] : Array Value)))).get? b = some o :=
    fun b o hb e => (Heap.get?_update_other _ _ (Ne.symm hb)).trans e
  refine wpAny_bind (wpAny_letGo ?_)
  refine L2_extend_rev (hn := hn) W hT S .none (W.frame 0 s _ s.toks hst (Nat.le_refl _) fun b hb o e => oth b o (fun h => hSf (h ▸ hb)) e) hSf hI hS₂ fun s' acc' c' hm hS' hacc => ?_
  exact hR s' acc' c' (Moved.trans W.gtrans ((Moved.refl W.grefl).then_heap (Nat.le_refl _) fun b o hb e => oth b o (fun h => hb (h ▸ List.mem_cons_self)) e) hm) hS' hacc
theorem L2_call_list_rev {Q : Value → Shared → Prop} (W : WalksS prog w A.in1.in1 I fp wr G n P St) (hT : ∀ i s, St i s → s.TypeIs (.ref I) "list_reverseiterator") (hst : St 0 s) (hfp : ∀ b ∈ fp, b < s.heap.objs.size) (hI : I ∈ fp)
    (hQ : ∀ s' acc' c', Moved (s.heap.objs.size :: wr) G { s with heap := s.heap.push { cls := .type "list", data := .seq #[] } } s' →
      s'.heap.get? s.heap.objs.size = some { cls := .type "list", dict := none, data := .seq acc' c', slots := #[] } → ItemsOf P acc' n → Q (.ref s.heap.objs.size) s') (hn : n ≤ sizeLine := by size_fits) :
    wpAny (model prog w) A (call (.type "list") [.ref I]) Q E s := by
  have hSf : s.heap.objs.size ∉ fp := fun hm => Nat.lt_irrefl _ (hfp _ hm)
  refine callType_codes (Q₁ := fun obj s₁ => obj = .ref s.heap.objs.size ∧ s₁ = { s with heap := s.heap.push { cls := .type "list", data := .seq #[] } }) F.called_list (F.typeCall_list_1 _) F.entry_list_init
    (code_list_new _ ⟨rfl, rfl⟩) fun obj s₁ h₁ => ?_
  obtain ⟨rfl, rfl⟩ := h₁
  have hS : (s.heap.push { cls := .type "list", data := .seq #[] }).get? s.heap.objs.size = some { cls := .type "list", data := .seq #[] } := Heap.get?_push_size _ rfl
  refine ⟨⟨_, hS, rfl⟩, F.args_list_init_2 _ _, L2_list_init_rev (hn := hn) W hT _ (W.frame 0 s _ s.toks hst (Nat.le_refl _) fun b _ o e => Heap.get?_push_of_some _ e) hSf hI hS fun s' acc' c' hm hS' hacc => ?_⟩
  exact ⟨rfl, hQ s' acc' c' hm hS' hacc⟩
end
end PySem

namespace L2
open PySem PySem.Spec PyProof.Rows

/-! ### list comprehensions -/
def cxComp (X : Cx) (N' : List Str) (scope : Scope) (C : Addr) (s : Shared) (H : Hp) (fp : List Addr) : Cx :=
  { X with N := N', s₀ := s, H₀ := H, env := compEnvC scope (clOf X.env.cells scope.names []) C X.env, outer := X.stack, stack := X.stack, ex := fp, fn := fun _ => false, pn := [], xe := fun _ _ => False }

/-- the tests of a comprehension -/
def PIfs (X : Cx) (ifs : List Expr) (t : TT) : Prop :=
  ∀ (pins : List (Addr × Obj)) (s : Shared) (σ : St) (H : Hp) (Q : Bool → Hp → Prop), Inv X pins σ H s → t σ H Q →
    wpAny (model X.prog X.w) X.A (forIn ifs true fun c r => if r = true then do let ok ← isTrue c X.env (eval c X.env); pure (ForInStep.yield ok) else pure (ForInStep.yield r)) (TP X pins σ Q) X.xe s
def tYes : TT := fun _ H Q => Q true H
theorem yes_i {σ : St} {H : Hp} {Q : Bool → Hp → Prop} (h : Q true H) : tYes σ H Q := h
theorem pifs_nil {X : Cx} : PIfs X [] tYes := fun _ _ _ H _ I h => wpAny_tests_nil ⟨H, I, h⟩
theorem pifs_one {X : Cx} {c : Expr} {t : TT} (h : PT X c t) : PIfs X [c] t := fun pins s σ H Q I hw => wpAny_tests_one (h pins s σ H Q I hw)

/-- the loop of a comprehension, the new list at p -/
def CompW (p : Addr) (J : It) (g : TG) (tst : TT) (te : TE) (Q : Hp → Prop) (σ : St) (H : Hp) : Prop :=
  ∃ W : Nat → Nat → List V → St → Hp → Prop, (∃ m, W 0 m [] σ H) ∧ ∀ i m acc σ' H', W i m acc σ' H' →
    (J.stop i H' ∧ Q H') ∨ (J.go i H' ∧ ∃ N : List V → St → Hp → Prop, (∀ acc σ H, N acc σ H → ∃ m', m' < m ∧ W (i + 1) m' acc σ H) ∧ ∀ x H2, J.yld i H' x H2 → g x σ' H2 fun σ3 H3 => tst σ3 H3 fun b H4 =>
      if b = true then te σ3 H4 fun v H5 => ∃ ac, H5 p = some (.lst ac) ∧ ac.length < sizeLine ∧ N (ac ++ [v]) σ3 (upd H5 p (.lst (ac ++ [v])))
      else N acc σ3 H4)
def tComp (mp : List (Option Nat)) (wi : TI) (g : TG) (tst : TT) (te : TE) : TE := fun σ H Q => wi σ H fun J H1 => ∀ p, H1 p = none →
  CompW p J g tst te (fun H' => Q (.ref p) H') (subS mp σ) (upd H1 p (.lst []))

section
variable {X : Cx} {N' : List Str} {mp : List (Option Nat)} {elt tg iter : Expr} {ifs : List Expr} {scope : Scope} {pos : Pos} {wi : TI} {g : TG} {tst : TT} {te : TE}

theorem Inv.comp0 {pins : List (Addr × Obj)} {σ : St} {H : Hp} {s : Shared} {fp : List Addr} {tn : Heap → Prop} {h₁ : Heap} {tk : Nat} {C : Addr} (ok : CompOk X.N X.env.scope.names scope.names N' mp) (hk : scope.kind = .function)
    (I : Inv X pins σ H s) (hf : ∀ b ∈ fp, FpOk X pins H b) (hob : ∀ b ∈ fp, ∃ o, s.heap.get? b = some o) (hC : C = s.heap.objs.size + 1)
    (hns : ∃ m, h₁.Ns C m) (keep : ∀ b o, s.heap.get? b = some o → h₁.get? b = some o) (hacc : ∃ n, h₁.get? s.heap.objs.size = some { cls := .type "list", data := .seq #[] n }) :
    Inv (cxComp X N' scope C s H fp) [] (subS mp σ) (upd H s.heap.objs.size (.lst [])) { s with heap := h₁, toks := tk } := by
  subst hC
  have hcl : ∀ x ∈ scope.names, x.2 = .free → ∃ c, X.env.cells.lookup x.1 = some c := fun x hx e => I.ok.has x.1 (ok.free x hx e)
  have sub : ∀ x c, (clOf X.env.cells scope.names []).lookup x = some c → X.env.cells.lookup x = some c := clOf_sub hcl (fun x c e => by simp at e)
  have hlt : ∀ b ∈ fp, b < s.heap.objs.size := fun b hb => let ⟨_, e⟩ := hob b hb; Heap.lt_size e
  have hnC : H (s.heap.objs.size + 1) = none := I.hok.fresh (Nat.le_succ _)
  have hnp : H s.heap.objs.size = none := I.hok.fresh (Nat.le_refl _)
  have fpfs : ∀ b ∈ fp, b ∉ frs X.stack := fun b hb z => by
    obtain ⟨_, f1, f2, _⟩ := hf b hb
    rcases List.mem_cons.mp (I.stkSub b z) with e | e
    · exact f1 e
    · exact f2 e
  refine ⟨⟨I.ok.mod, hk, I.ok.glob, I.ok.blt, Nat.le_succ _, fun x y c e1 e2 => I.ok.inj x y c (sub x c e1) (sub y c e2), fun x e => ?_, fun x c e => (nomatch e), I.ok.hd, I.ok.frames, .inl rfl, fun b hb => ⟨?_, fun x c e => ?_⟩, I.bs, Nat.le_trans I.ok.bsz I.sz, fun b o e hb => ?_, fpfs, I.stack, I.stkFree⟩,
    rfl, I.bare, Un.laid keep (Nat.le_refl _) hnp, ?_, fun x c e => ?_, ?_, fun x c e => ?_, fun p hp => (nomatch hp), I.hok.laid keep (Nat.le_refl _) ?_, ?_⟩
  · exact clOf_has (relabel_back ok.nocell e)
  · exact Nat.ne_of_lt (Nat.lt_succ_of_lt (hlt b hb))
  · exact (hf b hb).2.2.2.2.1 x c (sub x c e)
  · rcases (hf b hb).2.2.2.1 with z | z
    · exact I.ok.noex b o e z
    · exact absurd (Nat.lt_of_lt_of_le (Heap.lt_size e) (Nat.le_trans I.ok.bsz z)) (Nat.lt_irrefl _)
  · obtain ⟨m, hm⟩ := hns
    refine ⟨m, hm, fun i x v e1 e2 e3 => ?_⟩
    have e2' : (subS mp σ)[i]? = some (some v) := e2
    unfold subS at e2'
    rw [List.getElem?_map] at e2'
    cases hmp : mp[i]? with
    | none => rw [hmp] at e2'; cases e2'
    | some o =>
      rw [hmp] at e2'
      cases o with
      | none => cases e2'
      | some j =>
        have e4 : σ[j]? = some (some v) := by
          have q : (σ[j]?).join = some v := Option.some.inj e2'
          cases hj : σ[j]? with
          | none => rw [hj] at q; cases q
          | some y => rw [hj] at q; exact congrArg some q
        obtain ⟨a1, a2, a3, a4⟩ := ok.map i j x hmp e1
        obtain ⟨m0, hn0, hl0⟩ := I.loc
        obtain ⟨u, r, l⟩ := hl0 j x v a1 e4 (a2.elim (fun z => .inr (.inl z)) fun z => .inr (.inr z))
        refine ⟨u, r, .inr ⟨?_, ?_⟩⟩
        · exact relabel_free a4
        · rcases l with ⟨l1, _⟩ | ⟨_, c, l2, l3⟩
          · have l1 : X.env.scope.names.lookup x = some .local := l1
            rcases a2 with a2 | a2 <;> rw [a2] at l1 <;> cases l1
          · obtain ⟨c', hc'⟩ : ∃ c', (clOf X.env.cells scope.names []).lookup x = some c' := clOf_has a3
            have : c' = c := Option.some.inj ((sub x c' hc').symm.trans l2)
            subst this
            exact ⟨c', hc', l3.keeps keep⟩
  · obtain ⟨v, z⟩ := I.cell x c (sub x c e)
    exact ⟨v, z.keeps keep⟩
  · show upd H s.heap.objs.size (.lst []) (s.heap.objs.size + 1) = none
    rw [upd_ne (Nat.succ_ne_self _)]; exact hnC
  · obtain ⟨v, z⟩ := I.cell x c (sub x c e)
    show upd H s.heap.objs.size (.lst []) c = none
    rw [upd_ne (Nat.ne_of_lt z.lt)]; exact I.freeC x c (sub x c e)
  · obtain ⟨n, e⟩ := hacc
    exact ⟨Nat.zero_le _, [], n, .nil, e⟩
  · show (subS mp σ).length = N'.length
    unfold subS
    rw [List.length_map, ok.len]

/-- the block of a comprehension, from its iterator on: the state behind it, for any end R -/
theorem comp_run {pins : List (Addr × Obj)} {σ : St} {H : Hp} {s : Shared} {it : Addr} {fp : List Addr} {tn : Nat → Heap → Prop} {J : It} {Q : Addr → Hp → Prop} {E : Value → Shared → Prop} {RR : Value → Addr → Result → Shared → Prop}
    (ok : CompOk X.N X.env.scope.names scope.names N' mp) (hk : scope.kind = .function) (hc : X.calm = true) (I : Inv X pins σ H s) (T : Turn X.prog X.w X.K tg J fp it tn) (st : tn 0 s.heap) (hf : ∀ b ∈ fp, FpOk X pins H b)
    (hg : ∀ C s H fp, PG (cxComp X N' scope C s H fp) tg g) (ht : ∀ C s H fp, PIfs (cxComp X N' scope C s H fp) ifs tst) (he : ∀ C s H fp, PE (cxComp X N' scope C s H fp) elt te)
    (h : ∀ p, H p = none → CompW p J g tst te (Q p) (subS mp σ) (upd H p (.lst [])))
    (hRR : ∀ C s' H', Inv X pins σ H' s' → (∃ m, s'.heap.Ns C m) → H' C = none → X.s₀.heap.objs.size ≤ C → C ≠ X.env.locals → (∀ x c, X.env.cells.lookup x = some c → c ≠ C) → (∀ q ∈ X.pn ++ pins, q.1 ≠ C) → Q s.heap.objs.size H' → RR (.ref s.heap.objs.size) C (.ok .next) s') :
    wpAny (model X.prog X.w) X.A (newList []) (fun acc s₃ => wpAny (model X.prog X.w) X.A (newFunctionEnv scope X.env.globals (clOf X.env.cells scope.names []) [] X.env.qual none .none (some X.env)) (fun cenv s₄ =>
      codeAny (model X.prog X.w) X.A (.compStart (.ListComp elt [⟨tg, iter, ifs, 0⟩] scope pos) 0 (.ref it) acc { cenv with scope := relabel scope X.env }) (RR acc cenv.locals) s₄) E s₃) E s := by
  refine wpAny_newObj_type (wpAny_newFunctionEnv ok.nocell (by intro y hy; simp at hy) (fun h₁ hns₁ hsb₁ => ?_) hk)
  dsimp only at hns₁ hsb₁ ⊢
  generalize hH2 : s.heap.push { cls := .type "list", dict := none, data := .seq ([] : List Value).toArray } = H2 at hns₁ hsb₁ ⊢
  have hC : H2.objs.size = s.heap.objs.size + 1 := by rw [← hH2, Heap.size_push]
  have keep : ∀ b o, s.heap.get? b = some o → h₁.get? b = some o := fun b o e =>
    hsb₁.extBut b o (by rw [hC]; exact Nat.ne_of_lt (Nat.lt_succ_of_lt (Heap.lt_size e))) (Heap.get?_push_of_some _ (hH2 ▸ Heap.get?_push_of_some _ e))
  have hacc : ∃ n, h₁.get? s.heap.objs.size = some { cls := .type "list", data := .seq #[] n } :=
    ⟨_, hsb₁.extBut _ _ (by rw [hC]; exact Nat.ne_of_lt (Nat.lt_succ_self _)) (Heap.get?_push_of_some _ (hH2 ▸ Heap.get?_push_size _ rfl))⟩
  have hob : ∀ b ∈ fp, ∃ o, s.heap.get? b = some o := fun b hb => let ⟨o, e, _⟩ := T.obj _ _ st b hb; ⟨o, e⟩
  have hltC : s.heap.objs.size ≤ H2.objs.size := by rw [hC]; exact Nat.le_succ _
  have I0 := I.comp0 (tn := tn 0) (C := H2.objs.size) (tk := s.toks + ([] : List (Str × Value)).length) ok hk hf hob hC ⟨_, hns₁⟩ keep hacc
  have st0 : tn 0 h₁ := T.keep _ _ _ st fun b hb o e => keep b o e
  obtain ⟨W, ⟨m0, w0⟩, turn⟩ := h _ (I.hok.fresh (Nat.le_refl _))
  have fpfs : ∀ b ∈ fp, b ∉ frs X.stack := I0.ok.exfs
  have stat : ∀ {H' : Hp}, (∀ b ∈ fp, H' b = none) → ∀ b ∈ fp, FpOk (cxComp X N' scope H2.objs.size s H fp) [] H' b := fun hn b hb =>
    ⟨hn b hb, (I0.ok.exf b hb).1, fpfs b hb, .inl hb, (I0.ok.exf b hb).2, fun q hq => (nomatch hq)⟩
  have loop : ∀ s₃ : Shared, s₃ = { s with heap := h₁, toks := s.toks + ([] : List (Str × Value)).length } →
      codeAny (model X.prog X.w) X.A (.compLoop (.ListComp elt [⟨tg, iter, ifs, 0⟩] scope pos) 0 (.ref it) (.ref s.heap.objs.size) (compEnvC scope (clOf X.env.cells scope.names []) H2.objs.size X.env)) (RR (.ref s.heap.objs.size) H2.objs.size) s₃ := by
    rintro s₃ rfl
    refine L2_compLoop (fun n s' => ∃ i acc σ' H', Inv (cxComp X N' scope H2.objs.size s H fp) [] σ' H' s' ∧ tn i s'.heap ∧ (∀ b ∈ fp, H' b = none) ∧ W i n acc σ' H') ?_ m0
      ⟨0, [], _, _, I0, st0, fun b hb => by rw [upd_ne (Nat.ne_of_lt (let ⟨_, e⟩ := hob b hb; Heap.lt_size e))]; exact (hf b hb).1, w0⟩
    rintro n s3 ⟨i, acc, σ3, H3, I3, st3, fr3, w3⟩
    rcases turn i n acc σ3 H3 w3 with ⟨stop, qn⟩ | ⟨go, N, hN, step⟩
    · refine thn (T.done (cxComp X N' scope H2.objs.size s H fp) rfl rfl rfl hc i [] s3 σ3 H3 _ I3 (stat fr3) st3 stop) fun r s4 ⟨hr, I4⟩ => ?_
      subst hr
      refine hRR _ s4 H3 ?_ (let ⟨m, hm, _⟩ := I4.loc; ⟨m, hm⟩) I4.free (Nat.le_trans I.sz hltC) (Nat.ne_of_gt (Nat.lt_of_lt_of_le I.lt hltC)) (fun x c e => ?_) (fun q hq => ?_) qn
      · exact I.call' I4.os I4.base I4.hok I4.bare fun b hb => let ⟨_, f1, _, f3, f4, f5⟩ := hf b hb; ⟨f3, f1, f4, f5⟩
      · obtain ⟨v, z⟩ := I.cell x c e
        exact Nat.ne_of_lt (Nat.lt_of_lt_of_le z.lt hltC)
      · exact Nat.ne_of_lt (Nat.lt_of_lt_of_le (Heap.lt_size (I.pin q hq).1) hltC)
    · refine thn (T.item (cxComp X N' scope H2.objs.size s H fp) rfl rfl rfl hc i [] s3 σ3 H3 _ I3 (stat fr3) st3 go) fun r s4 ⟨u, hr, h4⟩ => ?_
      subst hr
      refine thn h4 fun _ s5 ⟨x, H5, I5, r5, y5, st5, fr5⟩ => ?_
      have I5' := I5.pinned (stat fr5) (T.obj _ _ st5)
      refine thn (hg _ _ _ _ _ s5 σ3 H5 x u _ I5' r5 (step x H5 y5)) fun _ s6 ⟨σ6, H6, I6, q6⟩ => ?_
      refine thn (ht _ _ _ _ _ s6 σ6 H6 _ I6 q6) fun b s7 ⟨H7, I7, q7⟩ => ?_
      have again : ∀ {σ8 : St} {H8 : Hp} {acc8 : List V} {s8 : Shared}, Inv (cxComp X N' scope H2.objs.size s H fp) ([] ++ pinsAt fp s5.heap) σ8 H8 s8 → (∃ m', m' < n ∧ W (i + 1) m' acc8 σ8 H8) →
          ∃ m, m < n ∧ ∃ i acc σ' H', Inv (cxComp X N' scope H2.objs.size s H fp) [] σ' H' s8 ∧ tn i s8.heap ∧ (∀ b ∈ fp, H' b = none) ∧ W i m acc σ' H' := fun {σ8 H8 acc8 s8} I8 hw => by
        obtain ⟨m', hm, w8⟩ := hw
        refine ⟨m', hm, i + 1, acc8, σ8, H8, I8.unpinned, T.keep _ _ _ st5 fun b hb o e => (I8.pin (b, o) (List.mem_append_right _ (List.mem_append_right _ (mem_pinsAt hb e)))).1, fun b hb => ?_, w8⟩
        obtain ⟨o, e, d⟩ := T.obj _ _ st5 b hb
        exact (I8.pin (b, o) (List.mem_append_right _ (List.mem_append_right _ (mem_pinsAt hb e)))).2.1
      cases b with
      | false =>
        rw [if_neg Bool.false_ne_true]
        rw [if_neg Bool.false_ne_true] at q7
        exact again I7 (hN _ _ _ q7)
      | true =>
        rw [if_pos rfl]
        rw [if_pos rfl] at q7
        refine thn (he _ _ _ _ _ s7 σ6 H7 _ I7 q7) fun y s8 ⟨v, H8, I8, r8, ac, e8, z8, w8⟩ => ?_
        refine thn (mt_append (X := cxComp X N' scope H2.objs.size s H fp) _ s8 σ6 H8 (.ref s.heap.objs.size) [v] (.ref s.heap.objs.size) [y] (fun _ H9 => H9 = upd H8 s.heap.objs.size (.lst (ac ++ [v]))) I8 rfl (.cons r8 .nil) ⟨_, ac, v, rfl, rfl, e8, z8, rfl⟩) fun _ s9 ⟨_, H9, I9, _, e9⟩ => ?_
        subst e9
        exact again I9 (hN _ _ _ w8)
  exact codeAny_compStart_list (loop _ rfl) (T.self _ 0 _ _ _ st0 (loop _ rfl))

theorem Inv.letgo {pins : List (Addr × Obj)} {σ : St} {H : Hp} {s : Shared} {C : Addr} {h' : Heap} (I : Inv X pins σ H s) (hn : H C = none) (h1 : X.s₀.heap.objs.size ≤ C) (hL : C ≠ X.env.locals) (h2 : ∀ x c, X.env.cells.lookup x = some c → c ≠ C)
    (h3 : ∀ q ∈ X.pn ++ pins, q.1 ≠ C) (hs : Heap.SameBut C s.heap h') : Inv X pins σ H { s with heap := h' } :=
  I.turned (t' := s.toks) (fun b o hb e => (hs.2 b hb).trans e) hn hL (.inr h1) h2 h3

theorem pe_comp (hc : X.calm = true) (hi : PI X tg iter wi) (hg : ∀ C s H fp, PG (cxComp X N' scope C s H fp) tg g) (ht : ∀ C s H fp, PIfs (cxComp X N' scope C s H fp) ifs tst) (he : ∀ C s H fp, PE (cxComp X N' scope C s H fp) elt te)
    (ok : CompOk X.N X.env.scope.names scope.names N' mp) (hk : scope.kind = .function := by rfl) (hs : ∀ x, foldedSetIterable iter X.env x = pure x := by intro _; rfl) :
    PE X (.ListComp elt [⟨tg, iter, ifs, 0⟩] scope pos) (tComp mp wi g tst te) := by
  intro pins s σ H Q I h
  rw [eval_ListComp]
  refine wpAny_comprehension_free (use := none) rfl hs (closureFor_of fun x hx e => I.ok.has x.1 (ok.free x hx e)) hk ok.loc (thn (hi pins s σ H _ I h) fun v s1 h1 => thn h1 fun itv s2 h2 => ?_)
  obtain ⟨it, fp, tn, J, H2, e, I2, T, st2, f2, hw⟩ := h2
  subst e
  refine comp_run (Q := fun p H' => Q (.ref p) H') (RR := fun acc C => compPost (model X.prog X.w) X.A X.xe none (EP X pins σ Q) acc C) ok hk hc I2 T st2 f2 hg ht he hw ?_
  intro C s' H' I' hns hn h1 hL hcl hpin q
  obtain ⟨m, hm⟩ := hns
  exact ⟨m, hm, fun h' hs' => ⟨.ref s2.heap.objs.size, H', I'.letgo hn h1 hL hcl hpin hs', rfl, q⟩⟩

/-- name = [..], the name a local one -/
theorem ps_setC {i : Nat} {y : Str} {py spos : Pos} (hc : X.calm = true) (hN : X.N.Nodup) (hi' : X.N[i]? = some y) (hy : X.env.scope.names.lookup y = some .local)
    (hi : PI X tg iter wi) (hg : ∀ C s H fp, PG (cxComp X N' scope C s H fp) tg g) (ht : ∀ C s H fp, PIfs (cxComp X N' scope C s H fp) ifs tst) (he : ∀ C s H fp, PE (cxComp X N' scope C s H fp) elt te)
    (ok : CompOk X.N X.env.scope.names scope.names N' mp) (hsw : swapsWith (.ListComp elt [⟨tg, iter, ifs, 0⟩] scope pos) (some (.Name y py)) spos.line X.env = pure true := by rfl)
    (hk : scope.kind = .function := by rfl) (hs : ∀ x, foldedSetIterable iter X.env x = pure x := by intro _; rfl) :
    PS X (.Assign [.Name y py] (.ListComp elt [⟨tg, iter, ifs, 0⟩] scope pos) spos) (tAsg (tComp mp wi g tst te) (gName i)) := by
  intro pins s σ H D I h
  rw [exec_Assign_Name_used _ _ _ _ hsw]
  refine wpAny_bind (wpAny_standAt (wpAny_bind ?_))
  show wpAny _ _ (do let _ ← comprehension (.ListComp elt [⟨tg, iter, ifs, 0⟩] scope pos) scope X.env _ (newList []) false (eval iter X.env) (some (assign (.Name y py) X.env))) _ _ s
  refine wpAny_bind (wpAny_mono (wpAny_comprehension_free (use := some (assign (.Name y py) X.env)) (Q := fun _ s' => SP X pins D .next s') rfl hs (closureFor_of fun x hx e => I.ok.has x.1 (ok.free x hx e)) hk ok.loc
    (thn (hi pins s σ H _ I h) fun v s1 h1 => thn h1 fun itv s2 h2 => ?_)) (fun _ s' hq => wpAny_pure (wpAny_pure hq)) fun _ _ e => e)
  obtain ⟨it, fp, tn, J, H2, e, I2, T, st2, f2, hw⟩ := h2
  subst e
  refine comp_run (Q := fun p H' => D.nx (σ.set i (some (.ref p))) H') (RR := fun acc C => compPost (model X.prog X.w) X.A X.xe (some (assign (.Name y py) X.env)) (fun _ s' => SP X pins D .next s') acc C) ok hk hc I2 T st2 f2 hg ht he hw ?_
  intro C s' H' I' hns hn h1 hL hcl hpin q
  obtain ⟨m, hm⟩ := hns
  show wpAny _ _ (assign (.Name y py) X.env (.ref s2.heap.objs.size)) _ _ s'
  refine wpAny_assign_Name (store_ok2 I' hN hi' (.inl hy) (v := .ref s2.heap.objs.size) rfl (fun s'' I'' hch => ?_) (.inr hy))
  obtain ⟨a, hsb, ha⟩ := hch
  have hCa : C ≠ a := by
    rcases ha with rfl | ha
    · exact hL
    · exact (hcl _ _ ha).symm
  refine ⟨m, hm.sameBut hsb hCa, fun h' hs' => ?_⟩
  exact ⟨_, H', I''.letgo hn h1 hL hcl hpin hs', q⟩
end

/-! ### the forms one uses -/
section
variable {K : PySem.W.Frag} {a p : Addr} {xs : List V} {g : TG} {tst : TT} {te : TE} {Q : Hp → Prop} {σ : St} {H : Hp}
/-- a walk over xs that the block leaves alone -/
theorem comp_of {J : It} (n : Nat) (Pv : Nat → List V → St → Hp → Prop) (h0 : Pv 0 [] σ H)
    (hgo : ∀ i acc σ H, i < n → Pv i acc σ H → J.go i H) (hstop : ∀ acc σ H, Pv n acc σ H → J.stop n H ∧ Q H)
    (hs : ∀ i x acc σ H H2, i < n → Pv i acc σ H → J.yld i H x H2 → g x σ H2 fun σ3 H3 => tst σ3 H3 fun b H4 =>
      if b = true then te σ3 H4 fun v H5 => ∃ ac, H5 p = some (.lst ac) ∧ ac.length < sizeLine ∧ Pv (i + 1) (ac ++ [v]) σ3 (upd H5 p (.lst (ac ++ [v]))) else Pv (i + 1) acc σ3 H4) :
    CompW p J g tst te Q σ H := by
  refine ⟨fun i m acc σ H => m = n - i ∧ i ≤ n ∧ Pv i acc σ H, ⟨n, by simp, Nat.zero_le _, h0⟩, ?_⟩
  rintro i m acc σ H ⟨rfl, hi, pv⟩
  by_cases hlt : i < n
  · exact .inr ⟨hgo i acc σ H hlt pv, Pv (i + 1), fun acc σ H q => ⟨n - (i + 1), by omega, rfl, hlt, q⟩, fun x H2 y => hs i x acc σ H H2 hlt pv y⟩
  · have e : i = n := by omega
    subst e
    exact .inl (hstop acc σ H pv)
end
end L2

namespace L2
open PySem PySem.Spec PyProof.Rows
section
variable {X : Cx}
theorem op_le_str : OpR X (compareOp .LtE) (fun x y H Q => ∃ i j, x = .str i ∧ y = .str j ∧ Q (.bl (!decide (j.cps.toList < i.cps.toList))) H) := by
  intro pins s σ H x y v u Q I rx ry h
  obtain ⟨i, j, rfl, rfl, q⟩ := h
  obtain ⟨t, rfl⟩ := rx
  obtain ⟨t', rfl⟩ := ry
  exact PySem.P.le_str (fin_bl I q rfl)

/-- text[lo:hi] -/
def rSlS : V → Option Int → Option Int → Hp → VK → Prop := fun x lo hi H Q => ∃ z, x = .str z ∧ z.length ≤ sizeLine ∧ Q (.str (Txt.slice z lo hi)) H
theorem sl_str : SlR X rSlS := by
  intro pins s σ H x v vl vu lo hi sl Q I rx hs pl pu h
  obtain ⟨z, rfl, hz, q⟩ := h
  obtain ⟨t, rfl⟩ := rx
  refine ⟨"str", _, F.slot_str_getitem.lookup, typeIs_str _ _ _, ?_⟩
  have fin : ∀ t' k, EP X pins σ Q (.str (Txt.slice z lo hi) t') { s with toks := k } := fun t' k => ⟨.str _, H, I.tok _, ⟨_, rfl⟩, q⟩
  cases pl with
  | none =>
    cases pu with
    | none => exact wpAny_getItem_str_slice (l := none) (u := none) (st := none) hs rfl (post_val_or_str ⟨Nat.le_trans (Txt.slice_le z _ _) hz, fin⟩)
    | int j tj => exact wpAny_getItem_str_slice (l := none) (u := some (j, tj)) (st := none) hs rfl (post_val_or_str ⟨Nat.le_trans (Txt.slice_le z _ _) hz, fin⟩)
  | int i ti =>
    cases pu with
    | none => exact wpAny_getItem_str_slice (l := some (i, ti)) (u := none) (st := none) hs rfl (post_val_or_str ⟨Nat.le_trans (Txt.slice_le z _ _) hz, fin⟩)
    | int j tj => exact wpAny_getItem_str_slice (l := some (i, ti)) (u := some (j, tj)) (st := none) hs rfl (post_val_or_str ⟨Nat.le_trans (Txt.slice_le z _ _) hz, fin⟩)

/-- all(a list of bools) -/
theorem call_all (hc : X.calm = true) : CallR X (.builtin "all") (fun xs H Q => ∃ (p : Addr) (bs : List Bool), xs = [.ref p] ∧ SqL X.K H p (bs.map V.bl) ∧ Q (.bl (bs.all id)) H) := by
  intro pins s σ H xs us Q I r h
  obtain ⟨p, bs, rfl, hq, q⟩ := h
  obtain ⟨u, rfl, rx⟩ := vals1 r
  cases rx
  obtain ⟨its, r', pl, hz⟩ := I.list hq
  have hlen := r'.length
  rw [List.length_map] at hlen
  refine call_all_walk (wpAny_pyIter_list pl.isList ?_)
  have hne : p ≠ s.heap.objs.size := Nat.ne_of_lt (let ⟨_, ho, _⟩ := pl.isList; Heap.lt_size ho)
  refine ⟨s.heap.objs.size, _, _, _, _, _, fun i => bs.getD i true, rfl, Walks.list (show X.A.in1.handled = none from I.ok.hd hc) s.heap.objs.size p hne its.toArray, ?_, ?_, fun h' tk k => ?_⟩
  · exact ⟨⟨_, Heap.get?_push_size _ rfl, rfl, rfl⟩, pl.isList.at fun o e => Heap.get?_push_of_some _ e⟩
  · intro i v s' Q' E' hP hQ'
    have hv : its[i]? = some v := by simpa using hP
    have hi : i < bs.length := by rw [hlen]; exact (List.getElem?_eq_some_iff.mp hv).1
    obtain ⟨u, hu, ru⟩ := r'.get (i := i) (x := V.bl bs[i]) (by simp [hi])
    rw [hv] at hu
    cases hu
    cases (show v = Value.bool bs[i] from ru)
    refine wpAny_truthy_bool ?_
    have e : bs.getD i true = bs[i] := by simp [hi]
    have hQ2 : Q' (bs.getD i true) s' := hQ'
    rw [e] at hQ2
    exact hQ2
  · have e : (List.range its.toArray.size).all (fun i => bs.getD i true) = bs.all id := by
      rw [List.size_toArray, ← hlen]
      rw [Bool.eq_iff_iff, List.all_eq_true, List.all_eq_true]
      constructor
      · intro a x hx
        obtain ⟨i, hi, rfl⟩ := List.mem_iff_getElem.mp hx
        have := a i (List.mem_range.mpr hi)
        simpa [hi] using this
      · intro a i hi
        have hi := List.mem_range.mp hi
        have := a bs[i] (List.getElem_mem hi)
        simpa [hi] using this
    rw [e]
    exact ⟨.bl _, H, I.kept fun b o e => k b o (by
      intro hb
      have : b = s.heap.objs.size := by simpa using hb
      exact absurd (Heap.lt_size e) (by rw [this]; exact Nat.lt_irrefl _)) (Heap.get?_push_of_some _ e), rfl, q⟩

/-- sep.join(a list of texts) -/
theorem strsAre_of : ∀ {ys : List Str} {us : List Value}, Vals (ys.map V.str) us → StrsAre us ys
  | [], [], .nil => .nil
  | y :: ys, _ :: _, .cons r t => by
    obtain ⟨tk, rfl⟩ := r
    exact .cons y tk (strsAre_of t)
theorem mt_join : MtR X "str.join" (fun x xs H Q => ∃ z p ys, x = .str z ∧ xs = [.ref p] ∧ SqL X.K H p (ys.map V.str) ∧ (ys.map (·.length)).sum + ys.length * z.length ≤ 16777216 ∧ Q (.str (Txt.join z ys)) H) := by
  intro pins s σ H x xs v us Q I rx r h
  obtain ⟨z, p, ys, rfl, rfl, hq, hz, q⟩ := h
  obtain ⟨t, rfl⟩ := rx
  obtain ⟨u, rfl, ru⟩ := vals1 r
  cases ru
  obtain ⟨its, r', pl, _⟩ := I.list hq
  exact join_list pl.isList (strsAre_of (by simpa using r')) hz fun t' k => ⟨.str _, H, I.tok _, ⟨_, rfl⟩, q⟩

/-- a walk over a text -/
def Its (x : Str) : It := ⟨fun i _ => i < x.cps.size, fun i H v H' => H' = H ∧ ∃ c, x.cps[i]? = some c ∧ v = .str ⟨#[c]⟩, fun i _ => i = x.cps.size⟩
theorem turn_str {P : Program} {w : World} {K : PySem.W.Frag} {tg : Expr} (it : Addr) (x : Str) (t : Tok) (n : String) (hn : n = "str_ascii_iterator" ∨ n = "str_iterator") :
    Turn P w K tg (Its x) [it] it (fun i h => h.IsStrIter it n x t i) where
  mem := by simp
  obj := fun i h st b hb => by
    have e : b = it := by simpa using hb
    subst e
    obtain ⟨o, e, c, d⟩ := st
    exact ⟨o, e, fun v z => by rw [d] at z; cases z⟩
  keep := fun i h h' st k => let ⟨o, ho, r⟩ := st; ⟨o, k it (by simp) o ho, r⟩
  item := by
    intro X hP hw hK hc i pins s σ H E I hf st hg
    subst hP hw hK
    obtain ⟨f0, f1, f2, f3, f4, f5⟩ := hf it (by simp)
    have hg : i < x.cps.size := hg
    have W : Walks X.prog X.w X.A it [it] [it] x.cps.size (SignAt x) (fun i h => h.IsStrIter it n x t i) := by
      rcases hn with rfl | rfl
      · exact Walks.strAscii (I.ok.hd hc) it x t
      · exact Walks.strWide (I.ok.hd hc) it x t
    refine W.item i s _ _ hg st fun v h' tk hv st' kk => ?_
    obtain ⟨c, u, hcx, rfl⟩ := hv
    have I1 : Inv X pins σ H { s with heap := h', toks := tk } := I.turned (fun b o hb e => kk b o (by simpa using hb) e) f0 f1 f3 f4 f5
    obtain ⟨o, e, oc, od⟩ := id st'
    refine ⟨_, rfl, go_of (s := { s with heap := h', toks := tk }) (n := n) e oc od (by rcases hn with rfl | rfl <;> decide) ⟨.str ⟨#[c]⟩, H, I1, ⟨u, rfl⟩, ⟨rfl, c, hcx, rfl⟩, st', fun b hb => (hf b hb).1⟩⟩
  done := by
    intro X hP hw hK hc i pins s σ H E I hf st hg
    subst hP hw hK
    obtain ⟨f0, f1, f2, f3, f4, f5⟩ := hf it (by simp)
    have hg : i = x.cps.size := hg
    subst hg
    have W : Walks X.prog X.w X.A it [it] [it] x.cps.size (SignAt x) (fun i h => h.IsStrIter it n x t i) := by
      rcases hn with rfl | rfl
      · exact Walks.strAscii (I.ok.hd hc) it x t
      · exact Walks.strWide (I.ok.hd hc) it x t
    exact W.done s _ _ st fun h' tk kk => ⟨rfl, I.turned (t' := tk) (fun b o hb e => kk b o (by simpa using hb) e) f0 f1 f3 f4 f5⟩
  self := fun A i s Q E st h => by
    rcases hn with rfl | rfl
    · exact wpAny_pyIter_striter_ascii st h
    · exact wpAny_pyIter_striter_wide st h
def iStr (tl : TE) : TI := fun σ H R => tl σ H fun x H1 => ∃ z, x = .str z ∧ R (Its z) H1
theorem pi_str {tg l : Expr} {tl : TE} (hl : PE X l tl) : PI X tg l (iStr tl) := by
  intro pins s σ H R I h
  refine thn (hl pins s σ H _ I h) fun v s1 ⟨x, H1, I1, r1, q1⟩ => ?_
  obtain ⟨z, e, q⟩ := q1
  subst e
  obtain ⟨t, rfl⟩ := r1
  refine wpAny_pyIter_strU ?_
  refine ⟨s1.heap.objs.size, [s1.heap.objs.size], _, _, H1, rfl, I1.kept (t' := s1.toks) fun b o e => Heap.get?_push_of_some _ e, turn_str _ z t (strIterType z) (by unfold strIterType; split <;> simp), ⟨_, Heap.get?_push_size _ rfl, rfl, rfl⟩, fun b hb => ?_, q⟩
  have e : b = s1.heap.objs.size := by simpa using hb
  subst e
  exact I1.fpOk (Nat.le_refl _) (I1.hok.fresh (Nat.le_refl _))

/-- isinstance(x, T), T a built-in type by its name -/
def tIsi (K : PySem.W.Frag) (c : Value) (ta : TE) : TE := fun σ H Q => ta σ H fun x H1 => ∃ t b, TyOf K H1 x t ∧ PySem.W.kitOne K t c = some b ∧ Q (.bl b) H1
theorem pe_isi {e1 : Expr} {te : TE} {T : String} {x : Str} {p p2 pos : Pos} (hg : Gl X "isinstance") (hm : X.mg "isinstance" = none) (hg2 : Gl X x) (hm2 : X.mg x = none) (hv2 : bootBuiltins x = some (.type T)) (he : PE X e1 te)
    (hn2 : x ≠ "__name__" := by decide) (hd2 : (x == ("__debug__" : Str)) = false := by decide)
    (hs : starEach [e1, .Name x p2] X.env = (false, eval e1 X.env) :: starEach [.Name x p2] X.env := by rfl) (hs2 : starEach [.Name x p2] X.env = [(false, eval (.Name x p2) X.env)] := by rfl) (hpl : (backTo pos (starEach [.Name x p2] X.env)).any (·.1) = false := by rfl) :
    PE X (.Call (.Name "isinstance" p) [e1, .Name x p2] [] pos) (tIsi X.K (.type T) te) := by
  intro pins s σ H Q I h
  refine wpAny_Call_Name_kw (ld_blt I hg hm boot_isinstance ?_)
  refine PyProof.Rows.callWith_builtin1 ?_ hs hpl
  rw [hs]
  refine Calls.spliced_cons (thn (he pins s σ H _ I h) fun u s1 ⟨v, H1, I1, r1, q1⟩ => ?_)
  rw [hs2]
  refine Calls.spliced_cons (ld_blt I1 hg2 hm2 hv2 (Calls.spliced_nil ?_) hn2 hd2)
  obtain ⟨t, b, ty, ek, q⟩ := q1
  exact isinst_ok I1 r1 ty ek fun tk => ⟨.bl b, H1, I1.tok _, rfl, q⟩

/-- list(reversed(xs)) -/
def tRevL (K : PySem.W.Frag) (te : TE) : TE := fun σ H Q => te σ H fun x H1 => ∃ a xs, x = .ref a ∧ SqL K H1 a xs ∧ ∀ l, H1 l = none → Q (.ref l) (upd H1 l (.lst xs.reverse))
theorem pe_revL {e : Expr} {te : TE} {p p2 pos pos2 : Pos} (hc : X.calm = true) (hg : Gl X "list") (hm : X.mg "list" = none) (hg2 : Gl X "reversed") (hm2 : X.mg "reversed" = none) (he : PE X e te)
    (hs : starEach [.Call (.Name "reversed" p2) [e] [] pos2] X.env = [(false, eval (.Call (.Name "reversed" p2) [e] [] pos2) X.env)] := by rfl) (hs2 : starEach [e] X.env = [(false, eval e X.env)] := by rfl) :
    PE X (.Call (.Name "list" p) [.Call (.Name "reversed" p2) [e] [] pos2] [] pos) (tRevL X.K te) := by
  intro pins s σ H Q I h
  refine wpAny_Call_Name_kw (ld_blt I hg hm boot_list ?_)
  refine PyProof.Rows.callWith_type1 ?_ hs rfl
  rw [hs]
  refine Calls.spliced_cons ?_
  refine wpAny_Call_Name_kw (ld_blt I hg2 hm2 boot_reversed ?_)
  refine PyProof.Rows.callWith_type1 ?_ hs2 rfl
  rw [hs2]
  refine Calls.spliced_cons (thn (he pins s σ H _ I h) fun u s1 ⟨v, H1, I1, r1, q1⟩ => Calls.spliced_nil ?_)
  obtain ⟨a, xs, rfl, hq, q⟩ := q1
  cases r1
  obtain ⟨its, r', pl, hz⟩ := I1.list hq
  have hlen := r'.length
  refine call_reversed_list pl.isList (Calls.spliced_nil ?_)
  have hne : a ≠ s1.heap.objs.size := Nat.ne_of_lt (let ⟨_, ho, _⟩ := pl.isList; Heap.lt_size ho)
  have hpl : (s1.heap.push (revObj a ((its.toArray.size : Int) - 1))).IsList a its.toArray := pl.isList.at fun o e => Heap.get?_push_of_some _ e
  refine L2_call_list_rev (s := { s1 with heap := s1.heap.push (revObj a ((its.toArray.size : Int) - 1)) }) (Walks.listRev (show X.A.in1.in1.handled = none from I.ok.hd hc) s1.heap.objs.size a hne its.toArray).toS (fun i s st => st.2.1.typeIs) ?_ ?_ (by simp) (fun s' acc' c' mv hS hacc => ?_) (by rw [List.size_toArray, ← hlen]; exact hz)
  · refine ⟨Nat.zero_le _, ⟨_, Heap.get?_push_size _ rfl, rfl, ?_⟩, hpl⟩
    simp [revObj]
  · intro b hb
    rw [Heap.size_push]
    rcases List.mem_cons.mp hb with rfl | hb
    · exact Nat.lt_succ_self _
    · have : b = a := by simpa using hb
      subst this
      exact Nat.lt_succ_of_lt (let ⟨_, ho, _⟩ := pl.isList; Heap.lt_size ho)
  · have hsz : (s1.heap.push (revObj a ((its.toArray.size : Int) - 1))).objs.size = s1.heap.objs.size + 1 := Heap.size_push ..
    obtain ⟨h', g', d', t', o'⟩ := s'
    have eg : g' = s1.gens := mv.gens
    have ed : d' = s1.drawn := mv.drawn
    have eo : o' = s1.os := mv.os
    subst eg ed eo
    have keep : ∀ b o, s1.heap.get? b = some o → h'.get? b = some o := fun b o e => by
      have hb := Heap.lt_size e
      refine mv.heap b o (fun hm => ?_) (Heap.get?_push_of_some _ (Heap.get?_push_of_some _ e))
      rcases List.mem_cons.mp hm with z | z
      · have z : b = (s1.heap.push (revObj a ((its.toArray.size : Int) - 1))).objs.size := z
        rw [z, hsz] at hb
        exact absurd hb (Nat.not_lt.mpr (Nat.le_succ _))
      · have z : b = s1.heap.objs.size := by simpa using z
        rw [z] at hb
        exact absurd hb (Nat.lt_irrefl _)
    have ea : acc'.toList = its.reverse := by
      refine List.ext_getElem? fun j => ?_
      have hsz2 : acc'.toList.length = its.length := by have := hacc.1; simp at this ⊢; omega
      by_cases hj : j < its.length
      · have h1 : acc'[j]? = some (acc'[j]'(by have := hacc.1; simp at this; omega)) := Array.getElem?_eq_getElem _
        have h2 := hacc.2 j _ h1
        rw [List.getElem?_reverse hj]
        have h3 : its[its.length - 1 - j]? = some (acc'[j]'(by have := hacc.1; simp at this; omega)) := by simpa using h2
        rw [h3]
        simpa using h1
      · rw [List.getElem?_eq_none (by omega), List.getElem?_eq_none (by rw [List.length_reverse]; omega)]
    refine ⟨.ref (s1.heap.push (revObj a ((its.toArray.size : Int) - 1))).objs.size, upd H1 (s1.heap.push (revObj a ((its.toArray.size : Int) - 1))).objs.size (.lst xs.reverse),
      I1.laid (h' := h') (t' := t') keep (by omega) (show ObjOk X.prog X.w _ h' _ (.lst xs.reverse) from ⟨by rw [List.length_reverse]; exact hz, acc'.toList, c', by rw [ea]; exact r'.reverse, by simpa using hS⟩), rfl, q _ (I1.hok.fresh (by omega))⟩
end
end L2

namespace L2
open PySem PySem.Spec PyProof.Rows
/-! ### heaps but for two addresses -/
def Sd (d l : Addr) (H H' : Hp) : Prop := ∀ b o, b ≠ d → b ≠ l → H b = some o → H' b = some o
theorem Sd.refl {d l : Addr} {H : Hp} : Sd d l H H := fun _ _ _ _ h => h
theorem Sd.trans {d l : Addr} {H H1 H2 : Hp} (a : Sd d l H H1) (b : Sd d l H1 H2) : Sd d l H H2 := fun c o h1 h2 h => b c o h1 h2 (a c o h1 h2 h)
theorem Sd.of {d l : Addr} {H H' : Hp} (a : Same H H') : Sd d l H H' := fun b o _ _ h => a b o h
theorem Sd.updD {d l : Addr} {H : Hp} {o : HO} : Sd d l H (upd H d o) := fun b u h1 _ h => by rw [upd_ne h1]; exact h
theorem Sd.updL {d l : Addr} {H : Hp} {o : HO} : Sd d l H (upd H l o) := fun b u _ h2 h => by rw [upd_ne h2]; exact h
theorem Sd.new {d l p : Addr} {H : Hp} {o : HO} (hp : H p = none) : Sd d l H (upd H p o) := fun b u _ _ h => by rw [upd_ne (ne_of_none h hp)]; exact h
theorem same_new' {H : Hp} {p : Addr} (h : H p = none) (o : HO) : Same H (upd H p o) := fun b u q => by rw [upd_ne (ne_of_none q h)]; exact q
theorem Same.tup {K : PySem.W.Frag} {H H' : Hp} {a : Addr} {xs : List V} (e : Same H H') (h : SqT K H a xs) : SqT K H' a xs := by
  rcases h with (h | ⟨o, h⟩) | h
  · exact .inl (.inl (e _ _ h))
  · exact .inl (.inr ⟨o, e _ _ h⟩)
  · exact .inr h

/-! ### the deal of a law: a dict of three -/
def dkv (s n : Int) (l : Addr) : List (Key × V) := [(.inr "seed", .int s), (.inr "number", .int n), (.inr "left", .ref l)]
structure Deal (H : Hp) (d l : Addr) (s n : Int) (ns : List Int) : Prop where
  d : H d = some (.dK (dkv s n l))
  l : H l = some (.lst (ns.map V.int))
  s0 : 0 ≤ s
  s1 : s < 2147483647
  n0 : 0 ≤ n
  ns0 : ∀ x ∈ ns, 0 ≤ x
def IsDeal (H : Hp) (d l : Addr) : Prop := ∃ s n ns, Deal H d l s n ns
section
variable {H H' : Hp} {d l p : Addr} {s n : Int} {ns : List Int} {o : HO}
theorem Deal.ne (D : Deal H d l s n ns) : d ≠ l := ne_of D.d D.l (by intro z; cases z)
theorem Deal.seed (D : Deal H d l s n ns) : DGet H d (.str "seed") (some (.int s)) := DGet.k (k := .inr "seed") D.d
theorem Deal.num (D : Deal H d l s n ns) : DGet H d (.str "number") (some (.int n)) := DGet.k (k := .inr "number") D.d
theorem Deal.left (D : Deal H d l s n ns) : DGet H d (.str "left") (some (.ref l)) := DGet.k (k := .inr "left") D.d
theorem Deal.putS (D : Deal H d l s n ns) (v : Int) : DPut H d (.str "seed") (.int v) (upd H d (.dK (dkv v n l))) := DPut.k (k := .inr "seed") D.d (by show 3 < sizeLine; decide)
theorem Deal.putN (D : Deal H d l s n ns) (v : Int) : DPut H d (.str "number") (.int v) (upd H d (.dK (dkv s v l))) := DPut.k (k := .inr "number") D.d (by show 3 < sizeLine; decide)
theorem Deal.setS (D : Deal H d l s n ns) {v : Int} (h0 : 0 ≤ v) (h1 : v < 2147483647) : Deal (upd H d (.dK (dkv v n l))) d l v n ns :=
  ⟨upd_same, by rw [upd_ne D.ne.symm]; exact D.l, h0, h1, D.n0, D.ns0⟩
theorem Deal.setN (D : Deal H d l s n ns) {v : Int} (h0 : 0 ≤ v) : Deal (upd H d (.dK (dkv s v l))) d l s v ns :=
  ⟨upd_same, by rw [upd_ne D.ne.symm]; exact D.l, D.s0, D.s1, h0, D.ns0⟩
theorem Deal.setL (D : Deal H d l s n ns) {ms : List Int} (h : ∀ x ∈ ms, 0 ≤ x) : Deal (upd H l (.lst (ms.map V.int))) d l s n ms :=
  ⟨by rw [upd_ne D.ne]; exact D.d, upd_same, D.s0, D.s1, D.n0, h⟩
theorem Deal.keep (D : Deal H d l s n ns) (e : Same H H') : Deal H' d l s n ns := ⟨e _ _ D.d, e _ _ D.l, D.s0, D.s1, D.n0, D.ns0⟩
theorem IsDeal.keep (D : IsDeal H d l) (e : Same H H') : IsDeal H' d l := let ⟨s, n, ns, D⟩ := D; ⟨s, n, ns, D.keep e⟩
theorem IsDeal.new (D : IsDeal H d l) (hp : H p = none) : IsDeal (upd H p o) d l := D.keep (same_new' hp o)
theorem IsDeal.neD (D : IsDeal H d l) {xs : List V} (h : H p = some (.lst xs)) : p ≠ d := let ⟨_, _, _, D⟩ := D; ne_of h D.d (by intro z; cases z)
/-- a list of ours is another one than the deal's, where it was new -/
theorem IsDeal.neN (D : IsDeal H d l) (h : H p = none) : p ≠ d ∧ p ≠ l := let ⟨_, _, _, D⟩ := D; ⟨(ne_of_none D.d h).symm, (ne_of_none D.l h).symm⟩
theorem IsDeal.updP (D : IsDeal H d l) (h1 : p ≠ d) (h2 : p ≠ l) : IsDeal (upd H p o) d l := let ⟨s, n, ns, D⟩ := D
  ⟨s, n, ns, by rw [upd_ne h1.symm]; exact D.d, by rw [upd_ne h2.symm]; exact D.l, D.s0, D.s1, D.n0, D.ns0⟩
theorem Sd.updP {H0 : Hp} (S : Sd d l H0 H) (h : H0 p = none) : Sd d l H0 (upd H p o) := fun b u h1 h2 q => by rw [upd_ne (ne_of_none q h)]; exact S b u h1 h2 q
end
/-- one drawn number -/
def spDraw : Sp := fun vs H Q _ => ∃ (d l : Addr) (many : Int), vs = [.ref d, .int many] ∧ IsDeal H d l ∧ 0 < many ∧ many < 1073741824 ∧
  ∀ (r : Int) (H' : Hp), 0 ≤ r → r < many → IsDeal H' d l → Sd d l H H' → Q (.int r) H'
/-- a new deal -/
def spDeal (K : PySem.W.Frag) : Sp := fun vs H Q _ => ∃ (a : Addr) (ns : List Int), vs = [.ref a, .int 0] ∧ SqL K H a (ns.map V.int) ∧ ns.length ≤ 63 ∧
  ∀ (d l : Addr) (H' : Hp), Same H H' → IsDeal H' d l → H d = none → H l = none → Q (.ref d) H'
theorem cutV_map {α : Type} (f : α → V) (xs : List α) (lo hi : Option Int) : ∃ ys : List α, cutV (xs.map f) lo hi = ys.map f ∧ ys.length ≤ xs.length ∧ ∀ y ∈ ys, y ∈ xs := by
  refine ⟨(xs.drop (HT.sIx xs.length 0 lo)).take (HT.sIx xs.length xs.length hi - HT.sIx xs.length 0 lo), ?_, ?_, fun y hy => List.mem_of_mem_drop (List.mem_of_mem_take hy)⟩
  · unfold cutV
    rw [List.length_map, List.map_take, List.map_drop]
  · rw [List.length_take, List.length_drop]; omega
theorem atI_in {α : Type} {xs : List α} {i : Int} (h0 : 0 ≤ i) (h1 : i < (xs.length : Int)) : ∃ v, atI xs i = some v ∧ v ∈ xs := by
  obtain ⟨j, rfl⟩ := Int.eq_ofNat_of_zero_le h0
  have hj : j < xs.length := by omega
  exact ⟨xs[j], atI_nat (List.getElem?_eq_getElem hj), List.getElem_mem hj⟩
theorem atI_map {α β : Type} {f : α → β} {xs : List α} {i : Int} (h0 : 0 ≤ i) (h1 : i < (xs.length : Int)) : ∃ v, atI (xs.map f) i = some (f v) ∧ v ∈ xs := by
  obtain ⟨j, rfl⟩ := Int.eq_ofNat_of_zero_le h0
  have hj : j < xs.length := by omega
  exact ⟨xs[j], atI_nat (by rw [List.getElem?_map, List.getElem?_eq_getElem hj]; rfl), List.getElem_mem hj⟩
theorem seven {n : Nat} (h : n ≤ 1000) : n ≤ sizeLine := Nat.le_of_lt (small1000 h)
end L2

namespace PySem
open Sem (wp)
open AutoSeq1 (wpAny_loadPart')
set_option maxRecDepth 100000
/-! ### enumerate over a tuple -/
section
variable {prog : Program} {w : World} {A : Around} {E : Value → Shared → Prop} {s : Shared}
theorem L2_nextOf_tuple_item {it t : Addr} {i : Nat} {items} {x : Value} {Q : Value → Shared → Prop} (hit : s.heap.IsTupleIter it t i)
    (ht : s.heap.IsTuple t items) (hx : items[i]? = some x)
    (hQ : ∀ h', h'.IsTupleIter it t (i + 1) → Heap.SameBut it s.heap h' → Q x { s with heap := h' }) :
    wpAny (model prog w) A (Builtin.SmallTypes.nextOf (.ref it)) Q E s := by
  obtain ⟨o, ho, hc, hd⟩ := id hit
  obtain ⟨ol, hol, _, nl, hdl⟩ := ht
  unfold Builtin.SmallTypes.nextOf
  refine wpAny_bind (wpAny_callSpecial?_slot (name := Str.ofString "__next__") hit.typeIs F.slot_tuple_iterator_next
    (wpAny_call_entry F.slot_tuple_iterator_next hit.typeIs F.entry_tuple_iterator_next ?_ (F.args_tuple_iterator_next_1 _)))
  show wpAny _ _ (field (.ref it) 0 >>= _) _ _ s
  refine wpAny_bind (wpAny_field ho hd (x := .ref t) rfl ?_)
  show wpAny _ _ (if (Value.ref t == Value.none) = true then _ else _) _ _ s
  rw [if_neg (show ¬ ((Value.ref t == Value.none) = true) from Bool.false_ne_true)]
  show wpAny _ _ (field (.ref it) 1 >>= _) _ _ s
  refine wpAny_bind (wpAny_field ho hd (x := .int i 0) rfl ?_)
  show wpAny _ _ (seqItems? (.ref t) >>= _) _ _ s
  refine wpAny_bind (wpAny_seqItems hol hdl ?_)
  simp only [Int.toNat_natCast, hx]
  refine wpAny_bind (wpAny_setField ho hd (by simp) (wpAny_pure ⟨x, rfl, wpAny_pure (hQ _ ?_ (Heap.SameBut.update ..))⟩))
  exact ⟨_, Heap.get?_update_self _ ho (Obj.isFreed_of_fields (Obj.data_mapFields hd _)), (Obj.cls_mapFields ..).trans hc, by
    rw [Obj.data_mapFields hd]; simp [rawInt]⟩
theorem L2_nextOf_tuple_end {it t : Addr} {i : Nat} {items} {Q : Value → Shared → Prop} (hh : A.handled = none)
    (hit : s.heap.IsTupleIter it t i) (ht : s.heap.IsTuple t items) (hx : items[i]? = none)
    (hE : ∀ h' e, Heap.ExtBut it s.heap h' → (∃ o, h'.get? e = some o ∧ o.cls = .type "StopIteration") → E (.ref e) { s with heap := h' }) :
    wpAny (model prog w) A (Builtin.SmallTypes.nextOf (.ref it)) Q E s := by
  obtain ⟨o, ho, hc, hd⟩ := id hit
  obtain ⟨ol, hol, _, nl, hdl⟩ := ht
  unfold Builtin.SmallTypes.nextOf
  refine wpAny_bind (wpAny_callSpecial?_slot (name := Str.ofString "__next__") hit.typeIs F.slot_tuple_iterator_next
    (wpAny_call_entry F.slot_tuple_iterator_next hit.typeIs F.entry_tuple_iterator_next ?_ (F.args_tuple_iterator_next_1 _)))
  show wpAny _ _ (field (.ref it) 0 >>= _) _ _ s
  refine wpAny_bind (wpAny_field ho hd (x := .ref t) rfl ?_)
  show wpAny _ _ (if (Value.ref t == Value.none) = true then _ else _) _ _ s
  rw [if_neg (show ¬ ((Value.ref t == Value.none) = true) from Bool.false_ne_true)]
  show wpAny _ _ (field (.ref it) 1 >>= _) _ _ s
  refine wpAny_bind (wpAny_field ho hd (x := .int i 0) rfl ?_)
  show wpAny _ _ (seqItems? (.ref t) >>= _) _ _ s
  refine wpAny_bind (wpAny_seqItems hol hdl ?_)
  simp only [Int.toNat_natCast, hx]
  refine wpAny_bind (wpAny_rule (wpAny_bind (wpAny_setField ho hd (by simp) ?_)))
  show wpAny _ _ (newExc (.type "StopIteration") [] >>= _) _ _ _
  refine wpAny_bind ?_
  simp only [newExc, newTuple]
  refine wpAny_bind (wpAny_newObj_type ?_ (by size_fits))
  refine wpAny_bind (m := firstArgMember _ _) (wpAny_of_eq (a := Value.none) (by first | rfl | (simp only [firstArgMember]; rfl)) ?_)
  refine wpAny_newObj_type ?_ (by size_fits)
  simp only [raiseNew]
  refine wpAny_bind (wpAny_handled ?_)
  first | rw [show A.in1.handled = none from hh] | rw [hh]
  refine wpAny_bind (wpAny_pure (wpAny_throw ?_))
  exact hE _ _ (((Heap.SameBut.update ..).extBut.push _).push _) ⟨_, Heap.get?_push_size _ rfl, rfl⟩
end
theorem L2_draws_tuple {prog : Program} {w : World} {A : Around} (hh : A.handled = none) (it l : Addr) (hne : l ≠ it) (items : Array Value) :
    Draws prog w A it [it, l] items.size (fun i v => items[i]? = some v) (fun i h => h.IsTupleIter it l i ∧ h.IsTuple l items) where
  live := fun _ _ st => let ⟨o, ho, _⟩ := st.1; ⟨o, ho⟩
  frame := fun _ _ _ st hk => ⟨st.1.at fun o e => hk it (by simp) o e, st.2.at fun o e => hk l (by simp) o e⟩
  item := fun i s Q E hi st hQ => by
    refine L2_nextOf_tuple_item st.1 st.2 (x := items[i]) (by simp [hi]) fun h' hit' hs' => ?_
    exact hQ _ h' s.toks (by simp [hi]) ⟨hit', st.2.extBut hs'.extBut hne⟩ hs'
  done := fun s Q E st hE => L2_nextOf_tuple_end hh st.1 st.2 (by simp) hE
theorem L2_meets_enum_tuple (l : Addr) (items : Array Value) (n : Nat) (dct : Option Addr) (sl : Array (Option Value)) :
    Meets (Builtin.«enumerate.__new__» ⟨[.type "enumerate", .ref l], []⟩) (fun _ R s => s.heap.get? l = some { cls := .type "tuple", dict := dct, data := .seq items n, slots := sl } ∧
      R (.ok (.ret (.ref (s.heap.push { cls := .type "tuple_iterator", data := .fields #[.ref l, .int 0 0] }).objs.size)))
        { s with heap := (s.heap.push { cls := .type "tuple_iterator", data := .fields #[.ref l, .int 0 0] }).push { cls := .type "enumerate", data := .fields #[.none, .bool false, .ref s.heap.objs.size, rawInt 0, .none, .none] } }) :=
  .of_wp fun prog w A R s h => by
    obtain ⟨hp, g, d, tk, os⟩ := s; obtain ⟨hl, h⟩ := h
    have hsub := sub_enumerate
    have hL : Heap.IsTuple (Shared.heap ⟨hp, g, d, tk, os⟩) l items := ⟨_, hl, rfl, n, rfl⟩
    wp_walk using wpAny_loadPart' hl
    refine wpAny_stack_any fun st => wpAny_pure ?_
    split
    · rename_i c _ _ _ _ _
      cases (c == Value.type "enumerate")
      · wp_walk using wpAny_loadPart' hl, wpAny_pyIter_tuple hL
        exact ⟨_, rfl, h⟩
      · wp_walk using wpAny_loadPart' hl, wpAny_pyIter_tuple hL
        exact ⟨_, rfl, h⟩
    · wp_walk using wpAny_loadPart' hl, wpAny_pyIter_tuple hL
      exact ⟨_, rfl, h⟩
section
variable {prog : Program} {w : World} {A : Around} {E : Value → Shared → Prop} {s : Shared}
theorem L2_call_enum_tuple {l : Addr} {items : Array Value} {Q : Value → Shared → Prop} (hL : s.heap.IsTuple l items)
    (h : ∀ h', IsEnum h' (s.heap.objs.size + 1) s.heap.objs.size 0 .none → h'.IsTupleIter s.heap.objs.size l 0 → h'.objs.size = s.heap.objs.size + 2 →
      (∀ b o, s.heap.get? b = some o → h'.get? b = some o) → Q (.ref (s.heap.objs.size + 1)) { s with heap := h' }) :
    wpAny (model prog w) A (call (.type "enumerate") [.ref l]) Q E s := by
  obtain ⟨⟨c, dct, dt, sl⟩, hl, hc, n, hd⟩ := hL
  replace hc : c = .type "tuple" := hc
  replace hd : dt = .seq items n := hd
  subst hc hd
  refine callType_new F.called_enumerate (by decide) (F.typeCall_enumerate_1 _) (F.newCall_enumerate_1 _) (fun obj => F.args_object_init_2 obj _) F.entry_enumerate_new
    (L2_meets_enum_tuple l items n dct sl) ⟨hl, ?_⟩
  have hz : (s.heap.push { cls := .type "tuple_iterator", data := .fields #[.ref l, .int 0 0] }).objs.size = s.heap.objs.size + 1 := Heap.size_push ..
  show _ ∧ _
  rw [hz]
  have he : IsEnum ((s.heap.push { cls := .type "tuple_iterator", data := .fields #[.ref l, .int 0 0] }).push
      { cls := .type "enumerate", data := .fields #[.none, .bool false, .ref s.heap.objs.size, rawInt 0, .none, .none] }) (s.heap.objs.size + 1) s.heap.objs.size 0 .none := by
    have := Heap.get?_push_size (s.heap.push { cls := .type "tuple_iterator", data := .fields #[.ref l, .int 0 0] })
      (o := { cls := .type "enumerate", data := .fields #[.none, .bool false, .ref s.heap.objs.size, rawInt 0, .none, .none] }) rfl
    rw [hz] at this; exact this
  refine ⟨⟨_, he, rfl⟩, h _ he ⟨_, Heap.get?_push_of_some _ (Heap.get?_push_size _ rfl), rfl, rfl⟩ (by rw [Heap.size_push, hz]) fun b o x => Heap.get?_push_of_some _ (Heap.get?_push_of_some _ x)⟩
end
end PySem

namespace L2
open PySem PySem.Spec PyProof.Rows
/-! ### plain data: ints, bools, texts, None, lists and tuples of such -/
mutual
def Dt (H : Hp) : PyData → V → Prop
  | .none, x => x = .non
  | .bool b, x => x = .bl b
  | .int i, x => x = .int i
  | .str z, x => x = .str z
  | .list ds, x => ∃ a xs, x = .ref a ∧ H a = some (.lst xs) ∧ DtAll H ds xs
  | .tuple ds, x => ∃ a xs, x = .ref a ∧ H a = some (.tup xs) ∧ DtAll H ds xs
  | .dict _, _ => False
def DtAll (H : Hp) : List PyData → List V → Prop
  | [], xs => xs = []
  | d :: ds, xs => ∃ x r, xs = x :: r ∧ Dt H d x ∧ DtAll H ds r
end
mutual
/-- no list in it -/
def onlyT : PyData → Bool
  | .list _ => false
  | .tuple ds => onlyTAll ds
  | .dict _ => false
  | .none | .bool _ | .int _ | .str _ => true
def onlyTAll : List PyData → Bool
  | [] => true
  | d :: ds => onlyT d && onlyTAll ds
end
/-- the tuples stay -/
def SameT (H H' : Hp) : Prop := ∀ b xs, H b = some (.tup xs) → H' b = some (.tup xs)
theorem SameT.of {H H' : Hp} (S : Same H H') : SameT H H' := fun b xs h => S b _ h
theorem SameT.refl {H : Hp} : SameT H H := fun _ _ h => h
theorem SameT.trans {H H1 H2 : Hp} (a : SameT H H1) (b : SameT H1 H2) : SameT H H2 := fun c xs h => b c xs (a c xs h)
theorem SameT.new {H : Hp} {p : Addr} (h : H p = none) (o : HO) : SameT H (upd H p o) := SameT.of (same_new' h o)
theorem SameT.updL {H : Hp} {p : Addr} {xs : List V} (h : H p = some (.lst xs)) (o : HO) : SameT H (upd H p o) := fun b ys e => by
  rw [upd_ne (ne_of e h (by intro z; cases z))]; exact e
theorem SameT.updD {H : Hp} {p : Addr} {kvs : List (Key × V)} (h : H p = some (.dK kvs)) (o : HO) : SameT H (upd H p o) := fun b ys e => by
  rw [upd_ne (ne_of e h (by intro z; cases z))]; exact e
theorem IsDeal.sameT {H H' : Hp} {d l : Addr} (D : IsDeal H d l) (S : Sd d l H H') : SameT H H' := fun b xs e => by
  obtain ⟨_, _, _, D⟩ := D
  exact S b _ (ne_of e D.d (by intro z; cases z)) (ne_of e D.l (by intro z; cases z)) e
mutual
theorem Dt.mono {H H' : Hp} (S : Same H H') : ∀ (d : PyData) (x : V), Dt H d x → Dt H' d x
  | .none, x, h => by simp only [Dt] at h ⊢; exact h
  | .bool b, x, h => by simp only [Dt] at h ⊢; exact h
  | .int i, x, h => by simp only [Dt] at h ⊢; exact h
  | .str z, x, h => by simp only [Dt] at h ⊢; exact h
  | .list ds, x, h => by
    simp only [Dt] at h ⊢
    obtain ⟨a, xs, e, q, r⟩ := h
    exact ⟨a, xs, e, S _ _ q, DtAll.mono S ds xs r⟩
  | .tuple ds, x, h => by
    simp only [Dt] at h ⊢
    obtain ⟨a, xs, e, q, r⟩ := h
    exact ⟨a, xs, e, S _ _ q, DtAll.mono S ds xs r⟩
  | .dict _, x, h => by simp only [Dt] at h
theorem DtAll.mono {H H' : Hp} (S : Same H H') : ∀ (ds : List PyData) (xs : List V), DtAll H ds xs → DtAll H' ds xs
  | [], xs, h => by simp only [DtAll] at h ⊢; exact h
  | d :: ds, xs, h => by
    simp only [DtAll] at h ⊢
    obtain ⟨x, r, e, h1, h2⟩ := h
    exact ⟨x, r, e, Dt.mono S d x h1, DtAll.mono S ds r h2⟩
end
mutual
theorem Dt.monoT {H H' : Hp} (S : SameT H H') : ∀ (d : PyData) (x : V), onlyT d = true → Dt H d x → Dt H' d x
  | .none, x, _, h => by simp only [Dt] at h ⊢; exact h
  | .bool b, x, _, h => by simp only [Dt] at h ⊢; exact h
  | .int i, x, _, h => by simp only [Dt] at h ⊢; exact h
  | .str z, x, _, h => by simp only [Dt] at h ⊢; exact h
  | .list ds, x, o, h => by simp [onlyT] at o
  | .tuple ds, x, o, h => by
    simp only [Dt] at h ⊢
    simp only [onlyT] at o
    obtain ⟨a, xs, e, q, r⟩ := h
    exact ⟨a, xs, e, S _ _ q, DtAll.monoT S ds xs o r⟩
  | .dict _, x, _, h => by simp only [Dt] at h
theorem DtAll.monoT {H H' : Hp} (S : SameT H H') : ∀ (ds : List PyData) (xs : List V), onlyTAll ds = true → DtAll H ds xs → DtAll H' ds xs
  | [], xs, _, h => by simp only [DtAll] at h ⊢; exact h
  | d :: ds, xs, o, h => by
    simp only [DtAll] at h ⊢
    simp only [onlyTAll, Bool.and_eq_true] at o
    obtain ⟨x, r, e, h1, h2⟩ := h
    exact ⟨x, r, e, Dt.monoT S d x o.1 h1, DtAll.monoT S ds r o.2 h2⟩
end
theorem onlyTAll_of : ∀ {ds : List PyData}, (∀ d ∈ ds, onlyT d = true) → onlyTAll ds = true
  | [], _ => by simp only [onlyTAll]
  | d :: ds, h => by
    simp only [onlyTAll, Bool.and_eq_true]
    exact ⟨h d List.mem_cons_self, onlyTAll_of fun e he => h e (List.mem_cons_of_mem _ he)⟩
theorem dt_int {H : Hp} {i : Int} : Dt H (.int i) (.int i) := by simp only [Dt]
theorem dt_str {H : Hp} {z : Str} : Dt H (.str z) (.str z) := by simp only [Dt]
theorem dt_tup {H : Hp} {a : Addr} {xs : List V} {ds : List PyData} (h : H a = some (.tup xs)) (r : DtAll H ds xs) : Dt H (.tuple ds) (.ref a) := by
  simp only [Dt]; exact ⟨a, xs, rfl, h, r⟩
theorem dt_lst {H : Hp} {a : Addr} {xs : List V} {ds : List PyData} (h : H a = some (.lst xs)) (r : DtAll H ds xs) : Dt H (.list ds) (.ref a) := by
  simp only [Dt]; exact ⟨a, xs, rfl, h, r⟩
theorem Dt.tup {H : Hp} {x : V} {ds : List PyData} (h : Dt H (.tuple ds) x) : ∃ a xs, x = .ref a ∧ H a = some (.tup xs) ∧ DtAll H ds xs := by
  simp only [Dt] at h; exact h
theorem Dt.lst {H : Hp} {x : V} {ds : List PyData} (h : Dt H (.list ds) x) : ∃ a xs, x = .ref a ∧ H a = some (.lst xs) ∧ DtAll H ds xs := by
  simp only [Dt] at h; exact h
theorem Dt.int {H : Hp} {x : V} {i : Int} (h : Dt H (.int i) x) : x = .int i := by simp only [Dt] at h; exact h
theorem Dt.str {H : Hp} {x : V} {z : Str} (h : Dt H (.str z) x) : x = .str z := by simp only [Dt] at h; exact h
theorem dts_nil {H : Hp} : DtAll H [] [] := by simp only [DtAll]
theorem dts_cons {H : Hp} {d : PyData} {ds : List PyData} {x : V} {xs : List V} (h : Dt H d x) (r : DtAll H ds xs) : DtAll H (d :: ds) (x :: xs) := by
  simp only [DtAll]; exact ⟨x, xs, rfl, h, r⟩
theorem DtAll.cons {H : Hp} {d : PyData} {ds : List PyData} {xs : List V} (h : DtAll H (d :: ds) xs) : ∃ x r, xs = x :: r ∧ Dt H d x ∧ DtAll H ds r := by
  simp only [DtAll] at h; exact h
theorem DtAll.nil {H : Hp} {xs : List V} (h : DtAll H [] xs) : xs = [] := by simp only [DtAll] at h; exact h
theorem DtAll.length {H : Hp} : ∀ {ds : List PyData} {xs : List V}, DtAll H ds xs → xs.length = ds.length
  | [], _, h => by rw [h.nil]; rfl
  | _ :: ds, _, h => by
    obtain ⟨x, r, rfl, _, h2⟩ := h.cons
    rw [List.length_cons, List.length_cons, DtAll.length h2]
theorem DtAll.get {H : Hp} : ∀ {ds : List PyData} {xs : List V} {i : Nat} {d : PyData}, DtAll H ds xs → ds[i]? = some d → ∃ x, xs[i]? = some x ∧ Dt H d x
  | [], _, _, _, _, e => by simp at e
  | _ :: ds, _, 0, d, h, e => by
    obtain ⟨x, r, rfl, h1, _⟩ := h.cons
    simp at e; subst e
    exact ⟨x, rfl, h1⟩
  | _ :: ds, _, i + 1, d, h, e => by
    obtain ⟨x, r, rfl, _, h2⟩ := h.cons
    obtain ⟨y, e1, e2⟩ := DtAll.get (i := i) (d := d) h2 (by simpa using e)
    exact ⟨y, by simpa using e1, e2⟩
theorem DtAll.append {H : Hp} : ∀ {ds es : List PyData} {xs ys : List V}, DtAll H ds xs → DtAll H es ys → DtAll H (ds ++ es) (xs ++ ys)
  | [], _, _, _, h, k => by rw [h.nil]; exact k
  | _ :: ds, _, _, _, h, k => by
    obtain ⟨x, r, rfl, h1, h2⟩ := h.cons
    exact dts_cons h1 (DtAll.append h2 k)
theorem DtAll.snoc {H : Hp} {ds : List PyData} {xs : List V} {d : PyData} {x : V} (h : DtAll H ds xs) (k : Dt H d x) : DtAll H (ds ++ [d]) (xs ++ [x]) := h.append (dts_cons k dts_nil)
theorem DtAll.drop {H : Hp} : ∀ (n : Nat) {ds : List PyData} {xs : List V}, DtAll H ds xs → DtAll H (ds.drop n) (xs.drop n)
  | 0, _, _, h => h
  | _ + 1, [], _, h => by rw [h.nil]; exact dts_nil
  | n + 1, _ :: ds, _, h => by
    obtain ⟨x, r, rfl, _, h2⟩ := h.cons
    exact DtAll.drop n h2
theorem DtAll.take {H : Hp} : ∀ (n : Nat) {ds : List PyData} {xs : List V}, DtAll H ds xs → DtAll H (ds.take n) (xs.take n)
  | 0, _, _, _ => dts_nil
  | _ + 1, [], _, h => by rw [h.nil]; exact dts_nil
  | n + 1, _ :: ds, _, h => by
    obtain ⟨x, r, rfl, h1, h2⟩ := h.cons
    exact dts_cons h1 (DtAll.take n h2)
def cutD (ds : List PyData) (lo hi : Option Int) : List PyData := (ds.drop (HT.sIx ds.length 0 lo)).take (HT.sIx ds.length ds.length hi - HT.sIx ds.length 0 lo)
theorem DtAll.cut {H : Hp} {ds : List PyData} {xs : List V} (h : DtAll H ds xs) (lo hi : Option Int) : DtAll H (cutD ds lo hi) (cutV xs lo hi) := by
  unfold cutD cutV
  rw [h.length]
  exact (h.drop _).take _
theorem dts_ints {H : Hp} : ∀ (ns : List Int), DtAll H (ns.map .int) (ns.map V.int)
  | [] => dts_nil
  | n :: ns => dts_cons dt_int (dts_ints ns)
theorem dts_strs {H : Hp} : ∀ (ns : List Str), DtAll H (ns.map .str) (ns.map V.str)
  | [] => dts_nil
  | n :: ns => dts_cons dt_str (dts_strs ns)
theorem DtAll.ints {H : Hp} : ∀ {ns : List Int} {xs : List V}, DtAll H (ns.map .int) xs → xs = ns.map V.int
  | [], _, h => h.nil
  | n :: ns, _, h => by
    obtain ⟨x, r, rfl, h1, h2⟩ := h.cons
    rw [h1.int, DtAll.ints h2]; rfl
theorem onlyT_ints (ns : List Int) : onlyTAll (ns.map .int) = true := onlyTAll_of fun d hd => by
  obtain ⟨n, _, rfl⟩ := List.mem_map.mp hd; simp only [onlyT]
theorem onlyT_strs (ns : List Str) : onlyTAll (ns.map .str) = true := onlyTAll_of fun d hd => by
  obtain ⟨n, _, rfl⟩ := List.mem_map.mp hd; simp only [onlyT]

/-! ### what the heap holds -/
mutual
theorem Dt.reads {X : Cx} {pins : List (Addr × Obj)} {σ : St} {H : Hp} {s : Shared} (I : Inv X pins σ H s) : ∀ (d : PyData) (x : V) (u : Value), Dt H d x → RelV x u → ∃ as, Reads s.heap u d as
  | .none, x, u, h, r => by simp only [Dt] at h; subst h; cases r; exact ⟨_, .none⟩
  | .bool b, x, u, h, r => by simp only [Dt] at h; subst h; cases r; exact ⟨_, .bool b⟩
  | .int i, x, u, h, r => by simp only [Dt] at h; subst h; obtain ⟨t, rfl⟩ := r; exact ⟨_, .int i t⟩
  | .str z, x, u, h, r => by simp only [Dt] at h; subst h; obtain ⟨t, rfl⟩ := r; exact ⟨_, .str z t⟩
  | .list ds, x, u, h, r => by
    obtain ⟨a, xs, rfl, q, k⟩ := h.lst
    cases r
    obtain ⟨z, its, n, rv, e⟩ := I.hok a _ q
    obtain ⟨as, ra⟩ := DtAll.reads I ds xs its k rv
    exact ⟨_, .list e rfl rfl (by simpa using ra)⟩
  | .tuple ds, x, u, h, r => by
    obtain ⟨a, xs, rfl, q, k⟩ := h.tup
    cases r
    obtain ⟨z, its, rv, o, e, c, n, d⟩ := I.hok a _ q
    obtain ⟨as, ra⟩ := DtAll.reads I ds xs its k rv
    exact ⟨_, .tuple e c d (by simpa using ra)⟩
  | .dict _, x, u, h, _ => by simp only [Dt] at h
theorem DtAll.reads {X : Cx} {pins : List (Addr × Obj)} {σ : St} {H : Hp} {s : Shared} (I : Inv X pins σ H s) : ∀ (ds : List PyData) (xs : List V) (us : List Value), DtAll H ds xs → Vals xs us → ∃ as, ReadsAll s.heap us ds as
  | [], xs, us, h, r => by
    have e := h.nil
    subst e
    cases r
    exact ⟨_, .nil⟩
  | d :: ds, xs, us, h, r => by
    obtain ⟨x, xr, rfl, h1, h2⟩ := h.cons
    cases r with
    | cons r1 r2 =>
      obtain ⟨as, ra⟩ := Dt.reads I d x _ h1 r1
      obtain ⟨bs, rb⟩ := DtAll.reads I ds xr _ h2 r2
      exact ⟨_, .cons ra rb⟩
end

/-! ### bounds -/
/-- data of so much depth and weight, its ints short -/
structure OkB (dep wt : Nat) (d : PyData) : Prop where
  lay : d.canLay0 = true
  dp : d.depth ≤ dep
  wt : d.weight ≤ wt
  sh : d.intsShort 13 = true
  sw : d.showable = true
structure OkBs (dep wt : Nat) (ds : List PyData) : Prop where
  lay : PyData.canLayAll0 ds = true
  dp : PyData.depthAll ds ≤ dep
  wt : PyData.weightAll ds ≤ wt
  sh : PyData.intsShortAll 13 ds = true
  sw : PyData.showableAll ds = true
theorem OkBs.nil {dep wt : Nat} : OkBs dep wt [] := ⟨rfl, by simp [PyData.depthAll], by simp [PyData.weightAll], rfl, rfl⟩
theorem OkBs.cons {dep w1 w2 : Nat} {d : PyData} {ds : List PyData} (h : OkB dep w1 d) (r : OkBs dep w2 ds) : OkBs dep (w1 + 1 + w2) (d :: ds) := by
  refine ⟨?_, ?_, ?_, ?_, ?_⟩
  · simp only [PyData.canLayAll0, h.lay, r.lay, Bool.and_self]
  · simp only [PyData.depthAll]; exact Nat.max_le.mpr ⟨h.dp, r.dp⟩
  · simp only [PyData.weightAll]; have := h.wt; have := r.wt; omega
  · simp only [PyData.intsShortAll, h.sh, r.sh, Bool.and_self]
  · simp only [PyData.showableAll, h.sw, r.sw, Bool.and_self]
theorem OkBs.mono {dep wt d' w' : Nat} {ds : List PyData} (h : OkBs dep wt ds) (h1 : dep ≤ d') (h2 : wt ≤ w') : OkBs d' w' ds := ⟨h.lay, Nat.le_trans h.dp h1, Nat.le_trans h.wt h2, h.sh, h.sw⟩
theorem OkB.mono {dep wt d' w' : Nat} {d : PyData} (h : OkB dep wt d) (h1 : dep ≤ d') (h2 : wt ≤ w') : OkB d' w' d := ⟨h.lay, Nat.le_trans h.dp h1, Nat.le_trans h.wt h2, h.sh, h.sw⟩
theorem OkBs.cons' {dep w1 w2 w3 : Nat} {d : PyData} {ds : List PyData} (h : OkB dep w1 d) (r : OkBs dep w2 ds) (e : w1 + 1 + w2 ≤ w3) : OkBs dep w3 (d :: ds) := (OkBs.cons h r).mono (Nat.le_refl _) e
theorem OkBs.all {dep w n : Nat} {ds : List PyData} (h : ∀ d ∈ ds, OkB dep w d) (hn : ds.length ≤ n) : OkBs dep (n * (w + 1)) ds := by
  induction ds generalizing n with
  | nil => exact OkBs.nil
  | cons d ds ih =>
    cases n with
    | zero => simp at hn
    | succ m =>
      refine OkBs.cons' (h d List.mem_cons_self) (ih (n := m) (fun e he => h e (List.mem_cons_of_mem _ he)) (by simp at hn; omega)) ?_
      rw [Nat.succ_mul]; omega
theorem OkBs.tup {dep w : Nat} {ds : List PyData} (h : OkBs dep w ds) : OkB (dep + 1) w (.tuple ds) :=
  ⟨by simp only [PyData.canLay0, h.lay], by simp only [PyData.depth]; exact Nat.succ_le_succ h.dp, by simp only [PyData.weight]; exact h.wt, by simp only [PyData.intsShort, h.sh], by simp only [PyData.showable, h.sw]⟩
theorem OkBs.lst {dep w : Nat} {ds : List PyData} (h : OkBs dep w ds) : OkB (dep + 1) w (.list ds) :=
  ⟨by simp only [PyData.canLay0, h.lay], by simp only [PyData.depth]; exact Nat.succ_le_succ h.dp, by simp only [PyData.weight]; exact h.wt, by simp only [PyData.intsShort, h.sh], by simp only [PyData.showable, h.sw]⟩
theorem okB_none : OkB 0 0 .none := ⟨rfl, Nat.le_refl _, Nat.le_refl _, rfl, rfl⟩
theorem okB_int {i : Int} (h0 : -1000000000 ≤ i) (h1 : i ≤ 1000000000) : OkB 0 40 (.int i) := by
  have hn : i.natAbs ≤ 1000000000 := by omega
  have hl : i.natAbs.log2 ≤ 30 := by
    rcases Nat.eq_zero_or_pos i.natAbs with z | z
    · rw [z]; decide
    · exact Nat.le_of_lt ((Nat.log2_lt (by omega)).mpr (Nat.lt_of_le_of_lt hn (by decide)))
  refine ⟨rfl, Nat.le_refl _, ?_, ?_, ?_⟩
  · simp only [PyData.weight]; split <;> omega
  · have := int_text_length_le10 (a := i) (k := 10) (by decide) (Nat.lt_of_le_of_lt hn (by decide))
    simp only [PyData.intsShort, PyData.shown]
    refine decide_eq_true ?_
    show (Str.ofString (toString i)).length ≤ 13
    rw [PySem.ofString_length]; omega
  · simp only [PyData.showable]; exact decide_eq_true (by omega)
structure OkD (d : PyData) : Prop where
  lay : d.layable0 = true
  sh : d.intsShort 13 = true
  sw : d.showable = true
theorem OkB.ok {dep w : Nat} {d : PyData} (h : OkB dep w d) (h1 : dep ≤ 64) (h2 : w ≤ 1048576) : OkD d := by
  refine ⟨?_, h.sh, h.sw⟩
  show (d.canLay0 && decide (d.depth ≤ 64) && decide (d.weight ≤ 2 ^ 20)) = true
  rw [h.lay, decide_eq_true (Nat.le_trans h.dp h1), decide_eq_true (Nat.le_trans h.wt (show w ≤ 2 ^ 20 by simpa using h2))]
  rfl
theorem OkD.can {d : PyData} (h : OkD d) : d.canLay0 = true := SeqAt.canLay_of_layable h.lay
theorem OkD.depth {d : PyData} (h : OkD d) : d.depth ≤ 64 := SeqAt.depth_of_layable h.lay

/-! ### repr, ==, !=, in, not in, + over data -/
section
variable {X : Cx} {k : Nat}
theorem call_reprD (hr : Room k X.A) : CallR X (.builtin "repr") (fun xs H Q => ∃ x d, xs = [x] ∧ Dt H d x ∧ OkD d ∧ Q (.str d.shown) H) := by
  intro pins s σ H xs us Q I r h
  obtain ⟨x, d, rfl, hd, ok, q⟩ := h
  obtain ⟨u, rfl, ru⟩ := vals1 r
  have hsz : d.shown.length ≤ sizeLine := Nat.le_trans (PyProof.Rows.shown_le13 ok.lay ok.sh) (by decide)
  obtain ⟨as, ra⟩ := Dt.reads I d x u hd ru
  have hn : d.hasDict = false := PyData.hasDict_of_layable ok.lay
  have hu := hr.un
  have hdp := ok.depth
  have fin : ∀ (h' : Heap) (t : Tok) (tk : Nat), (∀ b o, s.heap.get? b = some o → h'.get? b = some o) → EP X pins σ Q (.str d.shown t) { s with heap := h', toks := tk } := fun h' t tk hk =>
    ⟨.str d.shown, H, I.kept hk, ⟨_, rfl⟩, q⟩
  cases ra with
  | none => exact P.repr_of_none (by simpa only [PyData.shown] using fin s.heap s.toks (s.toks + 1) fun _ _ e => e)
  | bool b => exact P.repr_of_bool (by simpa only [PyData.shown] using fin s.heap s.toks (s.toks + 1) fun _ _ e => e)
  | int i t =>
    have hs : decide (i.natAbs.log2 < 1920) = true := by simpa only [PyData.showable] using ok.sw
    exact P.repr_of_int (of_decide_eq_true hs) (by simpa only [PyData.shown] using fin s.heap s.toks (s.toks + 1) fun _ _ e => e)
  | str z t => exact P.repr_of_str (by simpa only [PyData.shown] using fin s.heap s.toks (s.toks + 1) fun _ _ e => e) (by simpa only [PyData.shown] using hsz)
  | list h1 h2 h3 h4 => exact repr_of_reads' (.list h1 h2 h3 h4) ok.sw (PyData.noDict_hsm hn) hr.gd (by omega) (fun _ _ e => e) (fun h' u tk hk => fin h' u tk hk) hsz
  | tuple h1 h2 h3 h4 => exact repr_of_reads' (.tuple h1 h2 h3 h4) ok.sw (PyData.noDict_hsm hn) hr.gd (by omega) (fun _ _ e => e) (fun h' u tk hk => fin h' u tk hk) hsz
  | dict h1 h2 h3 h4 h5 => simp [PyData.hasDict] at hn
theorem op_eqD (hr : Room k X.A) : OpR X (compareOp .Eq) (fun x y H Q => ∃ d e, Dt H d x ∧ Dt H e y ∧ OkD d ∧ OkD e ∧ Q (.bl (PyData.eqv d e)) H) := by
  intro pins s σ H x y v u Q I rx ry h
  obtain ⟨d, e, hx, hy, ok1, ok2, q⟩ := h
  obtain ⟨as, ra⟩ := Dt.reads I d x v hx rx
  obtain ⟨bs, rb⟩ := Dt.reads I e y u hy ry
  have hu := hr.un
  have := ok1.depth
  exact SeqAt.compareEq_reads ra rb ok1.can ok2.can (by omega) ⟨.bl _, H, I, rfl, q⟩
theorem op_neD (hr : Room k X.A) : OpR X (compareOp .NotEq) (fun x y H Q => ∃ d e, Dt H d x ∧ Dt H e y ∧ OkD d ∧ OkD e ∧ Q (.bl (!PyData.eqv d e)) H) := by
  intro pins s σ H x y v u Q I rx ry h
  obtain ⟨d, e, hx, hy, ok1, ok2, q⟩ := h
  obtain ⟨as, ra⟩ := Dt.reads I d x v hx rx
  obtain ⟨bs, rb⟩ := Dt.reads I e y u hy ry
  have hu := hr.un
  have := ok1.depth
  exact SeqAt.compareNe_reads ra rb ok1.can ok2.can (by omega) ⟨.bl _, H, I, rfl, q⟩
/-- an item's answer, by what it reads -/
noncomputable def eqR (h : Heap) (e : PyData) (u : Value) : Bool := @decide (∃ d as, Reads h u d as ∧ d.canLay0 = true ∧ PyData.eqv d e = true) (Classical.propDecidable _)
theorem eqR_of {h : Heap} {e d : PyData} {u : Value} {as : List Addr} (r : Reads h u d as) (c : d.canLay0 = true) : eqR h e u = PyData.eqv d e := by
  unfold eqR
  cases q : PyData.eqv d e with
  | true => exact @decide_eq_true _ (Classical.propDecidable _) ⟨d, as, r, c, q⟩
  | false =>
    refine @decide_eq_false _ (Classical.propDecidable _) fun ⟨d', as', r', _, q'⟩ => ?_
    rw [SeqAt.Reads.unique d d' u as as' c r r', q'] at q
    cases q
theorem items_eqR {A : Around} {s : Shared} {e : PyData} {v : Value} {bs : List Addr} (rv : Reads s.heap v e bs) (ce : e.canLay0 = true) (hu : A.units + 64 < cLine) : ∀ {ds : List PyData} {us : List Value} {as : List Addr}, ReadsAll s.heap us ds as →
    PyData.canLayAll0 ds = true → PyData.depthAll ds ≤ 64 → (∀ u ∈ us, SeqAt.EqAt A s u v (eqR s.heap e u)) ∧ us.any (eqR s.heap e) = ds.any fun d => PyData.eqv d e
  | [], _, _, r, _, _ => by
    cases r
    exact ⟨(fun _ z => nomatch z), rfl⟩
  | d :: ds, _, _, r, c, dp => by
    cases r with
    | cons r1 r2 =>
      simp only [PyData.canLayAll0, Bool.and_eq_true] at c
      simp only [PyData.depthAll] at dp
      obtain ⟨i1, i2⟩ := items_eqR rv ce hu r2 c.2 (by omega)
      have e1 := eqR_of (e := e) r1 c.1
      refine ⟨fun u hu' => ?_, ?_⟩
      · rcases List.mem_cons.mp hu' with rfl | z
        · rw [e1]
          exact SeqAt.eqAt_reads d e A s _ v _ _ r1 rv c.1 ce (by omega)
        · exact i1 u z
      · rw [List.any_cons, List.any_cons, e1, i2]
def rInD (neg : Bool) : R2 := fun x y H Q => ∃ p xs d ds, y = .ref p ∧ (H p = some (.lst xs) ∨ H p = some (.tup xs)) ∧ DtAll H ds xs ∧ Dt H d x ∧ OkD d ∧ OkD (.tuple ds) ∧
  Q (.bl (if neg then !(ds.any fun e => PyData.eqv e d) else ds.any fun e => PyData.eqv e d)) H
theorem okT_all {ds : List PyData} (h : OkD (.tuple ds)) : PyData.canLayAll0 ds = true ∧ PyData.depthAll ds ≤ 64 := by
  have h1 := h.can
  have h2 := h.depth
  simp only [PyData.canLay0] at h1
  simp only [PyData.depth] at h2
  exact ⟨h1, by omega⟩
theorem op_inD (hr : Room k X.A) : OpR X (compareOp .In) (rInD false) := by
  intro pins s σ H x y v u Q I rx ry h
  obtain ⟨p, xs, d, ds, rfl, hp, hs, hx, ok1, ok2, q⟩ := h
  cases ry
  obtain ⟨as, ra⟩ := Dt.reads I d x v hx rx
  obtain ⟨c1, c2⟩ := okT_all ok2
  have hu := hr.un
  rcases hp with hp | hp
  · obtain ⟨its, r, pl, hz⟩ := I.list (SqL.of hp)
    obtain ⟨bs, rb⟩ := DtAll.reads I ds xs its hs r
    have e := fun A => items_eqR (A := A) ra ok1.can
    refine SeqAt.in_listAt (eqR s.heap d) pl.isList (fun w hw => (e _ (by first | (show X.A.units + 64 < _; omega) | (show X.A.units + 1 + 64 < _; omega) | (show X.A.units + 1 + 1 + 64 < _; omega)) rb c1 c2).1 w (by simpa using hw)) ⟨.bl _, H, I, rfl, ?_⟩
    rw [show its.toArray.any (eqR s.heap d) = its.any (eqR s.heap d) by simp, (e X.A (by omega) rb c1 c2).2]
    exact q
  · obtain ⟨its, r, pl, hz⟩ := I.tuple (SqT.of hp)
    obtain ⟨bs, rb⟩ := DtAll.reads I ds xs its hs r
    have e := fun A => items_eqR (A := A) ra ok1.can
    refine SeqAt.in_tupleAt (eqR s.heap d) pl (fun w hw => (e _ (by first | (show X.A.units + 64 < _; omega) | (show X.A.units + 1 + 64 < _; omega) | (show X.A.units + 1 + 1 + 64 < _; omega)) rb c1 c2).1 w (by simpa using hw)) ⟨.bl _, H, I, rfl, ?_⟩
    rw [show its.toArray.any (eqR s.heap d) = its.any (eqR s.heap d) by simp, (e X.A (by omega) rb c1 c2).2]
    exact q
theorem op_notInD (hr : Room k X.A) : OpR X (compareOp .NotIn) (rInD true) := by
  intro pins s σ H x y v u Q I rx ry h
  obtain ⟨p, xs, d, ds, rfl, hp, hs, hx, ok1, ok2, q⟩ := h
  cases ry
  obtain ⟨as, ra⟩ := Dt.reads I d x v hx rx
  obtain ⟨c1, c2⟩ := okT_all ok2
  have hu := hr.un
  rcases hp with hp | hp
  · obtain ⟨its, r, pl, hz⟩ := I.list (SqL.of hp)
    obtain ⟨bs, rb⟩ := DtAll.reads I ds xs its hs r
    have e := fun A => items_eqR (A := A) ra ok1.can
    refine SeqAt.notIn_listAt (eqR s.heap d) pl.isList (fun w hw => (e _ (by first | (show X.A.units + 64 < _; omega) | (show X.A.units + 1 + 64 < _; omega) | (show X.A.units + 1 + 1 + 64 < _; omega)) rb c1 c2).1 w (by simpa using hw)) ⟨.bl _, H, I, rfl, ?_⟩
    rw [show its.toArray.any (eqR s.heap d) = its.any (eqR s.heap d) by simp, (e X.A (by omega) rb c1 c2).2]
    exact q
  · obtain ⟨its, r, pl, hz⟩ := I.tuple (SqT.of hp)
    obtain ⟨bs, rb⟩ := DtAll.reads I ds xs its hs r
    have e := fun A => items_eqR (A := A) ra ok1.can
    refine SeqAt.notIn_tupleAt (eqR s.heap d) pl (fun w hw => (e _ (by first | (show X.A.units + 64 < _; omega) | (show X.A.units + 1 + 64 < _; omega) | (show X.A.units + 1 + 1 + 64 < _; omega)) rb c1 c2).1 w (by simpa using hw)) ⟨.bl _, H, I, rfl, ?_⟩
    rw [show its.toArray.any (eqR s.heap d) = its.any (eqR s.heap d) by simp, (e X.A (by omega) rb c1 c2).2]
    exact q
/-- t + u over data, any of them empty -/
def rCatD : R2 := fun x y H Q => ∃ ds es, Dt H (.tuple ds) x ∧ Dt H (.tuple es) y ∧ ds.length + es.length ≤ sizeLine ∧ ∀ z H', Same H H' → Dt H' (.tuple (ds ++ es)) z → Q z H'
theorem op_catD : OpR X (binaryOp .Add) rCatD := by
  intro pins s σ H x y v u Q I rx ry h
  obtain ⟨ds, es, hx, hy, hz, q⟩ := h
  obtain ⟨a, xs, rfl, ha, hxs⟩ := hx.tup
  obtain ⟨b, ys, rfl, hb, hys⟩ := hy.tup
  cases rx
  cases ry
  obtain ⟨its, r1, p1, _⟩ := I.tuple (SqT.of ha)
  obtain ⟨its2, r2, p2, _⟩ := I.tuple (SqT.of hb)
  have l1 := hxs.length
  have l2 := hys.length
  by_cases hv : xs = []
  · subst hv
    have e : its = [] := r1.nil_iff.mpr rfl
    subst e
    have ed : ds = [] := List.length_eq_zero_iff.mp l1.symm
    subst ed
    obtain ⟨⟨cls, dd, data, sl⟩, ho, hc, n, hd⟩ := id p1
    obtain ⟨⟨cls2, dd2, data2, sl2⟩, ho2, hc2, n2, hd2⟩ := id p2
    simp only at hc hd hc2 hd2
    subst hc hd hc2 hd2
    exact concat_meets ⟨_, ho, rfl⟩ ⟨_, ho2, rfl⟩ noFill_tuple_add seq_tuple_add PySem.F.slot_tuple_add PySem.F.entry_tuple_add (PySem.F.args_tuple_add_2 _ _)
      (tuple_addW0 a b [].toArray its2.toArray n n2 dd dd2 sl sl2 rfl) ⟨ho, ho2, .ref b, H, I, rfl, q _ _ (fun _ _ e => e) (by simpa using hy)⟩
  · refine HT.cat_tup p1 p2 (fun z => hv (r1.nil_iff.mp z)) (fun z => ⟨.ref a, H, I, rfl, q _ _ (fun _ _ e => e) ?_⟩) (fun z => ?_) (by rw [← r1.length, ← r2.length, l1, l2]; exact hz)
    · have e : ys = [] := r2.nil_iff.mp z
      subst e
      have ed : es = [] := List.length_eq_zero_iff.mp l2.symm
      subst ed
      simpa using hx
    · have hf := I.hok.fresh (Nat.le_refl s.heap.objs.size)
      refine ⟨.ref s.heap.objs.size, _, I.laid (t' := s.toks) (o := .tup (xs ++ ys)) (fun b ob q => Heap.get?_push_of_some _ q) (Nat.le_refl _) ?_, rfl, q _ _ (same_new' hf _) ?_⟩
      · exact ⟨by rw [List.length_append, l1, l2]; exact hz, _, r1.append r2, IsTup.new _ _⟩
      · exact dt_tup upd_same (DtAll.mono (same_new' hf _) _ _ (hxs.append hys))
end
end L2

namespace L2
open PySem PySem.Spec PyProof.Rows
/-! ### several records of ours have turned; a new object is tracked afterwards -/
section
variable {X : Cx} {pins : List (Addr × Obj)} {σ : St} {H : Hp} {s : Shared} {h' : Heap}
theorem Inv.turnedL {t' : Nat} {fp : List Addr} (I : Inv X pins σ H s) (k : ∀ b o, b ∉ fp → s.heap.get? b = some o → h'.get? b = some o) (hf : ∀ b ∈ fp, FpOk X pins H b) : Inv X pins σ H { s with heap := h', toks := t' } := by
  have nit : ∀ b u, H b = some u → b ∉ fp := fun b u e z => by rw [(hf b z).1] at e; cases e
  have nL : X.env.locals ∉ fp := fun z => (hf _ z).2.1 rfl
  refine I.step (g' := s.gens) (d' := s.drawn) (ch := fp) (fun b hb => ?_) (fun b o _ _ hc e _ => k b o hc e) (fun b o _ _ hc e _ => ⟨o.slots, k b o hc e⟩) (fun _ _ _ _ n => n)
    (fun b o hc e => ⟨o, k b o hc e⟩) (fun _ _ e => e) (fun _ _ _ e => e) (fun b ps e => ⟨#[], by rw [e]; simp⟩) (fun m hm => ?_) (fun b u e => ?_) I.bare
  · obtain ⟨_, f1, _, f3, f4, f5⟩ := hf b hb
    exact ⟨f3, f1, f4, f5⟩
  · obtain ⟨o, es, ep, ho, r⟩ := hm
    exact ⟨o, es, ep, k _ o nL ho, r⟩
  · refine (I.hok b u e).stay (fun c v hc q => k c v ?_ q) (fun _ q => q) fun _ _ q => q
    rcases hc with z | z
    · rw [z]; exact nit b u e
    · exact nit c _ z
theorem Inv.track {T : Addr} {o : HO} (I : Inv X pins σ H s) (hT : FpOk X pins H T) (new : ObjOk X.prog X.w (upd H T o) s.heap T o) : Inv X pins σ (upd H T o) s := by
  obtain ⟨f0, f1, _, f3, f4, f5⟩ := hT
  have nT : ∀ b u, H b = some u → b ≠ T := fun b u e z => by rw [z, f0] at e; cases e
  refine I.step (H' := upd H T o) (h' := s.heap) (g' := s.gens) (d' := s.drawn) (t' := s.toks) (ch := [T]) (fun b hb => ?_) (fun b o _ _ _ e _ => e) (fun b o _ _ _ e _ => ⟨o.slots, e⟩)
    (fun b u hc _ n => by rw [upd_ne (fun z => hc (by simp [z]))]; exact n) (fun b o _ e => ⟨o, e⟩) (fun b xs e => by rw [upd_ne (nT b _ e)]; exact e) (fun b u v e => by rw [upd_ne (nT b _ e)]; exact e)
    (fun b ps e => ⟨#[], by rw [upd_ne (nT b _ e), e]; simp⟩) (fun m hm => hm) (fun b u e => ?_) I.bare
  · have e : b = T := by simpa using hb
    subst e
    exact ⟨f3, f1, f4, f5⟩
  · by_cases hb : b = T
    · subst hb
      rw [upd_same] at e
      cases e
      exact new
    · rw [upd_ne hb] at e
      exact (I.hok b u e).stay (fun _ _ _ q => q) (fun c q => by rw [upd_ne (nT c _ q)]; exact q) fun c xs q => by rw [upd_ne (nT c _ q)]; exact q
end
/-! ### enumerate of a tuple, the target a tuple -/
def Ien (K : PySem.W.Frag) (a : Addr) : It :=
  ⟨fun i H => ∃ xs x, SqT K H a xs ∧ xs[i]? = some x,
   fun i H v H' => ∃ T x, H T = none ∧ v = .ref T ∧ H' = upd H T (.tup [.int i, x]) ∧ ∀ xs, SqT K H a xs → xs[i]? = some x,
   fun i H => ∃ xs, SqT K H a xs ∧ xs.length = i⟩
theorem turn_enum {P : Program} {w : World} {K : PySem.W.Frag} {elts : List Expr} {k : Nat} {pos : Pos} (a e it : Addr) (hei : e ≠ it) :
    Turn P w K (.Tuple elts k pos) (Ien K a) [e, it] e (fun i h => (∃ old, IsEnum h e it i old) ∧ h.IsTupleIter it a i) where
  mem := by simp
  obj := fun i h st b hb => by
    rcases List.mem_cons.mp hb with rfl | hb
    · obtain ⟨⟨old, he⟩, _⟩ := st
      exact ⟨_, he, fun v z => nomatch z⟩
    · have q : b = it := by simpa using hb
      subst q
      obtain ⟨_, o, e, c, d⟩ := st
      exact ⟨o, e, fun v z => by rw [d] at z; cases z⟩
  keep := fun i h h' st k => ⟨let ⟨old, he⟩ := st.1; ⟨old, k e (by simp) _ he⟩, st.2.at fun o q => k it (by simp) o q⟩
  item := by
    intro X hP hw hK hc i pins s σ H E I hf st hg
    subst hP hw hK
    obtain ⟨xs, x, hq, hx⟩ := hg
    obtain ⟨its, rv, p, hz⟩ := I.tuple hq
    obtain ⟨u, hu, ru⟩ := rv.get hx
    obtain ⟨⟨old, he⟩, hit⟩ := id st
    have hae : a ≠ e := by
      intro z; subst z
      obtain ⟨o, ho, hcl, _⟩ := p
      rw [he] at ho; cases ho
      exact absurd hcl (by intro z; injection z with z; exact absurd z (by decide))
    have hai : a ≠ it := by
      intro z; subst z
      obtain ⟨o, ho, hcl, _⟩ := p
      obtain ⟨o', ho', hcl', _⟩ := hit
      rw [ho] at ho'; cases ho'
      rw [hcl] at hcl'
      exact absurd hcl' (by intro z; injection z with z; exact absurd z (by decide))
    have W := WalksT.enumerateD (prog := X.prog) (w := X.w) (A := X.A) (L2_draws_tuple (A := X.A.in1) (I.ok.hd hc) it a hai its.toArray) e hei (by simp [hei, Ne.symm hae]) (by simp)
    refine W.item i s _ _ (by rw [List.size_toArray]; exact (List.getElem?_eq_some_iff.mp hu).1) ⟨⟨old, he⟩, hit, p⟩ fun T vals h' tk hv hT ht hm kk => ?_
    have apart := W.apart i T h' hm
    refine ⟨_, rfl, W.go elts k pos i T _ _ _ hm fun h'' st'' kk'' => ?_⟩
    obtain ⟨t, x', hx', rfl⟩ := hv
    have hxu : x' = u := by
      have : its[i]? = some x' := by simpa using hx'
      rw [hu] at this; exact (Option.some.inj this).symm
    subst hxu
    have I1 : Inv X pins σ H { s with heap := h', toks := tk } := I.turnedL kk hf
    have I2 : Inv X pins σ H { s with heap := h'', toks := tk } := I1.turnedL (s := { s with heap := h', toks := tk }) (t' := tk) kk'' hf
    have fT : FpOk X pins H T := I.fpOk hT (I.hok.fresh hT)
    have ht'' : IsTup h'' T #[.int i t, x'] := let ⟨o, ho, r⟩ := ht; ⟨o, kk'' T o apart ho, r⟩
    refine ⟨.ref T, upd H T (.tup [.int i, x]), I2.track fT ⟨by show 2 ≤ sizeLine; decide, [.int i t, x'], .cons ⟨t, rfl⟩ (.cons ru .nil), ht''⟩, rfl, ⟨T, x, fT.1, rfl, rfl, fun ys hy => by rw [I.tuple_inj hy hq]; exact hx⟩, ⟨st''.1, st''.2.1⟩, fun b hb => ?_⟩
    have hb' : b ≠ T := by
      rcases List.mem_cons.mp hb with rfl | hb
      · exact Nat.ne_of_lt (Nat.lt_of_lt_of_le (Heap.lt_size he) hT)
      · have q : b = it := by simpa using hb
        subst q
        obtain ⟨o, ho, _⟩ := hit
        exact Nat.ne_of_lt (Nat.lt_of_lt_of_le (Heap.lt_size ho) hT)
    rw [upd_ne hb']
    exact (hf b hb).1
  done := by
    intro X hP hw hK hc i pins s σ H E I hf st hg
    subst hP hw hK
    obtain ⟨xs, hq, hl⟩ := hg
    obtain ⟨its, rv, p, hz⟩ := I.tuple hq
    obtain ⟨⟨old, he⟩, hit⟩ := id st
    have hae : a ≠ e := by
      intro z; subst z
      obtain ⟨o, ho, hcl, _⟩ := p
      rw [he] at ho; cases ho
      exact absurd hcl (by intro z; injection z with z; exact absurd z (by decide))
    have hai : a ≠ it := by
      intro z; subst z
      obtain ⟨o, ho, hcl, _⟩ := p
      obtain ⟨o', ho', hcl', _⟩ := hit
      rw [ho] at ho'; cases ho'
      rw [hcl] at hcl'
      exact absurd hcl' (by intro z; injection z with z; exact absurd z (by decide))
    have W := WalksT.enumerateD (prog := X.prog) (w := X.w) (A := X.A) (L2_draws_tuple (A := X.A.in1) (I.ok.hd hc) it a hai its.toArray) e hei (by simp [hei, Ne.symm hae]) (by simp)
    have hn : its.toArray.size = i := by rw [List.size_toArray, ← rv.length]; exact hl
    subst hn
    exact W.done s _ _ ⟨⟨old, he⟩, hit, p⟩ fun h' tk kk => ⟨rfl, I.turnedL kk hf⟩
  self := fun A i s Q E st h => let ⟨⟨_, he⟩, _⟩ := st; wpAny_pyIter_enum he h
def iEn (K : PySem.W.Frag) (tl : TE) : TI := fun σ H R => tl σ H fun x H1 => ∃ a, x = .ref a ∧ (∃ xs, SqT K H1 a xs) ∧ R (Ien K a) H1
section
variable {X : Cx}
theorem pi_enum {elts : List Expr} {k : Nat} {tpos : Pos} {l : Expr} {tl : TE} {p pos : Pos} (hg : Gl X "enumerate") (hm : X.mg "enumerate" = none) (hl : PE X l tl) (hs : starEach [l] X.env = [(false, eval l X.env)] := by rfl) :
    PI X (.Tuple elts k tpos) (.Call (.Name "enumerate" p) [l] [] pos) (iEn X.K tl) := by
  intro pins s σ H R I h
  refine wpAny_Call_Name_kw (ld_blt I hg hm boot_enumerate ?_)
  refine PyProof.Rows.callWith_type1 ?_ hs rfl
  rw [hs]
  refine Calls.spliced_cons (thn (hl pins s σ H _ I h) fun u s1 ⟨v, H1, I1, r1, q1⟩ => Calls.spliced_nil ?_)
  obtain ⟨a, rfl, ⟨xs, hq⟩, q⟩ := q1
  cases r1
  obtain ⟨its, rv, p, hz⟩ := I1.tuple hq
  refine L2_call_enum_tuple p fun h' he hit hsz kk => ?_
  refine wpAny_pyIter_enum he ?_
  refine ⟨s1.heap.objs.size + 1, [s1.heap.objs.size + 1, s1.heap.objs.size], _, _, H1, rfl, I1.kept (t' := s1.toks) kk, turn_enum a _ _ (Nat.succ_ne_self _), ⟨⟨_, he⟩, hit⟩, fun b hb => ?_, q⟩
  have hb' : s1.heap.objs.size ≤ b := by
    rcases List.mem_cons.mp hb with rfl | hb
    · exact Nat.le_succ _
    · have e : b = s1.heap.objs.size := by simpa using hb
      exact Nat.le_of_eq e.symm
  exact I1.fpOk hb' (I1.hok.fresh hb')
/-- any walk of n turns -/
theorem for_of {J : It} {g : TG} {tb : TS} {D : Ends} {σ : St} {H : Hp} (n : Nat) (Pv : Nat → St → Hp → Prop) (h0 : Pv 0 σ H) (hgo : ∀ i σ H, i < n → Pv i σ H → J.go i H) (hstop : ∀ σ H, Pv n σ H → J.stop n H ∧ D.nx σ H)
    (hs : ∀ i x σ H H2, i < n → Pv i σ H → J.yld i H x H2 → g x σ H2 fun σ2 H3 => tb { D with nx := Pv (i + 1), ct := Pv (i + 1), bk := D.nx } σ2 H3) :
    ∃ W : Nat → Nat → St → Hp → Prop, (∃ m, W 0 m σ H) ∧ ∀ i m σ H, W i m σ H →
      (J.stop i H ∧ D.nx σ H) ∨ (J.go i H ∧ ∃ N : St → Hp → Prop, (∀ σ' H', N σ' H' → ∃ m', m' < m ∧ W (i + 1) m' σ' H') ∧ ∀ x H', J.yld i H x H' → g x σ H' fun σ2 H2 => tb { D with nx := N, ct := N, bk := D.nx } σ2 H2) := by
  refine ⟨fun i m σ H => m = n - i ∧ i ≤ n ∧ Pv i σ H, ⟨n, by simp, Nat.zero_le _, h0⟩, ?_⟩
  rintro i m σ H ⟨rfl, hi, p⟩
  by_cases hlt : i < n
  · exact .inr ⟨hgo i σ H hlt p, Pv (i + 1), fun σ' H' p' => ⟨n - (i + 1), by omega, rfl, hlt, p'⟩, fun x H' y => hs i x σ H H' hlt p y⟩
  · have e : i = n := by omega
    subst e
    exact .inl (hstop σ H p)
/-- a, b, c = x, y, z with plain local names -/
def tPar3 (i j l : Nat) (ta : TA) : TS := fun D σ H => ta σ H fun vs H1 => ∃ u v w, vs = [u, v, w] ∧ D.nx (((σ.set i (some u)).set j (some v)).set l (some w)) H1
theorem ps_par3 {i j l : Nat} {x y z : Str} {a b c : Expr} {ta : TA} {px py pz pt pos : Pos} {kt k2 pt2} (hc : X.calm = true) (hN : X.N.Nodup) (hi : X.N[i]? = some x) (hj : X.N[j]? = some y) (hl : X.N[l]? = some z) (hij : i ≠ j) (hil : i ≠ l) (hjl : j ≠ l)
    (hx : X.env.scope.names.lookup x = some .local) (hy : X.env.scope.names.lookup y = some .local) (hz : X.env.scope.names.lookup z = some .local) (ha : PA X [a, b, c] ta)
    (hw : swappedStores [.Tuple [.Name x px, .Name y py, .Name z pz] kt pt] (.Tuple [a, b, c] k2 pt2) X.env = pure (some [x, y, z]))
    (hs : swapsWithSole [.Tuple [.Name x px, .Name y py, .Name z pz] kt pt] (.Tuple [a, b, c] k2 pt2) pos.line X.env = pure false := by rfl) :
    PS X (.Assign [.Tuple [.Name x px, .Name y py, .Name z pz] kt pt] (.Tuple [a, b, c] k2 pt2) pos) (tPar3 i j l ta) := by
  intro pins s σ H D I h
  rw [exec_Assign_arm]
  refine wpAny_bind (wpAny_standAt ?_)
  rw [hs]
  refine wpAny_bind (wpAny_pure ?_)
  rw [if_neg (by decide)]
  refine wpAny_bind (Tuple_ (thn (ha _ pins s σ H _ I h) fun us s1 ⟨vs, H1, I1, r1, q1⟩ => ?_))
  obtain ⟨u, v, w, e1, q1⟩ := q1
  subst e1
  obtain ⟨u1, u2, u3, rfl, ru, rv, rw'⟩ : ∃ u1 u2 u3, us = [u1, u2, u3] ∧ RelV u u1 ∧ RelV v u2 ∧ RelV w u3 := by
    cases r1 with
    | cons p q =>
      cases q with
      | cons p' q' =>
        cases q' with
        | cons p'' q'' =>
          cases q''
          exact ⟨_, _, _, rfl, p, p', p''⟩
  refine wpAny_newObj_type ?_ (by show 3 ≤ sizeLine; decide)
  have I2 : Inv X pins σ H1 { s1 with heap := s1.heap.push { cls := .type "tuple", data := .seq [u1, u2, u3].toArray } } := I1.kept (t' := s1.toks) fun b o e => Heap.get?_push_of_some _ e
  rw [hw]
  refine wpAny_bind (wpAny_pure ?_)
  show wpAny (model X.prog X.w) X.A (do rule "assign.swapped-stores"; let items ← unpackItems (.ref s1.heap.objs.size) 3 none; assignInOrder [fun v => bindName X.env z v, fun v => bindName X.env y v, fun v => bindName X.env x v] items.reverse; pure Flow.next) _ _ _
  refine wpAny_bind (wpAny_rule (wpAny_bind (unpackItems_tuple (items := #[u1, u2, u3]) (I.ok.hd hc) (IsTup.new s1.heap _) fun h' hx' => ?_)))
  have I3 := I2.kept (h' := h') (t' := s1.toks) fun b o e => hx' b o (Nat.ne_of_lt (Heap.lt_size e)) e
  show wpAny _ _ (assignInOrder [fun v => bindName X.env z v, fun v => bindName X.env y v, fun v => bindName X.env x v] [u3, u2, u1] >>= fun _ => pure Flow.next) _ _ _
  refine wpAny_bind (assignInOrder_cons (wpAny_bindName (store_ok I3 hN hl (.inl hz) rw' (fun s2 I4 => ?_) (.inr hz))))
  refine assignInOrder_cons (wpAny_bindName (store_ok I4 hN hj (.inl hy) rv (fun s3 I5 => ?_) (.inr hy)))
  refine assignInOrder_cons (wpAny_bindName (store_ok I5 hN hi (.inl hx) ru (fun s4 I6 => assignInOrder_nil (wpAny_pure ?_)) (.inr hx)))
  have e1 : ((σ.set l (some w)).set j (some v)).set i (some u) = ((σ.set l (some w)).set i (some u)).set j (some v) := List.set_comm _ _ (Ne.symm hij)
  have e2 : (σ.set l (some w)).set i (some u) = (σ.set i (some u)).set l (some w) := List.set_comm _ _ (Ne.symm hil)
  have e3 : ((σ.set i (some u)).set l (some w)).set j (some v) = ((σ.set i (some u)).set j (some v)).set l (some w) := List.set_comm _ _ (Ne.symm hjl)
  rw [e1, e2, e3] at I6
  exact ⟨_, H1, I6, q1⟩
/-- text * n, n nought or one -/
theorem op_mul_str01 : OpR X (binaryOp .Mult) (fun x y H Q => ∃ z n, x = .str z ∧ y = .int n ∧ (n = 0 ∨ n = 1) ∧ Q (.str (if n = 0 then Str.empty else z)) H) := by
  intro pins s σ H x y v u Q I rx ry h
  obtain ⟨z, n, rfl, rfl, hn, q⟩ := h
  obtain ⟨t, rfl⟩ := rx
  obtain ⟨t', rfl⟩ := ry
  rcases hn with rfl | rfl
  · exact P.mul_str_none (by decide) (by decide) ⟨.str Str.empty, H, I.tok _, ⟨_, rfl⟩, by simpa using q⟩
  · refine P.mul_str (by decide) (fun _ z => by simp at z) (fun _ z => by simp at z) ?_
    rw [if_neg (by decide), if_pos (by simp)]
    exact ⟨.str z, H, I, ⟨_, rfl⟩, by simpa using q⟩
/-- t[lo:hi] over data, not the whole -/
def rSlD : V → Option Int → Option Int → Hp → VK → Prop := fun x lo hi H Q => ∃ ds, Dt H (.tuple ds) x ∧ ¬ (HT.sIx ds.length 0 lo = 0 ∧ HT.sIx ds.length ds.length hi = ds.length) ∧
  ∀ z H', Same H H' → Dt H' (.tuple (cutD ds lo hi)) z → Q z H'
theorem sl_tupD : SlR X rSlD := by
  intro pins s σ H x v vl vu lo hi sl Q I rx hs pl pu h
  obtain ⟨ds, hd, hw, q⟩ := h
  obtain ⟨a, xs, rfl, ha, hx⟩ := hd.tup
  refine sl_tup pins s σ H (.ref a) v vl vu lo hi sl Q I rx hs pl pu ⟨a, xs, rfl, SqT.of ha, by rw [hx.length]; exact hw, fun p hp => ?_⟩
  exact q _ _ (same_new' hp _) (dt_tup upd_same (DtAll.mono (same_new' hp _) _ _ (hx.cut lo hi)))
/-- t[i] over data -/
def rIxD : R2 := fun x y H Q => ∃ ds i d, Dt H (.tuple ds) x ∧ y = .int i ∧ atI ds i = some d ∧ ∀ z, Dt H d z → Q z H
theorem atI_all {H : Hp} {ds : List PyData} {xs : List V} {i : Int} {d : PyData} (h : DtAll H ds xs) (e : atI ds i = some d) : ∃ x, atI xs i = some x ∧ Dt H d x := by
  unfold atI at e ⊢
  rw [h.length]
  cases q : ixN ds.length i with
  | none => rw [q] at e; cases e
  | some j =>
    rw [q] at e
    obtain ⟨x, hx, hd⟩ := h.get (show ds[j]? = some d from e)
    exact ⟨x, hx, hd⟩
theorem ix_tupD : IxR X rIxD := by
  intro value slice pins s σ H x y v u Q I rx ry h hs
  obtain ⟨ds, i, d, hd, rfl, e, q⟩ := h
  obtain ⟨a, xs, rfl, ha, hx⟩ := hd.tup
  obtain ⟨z, ez, hz⟩ := atI_all hx e
  exact ix_tup value slice pins s σ H (.ref a) (.int i) v u Q I rx ry ⟨a, xs, i, z, rfl, rfl, SqT.of ha, ez, q z hz⟩ hs
end
/-! ### the heap without some addresses -/
def hide (S : List Addr) (H : Hp) : Hp := fun b => if b ∈ S then none else H b
theorem hide_same {S : List Addr} {H : Hp} : Same (hide S H) H := fun b o e => by
  unfold hide at e
  split at e
  · cases e
  · exact e
theorem same_hide {S S' : List Addr} {H H' : Hp} (h : ∀ b o, b ∉ S → H b = some o → b ∉ S' ∧ H' b = some o) : Same (hide S H) (hide S' H') := fun b o e => by
  unfold hide at e ⊢
  split at e
  · cases e
  · rename_i hb
    obtain ⟨h1, h2⟩ := h b o hb e
    rw [if_neg h1]; exact h2
theorem hide_at {S : List Addr} {H : Hp} {b : Addr} {o : HO} (hb : b ∉ S) (e : H b = some o) : hide S H b = some o := by
  unfold hide; rw [if_neg hb]; exact e
theorem same_at {H0 H : Hp} {p : Addr} {o : HO} (S : Same H0 H) (h : H0 p = none) : Same H0 (upd H p o) := fun b u q => by rw [upd_ne (ne_of_none q h)]; exact S b u q
theorem Same.tr {H H1 H2 : Hp} (a : Same H H1) (b : Same H1 H2) : Same H H2 := fun c o h => b c o (a c o h)
end L2

namespace L2
open PySem PySem.Spec PyProof.Rows
section
variable {X : Cx}
/-- l.insert(i, y), i from 0 to the length -/
def rInsert : V → List V → Hp → VK → Prop := fun x vs H Q => ∃ l xs i y, x = .ref l ∧ vs = [.int i, y] ∧ H l = some (.lst xs) ∧ 0 ≤ i ∧ i ≤ (xs.length : Int) ∧ xs.length < sizeLine ∧ Q .non (upd H l (.lst (xs.take i.toNat ++ [y] ++ xs.drop i.toNat)))
theorem mt_insert : MtM X "list.insert" rInsert := by
  intro pins s σ H x vs v us Q I rx rv h
  obtain ⟨l, xs, i, y, rfl, rfl, hH, h0, h1, hz, q⟩ := h
  cases rx
  obtain ⟨u, v', rfl, ru, rv'⟩ := rv.two
  obtain ⟨t, rfl⟩ := ru
  obtain ⟨z, its, n, r, hl, e⟩ := I.lstM hH
  have hline := line63
  have hfit : Builtin.List.listFitsIndex i = true := by
    unfold Builtin.List.listFitsIndex
    simp only [Bool.and_eq_true, decide_eq_true_eq]
    omega
  refine call_meets F.slot_list_insert ⟨_, e, rfl⟩ F.entry_list_insert (F.args_list_insert_3 _ _ _) (AutoSeq1.list_insert_list_int_val_1 l its.toArray n i t v' (by rw [hfit]; decide) (by rw [List.size_toArray]; omega)) ⟨e, ?_⟩
  refine ⟨.non, _, I.lset (its' := its.take i.toNat ++ [v'] ++ its.drop i.toNat) hH e ?_ (((r.take _).append (.cons rv' .nil)).append (r.drop _)) ?_, rfl, q⟩
  · have hk : (if i < 0 then (i + ((its.toArray.size : Nat) : Int)).toNat else min i.toNat its.toArray.size) = i.toNat := by
      rw [if_neg (by omega), List.size_toArray, Nat.min_eq_left (by omega)]
    show (its.toArray.extract 0 (if i < 0 then (i + ((its.toArray.size : Nat) : Int)).toNat else min i.toNat its.toArray.size)).push v' ++ its.toArray.extract (if i < 0 then (i + ((its.toArray.size : Nat) : Int)).toNat else min i.toNat its.toArray.size) its.toArray.size = _
    rw [hk, Array.push_eq_append]
    have := splice_eq its [v'] i.toNat i.toNat
    simpa using this
  · simp only [List.length_append, List.length_take, List.length_drop, List.length_singleton]
    omega
end
end L2
namespace HT
open PySem PySem.Spec PyProof.Rows
section
variable {prog : Program} {w : World} {A : Around} {E : Value → Shared → Prop} {s : Shared}
theorem getItem_tuple_all {t sl : Addr} {items : Array Value} {vl vu : Value} {lo hi : Option Int} {Q : Value → Shared → Prop} (ht : IsTup s.heap t items) (hs : s.heap.IsSliceOf sl vl vu .none) (pl : IsPart vl lo) (pu : IsPart vu hi)
    (hw : sIx items.size 0 lo = 0 ∧ sIx items.size items.size hi = items.size)
    (h : Q (.ref t) s) : wpAny (model prog w) A (getItem (.ref t) (.ref sl)) Q E s := by
  obtain ⟨os, hos, hcs, hds⟩ := id hs
  have hTs : s.TypeIs (.ref sl) "slice" := ⟨os, hos, hcs⟩
  unfold getItem
  try with_reducible refine wpAny_holding ?_
  first | refine wpAny_bind (wpAny_pure ?_) | skip
  refine wpAny_bind (wpAny_sequenceKey ht.typeIs (by decide) ?_)
  refine wpAny_bind (wpAny_callSpecial?_slot (name := Str.ofString "__getitem__") ht.typeIs PyProof.Rows.slot_tuple_getitem
    (wpAny_call_entry PyProof.Rows.slot_tuple_getitem ht.typeIs entry_tuple_getitem ?_ (args_tuple_getitem _ _)))
  show wpAny _ _ (Builtin.Tuple.tupleItemsOf (.ref t) >>= _) _ _ s
  refine wpAny_bind (tupleItemsOf_ ht ?_)
  refine wpAny_bind (wpAny_typeOf hTs ?_)
  rw [if_pos (by decide)]
  refine wpAny_bind (sliceApplied_gen hs pl pu ?_)
  have hyes : (((sIx items.size 0 lo : Nat) : Int) == 0 && (1 : Int) == 1 && (sIx items.size items.size hi - sIx items.size 0 lo) == items.size) = true := by
    rw [hw.1, hw.2]; simp
  show wpAny _ _ (if (((sIx items.size 0 lo : Nat) : Int) == 0 && (1 : Int) == 1 && (sIx items.size items.size hi - sIx items.size 0 lo) == items.size) = true then _ else _) _ _ s
  rw [if_pos hyes]
  unfold Builtin.Tuple.tupleIsExact
  refine wpAny_bind (wpAny_bind (wpAny_typeOf ht.typeIs (wpAny_pure ?_)))
  rw [if_pos (by decide)]
  refine wpAny_bind (wpAny_rule ?_)
  first
    | exact wpAny_pure ⟨_, rfl, wpAny_pure h⟩
    | exact wpAny_bind (wpAny_pure (wpAny_pure ⟨_, rfl, wpAny_pure h⟩))
    | exact wpAny_bind (wpAny_pure ⟨_, rfl, wpAny_pure h⟩)
end
end HT
namespace L2
open PySem PySem.Spec PyProof.Rows
section
variable {X : Cx}
/-- t[lo:hi] over data, the whole too -/
def rSlA : V → Option Int → Option Int → Hp → VK → Prop := fun x lo hi H Q => ∃ ds, Dt H (.tuple ds) x ∧ ∀ z H', Same H H' → Dt H' (.tuple (cutD ds lo hi)) z → Q z H'
theorem cutD_all {ds : List PyData} {lo hi : Option Int} (h : HT.sIx ds.length 0 lo = 0 ∧ HT.sIx ds.length ds.length hi = ds.length) : cutD ds lo hi = ds := by
  unfold cutD
  rw [h.1, h.2, List.drop_zero, Nat.sub_zero, List.take_of_length_le (Nat.le_refl _)]
theorem sl_tupA : SlR X rSlA := by
  intro pins s σ H x v vl vu lo hi sl Q I rx hs pl pu h
  obtain ⟨ds, hd, q⟩ := h
  by_cases hw : HT.sIx ds.length 0 lo = 0 ∧ HT.sIx ds.length ds.length hi = ds.length
  · obtain ⟨a, xs, rfl, ha, hx⟩ := hd.tup
    cases rx
    obtain ⟨its, r, ht, hz⟩ := I.tuple (SqT.of ha)
    have hlen : its.toArray.size = ds.length := by rw [List.size_toArray, ← r.length, hx.length]
    refine ⟨"tuple", _, PyProof.Rows.slot_tuple_getitem.lookup, ht.typeIs, ?_⟩
    refine HT.getItem_tuple_all ht hs pl pu (by rw [hlen]; exact hw) ⟨.ref a, H, I, rfl, q _ _ (fun _ _ e => e) ?_⟩
    rw [cutD_all hw]
    exact hd
  · exact sl_tupD pins s σ H x v vl vu lo hi sl Q I rx hs pl pu ⟨ds, hd, hw, q⟩
end
end L2

namespace L2
open PySem PySem.Spec PyProof.Rows
section
variable {X : Cx}
/-! ### what is never reached -/
def tNo : TS := fun _ _ _ => False
theorem ps_no {s : Stmt} : PS X s tNo := fun _ _ _ _ _ _ h => h.elim
theorem pss_no {l : List Stmt} : PSs X l tNo := fun _ _ _ _ _ _ h => h.elim
/-! ### text.split(sep) -/
theorem vals_strs : ∀ (l : List (Str × Tok)), Vals ((l.map (·.1)).map V.str) (strValues l)
  | [] => .nil
  | (x, t) :: l => .cons ⟨t, rfl⟩ (vals_strs l)
def rSplit : V → List V → Hp → VK → Prop := fun x vs H Q => ∃ z y, x = .str z ∧ vs = [.str y] ∧ (y.length == 0) = false ∧ z.length ≤ 1000000 ∧ ∀ l, H l = none → Q (.ref l) (upd H l (.lst ((Txt.split z y).map V.str)))
theorem partsB_len (x : Str) (cuts : List Nat) (n : Nat) : (Builtin.Str.partsBetween x cuts n).length = cuts.length + 1 := by
  unfold Builtin.Str.partsBetween
  simp
theorem mt_split : MtR X "str.split" rSplit := by
  intro pins s σ H x xs v us Q I rx r h
  obtain ⟨z, y, rfl, rfl, hy, hz, q⟩ := h
  obtain ⟨t, rfl⟩ := rx
  obtain ⟨u, rfl, ru⟩ := vals1 r
  obtain ⟨t', rfl⟩ := ru
  have hf := I.hok.fresh (Nat.le_refl s.heap.objs.size)
  have hzl : z.length ≤ sizeLine := Nat.le_trans hz (by decide)
  have fin : ∀ (l : List (Str × Tok)) (tk : Nat), l.map (·.1) = Txt.split z y → l.length ≤ 1000002 → EP X pins σ Q (.ref s.heap.objs.size) { s with toks := tk, heap := s.heap.push { cls := .type "list", data := .seq (strValues l).toArray } } := fun l tk e hl => by
    refine ⟨.ref s.heap.objs.size, _, I.laid (t' := tk) (o := .lst ((Txt.split z y).map V.str)) (fun b ob q => Heap.get?_push_of_some _ q) (Nat.le_refl _) ?_, rfl, q _ hf⟩
    refine ⟨by rw [← e, List.length_map, List.length_map]; exact Nat.le_trans hl (by decide), strValues l, 0, by rw [← e]; exact vals_strs l, Heap.get?_push_size _ rfl⟩
  cases h1 : (decide (z.length < y.length) || decide (Builtin.Str.strKind z < Builtin.Str.strKind y))
  · cases hf' : (Builtin.Str.occurrences z y 0 z.length (z.length + 1)).isEmpty
    · have hocc := StrLaws.occ_length_le z y 0 z.length (z.length + 1)
      have hn : (Builtin.Str.partsBetween z (Builtin.Str.occurrences z y 0 z.length (z.length + 1)) y.length).length ≤ 1000002 := by rw [partsB_len]; omega
      refine call_meets F.slot_str_split (typeIs_str _ _ _) F.entry_str_split (F.args_str_split_2 _ _) (meets_str_split_sep z y t t' h1 hy hf' hzl (Nat.le_trans hn (by decide))) ?_
      show EP X pins σ Q (.ref s.heap.objs.size) { s with toks := _, heap := s.heap.push { cls := .type "list", data := .seq (strsFrom s.toks (Builtin.Str.partsBetween z (Builtin.Str.occurrences z y 0 z.length (z.length + 1)) y.length)).toArray } }
      rw [strsFrom_eq]
      refine fin (numbered s.toks _) _ ((numbered_texts _ _).trans ((if_neg (ne_true_of_eq_false h1)).trans (if_neg (ne_true_of_eq_false hf'))).symm) ?_
      have e := congrArg List.length (numbered_texts s.toks (Builtin.Str.partsBetween z (Builtin.Str.occurrences z y 0 z.length (z.length + 1)) y.length))
      rw [List.length_map] at e
      rw [e]; exact hn
    · refine call_meets F.slot_str_split (typeIs_str _ _ _) F.entry_str_split (F.args_str_split_2 _ _) (meets_str_split_not_found z y t t' h1 hy hf') ?_
      exact fin [(z, t)] s.toks ((if_neg (ne_true_of_eq_false h1)).trans (if_pos hf')).symm (by show 1 ≤ 1000002; decide)
  · refine call_meets F.slot_str_split (typeIs_str _ _ _) F.entry_str_split (F.args_str_split_2 _ _) (meets_str_split_cannot_occur z y t t' h1) ?_
    exact fin [(z, t)] s.toks (if_pos h1).symm (by show 1 ≤ 1000002; decide)
/-! ### enumerate of a list -/
def Iel (K : PySem.W.Frag) (a : Addr) : It :=
  ⟨fun i H => ∃ xs x, SqL K H a xs ∧ xs[i]? = some x,
   fun i H v H' => ∃ T x, H T = none ∧ v = .ref T ∧ H' = upd H T (.tup [.int i, x]) ∧ ∀ xs, SqL K H a xs → xs[i]? = some x,
   fun i H => ∃ xs, SqL K H a xs ∧ xs.length = i⟩
theorem turn_enumL {P : Program} {w : World} {K : PySem.W.Frag} {elts : List Expr} {k : Nat} {pos : Pos} (a e it : Addr) (hei : e ≠ it) :
    Turn P w K (.Tuple elts k pos) (Iel K a) [e, it] e (fun i h => (∃ old, IsEnum h e it i old) ∧ h.IsListIter it a i) where
  mem := by simp
  obj := fun i h st b hb => by
    rcases List.mem_cons.mp hb with rfl | hb
    · obtain ⟨⟨old, he⟩, _⟩ := st
      exact ⟨_, he, fun v z => nomatch z⟩
    · have q : b = it := by simpa using hb
      subst q
      obtain ⟨_, o, e, c, d⟩ := st
      exact ⟨o, e, fun v z => by rw [d] at z; cases z⟩
  keep := fun i h h' st k => ⟨let ⟨old, he⟩ := st.1; ⟨old, k e (by simp) _ he⟩, st.2.at fun o q => k it (by simp) o q⟩
  item := by
    intro X hP hw hK hc i pins s σ H E I hf st hg
    subst hP hw hK
    obtain ⟨xs, x, hq, hx⟩ := hg
    obtain ⟨its, rv, p, hz⟩ := I.list hq
    obtain ⟨u, hu, ru⟩ := rv.get hx
    obtain ⟨⟨old, he⟩, hit⟩ := id st
    have hae : a ≠ e := by
      intro z; subst z
      obtain ⟨o, ho, hcl, _⟩ := p.isList
      rw [he] at ho; cases ho
      exact absurd hcl (by intro z; injection z with z; exact absurd z (by decide))
    have hai : a ≠ it := by
      intro z; subst z
      obtain ⟨o, ho, hcl, _⟩ := p.isList
      obtain ⟨o', ho', hcl', _⟩ := hit
      rw [ho] at ho'; cases ho'
      rw [hcl] at hcl'
      exact absurd hcl' (by intro z; injection z with z; exact absurd z (by decide))
    have W := WalksT.enumerateD (prog := X.prog) (w := X.w) (A := X.A) (Draws.list (A := X.A.in1) (I.ok.hd hc) it a hai its.toArray) e hei (by simp [hei, Ne.symm hae]) (by simp)
    refine W.item i s _ _ (by rw [List.size_toArray]; exact (List.getElem?_eq_some_iff.mp hu).1) ⟨⟨old, he⟩, hit, p.isList⟩ fun T vals h' tk hv hT ht hm kk => ?_
    have apart := W.apart i T h' hm
    refine ⟨_, rfl, W.go elts k pos i T _ _ _ hm fun h'' st'' kk'' => ?_⟩
    obtain ⟨t, x', hx', rfl⟩ := hv
    have hxu : x' = u := by
      have : its[i]? = some x' := by simpa using hx'
      rw [hu] at this; exact (Option.some.inj this).symm
    subst hxu
    have I1 : Inv X pins σ H { s with heap := h', toks := tk } := I.turnedL kk hf
    have I2 : Inv X pins σ H { s with heap := h'', toks := tk } := I1.turnedL (s := { s with heap := h', toks := tk }) (t' := tk) kk'' hf
    have fT : FpOk X pins H T := I.fpOk hT (I.hok.fresh hT)
    have ht'' : IsTup h'' T #[.int i t, x'] := let ⟨o, ho, r⟩ := ht; ⟨o, kk'' T o apart ho, r⟩
    refine ⟨.ref T, upd H T (.tup [.int i, x]), I2.track fT ⟨by show 2 ≤ sizeLine; decide, [.int i t, x'], .cons ⟨t, rfl⟩ (.cons ru .nil), ht''⟩, rfl, ⟨T, x, fT.1, rfl, rfl, fun ys hy => by rw [I.list_inj hy hq]; exact hx⟩, ⟨st''.1, st''.2.1⟩, fun b hb => ?_⟩
    have hb' : b ≠ T := by
      rcases List.mem_cons.mp hb with rfl | hb
      · exact Nat.ne_of_lt (Nat.lt_of_lt_of_le (Heap.lt_size he) hT)
      · have q : b = it := by simpa using hb
        subst q
        obtain ⟨o, ho, _⟩ := hit
        exact Nat.ne_of_lt (Nat.lt_of_lt_of_le (Heap.lt_size ho) hT)
    rw [upd_ne hb']
    exact (hf b hb).1
  done := by
    intro X hP hw hK hc i pins s σ H E I hf st hg
    subst hP hw hK
    obtain ⟨xs, hq, hl⟩ := hg
    obtain ⟨its, rv, p, hz⟩ := I.list hq
    obtain ⟨⟨old, he⟩, hit⟩ := id st
    have hae : a ≠ e := by
      intro z; subst z
      obtain ⟨o, ho, hcl, _⟩ := p.isList
      rw [he] at ho; cases ho
      exact absurd hcl (by intro z; injection z with z; exact absurd z (by decide))
    have hai : a ≠ it := by
      intro z; subst z
      obtain ⟨o, ho, hcl, _⟩ := p.isList
      obtain ⟨o', ho', hcl', _⟩ := hit
      rw [ho] at ho'; cases ho'
      rw [hcl] at hcl'
      exact absurd hcl' (by intro z; injection z with z; exact absurd z (by decide))
    have W := WalksT.enumerateD (prog := X.prog) (w := X.w) (A := X.A) (Draws.list (A := X.A.in1) (I.ok.hd hc) it a hai its.toArray) e hei (by simp [hei, Ne.symm hae]) (by simp)
    have hn : its.toArray.size = i := by rw [List.size_toArray, ← rv.length]; exact hl
    subst hn
    exact W.done s _ _ ⟨⟨old, he⟩, hit, p.isList⟩ fun h' tk kk => ⟨rfl, I.turnedL kk hf⟩
  self := fun A i s Q E st h => let ⟨⟨_, he⟩, _⟩ := st; wpAny_pyIter_enum he h
def iEl (K : PySem.W.Frag) (tl : TE) : TI := fun σ H R => tl σ H fun x H1 => ∃ a, x = .ref a ∧ (∃ xs, SqL K H1 a xs) ∧ R (Iel K a) H1
theorem pi_enumL {elts : List Expr} {k : Nat} {tpos : Pos} {l : Expr} {tl : TE} {p pos : Pos} (hg : Gl X "enumerate") (hm : X.mg "enumerate" = none) (hl : PE X l tl) (hs : starEach [l] X.env = [(false, eval l X.env)] := by rfl) :
    PI X (.Tuple elts k tpos) (.Call (.Name "enumerate" p) [l] [] pos) (iEl X.K tl) := by
  intro pins s σ H R I h
  refine wpAny_Call_Name_kw (ld_blt I hg hm boot_enumerate ?_)
  refine PyProof.Rows.callWith_type1 ?_ hs rfl
  rw [hs]
  refine Calls.spliced_cons (thn (hl pins s σ H _ I h) fun u s1 ⟨v, H1, I1, r1, q1⟩ => Calls.spliced_nil ?_)
  obtain ⟨a, rfl, ⟨xs, hq⟩, q⟩ := q1
  cases r1
  obtain ⟨its, rv, p, hz⟩ := I1.list hq
  refine call_enumerate_list p.isList fun h' he hit hsz kk => ?_
  refine wpAny_pyIter_enum he ?_
  refine ⟨s1.heap.objs.size + 1, [s1.heap.objs.size + 1, s1.heap.objs.size], _, _, H1, rfl, I1.kept (t' := s1.toks) kk, turn_enumL a _ _ (Nat.succ_ne_self _), ⟨⟨_, he⟩, hit⟩, fun b hb => ?_, q⟩
  have hb' : s1.heap.objs.size ≤ b := by
    rcases List.mem_cons.mp hb with rfl | hb
    · exact Nat.le_succ _
    · have e : b = s1.heap.objs.size := by simpa using hb
      exact Nat.le_of_eq e.symm
  exact I1.fpOk hb' (I1.hok.fresh hb')
/-! ### list(d) of a dict -/
theorem vals_keys {P : Program} {w : World} : ∀ {kvs : List (Key × V)} {vs : List Value}, vs.length = kvs.length → (∀ (j : Nat) (v : Value), vs[j]? = some v → ∃ k x, kvs[j]? = some (k, x) ∧ (mixKind P w).is k v = true) → Vals (kvs.map fun p => kV p.1) vs
  | [], [], _, _ => .nil
  | (k, x) :: kvs, v :: vs, hl, h => by
    refine .cons ?_ (vals_keys (P := P) (w := w) (by simpa using hl) fun j u e => by simpa using h (j + 1) u (by simpa using e))
    obtain ⟨k', x', e, hk⟩ := h 0 v rfl
    cases e
    rcases keyIs_shape (k := k) (v := v) hk with ⟨i, t, rfl, rfl⟩ | ⟨z, t, rfl, rfl⟩
    · exact ⟨t, rfl⟩
    · exact ⟨t, rfl⟩
theorem call_list_dK (hc : X.calm = true) : CallR X (.type "list") (fun xs H Q => ∃ a kvs, xs = [.ref a] ∧ H a = some (.dK kvs) ∧ ∀ l, H l = none → Q (.ref l) (upd H l (.lst (kvs.map fun p => kV p.1)))) := by
  intro pins s σ H xs us Q I r h
  obtain ⟨a, kvs, rfl, ha, q⟩ := h
  obtain ⟨u, rfl, rx⟩ := vals1 r
  cases rx
  obtain ⟨hz, hsys, vs, rv, hd⟩ := dk_of I.hok ha
  obtain ⟨ep, hat⟩ := hd.dictAt
  have hl := rv.length
  refine PySem.W.kdl_call (PySem.W.kdl_dict (ep := ep) hsys) (I.ok.hd hc) hat (by rw [← hl]; exact hz) fun h' tk acc c kk hget hitems => ?_
  refine ⟨.ref s.heap.objs.size, _, I.laid (t' := tk) (o := .lst (kvs.map fun p => kV p.1)) kk (Nat.le_refl _) ?_, rfl, q _ (I.hok.fresh (Nat.le_refl _))⟩
  refine ⟨by rw [List.length_map]; exact hz, acc.toList, c, ?_, by simpa using hget⟩
  refine vals_keys (P := X.prog) (w := X.w) (by rw [Array.length_toList, hitems.1, hl]) fun j v e => ?_
  obtain ⟨k, x, e1, e2⟩ := hitems.2 j v (by rw [← Array.getElem?_toList]; exact e)
  obtain ⟨hj, ej⟩ := List.getElem?_eq_some_iff.mp e1
  have hj' : j < kvs.length := by omega
  refine ⟨k, (kvs[j]).2, ?_, e2⟩
  have hk : kvs[j].1 = k := by
    have := congrArg (fun l => l[j]?) rv.keys
    simp only [List.getElem?_map, List.getElem?_eq_getElem hj', e1, Option.map_some] at this
    exact Option.some.inj this
  rw [List.getElem?_eq_getElem hj', ← hk]
/-! ### tuple(d.items()) -/
/-- several new tuples tracked -/
theorem Inv.trackL {pins : List (Addr × Obj)} {σ : St} {s : Shared} : ∀ {as : List Addr} {kvs : List (Key × V)} {H : Hp}, Inv X pins σ H s → as.length = kvs.length → as.Pairwise (· < ·) → (∀ a ∈ as, FpOk X pins H a) →
    (∀ (j : Nat) (a : Addr) (p : Key × V), as[j]? = some a → kvs[j]? = some p → ∃ its, Vals [kV p.1, p.2] its ∧ IsTup s.heap a its.toArray) →
    ∃ H', Inv X pins σ H' s ∧ Same H H' ∧ (∀ (j : Nat) (a : Addr) (p : Key × V), as[j]? = some a → kvs[j]? = some p → H' a = some (.tup [kV p.1, p.2])) ∧ ∀ b, b ∉ as → H' b = H b
  | [], _, H, I, _, _, _, _ => ⟨H, I, fun _ _ e => e, fun j a p e => by simp at e, fun _ _ => rfl⟩
  | a :: as, [], _, _, hl, _, _, _ => by simp at hl
  | a :: as, p :: kvs, H, I, hl, hp, hf, ht => by
    obtain ⟨its, hv, hi⟩ := ht 0 a p rfl rfl
    have fa := hf a List.mem_cons_self
    have I1 : Inv X pins σ (upd H a (.tup [kV p.1, p.2])) s := I.track fa ⟨by show 2 ≤ sizeLine; decide, its, hv, hi⟩
    have hlt := (List.pairwise_cons.mp hp).1
    obtain ⟨H', I', S', h1, h2⟩ := Inv.trackL (as := as) (kvs := kvs) I1 (by simpa using hl) (List.pairwise_cons.mp hp).2
      (fun b hb => by
        obtain ⟨f0, f1⟩ := hf b (List.mem_cons_of_mem _ hb)
        exact ⟨by rw [upd_ne (Nat.ne_of_gt (hlt b hb))]; exact f0, f1⟩)
      (fun j b r e1 e2 => ht (j + 1) b r (by simpa using e1) (by simpa using e2))
    have na : a ∉ as := fun h => Nat.lt_irrefl _ (hlt a h)
    refine ⟨H', I', (same_new' fa.1 _).tr S', fun j b r e1 e2 => ?_, fun b hb => ?_⟩
    · cases j with
      | zero =>
        simp at e1 e2
        subst e1 e2
        rw [h2 a na]; exact upd_same
      | succ j => exact h1 j b r (by simpa using e1) (by simpa using e2)
    · rw [h2 b (fun h => hb (List.mem_cons_of_mem _ h)), upd_ne (fun z => hb (by simp [z]))]
def pairsAt (H : Hp) (as : List Addr) (kvs : List (Key × V)) : Prop := as.length = kvs.length ∧ ∀ (j : Nat) (a : Addr) (p : Key × V), as[j]? = some a → kvs[j]? = some p → H a = some (.tup [kV p.1, p.2])
end
end L2

namespace PySem
open Sem (wp)
open AutoSeq1 (wpAny_loadPart')
set_option maxRecDepth 100000
section
variable {prog : Program} {w : World} {K : Type} [DecidableEq K]
theorem L2_meets_tuple_items (knd : KeyKind prog w K) (r d : Addr) (kvs : List (K × Value)) (ep : Nat) (hn : kvs.length ≤ sizeLine) :
    MeetsIn prog w (Builtin.«tuple.__new__» ⟨[.type "tuple", .ref r], []⟩) (fun A R s => A.handled = none ∧ s.heap.IsItemsView r d ∧ s.heap.DictAt knd d kvs ep ∧
      ∀ (h' : Heap) (tk : Nat) (as : List Addr), (∀ b o, s.heap.get? b = some o → h'.get? b = some o) → as.length = kvs.length → PySem.W.KdxG knd kvs s.heap.objs.size h' as →
        R (.ok (.ret (.ref h'.objs.size))) { s with heap := h'.push { cls := .type "tuple", data := .seq (as.map Value.ref).toArray }, toks := tk }) :=
  .of_wp fun A R s h => by
    obtain ⟨hp, g, dr, tk, os⟩ := s; obtain ⟨hh, hv, hm, h⟩ := h
    have hsub := sub_tuple_self
    have hinit := init_tuple_lookup
    have hmh := madeHere_tuple
    have hT : Shared.TypeIs ⟨hp, g, dr, tk, os⟩ (.ref r) "dict_items" := hv.typeIs
    obtain ⟨o, ho, hc, hd⟩ := id hv
    wp_walk using wpAny_loadPart' ho, wpAny_typeOf hT, PySem.W.kdx_collect (A := A.in1) (knd := knd) (kvs := kvs) (ep := ep) hh hv hm hn
    intro h' tk' as hk hl hG
    show wpAny _ _ (Builtin.Tuple.tupleExact (as.map Value.ref).toArray >>= fun v => ret v) _ _ _
    unfold Builtin.Tuple.tupleExact
    refine wpAny_bind (wpAny_newObj_type ?_ (by show (as.map Value.ref).toArray.size ≤ sizeLine; rw [List.size_toArray, List.length_map, hl]; exact hn))
    exact wpAny_pure ⟨_, rfl, h h' tk' as hk hl hG⟩
end
theorem L2_meets_tindex (l : Addr) (v0 v1 x : Value) (n : Nat) (dct : Option Addr) (sl : Array (Option Value)) (b0 : Bool) :
    Meets (Builtin.«tuple.index» ⟨[.ref l, x], []⟩) (fun A R s => s.heap.get? l = some { cls := .type "tuple", dict := dct, data := .seq #[v0, v1] n, slots := sl } ∧ SeqAt.EqAt A.in1 s v0 x b0 ∧ (b0 = false → SeqAt.EqAt A.in1 s v1 x true) ∧
      R (.ok (.ret (.int (if b0 then 0 else 1) s.toks))) { s with toks := s.toks + 1 }) :=
  .of_wp fun prog w A R s h => by
    obtain ⟨hp, g, d, tk, os⟩ := s; obtain ⟨hl, e0, e1, h⟩ := h
    have hT : Shared.TypeIs ⟨hp, g, d, tk, os⟩ (.ref l) "tuple" := ⟨_, hl, rfl⟩
    have ht : PyProof.Rows.IsTup hp l #[v0, v1] := ⟨_, hl, rfl, _, rfl⟩
    have f2 := AutoSeq1.sub_tuple_tuple
    unfold Builtin.«tuple.index»
    simp only [Std.Legacy.Range.forIn_eq_forIn_range']


    wp_walk using wpAny_loadPart' hl
    have loop : ∀ (f : Nat → Option PySem.Fin × Unit → Sem (ForInStep (Option PySem.Fin × Unit))) (init : Option PySem.Fin × Unit), forIn (List.range' 0 [:min #[v0, v1].size #[v0, v1].size].size) init f = (f 0 init >>= fun r => match r with
      | .done b => pure b
      | .yield b => f 1 b >>= fun r => match r with
        | .done b => pure b
        | .yield b => pure b) := fun f init => by
      have e : List.range' 0 [:min #[v0, v1].size #[v0, v1].size].size = [0, 1] := by
        have e2 : [:min #[v0, v1].size #[v0, v1].size].size = 2 := by simp [Std.Legacy.Range.size]
        rw [e2]; rfl
      rw [e, List.forIn_cons]
      congr 1
      funext r
      cases r with
      | done b => rfl
      | yield b =>
        simp only [List.forIn_cons, List.forIn_nil]
        congr 1
        funext r
        cases r <;> rfl
    change wpAny _ A.in1 (forIn (List.range' 0 [:min #[v0, v1].size #[v0, v1].size].size) (none, ()) _) _ _ _
    rw [loop]
    refine wpAny_bind (wpAny_bind (e0 prog w _ _ ?_))
    cases b0 with
    | true =>
      wp_walk
      exact ⟨_, rfl, h⟩
    | false =>
      refine wpAny_pure ?_
      refine wpAny_bind (wpAny_bind (e1 rfl prog w _ _ ?_))
      wp_walk
      exact ⟨_, rfl, h⟩
end PySem
namespace L2
open PySem PySem.Spec PyProof.Rows
section
variable {X : Cx}
theorem paired_get {α β : Type} {F : α → β → Prop} : ∀ {l₁ : List α} {l₂ : List β} {j : Nat} {a : α}, Paired F l₁ l₂ → l₁[j]? = some a → ∃ b, l₂[j]? = some b ∧ F a b
  | _, _, _, _, .nil, e => by simp at e
  | _, _, 0, _, .cons r _, e => by simp at e; subst e; exact ⟨_, rfl, r⟩
  | _, _, j + 1, a, .cons _ t, e => by
    obtain ⟨b, h1, h2⟩ := paired_get (j := j) (a := a) t (by simpa using e)
    exact ⟨b, by simpa using h1, h2⟩
theorem mt_items : MtR X "dict.items" (fun x vs H Q => ∃ a kvs, x = .ref a ∧ vs = [] ∧ H a = some (.dK kvs) ∧ ∀ v, H v = none → Q (.ref v) (upd H v (.ext fun h => h.IsItemsView v a))) := by
  intro pins s σ H x xs v us Q I rx r h
  obtain ⟨a, kvs, rfl, rfl, ha, q⟩ := h
  cases rx
  have hus := Vals.zero r
  subst hus
  obtain ⟨hz, hsys, vs, rv, hd⟩ := dk_of I.hok ha
  refine call_meetsIn PySem.F.slot_dict_items hd.typeIs PySem.F.entry_dict_items (PySem.F.args_dict_items_1 _) (meets_dict_items (mixKind X.prog X.w) a hsys) ⟨⟨vs, hd⟩, ?_⟩
  refine ⟨.ref s.heap.objs.size, _, I.laid (t' := s.toks) (o := .ext fun h => h.IsItemsView s.heap.objs.size a) (fun b ob q => Heap.get?_push_of_some _ q) (Nat.le_refl _) ?_, rfl, q _ (I.hok.fresh (Nat.le_refl _))⟩
  exact ⟨⟨_, Heap.get?_push_size _ rfl, rfl, rfl⟩, ⟨_, Heap.get?_push_size _ rfl⟩, fun h1 h2 ⟨o, e, r⟩ k => ⟨o, k o e, r⟩⟩
theorem call_tuple_items (hc : X.calm = true) : CallR X (.type "tuple") (fun xs H Q => ∃ v a kvs, xs = [.ref v] ∧ H v = some (.ext fun h => h.IsItemsView v a) ∧ H a = some (.dK kvs) ∧
    ∀ (t : Addr) (as : List Addr) (H' : Hp), Same H H' → H' t = some (.tup (as.map V.ref)) → pairsAt H' as kvs → Q (.ref t) H') := by
  intro pins s σ H xs us Q I r h
  obtain ⟨v, a, kvs, rfl, hv, ha, q⟩ := h
  obtain ⟨u, rfl, rx⟩ := vals1 r
  cases rx
  obtain ⟨hview, _, _⟩ := (show ObjOk X.prog X.w H s.heap v (.ext fun h => h.IsItemsView v a) from I.hok v _ hv)
  obtain ⟨hz, hsys, vs, rv, hd⟩ := dk_of I.hok ha
  obtain ⟨ep, hat⟩ := hd.dictAt
  have hl := rv.length
  refine callType_newIn F.called_tuple (by decide) (F.typeCall_tuple_1 _) (F.newCall_tuple_1 _) (fun obj => F.args_object_init_2 obj _) F.entry_tuple_new
    (L2_meets_tuple_items (mixKind X.prog X.w) v a vs ep (by rw [← hl]; exact hz)) ⟨I.ok.hd hc, hview, hat, fun h' tk as kk hal hG => ⟨⟨_, Heap.get?_push_size _ rfl, rfl⟩, ?_⟩⟩
  have I1 : Inv X pins σ H { s with heap := h', toks := tk } := I.kept kk
  obtain ⟨H', I2, S2, hp2, ho2⟩ := I1.trackL (as := as) (kvs := kvs) (by rw [hal, hl]) hG.rise
    (fun b hb => I.fpOk (Nat.le_of_lt (hG.above b hb)) (I.hok.fresh (Nat.le_of_lt (hG.above b hb))))
    (fun j b p e1 e2 => by
      obtain ⟨key, k, x, e3, e4, e5⟩ := hG.pairs j b e1
      have hj : j < kvs.length := (List.getElem?_eq_some_iff.mp e2).1
      have hk : p.1 = k := by
        have := congrArg (fun l => l[j]?) rv.keys
        simp only [List.getElem?_map, e2, e3, Option.map_some] at this
        exact Option.some.inj this
      have hx : RelV p.2 x := by
        obtain ⟨q, e6, e7⟩ := paired_get rv e2
        rw [e3] at e6
        cases e6
        exact e7.2
      have hkey : RelV (kV p.1) key := by
        rw [hk]
        rcases keyIs_shape (k := k) (v := key) e4 with ⟨i, t, rfl, rfl⟩ | ⟨z, t, rfl, rfl⟩
        · exact ⟨t, rfl⟩
        · exact ⟨t, rfl⟩
      exact ⟨[key, x], .cons hkey (.cons hx .nil), _, e5, rfl, _, rfl⟩)
  have I3 : Inv X pins σ (upd H' h'.objs.size (.tup (as.map V.ref))) { s with heap := h'.push { cls := .type "tuple", data := .seq (as.map Value.ref).toArray }, toks := tk } :=
    I2.laid (t' := tk) (fun b o e => Heap.get?_push_of_some _ e) (Nat.le_refl _) (show ObjOk X.prog X.w _ _ _ (.tup (as.map V.ref)) from ⟨by rw [List.length_map, hal, ← hl]; exact hz, as.map Value.ref, ?_, IsTup.new _ _⟩)
  · have hfr := I2.hok.fresh (Nat.le_refl h'.objs.size)
    refine ⟨.ref h'.objs.size, _, I3, rfl, q _ as _ (S2.tr (same_new' hfr _)) upd_same ⟨by rw [hal, hl], fun j b p e1 e2 => ?_⟩⟩
    have := hp2 j b p e1 e2
    rw [upd_ne (ne_of_none this hfr)]; exact this
  · exact refs_vals as
where
  refs_vals : ∀ (as : List Addr), Vals (as.map V.ref) (as.map Value.ref)
    | [] => .nil
    | a :: as => .cons rfl (refs_vals as)
/-! ### max of a list of ints -/
theorem call_maxL (hc : X.calm = true) : CallR X (.builtin "max") (fun xs H Q => ∃ (p : Addr) (ns : List Int), xs = [.ref p] ∧ SqL X.K H p (ns.map V.int) ∧ 0 < ns.length ∧ ∀ m, m ∈ ns → Q (.int m) H) := by
  intro pins s σ H xs us Q I r h
  obtain ⟨p, ns, rfl, hq, hn, q⟩ := h
  obtain ⟨u, rfl, rx⟩ := vals1 r
  cases rx
  obtain ⟨its, r', pl, hz⟩ := I.list hq
  have hlen := r'.length
  rw [List.length_map] at hlen
  refine call_max_walk (wpAny_pyIter_list pl.isList ?_)
  have hne : p ≠ s.heap.objs.size := Nat.ne_of_lt (let ⟨_, ho, _⟩ := pl.isList; Heap.lt_size ho)
  have at_int : ∀ (i : Nat) (v : Value), its.toArray[i]? = some v → ∃ n t, ns[i]? = some n ∧ v = .int n t := fun i v e => by
    have e : its[i]? = some v := by simpa using e
    have hi : i < ns.length := by rw [hlen]; exact (List.getElem?_eq_some_iff.mp e).1
    obtain ⟨u, hu, t, ru⟩ := r'.get (i := i) (x := .int ns[i]) (by rw [List.getElem?_map, List.getElem?_eq_getElem hi]; rfl)
    rw [e] at hu
    cases hu
    exact ⟨ns[i], t, List.getElem?_eq_getElem hi, ru⟩
  refine ⟨_, _, _, _, _, _, _, rfl, Walks.list (show X.A.in1.handled = none from I.ok.hd hc) s.heap.objs.size p hne its.toArray, ⟨⟨_, Heap.get?_push_size _ rfl, rfl, rfl⟩, pl.isList.at fun o e => Heap.get?_push_of_some _ e⟩, fun b hb => ?_, by rw [List.size_toArray]; omega,
    CmpOf.ints_gt (fun i => ns.getD i 0) (fun i v e => by obtain ⟨n, t, e1, e2⟩ := at_int i v e; exact ⟨t, by rw [e2, List.getD_eq_getElem?_getD, e1]; rfl⟩), fun v h' tk hP kk => ?_⟩
  · rw [Heap.size_push]
    rcases List.mem_cons.mp hb with rfl | hb
    · exact Nat.lt_succ_self _
    · have : b = p := by simpa using hb
      subst this
      exact Nat.lt_succ_of_lt (let ⟨_, ho, _⟩ := pl.isList; Heap.lt_size ho)
  · obtain ⟨n, t, e1, rfl⟩ := at_int _ v hP
    refine ⟨.int n, H, I.kept (t' := tk) (fun b o e => kk b o (fun hb => ?_) (Heap.get?_push_of_some _ e)), ⟨t, rfl⟩, q n (List.mem_of_getElem? e1)⟩
    have : b = s.heap.objs.size := by simpa using hb
    rw [this] at e
    exact absurd (Heap.lt_size e) (Nat.lt_irrefl _)
/-! ### t.index(y), t of two texts -/
theorem mt_tindex2 : MtR X "tuple.index" (fun x vs H Q => ∃ a z0 z1 y, x = .ref a ∧ vs = [.str y] ∧ SqT X.K H a [.str z0, .str z1] ∧ (y = z0 ∨ y = z1) ∧ Q (.int (if y = z0 then 0 else 1)) H) := by
  intro pins s σ H x xs v us Q I rx r h
  obtain ⟨a, z0, z1, y, rfl, rfl, hq, hy, q⟩ := h
  cases rx
  obtain ⟨u, rfl, ru⟩ := vals1 r
  obtain ⟨t, rfl⟩ := ru
  obtain ⟨its, rv, p, hz⟩ := I.tuple hq
  cases rv with
  | cons r0 rv =>
    cases rv with
    | cons r1 rv =>
      cases rv
      obtain ⟨t0, rfl⟩ := r0
      obtain ⟨t1, rfl⟩ := r1
      obtain ⟨⟨cls, dd, data, sl⟩, ho, hc, n, hd⟩ := p
      simp only at hc hd
      subst hc hd
      refine call_meets F.slot_tuple_index ⟨_, ho, rfl⟩ F.entry_tuple_index (F.args_tuple_index_2 _ _) (L2_meets_tindex a (.str z0 t0) (.str z1 t1) (.str y t) n dd sl (z0 == y)) ⟨ho, SeqAt.EqAt.str_str z0 t0 y t, fun e => ?_, ?_⟩
      · have hne : ¬ y = z0 := fun z => by rw [z] at e; simp at e
        have e1 : z1 = y := (hy.resolve_left hne).symm
        have := SeqAt.EqAt.str_str (A := X.A.in1) (s := s) z1 t1 y t
        rw [e1] at this ⊢
        simpa using this
      · refine ⟨.int (if y = z0 then 0 else 1), H, I.tok _, ⟨s.toks, ?_⟩, q⟩
        by_cases e : y = z0
        · rw [e]; simp
        · rw [if_neg e, if_neg (by intro z; exact e (eq_of_beq z).symm)]
/-! ### a split text -/
theorem mem_takeWhile {c : Nat} : ∀ {x r : List Nat}, c ∉ x → (x ++ c :: r).takeWhile (· ≠ c) = x
  | [], r, _ => by simp
  | y :: x, r, h => by
    have h1 : y ≠ c := fun e => h (by simp [e])
    rw [List.cons_append, List.takeWhile_cons, if_pos (by simpa using h1), mem_takeWhile fun z => h (List.mem_cons_of_mem _ z)]
theorem mem_dropWhile {c : Nat} : ∀ {x r : List Nat}, c ∉ x → (x ++ c :: r).dropWhile (· ≠ c) = c :: r
  | [], r, _ => by simp
  | y :: x, r, h => by
    have h1 : y ≠ c := fun e => h (by simp [e])
    rw [List.cons_append, List.dropWhile_cons, if_pos (by simpa using h1), mem_dropWhile fun z => h (List.mem_cons_of_mem _ z)]
theorem all_takeWhile {c : Nat} : ∀ {x : List Nat}, c ∉ x → x.takeWhile (· ≠ c) = x
  | [], _ => rfl
  | y :: x, h => by
    have h1 : y ≠ c := fun e => h (by simp [e])
    rw [List.takeWhile_cons, if_pos (by simpa using h1), all_takeWhile fun z => h (List.mem_cons_of_mem _ z)]
theorem all_dropWhile {c : Nat} : ∀ {x : List Nat}, c ∉ x → x.dropWhile (· ≠ c) = []
  | [], _ => rfl
  | y :: x, h => by
    have h1 : y ≠ c := fun e => h (by simp [e])
    rw [List.dropWhile_cons, if_pos (by simpa using h1), all_dropWhile fun z => h (List.mem_cons_of_mem _ z)]
theorem join_cps (c : Nat) (x y : Str) (r : List Str) : (Str.join ⟨#[c]⟩ (x :: y :: r)).cps.toList = x.cps.toList ++ c :: (Str.join ⟨#[c]⟩ (y :: r)).cps.toList := by
  show ((x.cps ++ #[c]) ++ (Str.join ⟨#[c]⟩ (y :: r)).cps).toList = _
  simp
theorem str_ext {a b : Str} (h : a.cps.toList = b.cps.toList) : a = b := PySem.Str.ext' (by simpa using congrArg List.toArray h)
theorem join_inj {c : Nat} : ∀ {A B : List Str}, A ≠ [] → B ≠ [] → (∀ p ∈ A, c ∉ p.cps.toList) → (∀ p ∈ B, c ∉ p.cps.toList) → Str.join ⟨#[c]⟩ A = Str.join ⟨#[c]⟩ B → A = B
  | [], _, h, _, _, _, _ => absurd rfl h
  | _, [], _, h, _, _, _ => absurd rfl h
  | [x], [y], _, _, _, _, e => by
    have e : x = y := e
    rw [e]
  | [x], y :: y' :: r, _, _, hA, hB, e => by
    have e := congrArg (fun s : Str => s.cps.toList.dropWhile (· ≠ c)) e
    simp only [join_cps] at e
    rw [mem_dropWhile (hB y (by simp))] at e
    rw [show Str.join ⟨#[c]⟩ [x] = x from rfl, all_dropWhile (hA x (by simp))] at e
    cases e
  | x :: x' :: r, [y], _, _, hA, hB, e => by
    have e := congrArg (fun s : Str => s.cps.toList.dropWhile (· ≠ c)) e
    simp only [join_cps] at e
    rw [mem_dropWhile (hA x (by simp))] at e
    rw [show Str.join ⟨#[c]⟩ [y] = y from rfl, all_dropWhile (hB y (by simp))] at e
    cases e
  | x :: x' :: r, y :: y' :: q, _, _, hA, hB, e => by
    have e1 := congrArg (fun s : Str => s.cps.toList.takeWhile (· ≠ c)) e
    have e2 := congrArg (fun s : Str => s.cps.toList.dropWhile (· ≠ c)) e
    simp only [join_cps] at e1 e2
    rw [mem_takeWhile (hA x (by simp)), mem_takeWhile (hB y (by simp))] at e1
    rw [mem_dropWhile (hA x (by simp)), mem_dropWhile (hB y (by simp))] at e2
    have e3 : Str.join ⟨#[c]⟩ (x' :: r) = Str.join ⟨#[c]⟩ (y' :: q) := str_ext (by injection e2)
    rw [str_ext e1, join_inj (A := x' :: r) (B := y' :: q) (by simp) (by simp) (fun p hp => hA p (List.mem_cons_of_mem _ hp)) (fun p hp => hB p (List.mem_cons_of_mem _ hp)) e3]
theorem split_ne (x y : Str) : Txt.split x y ≠ [] := by
  unfold Txt.split
  split
  · simp
  · split
    · simp
    · intro h
      have := congrArg List.length h
      rw [partsB_len] at this
      simp at this
theorem split_join {c : Nat} {A : List Str} (h : A ≠ []) (hA : ∀ p ∈ A, c ∉ p.cps.toList) : Txt.split (Str.join ⟨#[c]⟩ A) ⟨#[c]⟩ = A :=
  join_inj (split_ne _ _) h (StrLaws.split_free _ c) hA (StrLaws.join_split _ _)
end
end L2

namespace L2
open PySem PySem.Spec PyProof.Rows
section
variable {X : Cx} {K : PySem.W.Frag}
theorem ix_tup_at (hK : X.K = K) : IxR X (rIxT K) := by subst hK; exact ix_tup
theorem ix_list_at (hK : X.K = K) : IxR X (rIxL K) := by subst hK; exact ix_list
theorem op_in_at (hK : X.K = K) : OpR X (compareOp .In) (rIn K false) := by subst hK; exact op_in_seq
theorem op_notIn_at (hK : X.K = K) : OpR X (compareOp .NotIn) (rIn K true) := by subst hK; exact op_notIn_seq
variable {o e : Expr} {es : List Expr} {to : TE} {t : TA} {name : Str} {apos cpos : Pos} {T id : String} {r : V → List V → Hp → VK → Prop}
theorem pe_bm_at (hK : X.K = K) (pa : PlainAttrs T) (slot : Slot T name id) (hty : typeOf (.builtin id) = pure (.type "method_descriptor")) (hm : MtR X id r) (ho : PE X o to) (ha : PA X (e :: es) t)
    (hbase : attributeBase o name X.env (eval o X.env) = eval o X.env := by rfl)
    (hfew : ((backTo cpos (starEach (e :: es) X.env)).all (fun x => !x.1) && (backToKw cpos (keywordEach [] X.env)).all (fun x => x.1.isSome)
      && decide ((e :: es).length + ([] : List Keyword).length + (if ([] : List Keyword).isEmpty then 0 else 1) < 30)) = true := by rfl)
    (hline : (apos.endLine == cpos.line) = true := by rfl) (hs : starEach (e :: es) X.env = (false, eval e X.env) :: starEach es X.env := by rfl) (hplain : (backTo cpos (starEach es X.env)).any (·.1) = false := by rfl) :
    PE X (.Call (.Attribute o name apos) (e :: es) [] cpos) (tBM K T r to t) := by
  subst hK
  exact pe_bm pa slot hty hm ho ha hbase hfew hline hs hplain
theorem mt_join_h : MtR X "str.join" (fun x xs H Q => ∃ z p ys, x = .str z ∧ xs = [.ref p] ∧ H p = some (.lst (ys.map V.str)) ∧ (ys.map (·.length)).sum + ys.length * z.length ≤ 16777216 ∧ Q (.str (Txt.join z ys)) H) := by
  intro pins s σ H x xs v us Q I rx r h
  obtain ⟨z, p, ys, e1, e2, hp, hz, q⟩ := h
  exact mt_join pins s σ H x xs v us Q I rx r ⟨z, p, ys, e1, e2, SqL.of hp, hz, q⟩
end
end L2

namespace L2
open PySem PySem.Spec PyProof.Rows
/-! ### a called def -/
def Cal (P : Program) (w : World) (K : PySem.W.Frag) (mg : Str → Option Value) (base : Heap) (n : Nat) (x : Str) (ps : List Str) (sp : Sp) : Prop :=
  ∃ g gd, FnOk P w K mg base CX0 n g gd ps sp ∧ Binds K gd ps [] ∧ PySem.W.keepIn K (.ref g) = true ∧ mg x = some (.ref g)
theorem Cal.mono {P : Program} {w : World} {K : PySem.W.Frag} {mg : Str → Option Value} {base : Heap} {n m : Nat} {x : Str} {ps : List Str} {sp : Sp} (c : Cal P w K mg base n x ps sp) (h : n ≤ m) : Cal P w K mg base m x ps sp :=
  let ⟨g, gd, G, r⟩ := c; ⟨g, gd, G.mono h, r⟩
/-- len of a list or tuple that is tracked -/
theorem call_len_h {X : Cx} : CallR X (.builtin "len") (fun xs H Q => ∃ p ys, xs = [.ref p] ∧ (H p = some (.lst ys) ∨ H p = some (.tup ys)) ∧ Q (.int ys.length) H) := by
  intro pins s σ H xs us Q I r h
  obtain ⟨p, ys, e, hp, q⟩ := h
  exact call_len_seq pins s σ H xs us Q I r ⟨p, ys, e, hp.imp SqL.of SqT.of, q⟩
theorem strs_of {H : Hp} : ∀ {ns : List Str} {xs : List V}, DtAll H (ns.map .str) xs → xs = ns.map V.str
  | [], _, h => h.nil
  | n :: ns, _, h => by
    obtain ⟨x, r, rfl, h1, h2⟩ := h.cons
    rw [h1.str, strs_of h2]; rfl
/-! ### games -/
abbrev R4 := Int × Int × Int × List Int
def ruleD (r : R4) : PyData := .tuple [.int r.1, .int r.2.1, .int r.2.2.1, .tuple (r.2.2.2.map .int)]
def placeD (p : Str × Int) : PyData := .tuple [.str p.1, .int p.2]
def gameD (ps : List (Str × Int)) (ls : List Str) (rs : List R4) : PyData := .tuple [.tuple (ps.map placeD), .tuple (ls.map .str), .tuple (rs.map ruleD)]
structure ROk (np nl : Nat) (r : R4) : Prop where
  p0 : 0 ≤ r.1
  p1 : r.1 < np
  x0 : 0 ≤ r.2.1
  x1 : r.2.1 < nl
  q0 : 0 ≤ r.2.2.1
  q1 : r.2.2.1 < np
  wl : r.2.2.2.length ≤ 2
  w : ∀ y ∈ r.2.2.2, 0 ≤ y ∧ y < nl
structure GOk (ps : List (Str × Int)) (ls : List Str) (rs : List R4) : Prop where
  p0 : 1 ≤ ps.length
  p1 : ps.length ≤ 3
  l0 : 1 ≤ ls.length
  l1 : ls.length ≤ 3
  r : rs.length ≤ 8
  hd : ∀ p ∈ ps, 0 ≤ p.2 ∧ p.2 < 2
  ok : ∀ r ∈ rs, ROk ps.length ls.length r
theorem onlyT_rule (r : R4) : onlyT (ruleD r) = true := by
  simp only [ruleD, onlyT, onlyTAll, onlyT_ints, Bool.and_self]
theorem onlyT_rules (rs : List R4) : onlyTAll (rs.map ruleD) = true := onlyTAll_of fun d hd => by
  obtain ⟨r, _, rfl⟩ := List.mem_map.mp hd; exact onlyT_rule r
theorem onlyT_places (ps : List (Str × Int)) : onlyTAll (ps.map placeD) = true := onlyTAll_of fun d hd => by
  obtain ⟨r, _, rfl⟩ := List.mem_map.mp hd; simp only [placeD, onlyT, onlyTAll, Bool.and_self]
theorem onlyT_tup {ds : List PyData} (h : onlyTAll ds = true) : onlyT (.tuple ds) = true := by simp only [onlyT, h]
theorem onlyT_game (ps : List (Str × Int)) (ls : List Str) (rs : List R4) : onlyT (gameD ps ls rs) = true := by
  simp only [gameD, onlyT, onlyTAll, onlyT_places, onlyT_strs, onlyT_rules, Bool.and_self]
theorem okB_ints {ws : List Int} {n : Nat} (h : ∀ y ∈ ws, -1000000000 ≤ y ∧ y ≤ 1000000000) (hn : ws.length ≤ n) : OkBs 0 (n * 41) (ws.map .int) :=
  OkBs.all (w := 40) (fun d hd => by obtain ⟨y, hy, rfl⟩ := List.mem_map.mp hd; exact okB_int (h y hy).1 (h y hy).2) (by rw [List.length_map]; exact hn)
theorem okB_rule {np nl : Nat} {r : R4} (h : ROk np nl r) (h1 : np ≤ 100) (h2 : nl ≤ 100) : OkB 2 206 (ruleD r) := by
  have hw := okB_ints (ws := r.2.2.2) (n := 2) (fun y hy => by have := h.w y hy; omega) h.wl
  have a := h.p0; have b := h.p1; have c := h.x0; have d := h.x1; have e := h.q0; have f := h.q1
  exact (OkBs.cons (dep := 1) ((okB_int (i := r.1) (by omega) (by omega)).mono (by decide) (Nat.le_refl _)) (OkBs.cons ((okB_int (i := r.2.1) (by omega) (by omega)).mono (by decide) (Nat.le_refl _))
    (OkBs.cons ((okB_int (i := r.2.2.1) (by omega) (by omega)).mono (by decide) (Nat.le_refl _)) (OkBs.cons (w2 := 0) hw.tup OkBs.nil)))).tup.mono (by decide) (by decide)
theorem okB_rules {np nl : Nat} {rs : List R4} (h : ∀ r ∈ rs, ROk np nl r) (h1 : np ≤ 100) (h2 : nl ≤ 100) (hn : rs.length ≤ 12) : OkB 3 2484 (.tuple (rs.map ruleD)) :=
  (OkBs.all (n := 12) (w := 206) (fun d hd => by obtain ⟨r, hr, rfl⟩ := List.mem_map.mp hd; exact okB_rule (h r hr) h1 h2) (by rw [List.length_map]; exact hn)).tup.mono (by decide) (by decide)
theorem ok_two {a b : Int} (ha : -1000 ≤ a ∧ a ≤ 1000) (hb : -1000 ≤ b ∧ b ≤ 1000) : OkD (.tuple [.int a, .int b]) :=
  (OkBs.cons (okB_int (i := a) (by omega) (by omega)) (OkBs.cons (w2 := 0) (okB_int (i := b) (by omega) (by omega)) OkBs.nil)).tup.ok (by decide) (by decide)
theorem cutV_take {xs : List V} {v : Int} (h : 0 ≤ v) : cutV xs none (some v) = xs.take v.toNat := by
  unfold cutV
  have e : HT.sIx xs.length xs.length (some v) = min v.toNat xs.length := by
    show (if v < 0 then (v + (xs.length : Int)).toNat else min v.toNat xs.length) = _
    rw [if_neg (by omega)]
  rw [HT.sIx_none, e, List.drop_zero, Nat.sub_zero]
  by_cases hc : v.toNat ≤ xs.length
  · rw [Nat.min_eq_left hc]
  · rw [Nat.min_eq_right (by omega), List.take_of_length_le (Nat.le_refl _), List.take_of_length_le (by omega)]
/-! ### which rules are at a place and a letter -/
def hitR (rs : List R4) (pl x : Int) (i : Nat) : Bool := match rs[i]? with | some r => decide (r.1 = pl) && decide (r.2.1 = x) | none => false
def atUp (rs : List R4) (pl x : Int) : Nat → List Int
  | 0 => []
  | i + 1 => atUp rs pl x i ++ if hitR rs pl x i = true then [(i : Int)] else []
theorem atUp_len (rs : List R4) (pl x : Int) : ∀ i, (atUp rs pl x i).length ≤ i
  | 0 => Nat.le_refl _
  | i + 1 => by
    unfold atUp
    rw [List.length_append]
    have := atUp_len rs pl x i
    split <;> simp <;> omega
theorem atUp_mem (rs : List R4) (pl x : Int) : ∀ i, ∀ y ∈ atUp rs pl x i, 0 ≤ y ∧ y < i ∧ hitR rs pl x y.toNat = true
  | 0, y, h => nomatch h
  | i + 1, y, h => by
    unfold atUp at h
    rcases List.mem_append.mp h with h | h
    · have := atUp_mem rs pl x i y h; exact ⟨this.1, by omega, this.2.2⟩
    · split at h
      · rename_i hc
        rw [List.mem_singleton.mp h]
        exact ⟨by omega, by omega, by simpa using hc⟩
      · exact nomatch h
theorem atUp_hit {rs : List R4} {pl x : Int} {i : Nat} (h : hitR rs pl x i = true) : atUp rs pl x (i + 1) = atUp rs pl x i ++ [(i : Int)] := by
  show atUp rs pl x i ++ (if hitR rs pl x i = true then [(i : Int)] else []) = _
  rw [if_pos h]
theorem atUp_miss {rs : List R4} {pl x : Int} {i : Nat} (h : hitR rs pl x i = false) : atUp rs pl x (i + 1) = atUp rs pl x i := by
  show atUp rs pl x i ++ (if hitR rs pl x i = true then [(i : Int)] else []) = _
  rw [if_neg (by rw [h]; decide), List.append_nil]
theorem hit_of {rs : List R4} {pl x : Int} {i : Nat} (hi : i < rs.length) : hitR rs pl x i = (decide (rs[i].1 = pl) && decide (rs[i].2.1 = x)) := by
  unfold hitR; rw [List.getElem?_eq_getElem hi]
def hereL (rs : List R4) (pl : Int) : List Int → List Int
  | [] => []
  | x :: _ => atUp rs pl x rs.length
/-! ### what the defs about games promise -/
def spNames : Sp := fun vs H Q _ => ∃ (d l : Addr) (many : Nat), vs = [.ref d, .int many] ∧ IsDeal H d l ∧ many ≤ 26 ∧ ∀ (p : Addr) (zs : List Str) (H' : Hp), zs.length = many → H p = none → H' p = some (.lst (zs.map V.str)) → IsDeal H' d l → Sd d l H H' → Q (.ref p) H'
def spPut : Sp := fun vs H Q _ => ∃ (d l : Addr) (many : Int), vs = [.ref d, .int many] ∧ IsDeal H d l ∧ 0 < many ∧ many < 1073741824 ∧
  ∀ (a : Addr) (ws : List Int) (H' : Hp), ws.length ≤ 2 → (∀ y ∈ ws, 0 ≤ y ∧ y < many) → H' a = some (.tup (ws.map V.int)) → IsDeal H' d l → Sd d l H H' → Q (.ref a) H'
def spRule : Sp := fun vs H Q _ => ∃ (d l : Addr) (np nl : Nat), vs = [.ref d, .int np, .int nl] ∧ IsDeal H d l ∧ 0 < np ∧ np ≤ 1000 ∧ 0 < nl ∧ nl ≤ 1000 ∧
  ∀ (x : V) (r : R4) (H' : Hp), ROk np nl r → Dt H' (ruleD r) x → IsDeal H' d l → Sd d l H H' → Q x H'
def spGame : Sp := fun vs H Q _ => ∃ (d l : Addr), vs = [.ref d] ∧ IsDeal H d l ∧
  ∀ (x : V) (ps : List (Str × Int)) (ls : List Str) (rs : List R4) (H' : Hp), GOk ps ls rs → Dt H' (gameD ps ls rs) x → IsDeal H' d l → Sd d l H H' → Q x H'
def spNear : Sp := fun vs H Q _ => ∃ (d l : Addr) (g : V) (ps : List (Str × Int)) (ls : List Str) (rs : List R4), vs = [.ref d, g] ∧ IsDeal H d l ∧ GOk ps ls rs ∧ Dt H (gameD ps ls rs) g ∧
  ∀ (x : V) (rs' : List R4) (H' : Hp), GOk ps ls rs' → Dt H' (gameD ps ls rs') x → IsDeal H' d l → Sd d l H H' → Q x H'
def spAt : Sp := fun vs H Q _ => ∃ (g : V) (pl x : Int) (ps : List (Str × Int)) (ls : List Str) (rs : List R4), vs = [g, .int pl, .int x] ∧ Dt H (gameD ps ls rs) g ∧ rs.length ≤ 1000 ∧
  ∀ (p : Addr) (H' : Hp), H p = none → Same H H' → H' p = some (.lst ((atUp rs pl x rs.length).map V.int)) → Q (.ref p) H'
def spHere : Sp := fun vs H Q _ => ∃ (g t : V) (pl : Int) (ps : List (Str × Int)) (ls : List Str) (rs : List R4) (pile : List Int), vs = [g, .int pl, t] ∧ Dt H (gameD ps ls rs) g ∧ rs.length ≤ 1000 ∧ Dt H (.tuple (pile.map .int)) t ∧
  ∀ (p : Addr) (H' : Hp), H p = none → Same H H' → H' p = some (.lst ((hereL rs pl pile).map V.int)) → Q (.ref p) H'
def spBehind : Sp := fun vs H Q _ => ∃ (g t pv : V) (i : Nat) (r : R4) (ps : List (Str × Int)) (ls : List Str) (rs : List R4) (x : Int) (pile : List Int), vs = [g, pv, t, .int i] ∧ Dt H (gameD ps ls rs) g ∧ rs[i]? = some r ∧ r.2.2.2.length ≤ 1000 ∧ pile.length ≤ 1000 ∧
  Dt H (.tuple ((x :: pile).map .int)) t ∧ ∀ (z : V) (H' : Hp), Same H H' → Dt H' (.tuple [.int r.2.2.1, .tuple ((r.2.2.2 ++ pile).map .int)]) z → Q z H'
end L2

namespace L2
open PySem PySem.Spec PyProof.Rows
/-! ## values whose tuples are trees; only what may change lies on the heap -/
inductive AV where
  | D (d : PyData) | R (a : Addr)
  deriving Inhabited
/-- a list that never changes: frozen, or the module's -/
def FzL (K : PySem.W.Frag) (H : Hp) (a : Addr) (xs : List V) : Prop :=
  (∃ o, H a = some (.frz o (.lst xs))) ∨
    ∃ (o : Obj) (its : Array Value) (n : Nat), K.lookup a = some o ∧ o.cls = .type "list" ∧ o.dict = none ∧ o.data = .seq its n ∧ its.size ≤ sizeLine ∧ Vals xs its.toList
theorem FzL.sq {K : PySem.W.Frag} {H : Hp} {a : Addr} {xs : List V} (h : FzL K H a xs) : SqL K H a xs := by
  rcases h with ⟨o, h⟩ | h
  · exact .inl (.inr ⟨o, h⟩)
  · exact .inr h
mutual
def Dk (K : PySem.W.Frag) (H : Hp) : PyData → V → Prop
  | .none, x => x = .non
  | .bool b, x => x = .bl b
  | .int i, x => x = .int i
  | .str z, x => x = .str z
  | .list ds, x => ∃ a xs, x = .ref a ∧ FzL K H a xs ∧ DkAll K H ds xs
  | .tuple ds, x => ∃ a xs, x = .ref a ∧ SqT K H a xs ∧ DkAll K H ds xs
  | .dict _, _ => False
def DkAll (K : PySem.W.Frag) (H : Hp) : List PyData → List V → Prop
  | [], xs => xs = []
  | d :: ds, xs => ∃ x r, xs = x :: r ∧ Dk K H d x ∧ DkAll K H ds r
end
/-- what never changes is kept -/
structure Kp (H H' : Hp) : Prop where
  t : ∀ b xs, H b = some (.tup xs) → H' b = some (.tup xs)
  f : ∀ b o u, H b = some (.frz o u) → H' b = some (.frz o u)
theorem Kp.refl {H : Hp} : Kp H H := ⟨fun _ _ h => h, fun _ _ _ h => h⟩
theorem Kp.trans {H H1 H2 : Hp} (a : Kp H H1) (b : Kp H1 H2) : Kp H H2 := ⟨fun c xs h => b.t c xs (a.t c xs h), fun c o u h => b.f c o u (a.f c o u h)⟩
theorem Kp.new {H : Hp} {p : Addr} (h : H p = none) (o : HO) : Kp H (upd H p o) :=
  ⟨fun b xs e => by rw [upd_ne (ne_of_none e h)]; exact e, fun b o' u e => by rw [upd_ne (ne_of_none e h)]; exact e⟩
/-- what may change -/
def Mt : HO → Prop
  | .lst _ => True
  | .dK _ => True
  | .dT _ => True
  | _ => False
theorem Kp.put {H : Hp} {p : Addr} {o0 : HO} (h : H p = some o0) (m : Mt o0) (o : HO) : Kp H (upd H p o) :=
  ⟨fun b xs e => by rw [upd_ne (ne_of e h (by intro z; subst z; exact m))]; exact e, fun b o' u e => by rw [upd_ne (ne_of e h (by intro z; subst z; exact m))]; exact e⟩
theorem SqT.kp {K : PySem.W.Frag} {H H' : Hp} {a : Addr} {xs : List V} (S : Kp H H') (h : SqT K H a xs) : SqT K H' a xs := by
  rcases h with (h | ⟨o, h⟩) | h
  · exact .inl (.inl (S.t _ _ h))
  · exact .inl (.inr ⟨o, S.f _ _ _ h⟩)
  · exact .inr h
theorem FzL.kp {K : PySem.W.Frag} {H H' : Hp} {a : Addr} {xs : List V} (S : Kp H H') (h : FzL K H a xs) : FzL K H' a xs := by
  rcases h with ⟨o, h⟩ | h
  · exact .inl ⟨o, S.f _ _ _ h⟩
  · exact .inr h
section
variable {K : PySem.W.Frag} {H H' : Hp}
mutual
theorem Dk.kp (S : Kp H H') : ∀ (d : PyData) (x : V), Dk K H d x → Dk K H' d x
  | .none, x, h => by simp only [Dk] at h ⊢; exact h
  | .bool b, x, h => by simp only [Dk] at h ⊢; exact h
  | .int i, x, h => by simp only [Dk] at h ⊢; exact h
  | .str z, x, h => by simp only [Dk] at h ⊢; exact h
  | .list ds, x, h => by
    simp only [Dk] at h ⊢
    obtain ⟨a, xs, e, q, r⟩ := h
    exact ⟨a, xs, e, q.kp S, DkAll.kp S ds xs r⟩
  | .tuple ds, x, h => by
    simp only [Dk] at h ⊢
    obtain ⟨a, xs, e, q, r⟩ := h
    exact ⟨a, xs, e, q.kp S, DkAll.kp S ds xs r⟩
  | .dict _, x, h => by simp only [Dk] at h
theorem DkAll.kp (S : Kp H H') : ∀ (ds : List PyData) (xs : List V), DkAll K H ds xs → DkAll K H' ds xs
  | [], xs, h => by simp only [DkAll] at h ⊢; exact h
  | d :: ds, xs, h => by
    simp only [DkAll] at h ⊢
    obtain ⟨x, r, e, h1, h2⟩ := h
    exact ⟨x, r, e, Dk.kp S d x h1, DkAll.kp S ds r h2⟩
end
theorem dk_int {i : Int} : Dk K H (.int i) (.int i) := by simp only [Dk]
theorem dk_bl {b : Bool} : Dk K H (.bool b) (.bl b) := by simp only [Dk]
theorem dk_str {z : Str} : Dk K H (.str z) (.str z) := by simp only [Dk]
theorem dk_non : Dk K H .none .non := by simp only [Dk]
theorem Dk.int {x : V} {i : Int} (h : Dk K H (.int i) x) : x = .int i := by simp only [Dk] at h; exact h
theorem Dk.bl {x : V} {i : Bool} (h : Dk K H (.bool i) x) : x = .bl i := by simp only [Dk] at h; exact h
theorem Dk.str {x : V} {i : Str} (h : Dk K H (.str i) x) : x = .str i := by simp only [Dk] at h; exact h
theorem Dk.non {x : V} (h : Dk K H .none x) : x = .non := by simp only [Dk] at h; exact h
theorem Dk.tup {x : V} {ds : List PyData} (h : Dk K H (.tuple ds) x) : ∃ a xs, x = .ref a ∧ SqT K H a xs ∧ DkAll K H ds xs := by simp only [Dk] at h; exact h
theorem Dk.lst {x : V} {ds : List PyData} (h : Dk K H (.list ds) x) : ∃ a xs, x = .ref a ∧ FzL K H a xs ∧ DkAll K H ds xs := by simp only [Dk] at h; exact h
theorem dk_tup {a : Addr} {xs : List V} {ds : List PyData} (h : SqT K H a xs) (r : DkAll K H ds xs) : Dk K H (.tuple ds) (.ref a) := by simp only [Dk]; exact ⟨a, xs, rfl, h, r⟩
theorem dk_lst {a : Addr} {xs : List V} {ds : List PyData} (h : FzL K H a xs) (r : DkAll K H ds xs) : Dk K H (.list ds) (.ref a) := by simp only [Dk]; exact ⟨a, xs, rfl, h, r⟩
theorem dks_nil : DkAll K H [] [] := by simp only [DkAll]
theorem dks_cons {d : PyData} {ds : List PyData} {x : V} {xs : List V} (h : Dk K H d x) (r : DkAll K H ds xs) : DkAll K H (d :: ds) (x :: xs) := by simp only [DkAll]; exact ⟨x, xs, rfl, h, r⟩
theorem DkAll.cons {d : PyData} {ds : List PyData} {xs : List V} (h : DkAll K H (d :: ds) xs) : ∃ x r, xs = x :: r ∧ Dk K H d x ∧ DkAll K H ds r := by simp only [DkAll] at h; exact h
theorem DkAll.nil {xs : List V} (h : DkAll K H [] xs) : xs = [] := by simp only [DkAll] at h; exact h
theorem DkAll.length : ∀ {ds : List PyData} {xs : List V}, DkAll K H ds xs → xs.length = ds.length
  | [], _, h => by rw [h.nil]; rfl
  | _ :: ds, _, h => by
    obtain ⟨x, r, rfl, _, h2⟩ := h.cons
    rw [List.length_cons, List.length_cons, DkAll.length h2]
theorem DkAll.get : ∀ {ds : List PyData} {xs : List V} {i : Nat} {d : PyData}, DkAll K H ds xs → ds[i]? = some d → ∃ x, xs[i]? = some x ∧ Dk K H d x
  | [], _, _, _, _, e => by simp at e
  | _ :: ds, _, 0, d, h, e => by
    obtain ⟨x, r, rfl, h1, _⟩ := h.cons
    simp at e; subst e
    exact ⟨x, rfl, h1⟩
  | _ :: ds, _, i + 1, d, h, e => by
    obtain ⟨x, r, rfl, _, h2⟩ := h.cons
    obtain ⟨y, e1, e2⟩ := DkAll.get (i := i) (d := d) h2 (by simpa using e)
    exact ⟨y, by simpa using e1, e2⟩
theorem DkAll.append : ∀ {ds es : List PyData} {xs ys : List V}, DkAll K H ds xs → DkAll K H es ys → DkAll K H (ds ++ es) (xs ++ ys)
  | [], _, _, _, h, k => by rw [h.nil]; exact k
  | _ :: ds, _, _, _, h, k => by
    obtain ⟨x, r, rfl, h1, h2⟩ := h.cons
    exact dks_cons h1 (DkAll.append h2 k)
theorem DkAll.drop : ∀ (n : Nat) {ds : List PyData} {xs : List V}, DkAll K H ds xs → DkAll K H (ds.drop n) (xs.drop n)
  | 0, _, _, h => h
  | _ + 1, [], _, h => by rw [h.nil]; exact dks_nil
  | n + 1, _ :: ds, _, h => by
    obtain ⟨x, r, rfl, _, h2⟩ := h.cons
    exact DkAll.drop n h2
theorem DkAll.take : ∀ (n : Nat) {ds : List PyData} {xs : List V}, DkAll K H ds xs → DkAll K H (ds.take n) (xs.take n)
  | 0, _, _, _ => dks_nil
  | _ + 1, [], _, h => by rw [h.nil]; exact dks_nil
  | n + 1, _ :: ds, _, h => by
    obtain ⟨x, r, rfl, h1, h2⟩ := h.cons
    exact dks_cons h1 (DkAll.take n h2)
theorem DkAll.cut {ds : List PyData} {xs : List V} (h : DkAll K H ds xs) (lo hi : Option Int) : DkAll K H (cutD ds lo hi) (cutV xs lo hi) := by
  unfold cutD cutV
  rw [h.length]
  exact (h.drop _).take _
theorem DkAll.atI {ds : List PyData} {xs : List V} {i : Int} {d : PyData} (h : DkAll K H ds xs) (e : atI ds i = some d) : ∃ x, L2.atI xs i = some x ∧ Dk K H d x := by
  unfold L2.atI at e ⊢
  rw [h.length]
  cases q : ixN ds.length i with
  | none => rw [q] at e; cases e
  | some j =>
    rw [q] at e
    obtain ⟨x, hx, hd⟩ := h.get (show ds[j]? = some d from e)
    exact ⟨x, hx, hd⟩

/-! ### values, states -/
def RelA (K : PySem.W.Frag) (H : Hp) : AV → V → Prop
  | .D d, v => Dk K H d v
  | .R a, v => v = .ref a
theorem ra_int {i : Int} : RelA K H (.D (.int i)) (.int i) := dk_int (K := K) (H := H)
theorem ra_bl {i : Bool} : RelA K H (.D (.bool i)) (.bl i) := dk_bl (K := K) (H := H)
theorem ra_str {i : Str} : RelA K H (.D (.str i)) (.str i) := dk_str (K := K) (H := H)
theorem ra_non : RelA K H (.D .none) .non := dk_non (K := K) (H := H)
theorem RelA.int {x : V} {i : Int} (h : RelA K H (.D (.int i)) x) : x = .int i := Dk.int (K := K) (H := H) h
theorem RelA.bl {x : V} {i : Bool} (h : RelA K H (.D (.bool i)) x) : x = .bl i := Dk.bl (K := K) (H := H) h
theorem RelA.str {x : V} {i : Str} (h : RelA K H (.D (.str i)) x) : x = .str i := Dk.str (K := K) (H := H) h
theorem RelA.non {x : V} (h : RelA K H (.D .none) x) : x = .non := Dk.non (K := K) (H := H) h
theorem RelA.tup {x : V} {ds : List PyData} (h : RelA K H (.D (.tuple ds)) x) : ∃ a xs, x = .ref a ∧ SqT K H a xs ∧ DkAll K H ds xs := Dk.tup (K := K) (H := H) h
theorem RelA.lst {x : V} {ds : List PyData} (h : RelA K H (.D (.list ds)) x) : ∃ a xs, x = .ref a ∧ FzL K H a xs ∧ DkAll K H ds xs := Dk.lst (K := K) (H := H) h
theorem RelA.ref {x : V} {a : Addr} (h : RelA K H (.R a) x) : x = .ref a := h
theorem ra_ref {a : Addr} : RelA K H (.R a) (.ref a) := rfl
theorem ra_D {d : PyData} {v : V} (h : Dk K H d v) : RelA K H (.D d) v := h
theorem ra_tup {a : Addr} {xs : List V} {ds : List PyData} (h : SqT K H a xs) (r : DkAll K H ds xs) : RelA K H (.D (.tuple ds)) (.ref a) := dk_tup (K := K) (H := H) h r
abbrev RelAs (K : PySem.W.Frag) (H : Hp) : List AV → List V → Prop := Paired (RelA K H)
theorem RelA.kp (S : Kp H H') : ∀ {x : AV} {v : V}, RelA K H x v → RelA K H' x v
  | .D d, v, h => Dk.kp S d v h
  | .R a, _, h => h
theorem RelAs.kp (S : Kp H H') {xs : List AV} {vs : List V} (h : RelAs K H xs vs) : RelAs K H' xs vs := Paired.mapP h fun _ _ q => q.kp S
theorem RelAs.length {xs : List AV} {vs : List V} (h : RelAs K H xs vs) : xs.length = vs.length := Paired.length h
theorem RelAs.append : ∀ {xs ys : List AV} {us ws : List V}, RelAs K H xs us → RelAs K H ys ws → RelAs K H (xs ++ ys) (us ++ ws)
  | _, _, _, _, .nil, s => s
  | _, _, _, _, .cons r t, s => .cons r (RelAs.append t s)
theorem RelAs.get : ∀ {xs : List AV} {us : List V} {i : Nat} {x : AV}, RelAs K H xs us → xs[i]? = some x → ∃ u, us[i]? = some u ∧ RelA K H x u
  | _, _, _, _, .nil, e => by simp at e
  | _, _, 0, _, .cons r _, e => by simp at e; subst e; exact ⟨_, rfl, r⟩
  | _, _, i + 1, x, .cons _ t, e => by
    obtain ⟨u, h1, h2⟩ := RelAs.get (i := i) (x := x) t (by simpa using e)
    exact ⟨u, by simpa using h1, h2⟩
theorem RelAs.set {x : AV} {u : V} (r : RelA K H x u) : ∀ {xs : List AV} {us : List V} (i : Nat), RelAs K H xs us → RelAs K H (xs.set i x) (us.set i u)
  | _, _, _, .nil => .nil
  | _, _, 0, .cons _ t => .cons r t
  | _, _, i + 1, .cons q t => .cons q (RelAs.set r i t)
theorem RelAs.drop : ∀ {xs : List AV} {us : List V} (n : Nat), RelAs K H xs us → RelAs K H (xs.drop n) (us.drop n)
  | _, _, 0, r => r
  | _, _, _ + 1, .nil => .nil
  | _, _, n + 1, .cons _ t => RelAs.drop n t
theorem RelAs.take : ∀ {xs : List AV} {us : List V} (n : Nat), RelAs K H xs us → RelAs K H (xs.take n) (us.take n)
  | _, _, 0, _ => .nil
  | _, _, _ + 1, .nil => .nil
  | _, _, n + 1, .cons r t => .cons r (RelAs.take n t)
theorem RelAs.eraseIdx : ∀ {xs : List AV} {us : List V} (n : Nat), RelAs K H xs us → RelAs K H (xs.eraseIdx n) (us.eraseIdx n)
  | _, _, _, .nil => by simp; exact .nil
  | _, _, 0, .cons _ t => t
  | _, _, n + 1, .cons r t => .cons r (RelAs.eraseIdx n t)
theorem RelAs.dropLast : ∀ {xs : List AV} {us : List V}, RelAs K H xs us → RelAs K H xs.dropLast us.dropLast
  | _, _, .nil => .nil
  | _, _, .cons _ .nil => .nil
  | _, _, .cons r (.cons r2 t) => .cons r (RelAs.dropLast (.cons r2 t))
theorem RelAs.rev : ∀ {xs : List AV} {us : List V}, RelAs K H xs us → RelAs K H xs.reverse us.reverse
  | _, _, .nil => .nil
  | _, _, .cons r t => by rw [List.reverse_cons, List.reverse_cons]; exact (RelAs.rev t).append (.cons r .nil)
def cutA (xs : List AV) (lo hi : Option Int) : List AV := (xs.drop (HT.sIx xs.length 0 lo)).take (HT.sIx xs.length xs.length hi - HT.sIx xs.length 0 lo)
theorem RelAs.cut {xs : List AV} {us : List V} (h : RelAs K H xs us) (lo hi : Option Int) : RelAs K H (cutA xs lo hi) (cutV us lo hi) := by
  unfold cutA cutV
  rw [h.length]
  exact (h.drop _).take _
theorem RelAs.atI {xs : List AV} {us : List V} {i : Int} {x : AV} (h : RelAs K H xs us) (e : atI xs i = some x) : ∃ u, L2.atI us i = some u ∧ RelA K H x u := by
  unfold L2.atI at e ⊢
  rw [← h.length]
  cases q : ixN xs.length i with
  | none => rw [q] at e; cases e
  | some j =>
    rw [q] at e
    obtain ⟨x, hx, hd⟩ := h.get (show xs[j]? = some x from e)
    exact ⟨x, hx, hd⟩
/-- all of them data -/
def dats : List AV → Option (List PyData)
  | [] => some []
  | .D d :: r => match dats r with
    | some ds => some (d :: ds)
    | none => none
  | .R _ :: _ => none
@[simp] theorem dats_nil : dats [] = some [] := rfl
theorem dats_map : ∀ (ds : List PyData), dats (ds.map .D) = some ds
  | [] => rfl
  | d :: ds => by simp only [List.map_cons, dats, dats_map ds]
theorem dats_eq : ∀ {xs : List AV} {ds : List PyData}, dats xs = some ds → xs = ds.map .D
  | [], ds, h => by cases h; rfl
  | .D d :: r, ds, h => by
    simp only [dats] at h
    cases q : dats r with
    | none => rw [q] at h; cases h
    | some es => rw [q] at h; cases h; rw [dats_eq q]; rfl
  | .R _ :: _, _, h => by simp [dats] at h
theorem RelAs.dk : ∀ {ds : List PyData} {vs : List V}, RelAs K H (ds.map .D) vs → DkAll K H ds vs
  | [], _, h => by cases h; exact dks_nil
  | _ :: _, _, h => by
    rw [List.map_cons] at h
    cases h with
    | cons r t => exact dks_cons r (RelAs.dk t)
theorem DkAll.rel : ∀ {ds : List PyData} {vs : List V}, DkAll K H ds vs → RelAs K H (ds.map .D) vs
  | [], _, h => by rw [h.nil]; exact .nil
  | _ :: _, _, h => by
    obtain ⟨x, r, rfl, h1, h2⟩ := h.cons
    exact .cons h1 (DkAll.rel h2)
theorem RelAs.dats {xs : List AV} {vs : List V} {ds : List PyData} (h : RelAs K H xs vs) (e : dats xs = some ds) : DkAll K H ds vs := by rw [dats_eq e] at h; exact h.dk

inductive MO where
  | lst (xs : List AV) | dk (kvs : List (Key × AV)) | dt (kvs : List (List Key × AV))
abbrev M := Addr → Option MO
def updM (μ : M) (a : Addr) (m : MO) : M := fun b => if b = a then some m else μ b
theorem updM_same {μ : M} {a : Addr} {m : MO} : updM μ a m a = some m := by unfold updM; rw [if_pos rfl]
theorem updM_ne {μ : M} {a b : Addr} {m : MO} (h : b ≠ a) : updM μ a m b = μ b := by unfold updM; rw [if_neg h]
theorem updM_updM {μ : M} {a : Addr} {m n : MO} : updM (updM μ a m) a n = updM μ a n := by funext b; unfold updM; split <;> rfl
def RelK {κ : Type} (K : PySem.W.Frag) (H : Hp) : List (κ × AV) → List (κ × V) → Prop := Paired fun p q => p.1 = q.1 ∧ RelA K H p.2 q.2
theorem RelK.kp {κ : Type} (S : Kp H H') {xs : List (κ × AV)} {vs : List (κ × V)} (h : RelK K H xs vs) : RelK K H' xs vs := Paired.mapP h fun _ _ q => ⟨q.1, q.2.kp S⟩
def RelM (K : PySem.W.Frag) (H : Hp) : MO → HO → Prop
  | .lst xs, o => ∃ vs, o = .lst vs ∧ RelAs K H xs vs
  | .dk kvs, o => ∃ vs, o = .dK vs ∧ RelK K H kvs vs
  | .dt kvs, o => ∃ vs, o = .dT vs ∧ RelK K H kvs vs
theorem RelM.kp (S : Kp H H') {m : MO} {o : HO} (h : RelM K H m o) : RelM K H' m o := by
  cases m with
  | lst xs => obtain ⟨vs, e, r⟩ := h; exact ⟨vs, e, r.kp S⟩
  | dk xs => obtain ⟨vs, e, r⟩ := h; exact ⟨vs, e, r.kp S⟩
  | dt xs => obtain ⟨vs, e, r⟩ := h; exact ⟨vs, e, r.kp S⟩
theorem rm_lst {xs : List AV} {vs : List V} (h : RelAs K H xs vs) : RelM K H (.lst xs) (.lst vs) := ⟨vs, rfl, h⟩
theorem RelM.mt {m : MO} {o : HO} (h : RelM K H m o) : Mt o := by
  cases m with
  | lst xs => obtain ⟨vs, rfl, r⟩ := h; trivial
  | dk xs => obtain ⟨vs, rfl, r⟩ := h; trivial
  | dt xs => obtain ⟨vs, rfl, r⟩ := h; trivial
def Cn (K : PySem.W.Frag) (μ : M) (H : Hp) : Prop := ∀ a m, μ a = some m → ∃ o, H a = some o ∧ RelM K H m o
theorem Cn.none {μ : M} {p : Addr} (c : Cn K μ H) (h : H p = none) : μ p = none := by
  cases q : μ p with
  | none => rfl
  | some m => obtain ⟨o, e, _⟩ := c p m q; rw [h] at e; cases e
theorem Cn.over {μ : M} {p : Addr} {o : HO} (c : Cn K μ H) (h : H p = Option.none) : Cn K μ (upd H p o) := fun a m e => by
  obtain ⟨o', e', r⟩ := c a m e
  exact ⟨o', by rw [upd_ne (ne_of_none e' h)]; exact e', r.kp (Kp.new h o)⟩
theorem Cn.new {μ : M} {p : Addr} {m : MO} {o : HO} (c : Cn K μ H) (h : H p = Option.none) (r : RelM K H m o) : Cn K (updM μ p m) (upd H p o) := fun a m' e => by
  by_cases ha : a = p
  · subst ha; rw [updM_same] at e; cases e; exact ⟨o, upd_same, r.kp (Kp.new h o)⟩
  · rw [updM_ne ha] at e; exact c.over h a m' e
theorem Cn.put {μ : M} {p : Addr} {m : MO} {o o0 : HO} (c : Cn K μ H) (h : H p = some o0) (hm : Mt o0) (r : RelM K H m o) : Cn K (updM μ p m) (upd H p o) := fun a m' e => by
  by_cases ha : a = p
  · subst ha; rw [updM_same] at e; cases e; exact ⟨o, upd_same, r.kp (Kp.put h hm o)⟩
  · rw [updM_ne ha] at e
    obtain ⟨o', e', r'⟩ := c a m' e
    exact ⟨o', by rw [upd_ne ha]; exact e', r'.kp (Kp.put h hm o)⟩
/-- less is known -/
def Sub (μ ν : M) : Prop := ∀ a m, μ a = some m → ν a = some m
theorem Sub.refl {μ : M} : Sub μ μ := fun _ _ h => h
theorem Sub.trans {μ ν ρ : M} (h : Sub μ ν) (k : Sub ν ρ) : Sub μ ρ := fun a m e => k a m (h a m e)
theorem Sub.new {μ ν : M} {p : Addr} {m : MO} (h : Sub μ ν) (e : μ p = none) : Sub μ (updM ν p m) := fun a m' e' => by
  rw [updM_ne (by intro z; subst z; rw [e] at e'; cases e')]; exact h a m' e'
theorem Sub.put {μ ν : M} {p : Addr} {m : MO} (h : Sub μ ν) : Sub (updM μ p m) (updM ν p m) := fun a m' e => by
  by_cases ha : a = p
  · subst ha; rw [updM_same] at e ⊢; exact e
  · rw [updM_ne ha] at e ⊢; exact h a m' e
theorem Sub.none {μ ν : M} {p : Addr} (h : Sub μ ν) (e : ν p = none) : μ p = none := by
  cases q : μ p with
  | none => rfl
  | some m => rw [h p m q] at e; cases e
theorem Cn.sub {μ ν : M} (c : Cn K ν H) (h : Sub μ ν) : Cn K μ H := fun a m e => c a m (h a m e)
abbrev ASt := List (Option AV)
def RelSl (K : PySem.W.Frag) (H : Hp) (a : Option AV) (b : Option V) : Prop := ∀ x, a = some x → ∃ v, b = some v ∧ RelA K H x v
abbrev StA (K : PySem.W.Frag) (H : Hp) : ASt → St → Prop := Paired (RelSl K H)
theorem RelSl.kp {a : Option AV} {b : Option V} (S : Kp H H') (h : RelSl K H a b) : RelSl K H' a b := fun x e => let ⟨v, e2, r⟩ := h x e; ⟨v, e2, r.kp S⟩
theorem StA.kp {τ : ASt} {σ : St} (S : Kp H H') (h : StA K H τ σ) : StA K H' τ σ := Paired.mapP h fun _ _ q => q.kp S
theorem StA.get : ∀ {τ : ASt} {σ : St} {i : Nat} {x : AV}, StA K H τ σ → τ[i]? = some (some x) → ∃ v, σ[i]? = some (some v) ∧ RelA K H x v
  | _, _, _, _, .nil, e => by simp at e
  | _, _, 0, _, .cons r _, e => by simp at e; subst e; obtain ⟨v, rfl, q⟩ := r _ rfl; exact ⟨v, rfl, q⟩
  | _, _, i + 1, x, .cons _ t, e => by
    obtain ⟨u, h1, h2⟩ := StA.get (i := i) (x := x) t (by simpa using e)
    exact ⟨u, by simpa using h1, h2⟩
theorem relSl_some {x : AV} {v : V} (r : RelA K H x v) : RelSl K H (some x) (some v) := fun y e => by cases e; exact ⟨v, rfl, r⟩
theorem relSl_none {b : Option V} : RelSl K H none b := fun y e => nomatch e
theorem StA.set {x : AV} {v : V} (r : RelA K H x v) : ∀ {τ : ASt} {σ : St} (i : Nat), StA K H τ σ → StA K H (τ.set i (some x)) (σ.set i (some v))
  | _, _, _, .nil => .nil
  | _, _, 0, .cons _ t => .cons (relSl_some r) t
  | _, _, i + 1, .cons q t => .cons q (StA.set r i t)
theorem StA.unset : ∀ {τ : ASt} {σ : St} (i : Nat), StA K H τ σ → StA K H (τ.set i none) σ
  | _, _, _, .nil => .nil
  | _, _, 0, .cons _ t => .cons relSl_none t
  | _, _, i + 1, .cons q t => .cons q (StA.unset i t)
def startA (N : List Str) (xs : List AV) : ASt := xs.map some ++ List.replicate (N.length - xs.length) none
theorem StA.rep : ∀ (n : Nat), StA K H (List.replicate n none) (List.replicate n none)
  | 0 => .nil
  | n + 1 => .cons relSl_none (StA.rep n)
theorem StA.somes : ∀ {xs : List AV} {vs : List V}, RelAs K H xs vs → StA K H (xs.map some) (vs.map some)
  | _, _, .nil => .nil
  | _, _, .cons r t => .cons (relSl_some r) (StA.somes t)
theorem StA.append : ∀ {τ τ' : ASt} {σ σ' : St}, StA K H τ σ → StA K H τ' σ' → StA K H (τ ++ τ') (σ ++ σ')
  | _, _, _, _, .nil, s => s
  | _, _, _, _, .cons r t, s => .cons r (StA.append t s)
theorem StA.begin {N : List Str} {xs : List AV} {vs : List V} (h : RelAs K H xs vs) : StA K H (startA N xs) (start N vs) := by
  unfold startA start
  rw [h.length]
  exact (StA.somes h).append (StA.rep _)
def subA (mp : List (Option Nat)) (τ : ASt) : ASt := mp.map fun o => match o with
  | none => none
  | some j => match τ[j]? with
    | some x => x
    | none => none
theorem StA.sub {τ : ASt} {σ : St} (h : StA K H τ σ) : ∀ (mp : List (Option Nat)), StA K H (subA mp τ) (subS mp σ)
  | [] => .nil
  | none :: mp => .cons relSl_none (StA.sub h mp)
  | some j :: mp => by
    refine .cons (fun x e => ?_) (StA.sub h mp)
    have e' : τ[j]? = some (some x) := by
      dsimp only at e
      cases q : τ[j]? with
      | none => rw [q] at e; cases e
      | some y => rw [q] at e; exact congrArg some e
    obtain ⟨v, hv, r⟩ := h.get e'
    refine ⟨v, ?_, r⟩
    show (σ[j]?).join = some v
    rw [hv]; rfl
end
end L2

namespace L2
open PySem PySem.Spec PyProof.Rows
abbrev AE := ASt → M → (AV → M → Prop) → Prop
abbrev AT := ASt → M → (Bool → M → Prop) → Prop
abbrev AA := ASt → M → (List AV → M → Prop) → Prop
abbrev AO := ASt → M → (Option Int → M → Prop) → Prop
/-- a statement: what is wanted behind it, of a value told, of break, of continue -/
abbrev AS := (ASt → M → Prop) → (AV → M → Prop) → (ASt → M → Prop) → (ASt → M → Prop) → ASt → M → Prop
abbrev AG := AV → ASt → M → (ASt → M → Prop) → Prop
abbrev AGs := List AV → ASt → M → (ASt → M → Prop) → Prop
abbrev A2 := AV → AV → M → (AV → M → Prop) → Prop
abbrev AC := List AV → M → (AV → M → Prop) → Prop
/-- where a way parts; what must be there -/
@[irreducible] def brP (b : Bool) (T F : Prop) : Prop := match b with
  | true => T
  | false => F
@[irreducible] def opt {α : Type} (o : Option α) (k : α → Prop) : Prop := match o with
  | some x => k x
  | none => False
theorem br {b : Bool} {T F : Prop} (h1 : b = true → T) (h2 : b = false → F) : brP b T F := by
  unfold brP; cases b with
  | true => exact h1 rfl
  | false => exact h2 rfl
theorem brT {b : Bool} {T F : Prop} (hb : b = true) (h : T) : brP b T F := by subst hb; unfold brP; exact h
theorem brF {b : Bool} {T F : Prop} (hb : b = false) (h : F) : brP b T F := by subst hb; unfold brP; exact h
theorem brP_true {T F : Prop} : brP true T F = T := by unfold brP; rfl
theorem brP_false {T F : Prop} : brP false T F = F := by unfold brP; rfl
theorem br_e {b : Bool} {T F : Prop} (h : brP b T F) : (b = true ∧ T) ∨ (b = false ∧ F) := by
  unfold brP at h; cases b with
  | true => exact .inl ⟨rfl, h⟩
  | false => exact .inr ⟨rfl, h⟩
theorem opt_i {α : Type} {o : Option α} {x : α} {k : α → Prop} (h : o = some x) (q : k x) : opt o k := by subst h; unfold opt; exact q
theorem opt_e {α : Type} {o : Option α} {k : α → Prop} (h : opt o k) : ∃ x, o = some x ∧ k x := by
  unfold opt at h; cases o with
  | none => exact h.elim
  | some x => exact ⟨x, rfl, h⟩
theorem opt_some {α : Type} {x : α} {k : α → Prop} : opt (some x) k = k x := by unfold opt; rfl
/-- a truth that is asked -/
theorem dif {p : Prop} [Decidable p] {T F : Prop} (h1 : p → T) (h2 : ¬ p → F) : brP (decide p) T F := br (fun h => h1 (of_decide_eq_true h)) (fun h => h2 (of_decide_eq_false h))
/-! ### the ends, carried over -/
def LV (K : PySem.W.Frag) (H : Hp) (R : AV → M → Prop) (Q : VK) : Prop := ∀ x μ v H', Kp H H' → Cn K μ H' → RelA K H' x v → R x μ → Q v H'
def LB (K : PySem.W.Frag) (H : Hp) (R : Bool → M → Prop) (Q : Bool → Hp → Prop) : Prop := ∀ b μ H', Kp H H' → Cn K μ H' → R b μ → Q b H'
def LA (K : PySem.W.Frag) (n : Nat) (H : Hp) (R : List AV → M → Prop) (Q : List V → Hp → Prop) : Prop := ∀ xs μ vs H', Kp H H' → Cn K μ H' → RelAs K H' xs vs → xs.length = n → R xs μ → Q vs H'
def LO (K : PySem.W.Frag) (H : Hp) (R : Option Int → M → Prop) (Q : Option Int → Hp → Prop) : Prop := ∀ b μ H', Kp H H' → Cn K μ H' → R b μ → Q b H'
def LS (K : PySem.W.Frag) (H : Hp) (R : ASt → M → Prop) (Q : St → Hp → Prop) : Prop := ∀ τ μ σ H', Kp H H' → StA K H' τ σ → Cn K μ H' → R τ μ → Q σ H'
theorem LV.kp {K : PySem.W.Frag} {H H' : Hp} {R : AV → M → Prop} {Q : VK} (h : LV K H R Q) (S : Kp H H') : LV K H' R Q := fun x μ v H2 S2 => h x μ v H2 (S.trans S2)
theorem LB.kp {K : PySem.W.Frag} {H H' : Hp} {R : Bool → M → Prop} {Q : Bool → Hp → Prop} (h : LB K H R Q) (S : Kp H H') : LB K H' R Q := fun x μ H2 S2 => h x μ H2 (S.trans S2)
theorem LA.kp {K : PySem.W.Frag} {n : Nat} {H H' : Hp} {R : List AV → M → Prop} {Q : List V → Hp → Prop} (h : LA K n H R Q) (S : Kp H H') : LA K n H' R Q := fun x μ v H2 S2 => h x μ v H2 (S.trans S2)
theorem LO.kp {K : PySem.W.Frag} {H H' : Hp} {R : Option Int → M → Prop} {Q : Option Int → Hp → Prop} (h : LO K H R Q) (S : Kp H H') : LO K H' R Q := fun x μ H2 S2 => h x μ H2 (S.trans S2)
theorem LS.kp {K : PySem.W.Frag} {H H' : Hp} {R : ASt → M → Prop} {Q : St → Hp → Prop} (h : LS K H R Q) (S : Kp H H') : LS K H' R Q := fun x μ v H2 S2 => h x μ v H2 (S.trans S2)
structure LE' (K : PySem.W.Frag) (H : Hp) (k : ASt → M → Prop) (r : AV → M → Prop) (b c : ASt → M → Prop) (D : Ends) : Prop where
  nx : LS K H k D.nx
  rt : LV K H r D.rt
  bk : LS K H b D.bk
  ct : LS K H c D.ct
theorem LE'.kp {K : PySem.W.Frag} {H H' : Hp} {k : ASt → M → Prop} {r : AV → M → Prop} {b c : ASt → M → Prop} {D : Ends} (h : LE' K H k r b c D) (S : Kp H H') : LE' K H' k r b c D := ⟨h.nx.kp S, h.rt.kp S, h.bk.kp S, h.ct.kp S⟩
/-! ### readings, carried over -/
def cE (K : PySem.W.Frag) (t : AE) : TE := fun σ H Q => ∃ τ μ R, StA K H τ σ ∧ Cn K μ H ∧ t τ μ R ∧ LV K H R Q
def cT (K : PySem.W.Frag) (t : AT) : TT := fun σ H Q => ∃ τ μ R, StA K H τ σ ∧ Cn K μ H ∧ t τ μ R ∧ LB K H R Q
def cA (K : PySem.W.Frag) (n : Nat) (t : AA) : TA := fun σ H Q => ∃ τ μ R, StA K H τ σ ∧ Cn K μ H ∧ t τ μ R ∧ LA K n H R Q
def cO (K : PySem.W.Frag) (t : AO) : TO := fun σ H Q => ∃ τ μ R, StA K H τ σ ∧ Cn K μ H ∧ t τ μ R ∧ LO K H R Q
def cS (K : PySem.W.Frag) (t : AS) : TS := fun D σ H => ∃ τ μ k r b c, StA K H τ σ ∧ Cn K μ H ∧ t k r b c τ μ ∧ LE' K H k r b c D
def cG (K : PySem.W.Frag) (t : AG) : TG := fun v σ H Q => ∃ x τ μ R, RelA K H x v ∧ StA K H τ σ ∧ Cn K μ H ∧ t x τ μ R ∧ LS K H R Q
def cGs (K : PySem.W.Frag) (t : AGs) : TGs := fun vs σ H Q => ∃ xs τ μ R, RelAs K H xs vs ∧ StA K H τ σ ∧ Cn K μ H ∧ t xs τ μ R ∧ LS K H R Q
def cR (K : PySem.W.Frag) (r : A2) : R2 := fun x y H Q => ∃ a b μ R, RelA K H a x ∧ RelA K H b y ∧ Cn K μ H ∧ r a b μ R ∧ LV K H R Q
def cC (K : PySem.W.Frag) (r : AC) : List V → Hp → VK → Prop := fun xs H Q => ∃ as μ R, RelAs K H as xs ∧ Cn K μ H ∧ r as μ R ∧ LV K H R Q
def cM (K : PySem.W.Frag) (r : AV → AC) : V → List V → Hp → VK → Prop := fun x xs H Q => ∃ a as μ R, RelA K H a x ∧ RelAs K H as xs ∧ Cn K μ H ∧ r a as μ R ∧ LV K H R Q
def VE (X : Cx) (e : Expr) (t : AE) : Prop := PE X e (cE X.K t)
def VT (X : Cx) (e : Expr) (t : AT) : Prop := PT X e (cT X.K t)
def VW (X : Cx) (e : Expr) (t : AT) : Prop := PW X e (cT X.K t)
def VA (X : Cx) (es : List Expr) (t : AA) : Prop := PA X es (cA X.K es.length t)
def VO (X : Cx) (e : Option Expr) (t : AO) : Prop := PO X e (cO X.K t)
def VS (X : Cx) (st : Stmt) (t : AS) : Prop := PS X st (cS X.K t)
def VSs (X : Cx) (st : List Stmt) (t : AS) : Prop := PSs X st (cS X.K t)
def VG (X : Cx) (e : Expr) (t : AG) : Prop := PG X e (cG X.K t)
def VGs (X : Cx) (es : List Expr) (t : AGs) : Prop := PGs X es (cGs X.K t)
def VOp (X : Cx) (f : Value → Value → Sem Value) (r : A2) : Prop := OpR X f (cR X.K r)
def VIx (X : Cx) (r : A2) : Prop := IxR X (cR X.K r)
def VCall (X : Cx) (f : Value) (r : AC) : Prop := CallR X f (cC X.K r)
def VMt (X : Cx) (id : String) (r : AV → AC) : Prop := MtR X id (cM X.K r)
section
variable {X : Cx}
theorem PE.imp {e : Expr} {t u : TE} (h : PE X e t) (i : ∀ σ H Q, u σ H Q → t σ H Q) : PE X e u := fun pins s σ H Q I q => h pins s σ H Q I (i σ H Q q)
theorem PT.imp {e : Expr} {t u : TT} (h : PT X e t) (i : ∀ σ H Q, u σ H Q → t σ H Q) : PT X e u := fun pins s σ H Q I q => h pins s σ H Q I (i σ H Q q)
theorem PW.imp {e : Expr} {t u : TT} (h : PW X e t) (i : ∀ σ H Q, u σ H Q → t σ H Q) : PW X e u := fun wh pins s σ H Q I q => h wh pins s σ H Q I (i σ H Q q)
theorem PA.imp {e : List Expr} {t u : TA} (h : PA X e t) (i : ∀ σ H Q, u σ H Q → t σ H Q) : PA X e u := fun pos pins s σ H Q I q => h pos pins s σ H Q I (i σ H Q q)
theorem PO.imp {e : Option Expr} {t u : TO} (h : PO X e t) (i : ∀ σ H Q, u σ H Q → t σ H Q) : PO X e u := fun pins s σ H Q I q => h pins s σ H Q I (i σ H Q q)
theorem PS.imp {e : Stmt} {t u : TS} (h : PS X e t) (i : ∀ D σ H, u D σ H → t D σ H) : PS X e u := fun pins s σ H D I q => h pins s σ H D I (i D σ H q)
theorem PSs.imp {e : List Stmt} {t u : TS} (h : PSs X e t) (i : ∀ D σ H, u D σ H → t D σ H) : PSs X e u := fun pins s σ H D I q => h pins s σ H D I (i D σ H q)
theorem PG.imp {e : Expr} {t u : TG} (h : PG X e t) (i : ∀ v σ H Q, u v σ H Q → t v σ H Q) : PG X e u := fun pins s σ H v w Q I r q => h pins s σ H v w Q I r (i v σ H Q q)
theorem PGs.imp {e : List Expr} {t u : TGs} (h : PGs X e t) (i : ∀ v σ H Q, u v σ H Q → t v σ H Q) : PGs X e u := fun pins s σ H v w Q I r q => h pins s σ H v w Q I r (i v σ H Q q)

/-! ### expressions -/
def vVar (i : Nat) : AE := fun τ μ R => match τ[i]? with
  | some (some x) => R x μ
  | _ => False
theorem vVar_imp {K : PySem.W.Frag} {i : Nat} {σ : St} {H : Hp} {Q : VK} (h : cE K (vVar i) σ H Q) : tVar i σ H Q := by
  obtain ⟨τ, μ, R, hs, hc, h, hq⟩ := h
  unfold vVar at h
  split at h
  · rename_i x e
    obtain ⟨v, ev, r⟩ := hs.get e
    exact ⟨v, ev, hq _ _ _ _ Kp.refl hc r h⟩
  · exact h.elim
theorem vv (i : Nat) {x : Str} {pos : Pos} (hN : X.N[i]? = some x := by rfl) (hv : Vis X.env.scope x := by first | exact Or.inl rfl | exact Or.inr (Or.inl rfl) | exact Or.inr (Or.inr rfl)) (hd : (x == ("__debug__" : Str)) = false := by decide)
    (hcd : (x == ("__classdict__" : Str)) = false := by decide) : VE X (.Name x pos) (vVar i) := (pe_var hN hv hd hcd).imp fun _ _ _ h => vVar_imp h
def vC (x : AV) : AE := fun _ μ R => R x μ
theorem ve_const {e : Expr} {v : V} {d : PyData} (h : PE X e (tC v)) (r : ∀ H, Dk X.K H d v) : VE X e (vC (.D d)) := h.imp fun σ H Q ⟨τ, μ, R, hs, hc, h, hq⟩ => hq _ _ _ _ Kp.refl hc (ra_D (r H)) h
theorem ve_int {i j pos} : VE X (.Constant (.int i) j pos) (vC (.D (.int i))) := ve_const pe_int fun _ => dk_int
theorem ve_bl {b j pos} : VE X (.Constant (.bool b) j pos) (vC (.D (.bool b))) := ve_const pe_bl fun _ => dk_bl
theorem ve_non {j pos} : VE X (.Constant .none j pos) (vC (.D .none)) := ve_const pe_non fun _ => dk_non
theorem ve_str {x j pos} : VE X (.Constant (.str x) j pos) (vC (.D (.str x))) := ve_const pe_str fun _ => dk_str
theorem ve_glob {x : Str} {v : V} {u : Value} {d : PyData} {pos : Pos} (hg : Gl X x) (hm : X.mg x = some u) (r : RelV v u) (hd : ∀ H, Dk X.K H d v) (h1 : (x == ("__debug__" : Str)) = false := by decide) : VE X (.Name x pos) (vC (.D d)) := ve_const (pe_glob hg hm r h1) hd
def vOp (r : A2) (ta tb : AE) : AE := fun τ μ R => ta τ μ fun x μ1 => tb τ μ1 fun y μ2 => r x y μ2 R
theorem vOp_imp {K : PySem.W.Frag} {r : A2} {ta tb : AE} {σ : St} {H : Hp} {Q : VK} (h : cE K (vOp r ta tb) σ H Q) : tOp (cR K r) (cE K ta) (cE K tb) σ H Q := by
  obtain ⟨τ, μ, R, hs, hc, h, hq⟩ := h
  exact ⟨τ, μ, _, hs, hc, h, fun x μ1 v H1 S1 c1 rx hx => ⟨τ, μ1, _, hs.kp S1, c1, hx, fun y μ2 u H2 S2 c2 ry hy => ⟨x, y, μ2, R, rx.kp S2, ry, c2, hy, hq.kp (S1.trans S2)⟩⟩⟩
variable {a b c : Expr} {ta tb tc : AE} {pos : Pos}
theorem ve_op {op : Operator} {r : A2} (ho : VOp X (binaryOp op) r) (ha : VE X a ta) (hb : VE X b tb) : VE X (.BinOp a op b pos) (vOp r ta tb) := (pe_op ho ha hb).imp fun _ _ _ h => vOp_imp h
theorem ve_cmp {op : CmpOp} {r : A2} (ho : VOp X (compareOp op) r) (ha : VE X a ta) (hb : VE X b tb) (hm : behindInMarks op b = false) : VE X (.Compare a [op] [b] pos) (vOp r ta tb) := (pe_cmpR ho ha hb hm).imp fun _ _ _ h => vOp_imp h
def vTest (t : AE) : AT := fun τ μ R => t τ μ fun x μ1 => match x with
  | .D (.bool k) => R k μ1
  | _ => False
theorem vTest_imp {K : PySem.W.Frag} {t : AE} {u : TE} (hu : ∀ σ H Q, cE K t σ H Q → u σ H Q) {σ : St} {H : Hp} {Q : Bool → Hp → Prop} (h : cT K (vTest t) σ H Q) : tTest u σ H Q := by
  obtain ⟨τ, μ, R, hs, hc, h, hq⟩ := h
  refine hu _ _ _ ⟨τ, μ, _, hs, hc, h, fun x μ1 v H1 S1 c1 rx hx => ?_⟩
  split at hx
  · cases RelA.bl rx
    exact ⟨_, rfl, hq _ _ _ S1 c1 hx⟩
  · exact hx.elim
theorem vt_cmp {op : CmpOp} {r : A2} (ho : VOp X (compareOp op) r) (ha : VE X a ta) (hb : VE X b tb) (hm : behindInMarks op b = false) : VT X (.Compare a [op] [b] pos) (vTest (vOp r ta tb)) :=
  (pt_cmpR ho ha hb hm).imp fun _ _ _ h => vTest_imp (fun _ _ _ q => vOp_imp q) h
/-- a op b op c -/
def vChain (r r' : A2) (ta tb tc : AE) : AE := fun τ μ R => ta τ μ fun x μ1 => tb τ μ1 fun y μ2 => r x y μ2 fun z μ3 => match z with
  | .D (.bool k) => brP k (tc τ μ3 fun w μ4 => r' y w μ4 R) (R (.D (.bool false)) μ3)
  | _ => False
theorem vChain_imp {K : PySem.W.Frag} {r r' : A2} {ta tb tc : AE} {σ : St} {H : Hp} {Q : VK} (h : cE K (vChain r r' ta tb tc) σ H Q) : tChain (cR K r) (cR K r') (cE K ta) (cE K tb) (cE K tc) σ H Q := by
  obtain ⟨τ, μ, R, hs, hc, h, hq⟩ := h
  refine ⟨τ, μ, _, hs, hc, h, fun x μ1 v H1 S1 c1 rx hx => ⟨τ, μ1, _, hs.kp S1, c1, hx, fun y μ2 u H2 S2 c2 ry hy => ⟨x, y, μ2, _, rx.kp S2, ry, c2, hy, fun z μ3 q H3 S3 c3 rz hz => ?_⟩⟩⟩
  split at hz
  · cases RelA.bl rz
    rcases br_e hz with ⟨rfl, hz'⟩ | ⟨rfl, hz'⟩
    · exact ⟨true, rfl, by
        first
          | exact ⟨τ, μ3, _, hs.kp (S1.trans (S2.trans S3)), c3, hz', fun w μ4 p H4 S4 c4 rw hw => ⟨y, w, μ4, R, ry.kp (S3.trans S4), rw, c4, hw, hq.kp (S1.trans (S2.trans (S3.trans S4)))⟩⟩
          | (rw [if_pos rfl]; exact ⟨τ, μ3, _, hs.kp (S1.trans (S2.trans S3)), c3, hz', fun w μ4 p H4 S4 c4 rw hw => ⟨y, w, μ4, R, ry.kp (S3.trans S4), rw, c4, hw, hq.kp (S1.trans (S2.trans (S3.trans S4)))⟩⟩)⟩
    · exact ⟨false, rfl, by
        first
          | exact hq _ _ _ _ (S1.trans (S2.trans S3)) c3 ra_bl hz'
          | (rw [if_neg Bool.false_ne_true]; exact hq _ _ _ _ (S1.trans (S2.trans S3)) c3 ra_bl hz')⟩
  · exact hz.elim
theorem ve_chain {op op' : CmpOp} {r r' : A2} (ho : VOp X (compareOp op) r) (ho' : VOp X (compareOp op') r') (ha : VE X a ta) (hb : VE X b tb) (hc : VE X c tc) (hm : lastMarks [op, op'] [b, c] = false := by rfl) : VE X (.Compare a [op, op'] [b, c] pos) (vChain r r' ta tb tc) :=
  (pe_chain ho ho' ha hb hc hm).imp fun _ _ _ h => vChain_imp h
theorem vt_chain {op op' : CmpOp} {r r' : A2} (ho : VOp X (compareOp op) r) (ho' : VOp X (compareOp op') r') (ha : VE X a ta) (hb : VE X b tb) (hc : VE X c tc) (hm : lastMarks [op, op'] [b, c] = false := by rfl) : VT X (.Compare a [op, op'] [b, c] pos) (vTest (vChain r r' ta tb tc)) :=
  (pt_chain ho ho' ha hb hc hm).imp fun _ _ _ h => vTest_imp (fun _ _ _ q => vChain_imp q) h
theorem vt_val {e : Expr} {t : AE} (h : VE X e t) (he : ∀ whole, isTrue e X.env whole = (do let v ← whole; standAt e.pos; holding [v] (truthy v)) := by intro _; rfl) : VT X e (vTest t) :=
  (pt_val h he).imp fun _ _ _ h => by
    have h := vTest_imp (fun _ _ _ q => q) h
    exact h
def vAnd (t u : AT) : AT := fun τ μ R => t τ μ fun k μ1 => brP k (u τ μ1 R) (R false μ1)
def vOr (t u : AT) : AT := fun τ μ R => t τ μ fun k μ1 => brP k (R true μ1) (u τ μ1 R)
def vNot (t : AT) : AT := fun τ μ R => t τ μ fun k μ1 => R (!k) μ1
theorem VW.pt {e : Expr} {t : AT} (h : VW X e t) : VT X e t := PW.pt h
variable {rest : List Expr} {tA tB' : AT}
theorem vw_and1 (ha : VT X a tA) : VW X (.BoolOp .And [a] pos) tA := pw_and1 ha
theorem vw_or1 (ha : VT X a tA) : VW X (.BoolOp .Or [a] pos) tA := pw_or1 ha
theorem vw_and (ha : VT X a tA) (hb : VW X (.BoolOp .And (b :: rest) pos) tB') : VW X (.BoolOp .And (a :: b :: rest) pos) (vAnd tA tB') :=
  (pw_and ha hb).imp fun σ H Q ⟨τ, μ, R, hs, hc, h, hq⟩ => ⟨τ, μ, _, hs, hc, h, fun k μ1 H1 S1 c1 hk => by
    rcases br_e hk with ⟨rfl, hk'⟩ | ⟨rfl, hk'⟩
    · exact ⟨τ, μ1, R, hs.kp S1, c1, hk', hq.kp S1⟩
    · exact hq _ _ _ S1 c1 hk'⟩
theorem vw_or (ha : VT X a tA) (hb : VW X (.BoolOp .Or (b :: rest) pos) tB') : VW X (.BoolOp .Or (a :: b :: rest) pos) (vOr tA tB') :=
  (pw_or ha hb).imp fun σ H Q ⟨τ, μ, R, hs, hc, h, hq⟩ => ⟨τ, μ, _, hs, hc, h, fun k μ1 H1 S1 c1 hk => by
    rcases br_e hk with ⟨rfl, hk'⟩ | ⟨rfl, hk'⟩
    · exact hq _ _ _ S1 c1 hk'
    · exact ⟨τ, μ1, R, hs.kp S1, c1, hk', hq.kp S1⟩⟩
theorem vt_not (ha : VT X a tA) : VT X (.UnaryOp .Not a pos) (vNot tA) := (pt_not ha).imp fun σ H Q ⟨τ, μ, R, hs, hc, h, hq⟩ => ⟨τ, μ, _, hs, hc, h, fun k μ1 H1 S1 c1 hk => hq _ _ _ S1 c1 hk⟩
theorem ve_one {op} {t : AE} (h : VE X a t) : VE X (.BoolOp op [a] pos) t := pe_one h
def vAndV (ta tb : AE) : AE := fun τ μ R => ta τ μ fun x μ1 => match x with
  | .D (.bool k) => brP k (tb τ μ1 R) (R (.D (.bool false)) μ1)
  | _ => False
def vOrV (ta tb : AE) : AE := fun τ μ R => ta τ μ fun x μ1 => match x with
  | .D (.bool k) => brP k (R (.D (.bool true)) μ1) (tb τ μ1 R)
  | _ => False
def vNotV (ta : AE) : AE := fun τ μ R => ta τ μ fun x μ1 => match x with
  | .D (.bool k) => R (.D (.bool (!k))) μ1
  | _ => False
theorem ve_and (ha : VE X a ta) (hb : VE X (.BoolOp .And (b :: rest) pos) tb) : VE X (.BoolOp .And (a :: b :: rest) pos) (vAndV ta tb) :=
  (pe_and ha hb).imp fun σ H Q ⟨τ, μ, R, hs, hc, h, hq⟩ => ⟨τ, μ, _, hs, hc, h, fun x μ1 v H1 S1 c1 rx hk => by
    split at hk
    · cases RelA.bl rx
      rcases br_e hk with ⟨rfl, hk'⟩ | ⟨rfl, hk'⟩
      · exact ⟨true, rfl, ⟨τ, μ1, R, hs.kp S1, c1, hk', hq.kp S1⟩⟩
      · exact ⟨false, rfl, hq _ _ _ _ S1 c1 ra_bl hk'⟩
    · exact hk.elim⟩
theorem ve_or (ha : VE X a ta) (hb : VE X (.BoolOp .Or (b :: rest) pos) tb) : VE X (.BoolOp .Or (a :: b :: rest) pos) (vOrV ta tb) :=
  (pe_or ha hb).imp fun σ H Q ⟨τ, μ, R, hs, hc, h, hq⟩ => ⟨τ, μ, _, hs, hc, h, fun x μ1 v H1 S1 c1 rx hk => by
    split at hk
    · cases RelA.bl rx
      rcases br_e hk with ⟨rfl, hk'⟩ | ⟨rfl, hk'⟩
      · exact ⟨true, rfl, hq _ _ _ _ S1 c1 ra_bl hk'⟩
      · exact ⟨false, rfl, ⟨τ, μ1, R, hs.kp S1, c1, hk', hq.kp S1⟩⟩
    · exact hk.elim⟩
theorem ve_not (ha : VE X a ta) : VE X (.UnaryOp .Not a pos) (vNotV ta) :=
  (pe_not ha).imp fun σ H Q ⟨τ, μ, R, hs, hc, h, hq⟩ => ⟨τ, μ, _, hs, hc, h, fun x μ1 v H1 S1 c1 rx hk => by
    split at hk
    · cases RelA.bl rx
      exact ⟨_, rfl, hq _ _ _ _ S1 c1 ra_bl hk⟩
    · exact hk.elim⟩
def vIf (t : AT) (ta tb : AE) : AE := fun τ μ R => t τ μ fun k μ1 => brP k (ta τ μ1 R) (tb τ μ1 R)
theorem ve_ifExp (hc : VT X c tA) (ha : VE X a ta) (hb : VE X b tb) : VE X (.IfExp c a b pos) (vIf tA ta tb) :=
  (pe_ifExp hc ha hb).imp fun σ H Q ⟨τ, μ, R, hs, hc, h, hq⟩ => ⟨τ, μ, _, hs, hc, h, fun k μ1 H1 S1 c1 hk => by
    rcases br_e hk with ⟨rfl, hk'⟩ | ⟨rfl, hk'⟩
    · exact ⟨τ, μ1, R, hs.kp S1, c1, hk', hq.kp S1⟩
    · exact ⟨τ, μ1, R, hs.kp S1, c1, hk', hq.kp S1⟩⟩
/-! ### argument lists, displays -/
def vNil : AA := fun _ μ R => R [] μ
def vCons (ta : AE) (tr : AA) : AA := fun τ μ R => ta τ μ fun x μ1 => tr τ μ1 fun xs μ2 => R (x :: xs) μ2
theorem va_nil : VA X [] vNil := pa_nil.imp fun σ H Q ⟨τ, μ, R, hs, hc, h, hq⟩ => hq [] μ [] H Kp.refl hc .nil rfl h
theorem va_cons {e : Expr} {es : List Expr} {te : AE} {t : AA} (ha : VE X e te) (hr : VA X es t) (hs : starEach (e :: es) X.env = (false, eval e X.env) :: starEach es X.env := by rfl) : VA X (e :: es) (vCons te t) :=
  (pa_cons ha hr hs).imp fun σ H Q ⟨τ, μ, R, hs, hc, h, hq⟩ => ⟨τ, μ, _, hs, hc, h, fun x μ1 v H1 S1 c1 rx hx => ⟨τ, μ1, _, hs.kp S1, c1, hx, fun xs μ2 vs H2 S2 c2 rs hl hxs =>
    hq (x :: xs) μ2 (v :: vs) H2 (S1.trans S2) c2 (.cons (rx.kp S2) rs) (by rw [List.length_cons, hl]; rfl) hxs⟩⟩
def vTup (t : AA) : AE := fun τ μ R => t τ μ fun xs μ1 => match dats xs with
  | some ds => R (.D (.tuple ds)) μ1
  | none => False
def vLst (t : AA) : AE := fun τ μ R => t τ μ fun xs μ1 => ∀ p, μ1 p = none → R (.R p) (updM μ1 p (.lst xs))
variable {es : List Expr} {t : AA}
theorem ve_tup {k : Nat} (h : VA X es t) (hn : es.length ≤ sizeLine := by decide) : VE X (.Tuple es k pos) (vTup t) :=
  (pe_tup h).imp fun σ H Q ⟨τ, μ, R, hs, hc, h, hq⟩ => ⟨τ, μ, _, hs, hc, h, fun xs μ1 vs H1 S1 c1 rs hl hx => ⟨by rw [← rs.length, hl]; exact hn, fun p hp => by
    split at hx
    · rename_i ds e
      refine hq _ _ _ _ (S1.trans (Kp.new hp _)) (c1.over hp) ?_ hx
      exact dk_tup (SqT.of upd_same) (DkAll.kp (Kp.new hp _) _ _ (rs.dats e))
    · exact hx.elim⟩⟩
theorem ve_lst (h : VA X es t) (hn : es.length ≤ sizeLine := by decide) : VE X (.List es pos) (vLst t) :=
  (pe_lst h).imp fun σ H Q ⟨τ, μ, R, hs, hc, h, hq⟩ => ⟨τ, μ, _, hs, hc, h, fun xs μ1 vs H1 S1 c1 rs hl hx => ⟨by rw [← rs.length, hl]; exact hn, fun p hp =>
    hq _ _ _ _ (S1.trans (Kp.new hp _)) (c1.new hp (rm_lst (rs))) ra_ref (hx p (c1.none hp))⟩⟩
/-! ### what the heap holds -/
mutual
theorem Dk.reads {pins : List (Addr × Obj)} {σ : St} {H : Hp} {s : Shared} (I : Inv X pins σ H s) : ∀ (d : PyData) (x : V) (u : Value), Dk X.K H d x → RelV x u → ∃ as, Reads s.heap u d as
  | .none, x, u, h, r => by cases h.non; cases r; exact ⟨_, .none⟩
  | .bool b, x, u, h, r => by cases h.bl; cases r; exact ⟨_, .bool b⟩
  | .int i, x, u, h, r => by cases h.int; obtain ⟨t, rfl⟩ := r; exact ⟨_, .int i t⟩
  | .str z, x, u, h, r => by cases h.str; obtain ⟨t, rfl⟩ := r; exact ⟨_, .str z t⟩
  | .list ds, x, u, h, r => by
    obtain ⟨a, xs, rfl, q, k⟩ := h.lst
    cases r
    obtain ⟨its, rv, ⟨o, n, e, c, _, d⟩, _⟩ := I.list q.sq
    obtain ⟨as, ra⟩ := DkAll.reads I ds xs its k rv
    exact ⟨_, .list e c d (by simpa using ra)⟩
  | .tuple ds, x, u, h, r => by
    obtain ⟨a, xs, rfl, q, k⟩ := h.tup
    cases r
    obtain ⟨its, rv, ⟨o, e, c, n, d⟩, _⟩ := I.tuple q
    obtain ⟨as, ra⟩ := DkAll.reads I ds xs its k rv
    exact ⟨_, .tuple e c d (by simpa using ra)⟩
  | .dict _, x, u, h, _ => by simp only [Dk] at h
theorem DkAll.reads {pins : List (Addr × Obj)} {σ : St} {H : Hp} {s : Shared} (I : Inv X pins σ H s) : ∀ (ds : List PyData) (xs : List V) (us : List Value), DkAll X.K H ds xs → Vals xs us → ∃ as, ReadsAll s.heap us ds as
  | [], xs, us, h, r => by
    have e := h.nil
    subst e
    cases r
    exact ⟨_, .nil⟩
  | d :: ds, xs, us, h, r => by
    obtain ⟨x, xr, rfl, h1, h2⟩ := h.cons
    cases r with
    | cons r1 r2 =>
      obtain ⟨as, ra⟩ := Dk.reads I d x _ h1 r1
      obtain ⟨bs, rb⟩ := DkAll.reads I ds xr _ h2 r2
      exact ⟨_, .cons ra rb⟩
end
/-- a value as data: lists as they stand -/
def see (μ : M) : AV → Option PyData
  | .D d => some d
  | .R a => match μ a with
    | some (.lst xs) => match dats xs with
      | some ds => some (.list ds)
      | none => none
    | _ => none
@[simp] theorem see_D {μ : M} {d : PyData} : see μ (.D d) = some d := rfl
theorem see_reads {pins : List (Addr × Obj)} {σ : St} {H : Hp} {s : Shared} {μ : M} {x : AV} {v : V} {u : Value} {d : PyData} (I : Inv X pins σ H s) (hc : Cn X.K μ H) (rx : RelA X.K H x v) (r : RelV v u) (e : see μ x = some d) : ∃ as, Reads s.heap u d as := by
  cases x with
  | D d' => cases e; exact Dk.reads I _ _ _ rx r
  | R a =>
    dsimp only [see] at e
    split at e
    · rename_i xs ex
      split at e
      · rename_i ds ed
        cases e
        cases (show v = .ref a from rx)
        cases r
        obtain ⟨o, ho, vs, rfl, rs⟩ := hc a _ ex
        obtain ⟨its, rv, ⟨o, n, e, c, _, dd⟩, _⟩ := I.list (SqL.of ho)
        obtain ⟨as, ra⟩ := DkAll.reads I ds vs its (rs.dats ed) rv
        exact ⟨_, .list e c dd (by simpa using ra)⟩
      · cases e
    · cases e
/-- data that may be held against other data -/
def EqOk (d : PyData) : Prop := d.canLay0 = true ∧ d.depth ≤ 64
def aEq : A2 := fun x y μ R => match x, y with
  | .D d, .D e => EqOk d ∧ EqOk e ∧ R (.D (.bool (PyData.eqv d e))) μ
  | x, y => opt (see μ x) fun d => opt (see μ y) fun e => EqOk d ∧ EqOk e ∧ R (.D (.bool (PyData.eqv d e))) μ
theorem aEq_opt {x y : AV} {μ : M} {R : AV → M → Prop} (h : aEq x y μ R) : ∃ d e, see μ x = some d ∧ see μ y = some e ∧ EqOk d ∧ EqOk e ∧ R (.D (.bool (PyData.eqv d e))) μ := by
  unfold aEq at h
  split at h
  · exact ⟨_, _, rfl, rfl, h⟩
  · obtain ⟨d, ed, h⟩ := opt_e h
    obtain ⟨e, ee, h⟩ := opt_e h
    exact ⟨d, e, ed, ee, h⟩
def aNe : A2 := fun x y μ R => match x, y with
  | .D d, .D e => EqOk d ∧ EqOk e ∧ R (.D (.bool (!PyData.eqv d e))) μ
  | x, y => opt (see μ x) fun d => opt (see μ y) fun e => EqOk d ∧ EqOk e ∧ R (.D (.bool (!PyData.eqv d e))) μ
theorem aNe_opt {x y : AV} {μ : M} {R : AV → M → Prop} (h : aNe x y μ R) : ∃ d e, see μ x = some d ∧ see μ y = some e ∧ EqOk d ∧ EqOk e ∧ R (.D (.bool (!PyData.eqv d e))) μ := by
  unfold aNe at h
  split at h
  · exact ⟨_, _, rfl, rfl, h⟩
  · obtain ⟨d, ed, h⟩ := opt_e h
    obtain ⟨e, ee, h⟩ := opt_e h
    exact ⟨d, e, ed, ee, h⟩
variable {k : Nat}
theorem o_eq (hr : Room k X.A) : VOp X (compareOp .Eq) aEq := by
  intro pins s σ H x y v u Q I rx ry ⟨a, b, μ, R, ra, rb, hc, h, hq⟩
  obtain ⟨d, e, ed, ee, h⟩ := aEq_opt h
  · obtain ⟨as, r1⟩ := see_reads I hc ra rx ed
    obtain ⟨bs, r2⟩ := see_reads I hc rb ry ee
    have hu := hr.un
    have := h.1.2
    exact SeqAt.compareEq_reads r1 r2 h.1.1 h.2.1.1 (by omega) ⟨.bl _, H, I, rfl, hq _ _ _ _ Kp.refl hc ra_bl h.2.2⟩
theorem o_ne (hr : Room k X.A) : VOp X (compareOp .NotEq) aNe := by
  intro pins s σ H x y v u Q I rx ry ⟨a, b, μ, R, ra, rb, hc, h, hq⟩
  obtain ⟨d, e, ed, ee, h⟩ := aNe_opt h
  · obtain ⟨as, r1⟩ := see_reads I hc ra rx ed
    obtain ⟨bs, r2⟩ := see_reads I hc rb ry ee
    have hu := hr.un
    have := h.1.2
    exact SeqAt.compareNe_reads r1 r2 h.1.1 h.2.1.1 (by omega) ⟨.bl _, H, I, rfl, hq _ _ _ _ Kp.refl hc ra_bl h.2.2⟩
def keyOf : PyData → Option Key
  | .int i => some (.inl i)
  | .str z => some (.inr z)
  | _ => none
/-- the items of a sequence -/
def items (μ : M) : AV → Option (List AV)
  | .D (.tuple ds) => some (ds.map .D)
  | .D (.list ds) => some (ds.map .D)
  | .R a => match μ a with
    | some (.lst xs) => some xs
    | _ => none
  | _ => none
theorem items_seq {H : Hp} {μ : M} {x : AV} {v : V} {xs : List AV} (hc : Cn X.K μ H) (rx : RelA X.K H x v) (e : items μ x = some xs) : ∃ p vs, v = .ref p ∧ (SqL X.K H p vs ∨ SqT X.K H p vs) ∧ RelAs X.K H xs vs := by
  unfold items at e
  split at e
  · cases e; obtain ⟨a, vs, rfl, q, r⟩ := RelA.tup rx; exact ⟨a, vs, rfl, .inr q, r.rel⟩
  · cases e; obtain ⟨a, vs, rfl, q, r⟩ := RelA.lst rx; exact ⟨a, vs, rfl, .inl q.sq, r.rel⟩
  · split at e
    · rename_i ys ey
      cases e
      obtain ⟨o, ho, vs, rfl, rs⟩ := hc _ _ ey
      exact ⟨_, vs, rx, .inl (SqL.of ho), rs⟩
    · cases e
  · cases e
def isT : AV → Bool
  | .D (.tuple _) => true
  | _ => false
theorem items_kind {H : Hp} {μ : M} {x : AV} {v : V} {xs : List AV} (hc : Cn X.K μ H) (rx : RelA X.K H x v) (e : items μ x = some xs) : ∃ p vs, v = .ref p ∧ ((isT x = false ∧ SqL X.K H p vs) ∨ (isT x = true ∧ SqT X.K H p vs)) ∧ RelAs X.K H xs vs := by
  unfold items at e
  split at e
  · cases e; obtain ⟨a, vs, rfl, q, r⟩ := RelA.tup rx; exact ⟨a, vs, rfl, .inr ⟨rfl, q⟩, r.rel⟩
  · cases e; obtain ⟨a, vs, rfl, q, r⟩ := RelA.lst rx; exact ⟨a, vs, rfl, .inl ⟨rfl, q.sq⟩, r.rel⟩
  · split at e
    · rename_i ys ey
      cases e
      obtain ⟨o, ho, vs, rfl, rs⟩ := hc _ _ ey
      exact ⟨_, vs, rx, .inl ⟨rfl, SqL.of ho⟩, rs⟩
    · cases e
  · cases e
def aIn (nb : Bool → Bool) : A2 := fun x y μ R => match y with
  | .D (.str j) => match x with
    | .D (.str i) => R (.D (.bool (nb (!(Builtin.Str.occurrences j i 0 j.length 1).isEmpty)))) μ
    | _ => False
  | .D (.tuple ds) => opt (see μ x) fun d => EqOk d ∧ EqOk (.tuple ds) ∧ R (.D (.bool (nb (ds.any fun e => PyData.eqv e d)))) μ
  | y => opt (see μ x) fun d => opt (items μ y) fun ys => opt (dats ys) fun ds => EqOk d ∧ EqOk (.tuple ds) ∧ R (.D (.bool (nb (ds.any fun e => PyData.eqv e d)))) μ
theorem aIn_opt {nb : Bool → Bool} {x y : AV} {μ : M} {R : AV → M → Prop} (h : aIn nb x y μ R) (hn : ∀ z, y ≠ .D (.str z)) : ∃ d ys ds, see μ x = some d ∧ items μ y = some ys ∧ dats ys = some ds ∧ EqOk d ∧ EqOk (.tuple ds) ∧ R (.D (.bool (nb (ds.any fun e => PyData.eqv e d)))) μ := by
  unfold aIn at h
  split at h
  · exact absurd rfl (hn _)
  · obtain ⟨d, ed, h⟩ := opt_e h
    exact ⟨d, _, _, ed, rfl, dats_map _, h⟩
  · obtain ⟨d, ed, h⟩ := opt_e h
    obtain ⟨ys, ey, h⟩ := opt_e h
    obtain ⟨ds, eds, h⟩ := opt_e h
    exact ⟨d, ys, ds, ed, ey, eds, h⟩
theorem eqOk_all {ds : List PyData} (h : EqOk (.tuple ds)) : PyData.canLayAll0 ds = true ∧ PyData.depthAll ds ≤ 64 := by
  obtain ⟨h1, h2⟩ := h
  simp only [PyData.canLay0] at h1
  simp only [PyData.depth] at h2
  exact ⟨h1, by omega⟩
theorem o_in (hr : Room k X.A) : VOp X (compareOp .In) (aIn fun b => b) := by
  intro pins s σ H x y v u Q I rx ry ⟨a, b, μ, R, ra, rb, hc, h, hq⟩
  by_cases hb : ∃ z, b = .D (.str z)
  · obtain ⟨z, rfl⟩ := hb
    unfold aIn at h
    dsimp only at h
    split at h
    · cases RelA.str ra; cases RelA.str rb
      exact op_in_str pins s σ H _ _ v u Q I rx ry ⟨_, _, rfl, rfl, hq _ _ _ _ Kp.refl hc ra_bl h⟩
    · exact h.elim
  · obtain ⟨d, ys, ds, ed, ey, eds, h⟩ := aIn_opt h fun z e => hb ⟨z, e⟩
    · skip
      obtain ⟨ok1, ok2, h⟩ := h
      obtain ⟨as, r1⟩ := see_reads I hc ra rx ed
      obtain ⟨p, vs, rfl, hp, rs⟩ := items_seq hc rb ey
      cases ry
      obtain ⟨c1, c2⟩ := eqOk_all ok2
      have hs := rs.dats eds
      have hu := hr.un
      have q := hq _ _ _ _ Kp.refl hc ra_bl h
      rcases hp with hp | hp
      · obtain ⟨its, r, pl, hz⟩ := I.list hp
        obtain ⟨bs, rb⟩ := DkAll.reads I ds vs its hs r
        have e := fun A => items_eqR (A := A) r1 ok1.1
        refine SeqAt.in_listAt (eqR s.heap d) pl.isList (fun w hw => (e _ (by first | (show X.A.units + 64 < _; omega) | (show X.A.units + 1 + 64 < _; omega) | (show X.A.units + 1 + 1 + 64 < _; omega)) rb c1 c2).1 w (by simpa using hw)) ⟨.bl _, H, I, rfl, ?_⟩
        rw [show its.toArray.any (eqR s.heap d) = its.any (eqR s.heap d) by simp, (e X.A (by omega) rb c1 c2).2]
        exact q
      · obtain ⟨its, r, pl, hz⟩ := I.tuple hp
        obtain ⟨bs, rb⟩ := DkAll.reads I ds vs its hs r
        have e := fun A => items_eqR (A := A) r1 ok1.1
        refine SeqAt.in_tupleAt (eqR s.heap d) pl (fun w hw => (e _ (by first | (show X.A.units + 64 < _; omega) | (show X.A.units + 1 + 64 < _; omega) | (show X.A.units + 1 + 1 + 64 < _; omega)) rb c1 c2).1 w (by simpa using hw)) ⟨.bl _, H, I, rfl, ?_⟩
        rw [show its.toArray.any (eqR s.heap d) = its.any (eqR s.heap d) by simp, (e X.A (by omega) rb c1 c2).2]
        exact q
theorem o_notIn (hr : Room k X.A) : VOp X (compareOp .NotIn) (aIn fun b => !b) := by
  intro pins s σ H x y v u Q I rx ry ⟨a, b, μ, R, ra, rb, hc, h, hq⟩
  by_cases hb : ∃ z, b = .D (.str z)
  · obtain ⟨z, rfl⟩ := hb
    unfold aIn at h
    dsimp only at h
    split at h
    · cases RelA.str ra; cases RelA.str rb
      exact op_notIn_str pins s σ H _ _ v u Q I rx ry ⟨_, _, rfl, rfl, hq _ _ _ _ Kp.refl hc ra_bl h⟩
    · exact h.elim
  · obtain ⟨d, ys, ds, ed, ey, eds, h⟩ := aIn_opt h fun z e => hb ⟨z, e⟩
    · skip
      obtain ⟨ok1, ok2, h⟩ := h
      obtain ⟨as, r1⟩ := see_reads I hc ra rx ed
      obtain ⟨p, vs, rfl, hp, rs⟩ := items_seq hc rb ey
      cases ry
      obtain ⟨c1, c2⟩ := eqOk_all ok2
      have hs := rs.dats eds
      have hu := hr.un
      have q := hq _ _ _ _ Kp.refl hc ra_bl h
      rcases hp with hp | hp
      · obtain ⟨its, r, pl, hz⟩ := I.list hp
        obtain ⟨bs, rb⟩ := DkAll.reads I ds vs its hs r
        have e := fun A => items_eqR (A := A) r1 ok1.1
        refine SeqAt.notIn_listAt (eqR s.heap d) pl.isList (fun w hw => (e _ (by first | (show X.A.units + 64 < _; omega) | (show X.A.units + 1 + 64 < _; omega) | (show X.A.units + 1 + 1 + 64 < _; omega)) rb c1 c2).1 w (by simpa using hw)) ⟨.bl _, H, I, rfl, ?_⟩
        rw [show its.toArray.any (eqR s.heap d) = its.any (eqR s.heap d) by simp, (e X.A (by omega) rb c1 c2).2]
        exact q
      · obtain ⟨its, r, pl, hz⟩ := I.tuple hp
        obtain ⟨bs, rb⟩ := DkAll.reads I ds vs its hs r
        have e := fun A => items_eqR (A := A) r1 ok1.1
        refine SeqAt.notIn_tupleAt (eqR s.heap d) pl (fun w hw => (e _ (by first | (show X.A.units + 64 < _; omega) | (show X.A.units + 1 + 64 < _; omega) | (show X.A.units + 1 + 1 + 64 < _; omega)) rb c1 c2).1 w (by simpa using hw)) ⟨.bl _, H, I, rfl, ?_⟩
        rw [show its.toArray.any (eqR s.heap d) = its.any (eqR s.heap d) by simp, (e X.A (by omega) rb c1 c2).2]
        exact q
def aIsN : A2 := fun x y μ R => match x, y with
  | .D .none, .D .none => R (.D (.bool true)) μ
  | _, .D .none => R (.D (.bool false)) μ
  | _, _ => False
def aNotN : A2 := fun x y μ R => match x, y with
  | .D .none, .D .none => R (.D (.bool false)) μ
  | _, .D .none => R (.D (.bool true)) μ
  | _, _ => False
theorem relA_non {K : PySem.W.Frag} {H : Hp} {x : AV} (h : RelA K H x .non) : x = .D .none := by
  cases x with
  | R a => cases (show V.non = .ref a from h)
  | D d =>
    cases d with
    | none => rfl
    | bool b => cases RelA.bl h
    | int b => cases RelA.int h
    | str b => cases RelA.str h
    | list b => obtain ⟨_, _, e, _⟩ := RelA.lst h; cases e
    | tuple b => obtain ⟨_, _, e, _⟩ := RelA.tup h; cases e
    | dict b => exact absurd h (by simp only [RelA, Dk]; exact id)
theorem o_isN : VOp X (compareOp .Is) aIsN := by
  intro pins s σ H x y v u Q I rx ry ⟨a, b, μ, R, ra, rb, hc, h, hq⟩
  unfold aIsN at h
  split at h
  · cases RelA.non ra; cases RelA.non rb
    exact op_isN pins s σ H _ _ v u Q I rx ry ⟨rfl, hq _ _ _ _ Kp.refl hc ra_bl h⟩
  · rename_i ne
    cases RelA.non rb
    refine op_isN pins s σ H _ _ v u Q I rx ry ⟨rfl, hq _ _ _ _ Kp.refl hc ?_ h⟩
    have : x ≠ .non := by intro e; subst e; exact ne (relA_non ra)
    rw [decide_eq_false this]; exact ra_bl
  · exact h.elim
theorem o_notN : VOp X (compareOp .IsNot) aNotN := by
  intro pins s σ H x y v u Q I rx ry ⟨a, b, μ, R, ra, rb, hc, h, hq⟩
  unfold aNotN at h
  split at h
  · cases RelA.non ra; cases RelA.non rb
    exact op_notN pins s σ H _ _ v u Q I rx ry ⟨rfl, hq _ _ _ _ Kp.refl hc ra_bl h⟩
  · rename_i ne
    cases RelA.non rb
    refine op_notN pins s σ H _ _ v u Q I rx ry ⟨rfl, hq _ _ _ _ Kp.refl hc ?_ h⟩
    have : x ≠ .non := by intro e; subst e; exact ne (relA_non ra)
    rw [decide_eq_false this]; exact ra_bl
  · exact h.elim
/-! ### numbers -/
def aI (C : Int → Int → Prop) (g : Int → Int → PyData) : A2 := fun x y μ R => match x, y with
  | .D (.int i), .D (.int j) => C i j ∧ R (.D (g i j)) μ
  | _, _ => False
def aI0 (g : Int → Int → PyData) : A2 := fun x y μ R => match x, y with
  | .D (.int i), .D (.int j) => R (.D (g i j)) μ
  | _, _ => False
theorem o_I {f : Value → Value → Sem Value} {C : Int → Int → Prop} {g : Int → Int → V} {g' : Int → Int → PyData} (h : OpR X f (rI C g)) (hg : ∀ i j H, Dk X.K H (g' i j) (g i j)) : VOp X f (aI C g') := by
  intro pins s σ H x y v u Q I rx ry ⟨a, b, μ, R, ra, rb, hc, h', hq⟩
  unfold aI at h'
  split at h'
  · cases RelA.int ra; cases RelA.int rb
    exact h pins s σ H _ _ v u Q I rx ry ⟨_, _, rfl, rfl, h'.1, hq _ _ _ _ Kp.refl hc (ra_D (hg _ _ _)) h'.2⟩
  · exact h'.elim
theorem o_I0 {f : Value → Value → Sem Value} {g : Int → Int → V} {g' : Int → Int → PyData} (h : OpR X f (rI0 g)) (hg : ∀ i j H, Dk X.K H (g' i j) (g i j)) : VOp X f (aI0 g') := by
  intro pins s σ H x y v u Q I rx ry ⟨a, b, μ, R, ra, rb, hc, h', hq⟩
  unfold aI0 at h'
  split at h'
  · cases RelA.int ra; cases RelA.int rb
    exact h pins s σ H _ _ v u Q I rx ry ⟨_, _, rfl, rfl, hq _ _ _ _ Kp.refl hc (ra_D (hg _ _ _)) h'⟩
  · exact h'.elim
abbrev aSub : A2 := aI0 fun i j => .int (i - j)
abbrev aFdiv : A2 := aI CDiv fun i j => .int (i / j)
abbrev aMod : A2 := aI (fun _ j => 0 < j) fun i j => .int (i % j)
abbrev aPow : A2 := aI CPow fun i j => .int (i ^ j.toNat)
abbrev aLt : A2 := aI0 fun i j => .bool (decide (i < j))
abbrev aLe : A2 := aI0 fun i j => .bool (decide (i ≤ j))
abbrev aGt : A2 := aI0 fun i j => .bool (decide (j < i))
abbrev aGe : A2 := aI0 fun i j => .bool (decide (j ≤ i))
theorem o_sub : VOp X (binaryOp .Sub) aSub := o_I0 op_sub fun _ _ _ => dk_int
theorem o_fdiv : VOp X (binaryOp .FloorDiv) aFdiv := o_I op_fdiv fun _ _ _ => dk_int
theorem o_mod : VOp X (binaryOp .Mod) aMod := o_I op_mod fun _ _ _ => dk_int
theorem o_pow : VOp X (binaryOp .Pow) aPow := o_I op_pow fun _ _ _ => dk_int
theorem o_lt : VOp X (compareOp .Lt) aLt := o_I0 op_lt fun _ _ _ => dk_bl
theorem o_le : VOp X (compareOp .LtE) aLe := o_I0 op_le fun _ _ _ => dk_bl
theorem o_gt : VOp X (compareOp .Gt) aGt := o_I0 op_gt fun _ _ _ => dk_bl
theorem o_ge : VOp X (compareOp .GtE) aGe := o_I0 op_ge fun _ _ _ => dk_bl
def aMul : A2 := fun x y μ R => match x, y with
  | .D (.int i), .D (.int j) => CMul i j ∧ R (.D (.int (i * j))) μ
  | .D (.str z), .D (.int n) => (n = 0 ∨ n = 1) ∧ R (.D (.str (if n = 0 then Str.empty else z))) μ
  | _, _ => False
theorem o_mul : VOp X (binaryOp .Mult) aMul := by
  intro pins s σ H x y v u Q I rx ry ⟨a, b, μ, R, ra, rb, hc, h, hq⟩
  unfold aMul at h
  split at h
  · cases RelA.int ra; cases RelA.int rb
    exact op_mul pins s σ H _ _ v u Q I rx ry ⟨_, _, rfl, rfl, h.1, hq _ _ _ _ Kp.refl hc ra_int h.2⟩
  · cases RelA.str ra; cases RelA.int rb
    exact op_mul_str01 pins s σ H _ _ v u Q I rx ry ⟨_, _, rfl, rfl, h.1, hq _ _ _ _ Kp.refl hc ra_str h.2⟩
  · exact h.elim
def aAdd : A2 := fun x y μ R => match x, y with
  | .D (.int i), .D (.int j) => R (.D (.int (i + j))) μ
  | .D (.str i), .D (.str j) => i.length + j.length ≤ sizeLine ∧ R (.D (.str (i ++ j))) μ
  | .D (.tuple i), .D (.tuple j) => i.length + j.length ≤ sizeLine ∧ R (.D (.tuple (i ++ j))) μ
  | .R i, .R j => opt (μ i) fun m => opt (μ j) fun n => match m, n with
    | .lst xs, .lst ys => xs.length + ys.length ≤ sizeLine ∧ ∀ p, μ p = none → R (.R p) (updM μ p (.lst (xs ++ ys)))
    | _, _ => False
  | _, _ => False
theorem catK {K : PySem.W.Frag} {pins : List (Addr × Obj)} {σ : St} {H : Hp} {s : Shared} {v u : Value} {x y : V} {ds es : List PyData} {Q : VK} (hK : X.K = K) (I : Inv X pins σ H s) (rx : RelV x v) (ry : RelV y u) (hx : Dk K H (.tuple ds) x) (hy : Dk K H (.tuple es) y)
    (hz : ds.length + es.length ≤ sizeLine) (q : ∀ z H', Kp H H' → (∀ μ, Cn K μ H → Cn K μ H') → Dk K H' (.tuple (ds ++ es)) z → Q z H') : wpAny (model X.prog X.w) X.A (binaryOp .Add v u) (EP X pins σ Q) X.xe s := by
  subst hK
  obtain ⟨a, xs, rfl, ha, hxs⟩ := hx.tup
  obtain ⟨b, ys, rfl, hb, hys⟩ := hy.tup
  cases rx
  cases ry
  obtain ⟨its, r1, p1, _⟩ := I.tuple ha
  obtain ⟨its2, r2, p2, _⟩ := I.tuple hb
  have l1 := hxs.length
  have l2 := hys.length
  by_cases hv : xs = []
  · subst hv
    have e : its = [] := r1.nil_iff.mpr rfl
    subst e
    have ed : ds = [] := List.length_eq_zero_iff.mp l1.symm
    subst ed
    obtain ⟨⟨cls, dd, data, sl⟩, ho, hc, n, hd⟩ := id p1
    obtain ⟨⟨cls2, dd2, data2, sl2⟩, ho2, hc2, n2, hd2⟩ := id p2
    simp only at hc hd hc2 hd2
    subst hc hd hc2 hd2
    exact concat_meets ⟨_, ho, rfl⟩ ⟨_, ho2, rfl⟩ noFill_tuple_add seq_tuple_add PySem.F.slot_tuple_add PySem.F.entry_tuple_add (PySem.F.args_tuple_add_2 _ _)
      (tuple_addW0 a b [].toArray its2.toArray n n2 dd dd2 sl sl2 rfl) ⟨ho, ho2, .ref b, H, I, rfl, q _ _ Kp.refl (fun _ c => c) (by simpa using hy)⟩
  · refine HT.cat_tup p1 p2 (fun z => hv (r1.nil_iff.mp z)) (fun z => ⟨.ref a, H, I, rfl, q _ _ Kp.refl (fun _ c => c) ?_⟩) (fun z => ?_) (by rw [← r1.length, ← r2.length, l1, l2]; exact hz)
    · have e : ys = [] := r2.nil_iff.mp z
      subst e
      have ed : es = [] := List.length_eq_zero_iff.mp l2.symm
      subst ed
      simpa using hx
    · have hf := I.hok.fresh (Nat.le_refl s.heap.objs.size)
      refine ⟨.ref s.heap.objs.size, _, I.laid (t' := s.toks) (o := .tup (xs ++ ys)) (fun b ob q => Heap.get?_push_of_some _ q) (Nat.le_refl _) ?_, rfl, q _ _ (Kp.new hf _) (fun _ c => c.over hf) ?_⟩
      · exact ⟨by rw [List.length_append, l1, l2]; exact hz, _, r1.append r2, IsTup.new _ _⟩
      · exact dk_tup (SqT.of upd_same) (DkAll.kp (Kp.new hf _) _ _ (hxs.append hys))
theorem o_add : VOp X (binaryOp .Add) aAdd := by
  intro pins s σ H x y v u Q I rx ry ⟨a, b, μ, R, ra, rb, hc, h, hq⟩
  unfold aAdd at h
  split at h
  · cases RelA.int ra; cases RelA.int rb
    exact op_add pins s σ H _ _ v u Q I rx ry ⟨_, _, rfl, rfl, hq _ _ _ _ Kp.refl hc ra_int h⟩
  · cases RelA.str ra; cases RelA.str rb
    exact op_add_str pins s σ H _ _ v u Q I rx ry ⟨_, _, rfl, rfl, h.1, hq _ _ _ _ Kp.refl hc ra_str h.2⟩
  · exact catK rfl I rx ry ra rb h.1 fun z H' S c hd => hq _ _ _ _ S (c _ hc) (ra_D hd) h.2
  · rename_i i j
    obtain ⟨m, ei, h⟩ := opt_e h
    obtain ⟨n, ej, h⟩ := opt_e h
    split at h
    · rename_i xs ys
      cases (show x = .ref i from ra); cases (show y = .ref j from rb)
      obtain ⟨o, ho, vs, rfl, rs⟩ := hc i _ ei
      obtain ⟨o', ho', ws, rfl, rs'⟩ := hc j _ ej
      exact op_cat pins s σ H _ _ v u Q I rx ry ⟨i, j, vs, ws, rfl, rfl, ho, ho', by rw [← rs.length, ← rs'.length]; exact h.1, fun p hp => hq _ _ _ _ (Kp.new hp _) (hc.new hp (rm_lst (rs.append rs'))) ra_ref (h.2 p (hc.none hp))⟩
    · exact h.elim
  · exact h.elim
end
end L2

namespace L2
open PySem PySem.Spec PyProof.Rows
section
variable {X : Cx} {a b c : Expr} {ta tb tc : AE} {pos : Pos}
/-! ### subscripts -/
def aIx : A2 := fun x y μ R => match x, y with
  | .D (.str z), .D (.int i) => z.length ≤ sizeLine ∧ opt (atI z.cps.toList i) fun c => R (.D (.str ⟨#[c]⟩)) μ
  | .D (.tuple ds), .D (.int i) => opt (atI ds i) fun d => R (.D d) μ
  | .D (.list ds), .D (.int i) => opt (atI ds i) fun d => R (.D d) μ
  | .R a, .D (.int i) => opt (μ a) fun m => match m with
    | .lst xs => opt (atI xs i) fun w => R w μ
    | _ => False
  | _, _ => False
theorem i_ix : VIx X aIx := by
  intro value slice pins s σ H x y v u Q I rx ry ⟨a, b, μ, R, ra, rb, hc, h, hq⟩ hs
  unfold aIx at h
  split at h
  · cases RelA.str ra; cases RelA.int rb
    obtain ⟨h1, h⟩ := h
    obtain ⟨c, e, h⟩ := opt_e h
    exact ix_str value slice pins s σ H _ _ v u Q I rx ry ⟨_, _, _, rfl, rfl, h1, e, hq _ _ _ _ Kp.refl hc ra_str h⟩ hs
  · cases RelA.int rb
    obtain ⟨d, ed, h⟩ := opt_e h
    obtain ⟨p, vs, rfl, hp, rs⟩ := RelA.tup ra
    obtain ⟨z, ez, rz⟩ := rs.atI ed
    exact ix_tup value slice pins s σ H _ _ v u Q I rx ry ⟨_, _, _, _, rfl, rfl, hp, ez, hq _ _ _ _ Kp.refl hc (ra_D rz) h⟩ hs
  · cases RelA.int rb
    obtain ⟨d, ed, h⟩ := opt_e h
    obtain ⟨p, vs, rfl, hp, rs⟩ := RelA.lst ra
    obtain ⟨z, ez, rz⟩ := rs.atI ed
    exact ix_list value slice pins s σ H _ _ v u Q I rx ry ⟨_, _, _, _, rfl, rfl, hp.sq, ez, hq _ _ _ _ Kp.refl hc (ra_D rz) h⟩ hs
  · cases RelA.int rb
    obtain ⟨m, em, h⟩ := opt_e h
    split at h
    · obtain ⟨w, ew, h⟩ := opt_e h
      obtain ⟨o, ho, vs, rfl, rs⟩ := hc _ _ em
      cases (show x = .ref _ from ra)
      obtain ⟨z, ez, rz⟩ := rs.atI ew
      exact ix_list value slice pins s σ H _ _ v u Q I rx ry ⟨_, _, _, _, rfl, rfl, SqL.of ho, ez, hq _ _ _ _ Kp.refl hc rz h⟩ hs
    · exact h.elim
  · exact h.elim
theorem ve_ix {r : A2} (hr : VIx X r) (ha : VE X a ta) (hb : VE X b tb) (hs : PlainIx b := by intro _ _; rfl) : VE X (.Subscript a b pos) (vOp r ta tb) := (pe_ix hr ha hb hs).imp fun _ _ _ h => vOp_imp h
def vNoPart : AO := fun _ μ R => R none μ
def vPart (t : AE) : AO := fun τ μ R => t τ μ fun x μ1 => match x with
  | .D (.int i) => R (some i) μ1
  | _ => False
theorem vo_none : VO X none vNoPart := po_none.imp fun σ H Q ⟨τ, μ, R, hs, hc, h, hq⟩ => hq _ _ _ Kp.refl hc h
theorem vo_some (h : VE X a ta) : VO X (some a) (vPart ta) := (po_some h).imp fun σ H Q ⟨τ, μ, R, hs, hc, h, hq⟩ => ⟨τ, μ, _, hs, hc, h, fun x μ1 v H1 S1 c1 rx hx => by
  split at hx
  · cases RelA.int rx
    exact ⟨_, rfl, hq _ _ _ S1 c1 hx⟩
  · exact hx.elim⟩
def aSl (x : AV) (lo hi : Option Int) : M → (AV → M → Prop) → Prop := fun μ R => match x with
  | .D (.str z) => z.length ≤ sizeLine ∧ R (.D (.str (Txt.slice z lo hi))) μ
  | .D (.tuple ds) => R (.D (.tuple (cutD ds lo hi))) μ
  | x => opt (items μ x) fun xs => ∀ p, μ p = none → R (.R p) (updM μ p (.lst (cutA xs lo hi)))
def cSl (K : PySem.W.Frag) : V → Option Int → Option Int → Hp → VK → Prop := fun x lo hi H Q => ∃ a μ R, RelA K H a x ∧ Cn K μ H ∧ aSl a lo hi μ R ∧ LV K H R Q
theorem s_sl : SlR X (cSl X.K) := by
  intro pins s σ H x v vl vu lo hi sl Q I rx hs pl pu ⟨a, μ, R, ra, hc, h, hq⟩
  unfold aSl at h
  split at h
  · cases RelA.str ra
    exact sl_str pins s σ H _ v vl vu lo hi sl Q I rx hs pl pu ⟨_, rfl, h.1, hq _ _ _ _ Kp.refl hc ra_str h.2⟩
  · rename_i ds
    by_cases hw : HT.sIx ds.length 0 lo = 0 ∧ HT.sIx ds.length ds.length hi = ds.length
    · obtain ⟨a, xs, rfl, ha, hx⟩ := RelA.tup ra
      cases rx
      obtain ⟨its, r, ht, hz⟩ := I.tuple ha
      have hlen : its.toArray.size = ds.length := by rw [List.size_toArray, ← r.length, hx.length]
      refine ⟨"tuple", _, PyProof.Rows.slot_tuple_getitem.lookup, ht.typeIs, ?_⟩
      refine HT.getItem_tuple_all ht hs pl pu (by rw [hlen]; exact hw) ⟨.ref a, H, I, rfl, hq _ _ _ _ Kp.refl hc ?_ h⟩
      rw [cutD_all hw]
      exact ra
    · obtain ⟨a, xs, rfl, ha, hx⟩ := RelA.tup ra
      refine sl_tup pins s σ H (.ref a) v vl vu lo hi sl Q I rx hs pl pu ⟨a, xs, rfl, ha, by rw [hx.length]; exact hw, fun p hp => ?_⟩
      exact hq _ _ _ _ (Kp.new hp _) (hc.over hp) (ra_tup (SqT.of upd_same) (DkAll.kp (Kp.new hp _) _ _ (hx.cut lo hi))) h
  · rename_i n1 n2
    obtain ⟨xs, ex, h⟩ := opt_e h
    · obtain ⟨p, vs, rfl, hp, rs⟩ := items_kind hc ra ex
      rcases hp with ⟨_, hp⟩ | ⟨ht, hp⟩
      · exact sl_list pins s σ H _ v vl vu lo hi sl Q I rx hs pl pu ⟨_, _, rfl, hp, fun p hp => hq _ _ _ _ (Kp.new hp _) (hc.new hp (rm_lst (rs.cut lo hi))) ra_ref (h p (hc.none hp))⟩
      · exfalso
        unfold isT at ht
        split at ht
        · exact n2 _ rfl
        · cases ht
def vSl (te : AE) (tl th : AO) : AE := fun τ μ R => te τ μ fun x μ1 => tl τ μ1 fun l μ2 => th τ μ2 fun u μ3 => aSl x l u μ3 R
theorem ve_slice {lo hi : Option Expr} {tl th : AO} {p2 : Pos} (he : VE X a ta) (hl : VO X lo tl) (hu : VO X hi th) : VE X (.Subscript a (.Slice lo hi none p2) pos) (vSl ta tl th) :=
  (pe_slice s_sl he hl hu).imp fun σ H Q ⟨τ, μ, R, hs, hc, h, hq⟩ => ⟨τ, μ, _, hs, hc, h, fun x μ1 v H1 S1 c1 rx hx => ⟨τ, μ1, _, hs.kp S1, c1, hx, fun l μ2 H2 S2 c2 hl => ⟨τ, μ2, _, hs.kp (S1.trans S2), c2, hl, fun u μ3 H3 S3 c3 hu =>
    ⟨x, μ3, R, rx.kp (S2.trans S3), c3, hu, hq.kp (S1.trans (S2.trans S3))⟩⟩⟩⟩
/-! ### calls of built-ins -/
variable {x : Str} {p : Pos} {e : Expr} {es : List Expr} {t : AA} {fid T : String} {r : AC}
def vCB (r : AC) (t : AA) : AE := fun τ μ R => t τ μ fun xs μ1 => r xs μ1 R
theorem vCB_imp {K : PySem.W.Frag} {n : Nat} {r : AC} {t : AA} {σ : St} {H : Hp} {Q : VK} (h : cE K (vCB r t) σ H Q) : tCB (cC K r) (cA K n t) σ H Q := by
  obtain ⟨τ, μ, R, hs, hc, h, hq⟩ := h
  exact ⟨τ, μ, _, hs, hc, h, fun xs μ1 vs H1 S1 c1 rs hl hx => ⟨xs, μ1, R, rs, c1, hx, hq.kp S1⟩⟩
theorem ve_callB (hc : VCall X (.builtin fid) r) (hg : Gl X x) (hm : X.mg x = none) (hv : bootBuiltins x = some (.builtin fid)) (ha : VA X (e :: es) t) (hn : x ≠ "__name__" := by decide) (hd : (x == ("__debug__" : Str)) = false := by decide)
    (hst : starEach (e :: es) X.env = (false, eval e X.env) :: starEach es X.env := by rfl) (hpl : (backTo pos (starEach es X.env)).any (·.1) = false := by rfl) : VE X (.Call (.Name x p) (e :: es) [] pos) (vCB r t) :=
  (pe_callB hc hg hm hv ha hn hd hst hpl).imp fun _ _ _ h => vCB_imp h
theorem ve_callTy (hc : VCall X (.type T) r) (hg : Gl X x) (hm : X.mg x = none) (hv : bootBuiltins x = some (.type T)) (ha : VA X (e :: es) t) (hn : x ≠ "__name__" := by decide) (hd : (x == ("__debug__" : Str)) = false := by decide)
    (hst : starEach (e :: es) X.env = (false, eval e X.env) :: starEach es X.env := by rfl) (hpl : (backTo pos (starEach es X.env)).any (·.1) = false := by rfl) : VE X (.Call (.Name x p) (e :: es) [] pos) (vCB r t) :=
  (pe_callTy hc hg hm hv ha hn hd hst hpl).imp fun _ _ _ h => vCB_imp h
def aLen : AC := fun xs μ R => match xs with
  | [.D (.str z)] => z.length ≤ sizeLine ∧ R (.D (.int z.length)) μ
  | [.D (.tuple ds)] => R (.D (.int ds.length)) μ
  | [.D (.list ds)] => R (.D (.int ds.length)) μ
  | [.R a] => opt (μ a) fun m => match m with
    | .lst ys => R (.D (.int ys.length)) μ
    | .dk kvs => R (.D (.int kvs.length)) μ
    | _ => False
  | _ => False
theorem c_len : VCall X (.builtin "len") aLen := by
  intro pins s σ H xs us Q I r ⟨as, μ, R, ra, hc, h, hq⟩
  unfold aLen at h
  split at h
  · cases ra with
    | cons r1 r2 =>
      cases r2
      cases RelA.str r1
      exact call_len_str pins s σ H _ us Q I r ⟨_, rfl, h.1, hq _ _ _ _ Kp.refl hc ra_int h.2⟩
  · cases ra with
    | cons r1 r2 =>
      cases r2
      obtain ⟨p, vs, rfl, hp, rs⟩ := RelA.tup r1
      refine call_len_seq pins s σ H _ us Q I r ⟨p, vs, rfl, .inr hp, hq _ _ _ _ Kp.refl hc ?_ h⟩
      rw [rs.length]; exact ra_int
  · cases ra with
    | cons r1 r2 =>
      cases r2
      obtain ⟨p, vs, rfl, hp, rs⟩ := RelA.lst r1
      refine call_len_seq pins s σ H _ us Q I r ⟨p, vs, rfl, .inl hp.sq, hq _ _ _ _ Kp.refl hc ?_ h⟩
      rw [rs.length]; exact ra_int
  · cases ra with
    | cons r1 r2 =>
      cases r2
      obtain ⟨m, em, h⟩ := opt_e h
      cases (show _ = V.ref _ from r1)
      obtain ⟨o, ho, rm⟩ := hc _ _ em
      split at h
      · obtain ⟨vs, rfl, rs⟩ := rm
        refine call_len_seq pins s σ H _ us Q I r ⟨_, vs, rfl, .inl (SqL.of ho), hq _ _ _ _ Kp.refl hc ?_ h⟩
        rw [rs.length]; exact ra_int
      · obtain ⟨vs, rfl, rs⟩ := rm
        refine call_lenD pins s σ H _ us Q I r ⟨_, vs, rfl, ho, hq _ _ _ _ Kp.refl hc ?_ h⟩
        rw [Paired.length rs]; exact ra_int
      · exact h.elim
  · exact h.elim
def aTuple : AC := fun xs μ R => match xs with
  | [.D (.tuple ds)] => R (.D (.tuple ds)) μ
  | [y] => opt (items μ y) fun ys => opt (dats ys) fun ds => R (.D (.tuple ds)) μ
  | _ => False
theorem c_tuple : VCall X (.type "tuple") aTuple := by
  intro pins s σ H xs us Q I r ⟨as, μ, R, ra, hc, h, hq⟩
  have key : ∀ y ys ds, as = [y] → items μ y = some ys → dats ys = some ds → R (.D (.tuple ds)) μ → wpAny (model X.prog X.w) X.A (call (.type "tuple") us) (EP X pins σ Q) X.xe s := by
    intro y ys ds e ey ed h'
    subst e
    cases ra with
    | cons r1 r2 =>
      cases r2
      obtain ⟨p, vs, rfl, hp, rs⟩ := items_seq hc r1 ey
      rcases hp with hp | hp
      · exact call_tuple_of pins s σ H _ us Q I r ⟨p, vs, rfl, .inl ⟨hp, fun l hl => hq _ _ _ _ (Kp.new hl _) (hc.over hl) (ra_tup (SqT.of upd_same) (DkAll.kp (Kp.new hl _) _ _ (rs.dats ed))) h'⟩⟩
      · exact call_tuple_of pins s σ H _ us Q I r ⟨p, vs, rfl, .inr ⟨hp, hq _ _ _ _ Kp.refl hc (ra_tup hp (rs.dats ed)) h'⟩⟩
  unfold aTuple at h
  split at h
  · exact key _ _ _ rfl rfl (dats_map _) h
  · obtain ⟨ys, ey, h⟩ := opt_e h
    obtain ⟨ds, ed, h⟩ := opt_e h
    exact key _ _ _ rfl ey ed h
  · exact h.elim
def aList : AC := fun xs μ R => match xs with
  | [y] => opt (items μ y) fun ys => ∀ p, μ p = none → R (.R p) (updM μ p (.lst ys))
  | _ => False
theorem c_list : VCall X (.type "list") aList := by
  intro pins s σ H xs us Q I r ⟨as, μ, R, ra, hc, h, hq⟩
  unfold aList at h
  split at h
  · cases ra with
    | cons r1 r2 =>
      cases r2
      obtain ⟨ys, ey, h⟩ := opt_e h
      obtain ⟨p, vs, rfl, hp, rs⟩ := items_seq hc r1 ey
      exact call_list_of pins s σ H _ us Q I r ⟨p, vs, rfl, hp, fun l hl => hq _ _ _ _ (Kp.new hl _) (hc.new hl (rm_lst (rs))) ra_ref (h l (hc.none hl))⟩
  · exact h.elim
/-- a list of truths -/
def bools : List AV → Option (List Bool)
  | [] => some []
  | .D (.bool b) :: r => match bools r with
    | some bs => some (b :: bs)
    | none => none
  | _ :: _ => none
theorem bools_map : ∀ (bs : List Bool), bools (bs.map fun b => .D (.bool b)) = some bs
  | [] => rfl
  | b :: bs => by simp only [List.map_cons, bools, bools_map bs]
theorem RelAs.bools {K : PySem.W.Frag} {H : Hp} : ∀ {xs : List AV} {vs : List V} {bs : List Bool}, RelAs K H xs vs → L2.bools xs = some bs → vs = bs.map V.bl
  | [], _, _, .nil, e => by cases e; rfl
  | .D d :: xs, _, bs, .cons r t, e => by
    cases d with
    | bool b =>
      simp only [L2.bools] at e
      cases q : L2.bools xs with
      | none => rw [q] at e; cases e
      | some cs => rw [q] at e; cases e; cases RelA.bl r; rw [RelAs.bools t q]; rfl
    | _ => simp [L2.bools] at e
  | .R _ :: _, _, _, _, e => by simp [L2.bools] at e
def aAll : AC := fun xs μ R => match xs with
  | [.R a] => opt (μ a) fun m => match m with
    | .lst ys => opt (bools ys) fun bs => R (.D (.bool (bs.all id))) μ
    | _ => False
  | _ => False
theorem c_all (hcm : X.calm = true) : VCall X (.builtin "all") aAll := by
  intro pins s σ H xs us Q I r ⟨as, μ, R, ra, hc, h, hq⟩
  unfold aAll at h
  split at h
  · cases ra with
    | cons r1 r2 =>
      cases r2
      obtain ⟨m, em, h⟩ := opt_e h
      split at h
      · obtain ⟨bs, eb, h⟩ := opt_e h
        obtain ⟨o, ho, vs, rfl, rs⟩ := hc _ _ em
        cases (show _ = V.ref _ from r1)
        exact call_all hcm pins s σ H _ us Q I r ⟨_, bs, rfl, SqL.of (by rw [ho, rs.bools eb]), hq _ _ _ _ Kp.refl hc ra_bl h⟩
      · exact h.elim
  · exact h.elim
def aMax2 : AC := fun xs μ R => match xs with
  | [.D (.int i), .D (.int j)] => R (.D (.int (if j > i then j else i))) μ
  | _ => False
def aMin2 : AC := fun xs μ R => match xs with
  | [.D (.int i), .D (.int j)] => R (.D (.int (if j < i then j else i))) μ
  | _ => False
theorem c_max2 (hcm : X.calm = true) : VCall X (.builtin "max") aMax2 := by
  intro pins s σ H xs us Q I r ⟨as, μ, R, ra, hc, h, hq⟩
  unfold aMax2 at h
  split at h
  · cases ra with
    | cons r1 r2 =>
      cases r2 with
      | cons r2 r3 =>
        cases r3
        cases RelA.int r1; cases RelA.int r2
        exact call_max2 hcm pins s σ H _ us Q I r ⟨_, _, rfl, hq _ _ _ _ Kp.refl hc ra_int h⟩
  · exact h.elim
theorem c_min2 (hcm : X.calm = true) : VCall X (.builtin "min") aMin2 := by
  intro pins s σ H xs us Q I r ⟨as, μ, R, ra, hc, h, hq⟩
  unfold aMin2 at h
  split at h
  · cases ra with
    | cons r1 r2 =>
      cases r2 with
      | cons r2 r3 =>
        cases r3
        cases RelA.int r1; cases RelA.int r2
        exact call_min2 hcm pins s σ H _ us Q I r ⟨_, _, rfl, hq _ _ _ _ Kp.refl hc ra_int h⟩
  · exact h.elim
/-! ### methods -/
variable {o : Expr} {to : AE} {name : Str} {apos cpos : Pos} {m : AV → AC}
def vBM (m : AV → AC) (to : AE) (t : AA) : AE := fun τ μ R => to τ μ fun x μ1 => t τ μ1 fun xs μ2 => m x xs μ2 R
def isLst (μ : M) : AV → Prop
  | .R a => opt (μ a) fun m => match m with
    | .lst _ => True
    | _ => False
  | .D (.list _) => True
  | _ => False
def isStr : AV → Prop
  | .D (.str _) => True
  | _ => False
theorem isLst.ty {H : Hp} {μ : M} {x : AV} {v : V} (hc : Cn X.K μ H) (rx : RelA X.K H x v) (h : isLst μ x) : tyV X.K "list" v H := by
  unfold isLst at h
  split at h
  · obtain ⟨m, e, h⟩ := opt_e h
    split at h
    · obtain ⟨o, ho, vs, rfl, _⟩ := hc _ _ e
      cases (show v = .ref _ from rx)
      exact .inl ⟨rfl, vs, SqL.of ho⟩
    · exact h.elim
  · obtain ⟨a, xs, rfl, q, _⟩ := RelA.lst rx
    exact .inl ⟨rfl, xs, q.sq⟩
  · exact h.elim
/-- o.m() of a list -/
def vBL0 (m : AV → AC) (to : AE) : AE := fun τ μ R => to τ μ fun x μ1 => isLst μ1 x ∧ m x [] μ1 R
def vBL (m : AV → AC) (to : AE) (t : AA) : AE := fun τ μ R => to τ μ fun x μ1 => isLst μ1 x ∧ t τ μ1 fun xs μ2 => m x xs μ2 R
def vBS (m : AV → AC) (to : AE) (t : AA) : AE := fun τ μ R => to τ μ fun x μ1 => isStr x ∧ t τ μ1 fun xs μ2 => m x xs μ2 R
theorem ve_ml0 (slot : Slot "list" name fid) (hty : typeOf (.builtin fid) = pure (.type "method_descriptor")) (hm : VMt X fid m) (ho : VE X o to)
    (hbase : attributeBase o name X.env (eval o X.env) = eval o X.env := by rfl) (hline : (apos.endLine == cpos.line) = true := by rfl) : VE X (.Call (.Attribute o name apos) [] [] cpos) (vBL0 m to) :=
  (pe_bm0 PySem.F.plainAttrs_list slot hty hm ho hbase hline).imp fun σ H Q ⟨τ, μ, R, hs, hc, h, hq⟩ => ⟨τ, μ, _, hs, hc, h, fun x μ1 v H1 S1 c1 rx hx => ⟨hx.1.ty c1 rx, x, [], μ1, R, rx, .nil, c1, hx.2, hq.kp S1⟩⟩
theorem ve_ml (slot : Slot "list" name fid) (hty : typeOf (.builtin fid) = pure (.type "method_descriptor")) (hm : VMt X fid m) (ho : VE X o to) (ha : VA X (e :: es) t)
    (hbase : attributeBase o name X.env (eval o X.env) = eval o X.env := by rfl)
    (hfew : ((backTo cpos (starEach (e :: es) X.env)).all (fun x => !x.1) && (backToKw cpos (keywordEach [] X.env)).all (fun x => x.1.isSome)
      && decide ((e :: es).length + ([] : List Keyword).length + (if ([] : List Keyword).isEmpty then 0 else 1) < 30)) = true := by rfl)
    (hline : (apos.endLine == cpos.line) = true := by rfl) (hs : starEach (e :: es) X.env = (false, eval e X.env) :: starEach es X.env := by rfl) (hplain : (backTo cpos (starEach es X.env)).any (·.1) = false := by rfl) :
    VE X (.Call (.Attribute o name apos) (e :: es) [] cpos) (vBL m to t) :=
  (pe_bm PySem.F.plainAttrs_list slot hty hm ho ha hbase hfew hline hs hplain).imp fun σ H Q ⟨τ, μ, R, hs, hc, h, hq⟩ => ⟨τ, μ, _, hs, hc, h, fun x μ1 v H1 S1 c1 rx hx => ⟨hx.1.ty c1 rx, τ, μ1, _, hs.kp S1, c1, hx.2, fun xs μ2 vs H2 S2 c2 rs hl hxs =>
    ⟨x, xs, μ2, R, rx.kp S2, rs, c2, hxs, hq.kp (S1.trans S2)⟩⟩⟩
theorem ve_ms (slot : Slot "str" name fid) (hty : typeOf (.builtin fid) = pure (.type "method_descriptor")) (hm : VMt X fid m) (ho : VE X o to) (ha : VA X (e :: es) t)
    (hbase : attributeBase o name X.env (eval o X.env) = eval o X.env := by rfl)
    (hfew : ((backTo cpos (starEach (e :: es) X.env)).all (fun x => !x.1) && (backToKw cpos (keywordEach [] X.env)).all (fun x => x.1.isSome)
      && decide ((e :: es).length + ([] : List Keyword).length + (if ([] : List Keyword).isEmpty then 0 else 1) < 30)) = true := by rfl)
    (hline : (apos.endLine == cpos.line) = true := by rfl) (hs : starEach (e :: es) X.env = (false, eval e X.env) :: starEach es X.env := by rfl) (hplain : (backTo cpos (starEach es X.env)).any (·.1) = false := by rfl) :
    VE X (.Call (.Attribute o name apos) (e :: es) [] cpos) (vBS m to t) :=
  (pe_bm PySem.F.plainAttrs_str slot hty hm ho ha hbase hfew hline hs hplain).imp fun σ H Q ⟨τ, μ, R, hs, hc, h, hq⟩ => ⟨τ, μ, _, hs, hc, h, fun x μ1 v H1 S1 c1 rx hx => ⟨by
      obtain ⟨hx, _⟩ := hx
      unfold isStr at hx
      split at hx
      · cases RelA.str rx; rfl
      · exact hx.elim, τ, μ1, _, hs.kp S1, c1, hx.2, fun xs μ2 vs H2 S2 c2 rs hl hxs =>
    ⟨x, xs, μ2, R, rx.kp S2, rs, c2, hxs, hq.kp (S1.trans S2)⟩⟩⟩
/-- the list at a: what it holds becomes f of it -/
def mAppend : AV → AC := fun x xs μ R => match x, xs with
  | .R a, [y] => opt (μ a) fun m => match m with
    | .lst ys => ys.length < sizeLine ∧ R (.D .none) (updM μ a (.lst (ys ++ [y])))
    | _ => False
  | _, _ => False
theorem m_append : VMt X "list.append" mAppend := by
  intro pins s σ H x xs v us Q I rx r ⟨a, as, μ, R, ra, rs, hc, h, hq⟩
  unfold mAppend at h
  split at h
  · rename_i a y
    obtain ⟨m, ey, h⟩ := opt_e h
    split at h
    · cases rs with
      | cons r1 r2 =>
        cases r2
        obtain ⟨o, ho, vs, rfl, rl⟩ := hc _ _ ey
        cases (show x = .ref a from ra)
        exact mt_append pins s σ H _ _ v us Q I rx r ⟨a, vs, _, rfl, rfl, ho, by rw [← rl.length]; exact h.1, hq _ _ _ _ (Kp.put ho trivial _) (hc.put ho trivial (rm_lst (rl.append (.cons r1 .nil)))) ra_non h.2⟩
    · exact h.elim
  · exact h.elim
def mExtend : AV → AC := fun x xs μ R => match x, xs with
  | .R a, [.R b] => opt (μ a) fun m => opt (μ b) fun n => match m, n with
    | .lst ys, .lst zs => ys.length + zs.length ≤ sizeLine ∧ R (.D .none) (updM μ a (.lst (ys ++ zs)))
    | _, _ => False
  | _, _ => False
theorem m_extend : VMt X "list.extend" mExtend := by
  intro pins s σ H x xs v us Q I rx r ⟨a, as, μ, R, ra, rs, hc, h, hq⟩
  unfold mExtend at h
  split at h
  · rename_i a b
    obtain ⟨m, ey, h⟩ := opt_e h
    obtain ⟨n, ez, h⟩ := opt_e h
    split at h
    · cases rs with
      | cons r1 r2 =>
        cases r2
        obtain ⟨o, ho, vs, rfl, rl⟩ := hc _ _ ey
        obtain ⟨o', ho', ws, rfl, rl'⟩ := hc _ _ ez
        cases (show x = .ref a from ra)
        cases (show _ = V.ref b from r1)
        exact mt_extend pins s σ H _ _ v us Q I rx r ⟨a, b, vs, ws, rfl, rfl, ho, ho', by rw [← rl.length, ← rl'.length]; exact h.1, hq _ _ _ _ (Kp.put ho trivial _) (hc.put ho trivial (rm_lst (rl.append rl'))) ra_non h.2⟩
    · exact h.elim
  · exact h.elim
def mPop : AV → AC := fun x xs μ R => match x, xs with
  | .R a, [] => opt (μ a) fun m => match m with
    | .lst ys => opt ys[ys.length - 1]? fun y => R y (updM μ a (.lst ys.dropLast))
    | _ => False
  | _, _ => False
theorem m_pop : VMt X "list.pop" mPop := by
  intro pins s σ H x xs v us Q I rx r ⟨a, as, μ, R, ra, rs, hc, h, hq⟩
  unfold mPop at h
  split at h
  · rename_i a
    obtain ⟨m, ey, h⟩ := opt_e h
    split at h
    · obtain ⟨y, e1, h⟩ := opt_e h
      · cases rs
        obtain ⟨o, ho, vs, rfl, rl⟩ := hc _ _ ey
        cases (show x = .ref a from ra)
        obtain ⟨z, ez, rz⟩ := rl.get e1
        exact mt_pop pins s σ H _ _ v us Q I rx r ⟨a, vs, z, rfl, rfl, ho, by rw [← rl.length]; exact ez, hq _ _ _ _ (Kp.put ho trivial _) (hc.put ho trivial (rm_lst (rl.dropLast))) (rz.kp (Kp.put ho trivial _)) h⟩
    · exact h.elim
  · exact h.elim
def mPopAt : AV → AC := fun x xs μ R => match x, xs with
  | .R a, [.D (.int i)] => opt (μ a) fun m => match m with
    | .lst ys => (-(2 ^ 63) ≤ i ∧ i < 2 ^ 63) ∧ opt (seqIndex? i ys.length) fun k => opt ys[k]? fun y => R y (updM μ a (.lst (ys.eraseIdx k)))
    | _ => False
  | _, _ => False
theorem m_popAt : VMt X "list.pop" mPopAt := by
  intro pins s σ H x xs v us Q I rx r ⟨a, as, μ, R, ra, rs, hc, h, hq⟩
  unfold mPopAt at h
  split at h
  · rename_i a i
    obtain ⟨m, ey, h⟩ := opt_e h
    split at h
    · obtain ⟨⟨h1, h2⟩, h⟩ := h
      obtain ⟨k, ek, h⟩ := opt_e h
      obtain ⟨y, e1, h⟩ := opt_e h
      cases rs with
      | cons r1 r2 =>
        cases r2
        cases RelA.int r1
        obtain ⟨o, ho, vs, rfl, rl⟩ := hc _ _ ey
        cases (show x = .ref a from ra)
        obtain ⟨z, ez, rz⟩ := rl.get e1
        exact mt_popAt pins s σ H _ _ v us Q I rx r ⟨a, vs, i, k, z, rfl, rfl, ho, h1, h2, by rw [← rl.length]; exact ek, ez, hq _ _ _ _ (Kp.put ho trivial _) (hc.put ho trivial (rm_lst (rl.eraseIdx k))) (rz.kp (Kp.put ho trivial _)) h⟩
    · exact h.elim
  · exact h.elim
end
end L2

namespace L2
open PySem PySem.Spec PyProof.Rows
section
variable {X : Cx} {a b c : Expr} {ta tb tc : AE} {pos : Pos}
/-! ### isinstance -/
def kit (S T : String) : Bool := S == T || (S == "bool" && T == "int")
def tyA (μ : M) : AV → Option String
  | .D .none => some "NoneType"
  | .D (.bool _) => some "bool"
  | .D (.int _) => some "int"
  | .D (.str _) => some "str"
  | .D (.list _) => some "list"
  | .D (.tuple _) => some "tuple"
  | .D (.dict _) => none
  | .R a => match μ a with
    | some (.lst _) => some "list"
    | some (.dk _) => some "dict"
    | some (.dt _) => some "dict"
    | none => none
def vIsT (T : String) (te : AE) : AE := fun τ μ R => te τ μ fun x μ1 => opt (tyA μ1 x) fun S => R (.D (.bool (kit S T))) μ1
def Kits (K : PySem.W.Frag) (T : String) : Prop := ∀ S ∈ ["NoneType", "bool", "int", "str", "list", "tuple", "dict"], PySem.W.kitOne K (.type S) (.type T) = some (kit S T)
theorem isT_ok {pins : List (Addr × Obj)} {σ : St} {H : Hp} {s : Shared} {E : Value → Shared → Prop} {Q : Value → Shared → Prop} {μ : M} {x : AV} {v : V} {u : Value} {S T : String} (I : Inv X pins σ H s) (hc : Cn X.K μ H) (rx : RelA X.K H x v) (r : RelV v u) (e : tyA μ x = some S) (hk : Kits X.K T)
    (h : ∀ tk, Q (.bool (kit S T)) { s with toks := tk }) : wpAny (model X.prog X.w) X.A (call (.builtin "isinstance") [u, .type T]) Q E s := by
  unfold tyA at e
  split at e
  · cases e; cases RelA.non rx; cases r; exact PySem.W.kia_one PySem.W.kitx_none I.kIn True.intro (hk _ (by decide)) (fun z => nomatch z) h
  · cases e; cases RelA.bl rx; cases r; exact PySem.W.kia_one PySem.W.kitx_bool I.kIn True.intro (hk _ (by decide)) (fun z => nomatch z) h
  · cases e; cases RelA.int rx; obtain ⟨t, rfl⟩ := r; exact PySem.W.kia_one PySem.W.kitx_int I.kIn True.intro (hk _ (by decide)) (fun z => nomatch z) h
  · cases e; cases RelA.str rx; obtain ⟨t, rfl⟩ := r; exact PySem.W.kia_one PySem.W.kitx_str I.kIn True.intro (hk _ (by decide)) (fun z => nomatch z) h
  · cases e
    obtain ⟨a, vs, rfl, q, _⟩ := RelA.lst rx
    cases r
    obtain ⟨_, _, ⟨o, n, e1, e2, _⟩, _⟩ := I.list q.sq
    exact PySem.W.kia_one PySem.W.kitx_list I.kIn ⟨o, e1, e2⟩ (hk _ (by decide)) (fun z => nomatch z) h
  · cases e
    obtain ⟨a, vs, rfl, q, _⟩ := RelA.tup rx
    cases r
    obtain ⟨_, _, ⟨o, e1, e2, _⟩, _⟩ := I.tuple q
    exact PySem.W.kia_one PySem.W.kitx_tuple I.kIn ⟨o, e1, e2⟩ (hk _ (by decide)) (fun z => nomatch z) h
  · cases e
  · rename_i a
    cases (show v = .ref a from rx)
    cases r
    split at e
    · rename_i xs ex
      cases e
      obtain ⟨o, ho, vs, rfl, _⟩ := hc _ _ ex
      obtain ⟨_, _, ⟨o, n, e1, e2, _⟩, _⟩ := I.list (SqL.of ho)
      exact PySem.W.kia_one PySem.W.kitx_list I.kIn ⟨o, e1, e2⟩ (hk _ (by decide)) (fun z => nomatch z) h
    · rename_i xs ex
      cases e
      obtain ⟨o, ho, vs, rfl, _⟩ := hc _ _ ex
      obtain ⟨_, _, ws, _, p⟩ := (show ObjOk X.prog X.w H s.heap a (.dK vs) from I.hok a _ ho)
      obtain ⟨o, es, ep, h1, h2, _⟩ := p
      exact PySem.W.kia_one PySem.W.kitx_dict I.kIn ⟨o, h1, h2.1⟩ (hk _ (by decide)) (fun z => nomatch z) h
    · rename_i xs ex
      cases e
      obtain ⟨o, ho, vs, rfl, _⟩ := hc _ _ ex
      obtain ⟨_, _, xs, _, o, es, ep, h1, h2, _⟩ := (show ObjOk X.prog X.w H s.heap a (.dT vs) from I.hok a _ ho)
      exact PySem.W.kia_one PySem.W.kitx_dict I.kIn ⟨o, h1, h2.1⟩ (hk _ (by decide)) (fun z => nomatch z) h
    · cases e
theorem ve_isT {T : String} {x : Str} {p p2 : Pos} (hg : Gl X "isinstance") (hm : X.mg "isinstance" = none) (hg2 : Gl X x) (hm2 : X.mg x = none) (hv2 : bootBuiltins x = some (.type T)) (hk : Kits X.K T) (he : VE X a ta)
    (hn2 : x ≠ "__name__" := by decide) (hd2 : (x == ("__debug__" : Str)) = false := by decide)
    (hs : starEach [a, .Name x p2] X.env = (false, eval a X.env) :: starEach [.Name x p2] X.env := by rfl) (hs2 : starEach [.Name x p2] X.env = [(false, eval (.Name x p2) X.env)] := by rfl) (hpl : (backTo pos (starEach [.Name x p2] X.env)).any (·.1) = false := by rfl) :
    VE X (.Call (.Name "isinstance" p) [a, .Name x p2] [] pos) (vIsT T ta) := by
  intro pins s σ H Q I ⟨τ, μ, R, hst, hc, h, hq⟩
  refine wpAny_Call_Name_kw (ld_blt I hg hm boot_isinstance ?_)
  refine PyProof.Rows.callWith_builtin1 ?_ hs hpl
  rw [hs]
  refine Calls.spliced_cons (thn (he pins s σ H (fun v H1 => ∃ x μ1 S, Kp H H1 ∧ Cn X.K μ1 H1 ∧ RelA X.K H1 x v ∧ tyA μ1 x = some S ∧ R (.D (.bool (kit S T))) μ1) I ⟨τ, μ, _, hst, hc, h, fun x μ1 v H1 S1 c1 rx hx => ?_⟩) fun u s1 ⟨v, H1, I1, r1, x, μ1, S, S1, c1, rx, ty, q1⟩ => ?_)
  · obtain ⟨S, e, hx⟩ := opt_e hx
    exact ⟨x, μ1, S, S1, c1, rx, e, hx⟩
  rw [hs2]
  refine Calls.spliced_cons (ld_blt I1 hg2 hm2 hv2 (Calls.spliced_nil ?_) hn2 hd2)
  exact isT_ok I1 c1 rx r1 ty hk fun tk => ⟨.bl _, H1, I1.tok _, rfl, hq _ _ _ _ S1 c1 ra_bl q1⟩
/-! ### calls of the text's defs -/
abbrev ASp := List AV → M → (AV → M → Prop) → Prop
def cSp (K : PySem.W.Frag) (n : Nat) (sp : ASp) : Sp := fun vs H Q _ => ∃ xs μ R, xs.length = n ∧ RelAs K H xs vs ∧ Cn K μ H ∧ sp xs μ R ∧ LV K H R Q
/-- a def that may be called -/
def VCal (P : Program) (w : World) (K : PySem.W.Frag) (mg : Str → Option Value) (base : Heap) (k : Nat) (x : Str) (ps : List Str) (sp : ASp) : Prop := Cal P w K mg base k x ps (cSp K ps.length sp)
def vCall (n : Nat) (sp : ASp) (t : AA) : AE := fun τ μ R => t τ μ fun xs μ1 => sp xs μ1 R
variable {x : Str} {p : Pos} {e : Expr} {es : List Expr} {t : AA} {k : Nat} {ps : List Str} {sp : ASp}
theorem ve_call (F : VCal X.prog X.w X.K X.mg X.base k x ps sp) (hr : Room k X.A) (hg : Gl X x) (ha : VA X (e :: es) t) (hl : (e :: es).length = ps.length := by rfl) (hdb : (x == ("__debug__" : Str)) = false := by decide)
    (hst : starEach (e :: es) X.env = (false, eval e X.env) :: starEach es X.env := by rfl) (hpl : (backTo pos (starEach es X.env)).any (·.1) = false := by rfl) : VE X (.Call (.Name x p) (e :: es) [] pos) (vCall ps.length sp t) := by
  obtain ⟨g, gd, G, gb, gk, gm⟩ := F
  refine PE.imp (pe_call (E := E0) G hr hg gm gk gb .nil pass0 ha (hdb := hdb) (he := hst) (hpl := hpl)) fun σ H Q ⟨τ, μ, R, hs, hc, h, hq⟩ => ?_
  exact ⟨τ, μ, _, hs, hc, h, fun xs μ1 vs H1 S1 c1 rs hn hx => ⟨xs, μ1, R, hn.trans hl, by rw [List.append_nil]; exact rs, c1, hx, hq.kp S1⟩⟩
theorem ve_call0 (F : VCal X.prog X.w X.K X.mg X.base k x [] sp) (hr : Room k X.A) (hg : Gl X x) (hdb : (x == ("__debug__" : Str)) = false := by decide) : VE X (.Call (.Name x p) [] [] pos) (fun _ μ R => sp [] μ R) := by
  obtain ⟨g, gd, G, gb, gk, gm⟩ := F
  refine PE.imp (pe_call0 (E := E0) G hr hg gm gk gb .nil pass0 (hdb := hdb)) fun σ H Q ⟨τ, μ, R, hs, hc, h, hq⟩ => ?_
  exact ⟨[], μ, R, rfl, .nil, hc, h, hq⟩
/-! ### statements -/
def vNext : AS := fun k _ _ _ τ μ => k τ μ
def vSeq (t u : AS) : AS := fun k r b c τ μ => t (u k r b c) r b c τ μ
variable {st : Stmt} {rest : List Stmt} {s1 s2 : AS}
theorem vss_nil : VSs X [] vNext := pss_nil.imp fun D σ H ⟨τ, μ, nk, nr, nb, nc, hs, hc, h, hq⟩ => hq.nx _ _ _ _ Kp.refl hs hc h
theorem vss_cons (h1 : VS X st s1) (h2 : VSs X rest s2) : VSs X (st :: rest) (vSeq s1 s2) := (pss_cons h1 h2).imp fun D σ H ⟨τ, μ, nk, nr, nb, nc, hs, hc, h, hq⟩ =>
  ⟨τ, μ, _, _, _, _, hs, hc, h, ⟨fun τ' μ' σ' H' S' hs' hc' h' => ⟨τ', μ', nk, nr, nb, nc, hs', hc', h', hq.kp S'⟩, hq.rt, hq.bk, hq.ct⟩⟩
theorem vss_one (h1 : VS X st s1) : VSs X [st] s1 := pss_one h1
theorem vs_pass : VS X (.Pass pos) vNext := ps_pass.imp fun D σ H ⟨τ, μ, nk, nr, nb, nc, hs, hc, h, hq⟩ => hq.nx _ _ _ _ Kp.refl hs hc h
def vBreak : AS := fun _ _ b _ τ μ => b τ μ
def vCont : AS := fun _ _ _ c τ μ => c τ μ
theorem vs_break : VS X (.Break pos) vBreak := ps_break.imp fun D σ H ⟨τ, μ, nk, nr, nb, nc, hs, hc, h, hq⟩ => hq.bk _ _ _ _ Kp.refl hs hc h
theorem vs_continue : VS X (.Continue pos) vCont := ps_continue.imp fun D σ H ⟨τ, μ, nk, nr, nb, nc, hs, hc, h, hq⟩ => hq.ct _ _ _ _ Kp.refl hs hc h
def vDrop (te : AE) : AS := fun k _ _ _ τ μ => te τ μ fun _ μ1 => k τ μ1
theorem vs_expr (he : VE X a ta) (hs : swapsWith a none pos.line X.env = pure false := by rfl) : VS X (.Expr a pos) (vDrop ta) := (ps_expr he hs).imp fun D σ H ⟨τ, μ, nk, nr, nb, nc, hs, hc, h, hq⟩ =>
  ⟨τ, μ, _, hs, hc, h, fun x μ1 v H1 S1 c1 rx hx => hq.nx _ _ _ _ S1 (hs.kp S1) c1 hx⟩
def vRet (te : AE) : AS := fun _ r _ _ τ μ => te τ μ r
theorem vs_ret (he : VE X a ta) : VS X (.Return (some a) pos) (vRet ta) := (ps_ret he).imp fun D σ H ⟨τ, μ, nk, nr, nb, nc, hs, hc, h, hq⟩ => ⟨τ, μ, _, hs, hc, h, hq.rt⟩
def vRetN : AS := fun _ r _ _ _ μ => r (.D .none) μ
theorem vs_retN : VS X (.Return none pos) vRetN := ps_retN.imp fun D σ H ⟨τ, μ, nk, nr, nb, nc, hs, hc, h, hq⟩ => hq.rt _ _ _ _ Kp.refl hc ra_non h
def vIfS (ct : AT) (t u : AS) : AS := fun k r b c τ μ => ct τ μ fun x μ1 => brP x (t k r b c τ μ1) (u k r b c τ μ1)
theorem vs_if {c : Expr} {a b : List Stmt} {tc : AT} (hc : VT X c tc) (ha : VSs X a s1) (hb : VSs X b s2) : VS X (.If c a b pos) (vIfS tc s1 s2) := (ps_if hc ha hb).imp fun D σ H ⟨τ, μ, nk, nr, nb, nc, hs, hc, h, hq⟩ =>
  ⟨τ, μ, _, hs, hc, h, fun k μ1 H1 S1 c1 hk => by
    rcases br_e hk with ⟨rfl, hk'⟩ | ⟨rfl, hk'⟩
    · exact ⟨τ, μ1, nk, nr, nb, nc, hs.kp S1, c1, hk', hq.kp S1⟩
    · exact ⟨τ, μ1, nk, nr, nb, nc, hs.kp S1, c1, hk', hq.kp S1⟩⟩
def vNever : AS := fun _ _ _ _ _ _ => False
theorem vs_never : VS X st vNever := ps_never.imp fun D σ H ⟨τ, μ, nk, nr, nb, nc, hs, hc, h, hq⟩ => h.elim
theorem vss_never {sts : List Stmt} : VSs X sts vNever := pss_never.imp fun D σ H ⟨τ, μ, nk, nr, nb, nc, hs, hc, h, hq⟩ => h.elim
/-! ### targets -/
def wName (i : Nat) : AG := fun v τ μ R => R (τ.set i (some v)) μ
theorem vg_name {i : Nat} {x : Str} (hN : X.N.Nodup) (hi : X.N[i]? = some x) (hx : Loc X.env.scope x) (hf : X.fn x = true ∨ X.env.scope.names.lookup x = some .local := by first | exact .inl rfl | exact .inr rfl | assumption) : VG X (.Name x pos) (wName i) :=
  (pg_name hN hi hx hf).imp fun v σ H Q ⟨x, τ, μ, R, rx, hs, hc, h, hq⟩ => hq _ _ _ _ Kp.refl (hs.set rx i) hc h
def wNil : AGs := fun vs τ μ R => match vs with
  | [] => R τ μ
  | _ :: _ => False
def wCons (t : AG) (u : AGs) : AGs := fun vs τ μ R => match vs with
  | [] => False
  | v :: r => t v τ μ fun τ' μ' => u r τ' μ' R
theorem vgs_nil : VGs X [] wNil := pgs_nil.imp fun vs σ H Q ⟨xs, τ, μ, R, rx, hs, hc, h, hq⟩ => by
  cases rx with
  | nil => exact ⟨rfl, hq _ _ _ _ Kp.refl hs hc h⟩
  | cons => exact h.elim
theorem vgs_cons {e : Expr} {es : List Expr} {t : AG} {u : AGs} (h1 : VG X e t) (h2 : VGs X es u)
    (hs : (assignEach (e :: es) X.env).map (·.2) = assign e X.env :: (assignEach es X.env).map (·.2) := by rfl) : VGs X (e :: es) (wCons t u) := (pgs_cons h1 h2 hs).imp fun vs σ H Q ⟨xs, τ, μ, R, rx, hs, hc, h, hq⟩ => by
  cases rx with
  | nil => exact h.elim
  | cons r1 r2 => exact ⟨_, _, rfl, _, τ, μ, _, r1, hs, hc, h, fun τ' μ' σ' H' S' hs' hc' h' => ⟨_, τ', μ', R, RelAs.kp S' r2, hs', hc', h', hq.kp S'⟩⟩
def wTup (n : Nat) (t : AGs) : AG := fun v τ μ R => match v with
  | .D (.tuple ds) => ds.length = n ∧ t (ds.map .D) τ μ R
  | _ => False
theorem vg_tup {es : List Expr} {k : Nat} {t : AGs} {n : Nat} (hcm : X.calm = true) (h : VGs X es t)
    (hn : (assignEach es X.env).length = n := by rfl) (hst : (assignEach es X.env).findIdx? (·.1) = none := by rfl) : VG X (.Tuple es k pos) (wTup n t) := (pg_tup hcm h hn hst).imp fun v σ H Q ⟨x, τ, μ, R, rx, hs, hc, h, hq⟩ => by
  unfold wTup at h
  split at h
  · obtain ⟨a, vs, rfl, q, r⟩ := RelA.tup rx
    exact ⟨a, vs, rfl, q, by rw [r.length]; exact h.1, _, τ, μ, R, r.rel, hs, hc, h.2, hq⟩
  · exact h.elim
/-- o[i] = v -/
def aSet (o i v : AV) (μ : M) (R : M → Prop) : Prop := match o, i with
  | .R a, .D (.int k) => opt (μ a) fun m => match m with
    | .lst xs => opt (ixN xs.length k) fun j => R (updM μ a (.lst (xs.set j v)))
    | _ => False
  | _, _ => False
def cSet (K : PySem.W.Frag) : TSet := fun o i v H Q => ∃ a b c μ R, RelA K H a o ∧ RelA K H b i ∧ RelA K H c v ∧ Cn K μ H ∧ aSet a b c μ R ∧ ∀ μ' H', Kp H H' → Cn K μ' H' → R μ' → Q H'
theorem s_set : PSet X (cSet X.K) := by
  intro pins s σ H o i v ov iv u Q I r1 r2 r3 ⟨a, b, c, μ, R, ra, rb, rc, hc, h, hq⟩
  unfold aSet at h
  split at h
  · rename_i q k
    obtain ⟨m, ex, h⟩ := opt_e h
    split at h
    · obtain ⟨j, ej, h⟩ := opt_e h
      · obtain ⟨o', ho, vs, rfl, rs⟩ := hc _ _ ex
        cases (show o = .ref q from ra)
        cases RelA.int rb
        exact set_list pins s σ H _ _ v ov iv u Q I r1 r2 r3 ⟨q, vs, k, j, rfl, rfl, ho, by rw [← rs.length]; exact ej, hq _ _ (Kp.put ho trivial _) (hc.put ho trivial (rm_lst (rs.set rc j))) h⟩
    · exact h.elim
  · exact h.elim
def wSub (to ti : AE) : AG := fun v τ μ R => to τ μ fun o μ1 => ti τ μ1 fun i μ2 => aSet o i v μ2 fun μ3 => R τ μ3
theorem vg_sub {o i : Expr} {to ti : AE} (ho : VE X o to) (hi : VE X i ti)
    (ha : ∀ v, assign (.Subscript o i pos) X.env v = (do
      let ov ← holding [v] (eval o X.env)
      let iv ← holding [v, ov] (eval i X.env)
      standAt pos
      holding [v, ov, iv] (setItem ov iv v)
      release [v, ov, iv] []) := by intro _; rfl) : VG X (.Subscript o i pos) (wSub to ti) := (pg_sub ho hi s_set ha).imp fun v σ H Q ⟨x, τ, μ, R, rx, hs, hc, h, hq⟩ =>
  ⟨τ, μ, _, hs, hc, h, fun o μ1 ov H1 S1 c1 ro h1 => ⟨τ, μ1, _, hs.kp S1, c1, h1, fun i μ2 iv H2 S2 c2 ri h2 => ⟨o, i, x, μ2, _, ro.kp S2, ri, rx.kp (S1.trans S2), c2, h2, fun μ3 H3 S3 c3 h3 => hq _ _ _ _ (S1.trans (S2.trans S3)) (hs.kp (S1.trans (S2.trans S3))) c3 h3⟩⟩⟩
def vAsg (te : AE) (g : AG) : AS := fun k _ _ _ τ μ => te τ μ fun x μ1 => g x τ μ1 k
theorem vAsg_imp {K : PySem.W.Frag} {te : AE} {g : AG} {D : Ends} {σ : St} {H : Hp} (h : cS K (vAsg te g) D σ H) : tAsg (cE K te) (cG K g) D σ H := by
  obtain ⟨τ, μ, nk, nr, nb, nc, hs, hc, h, hq⟩ := h
  exact ⟨τ, μ, _, hs, hc, h, fun x μ1 v H1 S1 c1 rx hx => ⟨x, τ, μ1, _, rx, hs.kp S1, c1, hx, hq.nx.kp S1⟩⟩
theorem vs_asg {tg : Expr} {g : AG} (he : VE X a ta) (hg : VG X tg g) (hs : swapsWithSole [tg] a pos.line X.env = pure false := by rfl) (hw : swappedStores [tg] a X.env = pure none := by rfl)
    (h1 : (assignEach [tg] X.env).map (·.2) = [assign tg X.env] := by rfl) : VS X (.Assign [tg] a pos) (vAsg ta g) := (ps_asg he hg hs hw h1).imp fun _ _ _ h => vAsg_imp h
theorem vs_set {i : Nat} {x : Str} {pos' : Pos} (hN : X.N.Nodup) (hi : X.N[i]? = some x) (hx : Loc X.env.scope x) (he : VE X a ta) (hs : swapsWith a (some (.Name x pos')) pos.line X.env = pure false := by rfl) (hf : X.fn x = true ∨ X.env.scope.names.lookup x = some .local := by first | exact .inl rfl | exact .inr rfl | assumption) :
    VS X (.Assign [.Name x pos'] a pos) (vAsg ta (wName i)) := (ps_set hN hi hx he hs hf).imp fun D σ H ⟨τ, μ, nk, nr, nb, nc, hs, hc, h, hq⟩ =>
  ⟨τ, μ, _, hs, hc, h, fun x μ1 v H1 S1 c1 rx hx => hq.nx _ _ _ _ S1 ((hs.kp S1).set rx i) c1 hx⟩
def vPar (i j : Nat) (t : AA) : AS := fun k _ _ _ τ μ => t τ μ fun xs μ1 => match xs with
  | [v, w] => k ((τ.set i (some v)).set j (some w)) μ1
  | _ => False
theorem vs_par {i j : Nat} {x y : Str} {t : AA} {px py pt : Pos} {kt k2 pt2} (hc : X.calm = true) (hN : X.N.Nodup) (hi : X.N[i]? = some x) (hj : X.N[j]? = some y) (hij : i ≠ j) (hx : X.env.scope.names.lookup x = some .local) (hy : X.env.scope.names.lookup y = some .local) (ha : VA X [a, b] t)
    (hw : swappedStores [.Tuple [.Name x px, .Name y py] kt pt] (.Tuple [a, b] k2 pt2) X.env = pure (some [x, y])) (hs : swapsWithSole [.Tuple [.Name x px, .Name y py] kt pt] (.Tuple [a, b] k2 pt2) pos.line X.env = pure false := by rfl) :
    VS X (.Assign [.Tuple [.Name x px, .Name y py] kt pt] (.Tuple [a, b] k2 pt2) pos) (vPar i j t) := (ps_par hc hN hi hj hij hx hy ha hw hs).imp fun D σ H ⟨τ, μ, nk, nr, nb, nc, hs, hc, h, hq⟩ =>
  ⟨τ, μ, _, hs, hc, h, fun xs μ1 vs H1 S1 c1 rs hl hx => by
    split at hx
    · cases rs with
      | cons r1 r2 =>
        cases r2 with
        | cons r2 r3 =>
          cases r3
          exact ⟨_, _, rfl, hq.nx _ _ _ _ S1 (((hs.kp S1).set r1 i).set r2 j) c1 hx⟩
    · exact hx.elim⟩
def vPar3 (i j l : Nat) (t : AA) : AS := fun k _ _ _ τ μ => t τ μ fun xs μ1 => match xs with
  | [u, v, w] => k (((τ.set i (some u)).set j (some v)).set l (some w)) μ1
  | _ => False
theorem vs_par3 {i j l : Nat} {x y z : Str} {t : AA} {px py pz pt : Pos} {kt k2 pt2} (hc : X.calm = true) (hN : X.N.Nodup) (hi : X.N[i]? = some x) (hj : X.N[j]? = some y) (hl : X.N[l]? = some z) (hij : i ≠ j) (hil : i ≠ l) (hjl : j ≠ l)
    (hx : X.env.scope.names.lookup x = some .local) (hy : X.env.scope.names.lookup y = some .local) (hz : X.env.scope.names.lookup z = some .local) (ha : VA X [a, b, c] t)
    (hw : swappedStores [.Tuple [.Name x px, .Name y py, .Name z pz] kt pt] (.Tuple [a, b, c] k2 pt2) X.env = pure (some [x, y, z]))
    (hs : swapsWithSole [.Tuple [.Name x px, .Name y py, .Name z pz] kt pt] (.Tuple [a, b, c] k2 pt2) pos.line X.env = pure false := by rfl) :
    VS X (.Assign [.Tuple [.Name x px, .Name y py, .Name z pz] kt pt] (.Tuple [a, b, c] k2 pt2) pos) (vPar3 i j l t) := (ps_par3 hc hN hi hj hl hij hil hjl hx hy hz ha hw hs).imp fun D σ H ⟨τ, μ, nk, nr, nb, nc, hs, hc, h, hq⟩ =>
  ⟨τ, μ, _, hs, hc, h, fun xs μ1 vs H1 S1 c1 rs hl hx => by
    split at hx
    · cases rs with
      | cons r1 r2 =>
        cases r2 with
        | cons r2 r3 =>
          cases r3 with
          | cons r3 r4 =>
            cases r4
            exact ⟨_, _, _, rfl, hq.nx _ _ _ _ S1 ((((hs.kp S1).set r1 i).set r2 j).set r3 l) c1 hx⟩
    · exact hx.elim⟩
/-! ### while: some number of turns is enough -/
def wl (c : AT) (tb : AS) (k : ASt → M → Prop) (r : AV → M → Prop) : Nat → ASt → M → Prop
  | 0 => fun _ _ => False
  | n + 1 => fun τ μ => c τ μ fun x μ1 => brP x (tb (wl c tb k r n) r k (wl c tb k r n) τ μ1) (k τ μ1)
def vWhile (c : AT) (tb : AS) : AS := fun k r _ _ τ μ => ∃ n, wl c tb k r n τ μ
theorem vs_while {c : Expr} {body : List Stmt} {tc : AT} {tb : AS} (hp : PassesOwn (model X.prog X.w) X.A X.env X.xe) (hc : VT X c tc) (hb : VSs X body tb) : VS X (.While c body [] pos) (vWhile tc tb) := (ps_while hp hc hb).imp fun D σ H ⟨τ, μ, nk, nr, nb, nc, hs, hc, ⟨n, h⟩, hq⟩ => by
  refine ⟨fun m σ1 H1 => ∃ τ1 μ1, Kp H H1 ∧ StA X.K H1 τ1 σ1 ∧ Cn X.K μ1 H1 ∧ wl tc tb nk nr m τ1 μ1, ⟨n, τ, μ, Kp.refl, hs, hc, h⟩, ?_⟩
  rintro m σ1 H1 ⟨τ1, μ1, S1, hs1, hc1, h1⟩
  cases m with
  | zero => exact h1.elim
  | succ m =>
    refine ⟨τ1, μ1, _, hs1, hc1, h1, fun k μ2 H2 S2 c2 hk => ?_⟩
    rcases br_e hk with ⟨rfl, hk'⟩ | ⟨rfl, hk'⟩
    · rw [if_pos rfl]
      refine ⟨fun σ' H' => ∃ τ' μ', Kp H H' ∧ StA X.K H' τ' σ' ∧ Cn X.K μ' H' ∧ wl tc tb nk nr m τ' μ', fun σ' H' ⟨τ', μ', q⟩ => ⟨m, Nat.lt_succ_self _, τ', μ', q⟩, τ1, μ2, _, _, _, _, hs1.kp S2, c2, hk', ?_⟩
      have S := S1.trans S2
      exact ⟨fun τ' μ' σ' H' S' hs' hc' h' => ⟨τ', μ', S.trans S', hs', hc', h'⟩, hq.rt.kp S, hq.nx.kp S, fun τ' μ' σ' H' S' hs' hc' h' => ⟨τ', μ', S.trans S', hs', hc', h'⟩⟩
    · rw [if_neg Bool.false_ne_true]
      exact hq.nx _ _ _ _ (S1.trans S2) (hs1.kp S2) c2 hk'
/-! ### what a loop goes through -/
/-- at a heap that keeps H0: the iterator tells these -/
structure ItOk (K : PySem.W.Frag) (H0 : Hp) (J : It) (xs : List AV) (kp : M → Prop) : Prop where
  go : ∀ i H μ, Kp H0 H → Cn K μ H → kp μ → i < xs.length → J.go i H
  yld : ∀ i H μ v H' x, Kp H0 H → Cn K μ H → kp μ → xs[i]? = some x → J.yld i H v H' → Kp H H' ∧ Cn K μ H' ∧ RelA K H' x v
  stop : ∀ H μ, Kp H0 H → Cn K μ H → kp μ → J.stop xs.length H
abbrev AI := ASt → M → (List AV → (M → Prop) → M → Prop) → Prop
def cI (K : PySem.W.Frag) (wi : AI) : TI := fun σ H R => ∃ τ μ R', StA K H τ σ ∧ Cn K μ H ∧ wi τ μ R' ∧ ∀ xs kp μ' J H', Kp H H' → Cn K μ' H' → ItOk K H' J xs kp → R' xs kp μ' → R J H'
def VI (X : Cx) (tg iter : Expr) (wi : AI) : Prop := PI X tg iter (cI X.K wi)
theorem PI.imp {tg e : Expr} {t u : TI} (h : PI X tg e t) (i : ∀ σ H Q, u σ H Q → t σ H Q) : PI X tg e u := fun pins s σ H Q I q => h pins s σ H Q I (i σ H Q q)
theorem itOk_list {K : PySem.W.Frag} {H0 : Hp} {a : Addr} {xs : List AV} {kp : M → Prop} (h : ∀ H μ, Kp H0 H → Cn K μ H → kp μ → ∃ vs, SqL K H a vs ∧ RelAs K H xs vs) : ItOk K H0 (Itl K a) xs kp := by
  refine ⟨fun i H μ S c k hi => ?_, fun i H μ v H' x S c k e y => ?_, fun H μ S c k => ?_⟩
  · obtain ⟨vs, q, r⟩ := h H μ S c k
    exact ⟨vs, vs[i]'(by rw [← r.length]; exact hi), q, List.getElem?_eq_getElem _⟩
  · obtain ⟨vs, q, r⟩ := h H μ S c k
    obtain ⟨rfl, y⟩ := y
    obtain ⟨u, eu, ru⟩ := r.get e
    rw [y vs q] at eu
    cases eu
    exact ⟨Kp.refl, c, ru⟩
  · obtain ⟨vs, q, r⟩ := h H μ S c k
    exact ⟨vs, q, by rw [r.length]; exact Nat.le_refl _⟩
theorem itOk_tup {K : PySem.W.Frag} {H0 : Hp} {a : Addr} {xs : List AV} {kp : M → Prop} (h : ∀ H μ, Kp H0 H → Cn K μ H → kp μ → ∃ vs, SqT K H a vs ∧ RelAs K H xs vs) : ItOk K H0 (Itt K a) xs kp := by
  refine ⟨fun i H μ S c k hi => ?_, fun i H μ v H' x S c k e y => ?_, fun H μ S c k => ?_⟩
  · obtain ⟨vs, q, r⟩ := h H μ S c k
    exact ⟨vs, vs[i]'(by rw [← r.length]; exact hi), q, List.getElem?_eq_getElem _⟩
  · obtain ⟨vs, q, r⟩ := h H μ S c k
    obtain ⟨rfl, y⟩ := y
    obtain ⟨u, eu, ru⟩ := r.get e
    rw [y vs q] at eu
    cases eu
    exact ⟨Kp.refl, c, ru⟩
  · obtain ⟨vs, q, r⟩ := h H μ S c k
    exact ⟨vs, q, by rw [r.length]; exact Nat.le_refl _⟩
variable {tg : Expr}
/-- lo, lo + 1, .. -/
def rngA (lo : Int) : Nat → List AV
  | 0 => []
  | n + 1 => .D (.int lo) :: rngA (lo + 1) n
theorem rngA_length : ∀ (n : Nat) (lo : Int), (rngA lo n).length = n
  | 0, _ => rfl
  | n + 1, lo => by rw [rngA, List.length_cons, rngA_length n]
theorem rngA_get : ∀ (n : Nat) (lo : Int) (i : Nat) {x : AV}, (rngA lo n)[i]? = some x → x = .D (.int (lo + i))
  | 0, _, _, _, h => by simp [rngA] at h
  | n + 1, lo, 0, _, h => by simp [rngA] at h; rw [← h]; simp
  | n + 1, lo, i + 1, _, h => by
    rw [rngA, List.getElem?_cons_succ] at h
    rw [rngA_get n (lo + 1) i h]
    congr 2
    omega
theorem itOk_rng {K : PySem.W.Frag} {H0 : Hp} {lo : Int} {n : Nat} : ItOk K H0 (Itr lo n) (rngA lo n) (fun _ => True) := by
  refine ⟨fun i H μ S c k hi => ?_, fun i H μ v H' x S c k e y => ?_, fun H μ S c k => ?_⟩
  · show i < n
    rw [rngA_length] at hi; exact hi
  · obtain ⟨rfl, rfl⟩ := y
    rw [rngA_get n lo i e]
    exact ⟨Kp.refl, c, ra_int⟩
  · show n ≤ _
    rw [rngA_length]; exact Nat.le_refl _
def jRng1 (t : AA) : AI := fun τ μ R => t τ μ fun xs μ1 => match xs with
  | [.D (.int j)] => -(2 ^ 62) ≤ j ∧ j < 2 ^ 62 ∧ R (rngA 0 j.toNat) (fun _ => True) μ1
  | _ => False
def jRng2 (t : AA) : AI := fun τ μ R => t τ μ fun xs μ1 => match xs with
  | [.D (.int i), .D (.int j)] => (-(2 ^ 62) ≤ i ∧ i < 2 ^ 62 ∧ -(2 ^ 62) ≤ j ∧ j < 2 ^ 62) ∧ R (rngA i (j - i).toNat) (fun _ => True) μ1
  | _ => False
theorem vi_range1 {t : AA} {p : Pos} (hg : Gl X "range") (hm : X.mg "range" = none) (ha : VA X [a] t) (hs : starEach [a] X.env = [(false, eval a X.env)] := by rfl) : VI X tg (.Call (.Name "range" p) [a] [] pos) (jRng1 t) :=
  (pi_range1 hg hm ha hs).imp fun σ H Q ⟨τ, μ, R, hs, hc, h, hq⟩ => ⟨τ, μ, _, hs, hc, h, fun xs μ1 vs H1 S1 c1 rs hl hx => by
    split at hx
    · cases rs with
      | cons r1 r2 =>
        cases r2
        cases RelA.int r1
        exact ⟨_, rfl, hx.1, hx.2.1, hq _ _ _ _ _ S1 c1 itOk_rng hx.2.2⟩
    · exact hx.elim⟩
theorem vi_range2 {t : AA} {p : Pos} (hg : Gl X "range") (hm : X.mg "range" = none) (ha : VA X [a, b] t) (hs : starEach [a, b] X.env = [(false, eval a X.env), (false, eval b X.env)] := by rfl) (hs2 : starEach [b] X.env = [(false, eval b X.env)] := by rfl) : VI X tg (.Call (.Name "range" p) [a, b] [] pos) (jRng2 t) :=
  (pi_range2 hg hm ha hs (hs2 := hs2)).imp fun σ H Q ⟨τ, μ, R, hs, hc, h, hq⟩ => ⟨τ, μ, _, hs, hc, h, fun xs μ1 vs H1 S1 c1 rs hl hx => by
    split at hx
    · cases rs with
      | cons r1 r2 =>
        cases r2 with
        | cons r2 r3 =>
          cases r3
          cases RelA.int r1; cases RelA.int r2
          exact ⟨_, _, rfl, hx.1, hq _ _ _ _ _ S1 c1 itOk_rng hx.2⟩
    · exact hx.elim⟩
/-! ### for -/
def fl (g : AG) (tb : AS) (k : ASt → M → Prop) (r : AV → M → Prop) (kp : M → Prop) : List AV → ASt → M → Prop
  | [] => fun τ μ => kp μ ∧ k τ μ
  | x :: xs => fun τ μ => kp μ ∧ g x τ μ fun τ2 μ2 => tb (fl g tb k r kp xs) r k (fl g tb k r kp xs) τ2 μ2
def vFor (wi : AI) (g : AG) (tb : AS) : AS := fun k r _ _ τ μ => wi τ μ fun xs kp μ1 => fl g tb k r kp xs τ μ1
theorem fl_kp {g : AG} {tb : AS} {k : ASt → M → Prop} {r : AV → M → Prop} {kp : M → Prop} {xs : List AV} {τ : ASt} {μ : M} (h : fl g tb k r kp xs τ μ) : kp μ := by
  cases xs with
  | nil => exact h.1
  | cons x xs => exact h.1
theorem vs_for {iter : Expr} {body : List Stmt} {wi : AI} {g : AG} {tb : AS} (hp : PassesOwn (model X.prog X.w) X.A X.env X.xe) (hcm : X.calm = true) (hi : VI X tg iter wi) (hg : VG X tg g) (hb : VSs X body tb) (hfs : ∀ x, foldedSetIterable iter X.env x = pure x := by intro _; rfl) :
    VS X (.For tg iter body [] pos) (vFor wi g tb) := (ps_for hp hcm hi hg hb hfs).imp fun D σ H ⟨τ, μ, nk, nr, nb, nc, hs, hc, h, hq⟩ => by
  refine ⟨τ, μ, _, hs, hc, h, fun xs kp μ0 J H0 S0 c0 it h0 => ?_⟩
  refine for_of xs.length (fun i σ1 H1 => ∃ τ1 μ1, Kp H0 H1 ∧ StA X.K H1 τ1 σ1 ∧ Cn X.K μ1 H1 ∧ fl g tb nk nr kp (xs.drop i) τ1 μ1) ⟨τ, μ0, Kp.refl, hs.kp S0, c0, h0⟩ ?_ ?_ ?_
  · rintro i σ1 H1 hi ⟨τ1, μ1, S1, hs1, hc1, h1⟩
    exact it.go i H1 μ1 S1 hc1 (fl_kp h1) hi
  · rintro σ1 H1 ⟨τ1, μ1, S1, hs1, hc1, h1⟩
    rw [List.drop_length] at h1
    exact ⟨it.stop H1 μ1 S1 hc1 h1.1, hq.nx _ _ _ _ (S0.trans S1) hs1 hc1 h1.2⟩
  · rintro i v σ1 H1 H2 hi ⟨τ1, μ1, S1, hs1, hc1, h1⟩ y
    rw [List.drop_eq_getElem_cons hi] at h1
    obtain ⟨hk, h1⟩ := h1
    obtain ⟨S2, c2, rx⟩ := it.yld i H1 μ1 v H2 _ S1 hc1 hk (List.getElem?_eq_getElem hi) y
    refine ⟨_, τ1, μ1, _, rx, hs1.kp S2, c2, h1, fun τ3 μ3 σ3 H3 S3 hs3 hc3 h3 => ⟨τ3, μ3, _, _, _, _, hs3, hc3, h3, ?_⟩⟩
    have S : Kp H0 H3 := S1.trans (S2.trans S3)
    exact ⟨fun τ' μ' σ' H' S' hs' hc' h' => ⟨τ', μ', S.trans S', hs', hc', h'⟩, hq.rt.kp (S0.trans S), hq.nx.kp (S0.trans S), fun τ' μ' σ' H' S' hs' hc' h' => ⟨τ', μ', S.trans S', hs', hc', h'⟩⟩
/-! ### comprehensions -/
def VIfs (X : Cx) (ifs : List Expr) (t : AT) : Prop := PIfs X ifs (cT X.K t)
def vYes : AT := fun _ μ R => R true μ
theorem vifs_nil : VIfs X [] vYes := fun pins s σ H Q I ⟨τ, μ, R, hs, hc, h, hq⟩ => pifs_nil pins s σ H Q I (hq _ _ _ Kp.refl hc h)
theorem vifs_one {t : AT} (h : VT X a t) : VIfs X [a] t := pifs_one h
/-- the list grows at p, element by element -/
def cl (p : Addr) (g : AG) (tst : AT) (te : AE) (kp : M → Prop) (R : M → Prop) : List AV → List AV → ASt → M → Prop
  | [] => fun _ _ μ => kp μ ∧ R μ
  | x :: xs => fun acc τ μ => kp μ ∧ g x τ μ fun τ1 μ1 => tst τ1 μ1 fun k μ2 =>
    brP k (te τ1 μ2 fun v μ3 => μ3 p = some (.lst acc) ∧ acc.length < sizeLine ∧ cl p g tst te kp R xs (acc ++ [v]) τ1 (updM μ3 p (.lst (acc ++ [v])))) (cl p g tst te kp R xs acc τ1 μ2)
def vComp (mp : List (Option Nat)) (wi : AI) (g : AG) (tst : AT) (te : AE) : AE := fun τ μ R => wi τ μ fun xs kp μ1 => ∀ p, μ1 p = none → cl p g tst te kp (fun μ2 => R (.R p) μ2) xs [] (subA mp τ) (updM μ1 p (.lst []))
theorem cl_kp {p : Addr} {g : AG} {tst : AT} {te : AE} {kp : M → Prop} {R : M → Prop} {xs acc : List AV} {τ : ASt} {μ : M} (h : cl p g tst te kp R xs acc τ μ) : kp μ := by
  cases xs with
  | nil => exact h.1
  | cons x xs => exact h.1
theorem vComp_imp {K : PySem.W.Frag} {mp : List (Option Nat)} {wi : AI} {g : AG} {tst : AT} {te : AE} {σ : St} {H : Hp} {Q : VK} (h : cE K (vComp mp wi g tst te) σ H Q) : tComp mp (cI K wi) (cG K g) (cT K tst) (cE K te) σ H Q := by
  obtain ⟨τ, μ, R, hs, hc, h, hq⟩ := h
  refine ⟨τ, μ, _, hs, hc, h, fun xs kp μ0 J H0 S0 c0 it h0 => ?_⟩
  intro p hp
  have h0 := h0 p (c0.none hp)
  have c0' : Cn K (updM μ0 p (.lst [])) (upd H0 p (.lst [])) := c0.new hp (rm_lst (.nil))
  have S0' : Kp H0 (upd H0 p (.lst [])) := Kp.new hp _
  refine comp_of xs.length (fun i acc σ1 H1 => ∃ τ1 μ1 as, Kp H0 H1 ∧ StA K H1 τ1 σ1 ∧ Cn K μ1 H1 ∧ RelAs K H1 as acc ∧ cl p g tst te kp (fun μ2 => R (.R p) μ2) (xs.drop i) as τ1 μ1) ⟨_, _, [], S0', ((hs.kp S0).kp S0').sub mp, c0', .nil, h0⟩ ?_ ?_ ?_
  · rintro i acc σ1 H1 hi ⟨τ1, μ1, as, S1, hs1, hc1, ra, h1⟩
    exact it.go i H1 μ1 S1 hc1 (cl_kp h1) hi
  · rintro acc σ1 H1 ⟨τ1, μ1, as, S1, hs1, hc1, ra, h1⟩
    rw [List.drop_length] at h1
    exact ⟨it.stop H1 μ1 S1 hc1 h1.1, hq _ _ _ _ (S0.trans S1) hc1 ra_ref h1.2⟩
  · rintro i v acc σ1 H1 H2 hi ⟨τ1, μ1, as, S1, hs1, hc1, ra, h1⟩ y
    rw [List.drop_eq_getElem_cons hi] at h1
    obtain ⟨hk, h1⟩ := h1
    obtain ⟨S2, c2, rx⟩ := it.yld i H1 μ1 v H2 _ S1 hc1 hk (List.getElem?_eq_getElem hi) y
    refine ⟨_, τ1, μ1, _, rx, hs1.kp S2, c2, h1, fun τ3 μ3 σ3 H3 S3 hs3 hc3 h3 => ⟨τ3, μ3, _, hs3, hc3, h3, fun k μ4 H4 S4 c4 h4 => ?_⟩⟩
    rcases br_e h4 with ⟨rfl, h4'⟩ | ⟨rfl, h4'⟩
    · rw [if_pos rfl]
      refine ⟨τ3, μ4, _, hs3.kp S4, c4, h4', fun w μ5 u H5 S5 c5 rw h5 => ?_⟩
      obtain ⟨e5, hl, h5⟩ := h5
      obtain ⟨o, ho, vs, rfl, rs⟩ := c5 _ _ e5
      have S : Kp H1 H5 := S2.trans (S3.trans (S4.trans S5))
      exact ⟨vs, ho, by rw [← rs.length]; exact hl, τ3, _, _, (S1.trans S).trans (Kp.put ho trivial _), (hs3.kp (S4.trans S5)).kp (Kp.put ho trivial _), c5.put ho trivial (rm_lst (rs.append (.cons rw .nil))), (rs.append (.cons rw .nil)).kp (Kp.put ho trivial _), h5⟩
    · rw [if_neg Bool.false_ne_true]
      have S : Kp H1 H4 := S2.trans (S3.trans S4)
      exact ⟨τ3, μ4, as, S1.trans S, hs3.kp S4, c4, ra.kp S, h4'⟩
variable {N' : List Str} {mp : List (Option Nat)} {elt iter : Expr} {ifs : List Expr} {scope : Scope} {wi : AI} {g : AG} {tst : AT} {te : AE}
theorem ve_comp (hc : X.calm = true) (hi : VI X tg iter wi) (hg : ∀ C s H fp, VG (cxComp X N' scope C s H fp) tg g) (ht : ∀ C s H fp, VIfs (cxComp X N' scope C s H fp) ifs tst) (he : ∀ C s H fp, VE (cxComp X N' scope C s H fp) elt te)
    (ok : CompOk X.N X.env.scope.names scope.names N' mp) (hk : scope.kind = .function := by rfl) (hs : ∀ x, foldedSetIterable iter X.env x = pure x := by intro _; rfl) :
    VE X (.ListComp elt [⟨tg, iter, ifs, 0⟩] scope pos) (vComp mp wi g tst te) := (pe_comp (g := cG X.K g) (tst := cT X.K tst) (te := cE X.K te) hc hi (fun C s H fp => hg C s H fp) (fun C s H fp => ht C s H fp) (fun C s H fp => he C s H fp) ok hk hs).imp fun _ _ _ h => vComp_imp h
theorem vs_setC {i : Nat} {y : Str} {py spos : Pos} (hc : X.calm = true) (hN : X.N.Nodup) (hi' : X.N[i]? = some y) (hy : X.env.scope.names.lookup y = some .local)
    (hi : VI X tg iter wi) (hg : ∀ C s H fp, VG (cxComp X N' scope C s H fp) tg g) (ht : ∀ C s H fp, VIfs (cxComp X N' scope C s H fp) ifs tst) (he : ∀ C s H fp, VE (cxComp X N' scope C s H fp) elt te)
    (ok : CompOk X.N X.env.scope.names scope.names N' mp) (hsw : swapsWith (.ListComp elt [⟨tg, iter, ifs, 0⟩] scope pos) (some (.Name y py)) spos.line X.env = pure true := by rfl)
    (hk : scope.kind = .function := by rfl) (hs : ∀ x, foldedSetIterable iter X.env x = pure x := by intro _; rfl) :
    VS X (.Assign [.Name y py] (.ListComp elt [⟨tg, iter, ifs, 0⟩] scope pos) spos) (vAsg (vComp mp wi g tst te) (wName i)) := (ps_setC (g := cG X.K g) (tst := cT X.K tst) (te := cE X.K te) hc hN hi' hy hi (fun C s H fp => hg C s H fp) (fun C s H fp => ht C s H fp) (fun C s H fp => he C s H fp) ok hsw hk hs).imp fun D σ H ⟨τ, μ, nk, nr, nb, nc, hs, hc, h, hq⟩ =>
  vComp_imp (K := X.K) ⟨τ, μ, _, hs, hc, h, fun x μ1 v H1 S1 c1 rx hx => hq.nx _ _ _ _ S1 ((hs.kp S1).set rx i) c1 hx⟩
end
/-! ### a def -/
section
variable {P : Program} {w : World} {K : PySem.W.Frag} {mg : Str → Option Value} {base : Heap}
/-- the end of a def: what is known may be less -/
def aNx (R : AV → M → Prop) : ASt → M → Prop := fun _ μ' => ∃ ν, Sub ν μ' ∧ R (.D .none) ν
def aRt (R : AV → M → Prop) : AV → M → Prop := fun v μ' => ∃ ν, Sub ν μ' ∧ R v ν
def aNo : ASt → M → Prop := fun _ _ => False
theorem Fun.vok {x qual : Str} {st : Stmt} {f : Addr} {fd : FuncData} {N ps : List Str} {k : Nat} {sp : ASp} (F : Fun K x qual st f fd) (S : FnScope N ps (defScope st))
    (hbody : ∀ (cdv : Value) (A : Around) (outer : List Env) (s : Shared) (H : Hp) (E : XK), Room k (A.deeper (envOfC qual (defScope st) s.heap.objs.size f cdv)) →
      ∃ t, VSs (cxOf CX0 P w K mg base N qual (defScope st) f cdv A outer s H E).nox (defBody st) t ∧ ∀ xs μ R, xs.length = ps.length → sp xs μ R → t (aNx R) (aRt R) aNo aNo (startA N xs) μ) : FnOk P w K mg base CX0 (k + 1) f fd ps (cSp K ps.length sp) := by
  refine F.ok S (fun vs H Q E h => ?_) (fun cdv A outer s H vs Q E hr h => ?_)
  · obtain ⟨xs, μ, R, hl, rs, _⟩ := h
    rw [← rs.length]; exact hl
  · obtain ⟨xs, μ, R, hl, rs, hc, hsp, hq⟩ := h
    obtain ⟨t, ht, h⟩ := hbody cdv A outer s H E hr
    refine ⟨_, ht, startA N xs, μ, _, _, _, _, StA.begin rs, hc, h xs μ R hl hsp, ⟨fun τ μ' σ H' S' _ c ⟨ν, hν, r⟩ => ?_, fun v μ' u H' S' c rv ⟨ν, hν, r⟩ => ?_, fun _ _ _ _ _ _ _ h => h.elim, fun _ _ _ _ _ _ _ h => h.elim⟩⟩
    · exact hq _ _ _ _ S' (c.sub hν) ra_non r
    · exact hq _ _ _ _ S' (c.sub hν) rv r
end
end L2

namespace L2
open PySem PySem.Spec PyProof.Rows
section
variable {X : Cx} {a b c : Expr} {ta tb tc : AE} {pos : Pos} {tg : Expr}
/-! ### through any sequence -/
def jSeq (t : AE) : AI := fun τ μ R => t τ μ fun x μ1 => opt (items μ1 x) fun xs => R xs (fun μ => items μ x = some xs) μ1
theorem vi_seq (hl : VE X a ta) : VI X tg a (jSeq ta) := by
  intro pins s σ H R I ⟨τ, μ, R', hs, hc, h, hq⟩
  refine thn (hl pins s σ H (fun v H1 => ∃ x μ1 xs, Kp H H1 ∧ Cn X.K μ1 H1 ∧ RelA X.K H1 x v ∧ items μ1 x = some xs ∧ R' xs (fun μ => items μ x = some xs) μ1) I ⟨τ, μ, _, hs, hc, h, fun x μ1 v H1 S1 c1 rx hx => ?_⟩) fun v s1 ⟨xv, H1, I1, r1, x, μ1, xs, S1, c1, rx, e, hx⟩ => ?_
  · obtain ⟨xs, e, hx⟩ := opt_e hx
    exact ⟨x, μ1, xs, S1, c1, rx, e, hx⟩
  obtain ⟨p, vs, rfl, hp, rs⟩ := items_kind c1 rx e
  cases r1
  rcases hp with ⟨k, hp⟩ | ⟨k, hp⟩
  · obtain ⟨its, rv, pl, hz⟩ := I1.list hp
    refine wpAny_pyIter_list pl.isList ?_
    refine ⟨s1.heap.objs.size, [s1.heap.objs.size], _, _, H1, rfl, I1.kept (t' := s1.toks) fun b o e => Heap.get?_push_of_some _ e, turn_list p _, ⟨_, Heap.get?_push_size _ rfl, rfl, rfl⟩, fun b hb => ?_, hq _ _ _ _ _ S1 c1 (itOk_list fun H μ S c k2 => ?_) hx⟩
    · have e : b = s1.heap.objs.size := by simpa using hb
      subst e
      exact I1.fpOk (Nat.le_refl _) (I1.hok.fresh (Nat.le_refl _))
    · obtain ⟨q, ws, e, hw, rw⟩ := items_kind c (rx.kp S) k2
      cases e
      rcases hw with ⟨_, hw⟩ | ⟨k3, _⟩
      · exact ⟨ws, hw, rw⟩
      · rw [k] at k3; cases k3
  · obtain ⟨its, rv, pl, hz⟩ := I1.tuple hp
    refine wpAny_pyIter_tuple (show s1.heap.IsTuple p its.toArray from pl) ?_
    refine ⟨s1.heap.objs.size, [s1.heap.objs.size], _, _, H1, rfl, I1.kept (t' := s1.toks) fun b o e => Heap.get?_push_of_some _ e, turn_tuple p _, ⟨_, Heap.get?_push_size _ rfl, rfl, rfl⟩, fun b hb => ?_, hq _ _ _ _ _ S1 c1 (itOk_tup fun H μ S c k2 => ?_) hx⟩
    · have e : b = s1.heap.objs.size := by simpa using hb
      subst e
      exact I1.fpOk (Nat.le_refl _) (I1.hok.fresh (Nat.le_refl _))
    · obtain ⟨q, ws, e, hw, rw⟩ := items_kind c (rx.kp S) k2
      cases e
      rcases hw with ⟨k3, _⟩ | ⟨_, hw⟩
      · rw [k] at k3; cases k3
      · exact ⟨ws, hw, rw⟩
/-- -a -/
def vNeg (t : AE) : AE := fun τ μ R => t τ μ fun x μ1 => match x with
  | .D (.int i) => R (.D (.int (-i))) μ1
  | _ => False
theorem ve_neg (h : VE X a ta) : VE X (.UnaryOp .USub a pos) (vNeg ta) := (pe_un un_neg h).imp fun σ H Q ⟨τ, μ, R, hs, hc, h, hq⟩ => ⟨τ, μ, _, hs, hc, h, fun x μ1 v H1 S1 c1 rx hx => by
  split at hx
  · cases RelA.int rx
    exact ⟨_, rfl, hq _ _ _ _ S1 c1 ra_int hx⟩
  · exact hx.elim⟩
end
/-! ### loops by what holds between two turns -/
section
variable {c : AT} {g : AG} {tb : AS} {k : ASt → M → Prop} {r : AV → M → Prop} {bb cc : ASt → M → Prop} {tst : AT} {te : AE}
theorem while_i {τ : ASt} {μ : M} (I : Nat → ASt → M → Prop) (m : Nat) (h0 : I m τ μ)
    (step : ∀ m τ μ (W : ASt → M → Prop), I m τ μ → (∀ m' τ' μ', m' < m → I m' τ' μ' → W τ' μ') → c τ μ fun x μ1 => brP x (tb W r k W τ μ1) (k τ μ1)) : ∃ n, wl c tb k r n τ μ := by
  have key : ∀ n m τ μ, m < n → I m τ μ → wl c tb k r n τ μ := by
    intro n
    induction n with
    | zero => intro m τ μ h _; omega
    | succ n ih => intro m τ μ h hI; exact step m τ μ (wl c tb k r n) hI fun m' τ' μ' hm hI' => ih m' τ' μ' (by omega) hI'
  exact ⟨m + 1, key (m + 1) m τ μ (Nat.lt_succ_self _) h0⟩
theorem seq_i {t u : AS} {τ : ASt} {μ : M} (J : ASt → M → Prop) (h1 : ∀ W : ASt → M → Prop, (∀ τ' μ', J τ' μ' → W τ' μ') → t W r bb cc τ μ) (h2 : ∀ τ' μ', J τ' μ' → u k r bb cc τ' μ') : vSeq t u k r bb cc τ μ := h1 (u k r bb cc) h2
theorem seq_d {t u : AS} {τ : ASt} {μ : M} (h : t (u k r bb cc) r bb cc τ μ) : vSeq t u k r bb cc τ μ := h
theorem asg_c {x : AV} {i : Nat} {τ : ASt} {μ : M} (h : k (τ.set i (some x)) μ) : vAsg (vC x) (wName i) k r bb cc τ μ := h
theorem asg_v {t : AE} {i : Nat} {τ : ASt} {μ : M} (h : t τ μ fun x μ1 => k (τ.set i (some x)) μ1) : vAsg t (wName i) k r bb cc τ μ := h
theorem for_i {kp : M → Prop} {xs : List AV} {τ : ASt} {μ : M} (I : Nat → ASt → M → Prop) (h0 : I 0 τ μ) (hk : ∀ i τ μ, I i τ μ → kp μ)
    (step : ∀ i x τ μ (W : ASt → M → Prop), xs[i]? = some x → I i τ μ → (∀ τ' μ', I (i + 1) τ' μ' → W τ' μ') → g x τ μ fun τ2 μ2 => tb W r k W τ2 μ2)
    (done : ∀ τ μ, I xs.length τ μ → k τ μ) : fl g tb k r kp xs τ μ := by
  have key : ∀ n i τ μ, n + i = xs.length → I i τ μ → fl g tb k r kp (xs.drop i) τ μ := by
    intro n
    induction n with
    | zero =>
      intro i τ μ h hI
      have e : i = xs.length := by omega
      subst e
      rw [List.drop_length]
      exact ⟨hk _ _ _ hI, done τ μ hI⟩
    | succ n ih =>
      intro i τ μ h hI
      have hi : i < xs.length := by omega
      rw [List.drop_eq_getElem_cons hi]
      exact ⟨hk _ _ _ hI, step i _ τ μ _ (List.getElem?_eq_getElem hi) hI fun τ' μ' q => ih (i + 1) τ' μ' (by omega) q⟩
  exact key xs.length 0 τ μ rfl h0
theorem comp_i {p : Addr} {kp : M → Prop} {R : M → Prop} {xs : List AV} {τ : ASt} {μ : M} (I : Nat → List AV → ASt → M → Prop) (h0 : I 0 [] τ μ) (hk : ∀ i acc τ μ, I i acc τ μ → kp μ)
    (step : ∀ i x acc τ μ (W : List AV → ASt → M → Prop), xs[i]? = some x → I i acc τ μ → (∀ acc' τ' μ', I (i + 1) acc' τ' μ' → W acc' τ' μ') → g x τ μ fun τ1 μ1 => tst τ1 μ1 fun k μ2 =>
      brP k (te τ1 μ2 fun v μ3 => μ3 p = some (.lst acc) ∧ acc.length < sizeLine ∧ W (acc ++ [v]) τ1 (updM μ3 p (.lst (acc ++ [v])))) (W acc τ1 μ2))
    (done : ∀ acc τ μ, I xs.length acc τ μ → R μ) : cl p g tst te kp R xs [] τ μ := by
  have key : ∀ n i acc τ μ, n + i = xs.length → I i acc τ μ → cl p g tst te kp R (xs.drop i) acc τ μ := by
    intro n
    induction n with
    | zero =>
      intro i acc τ μ h hI
      have e : i = xs.length := by omega
      subst e
      rw [List.drop_length]
      exact ⟨hk _ _ _ _ hI, done acc τ μ hI⟩
    | succ n ih =>
      intro i acc τ μ h hI
      have hi : i < xs.length := by omega
      rw [List.drop_eq_getElem_cons hi]
      exact ⟨hk _ _ _ _ hI, step i _ acc τ μ (fun acc' τ' μ' => cl p g tst te kp R (xs.drop (i + 1)) acc' τ' μ') (List.getElem?_eq_getElem hi) hI fun acc' τ' μ' q => ih (i + 1) acc' τ' μ' (by omega) q⟩
  exact key xs.length 0 [] τ μ rfl h0
end
/-! ### texts that are held against one another -/
theorem eqOk_str {z : Str} (h : PyData.canLay0 (.str z) = true) : EqOk (.str z) := ⟨h, by simp [PyData.depth]⟩
theorem eqOk_none : EqOk .none := ⟨rfl, by simp [PyData.depth]⟩
theorem eqOk_int (i : Int) : EqOk (.int i) := ⟨rfl, by simp [PyData.depth]⟩
theorem eqOk_bool (i : Bool) : EqOk (.bool i) := ⟨rfl, by simp [PyData.depth]⟩
theorem sEq {a b : Str} {T F : Prop} (h : PyData.eqv (.str a) (.str b) = true) (q : T) (ha : PyData.canLay0 (.str a) = true := by decide +kernel) (hb : PyData.canLay0 (.str b) = true := by decide +kernel) : EqOk (.str a) ∧ EqOk (.str b) ∧ brP (PyData.eqv (.str a) (.str b)) T F := ⟨eqOk_str ha, eqOk_str hb, brT h q⟩
theorem sNe {a b : Str} {T F : Prop} (h : PyData.eqv (.str a) (.str b) = false) (q : F) (ha : PyData.canLay0 (.str a) = true := by decide +kernel) (hb : PyData.canLay0 (.str b) = true := by decide +kernel) : EqOk (.str a) ∧ EqOk (.str b) ∧ brP (PyData.eqv (.str a) (.str b)) T F := ⟨eqOk_str ha, eqOk_str hb, brF h q⟩
theorem eqv_int (i j : Int) : PyData.eqv (.int i) (.int j) = decide (i = j) := by
  rw [PyData.eqv]; exact Bool.eq_iff_iff.mpr (by simp)
theorem eqv_str (i j : Str) : PyData.eqv (.str i) (.str j) = decide (i = j) := by
  rw [PyData.eqv]; exact Bool.eq_iff_iff.mpr (by simp)
theorem ieq {i j : Int} {T F : Prop} (h1 : i = j → T) (h2 : i ≠ j → F) : EqOk (.int i) ∧ EqOk (.int j) ∧ brP (PyData.eqv (.int i) (.int j)) T F := by
  refine ⟨eqOk_int _, eqOk_int _, ?_⟩
  rw [eqv_int]
  exact dif h1 h2
theorem items_R {μ : M} {p : Addr} {xs : List AV} (h : μ p = some (.lst xs)) : items μ (.R p) = some xs := by
  show (match μ p with | some (.lst xs) => some xs | _ => none) = _
  rw [h]
theorem cut1 {d : PyData} {ds : List PyData} : cutD (d :: ds) (some 1) none = ds := by
  unfold cutD
  have e1 : HT.sIx (d :: ds).length 0 (some 1) = 1 := by
    show min (1 : Int).toNat (d :: ds).length = 1
    simp
  rw [e1, HT.sIx_none, List.drop_succ_cons, List.drop_zero, List.take_of_length_le (by simp)]
end L2

namespace K53
open PySem L2
def top (i : Nat) : Stmt := PySem.Challenge.pw_pileduel_k53_runs_of_programs.main.body.getD i (.Pass ⟨0, 0, 0, 0⟩)
abbrev sWo : Stmt := top 2
abbrev sGo : Stmt := top 3
abbrev sRp : Stmt := top 4
abbrev sWe : Stmt := top 5
abbrev sPo : Stmt := top 7
abbrev sDr : Stmt := top 8
abbrev sPr : Stmt := top 9
abbrev sRu : Stmt := top 10
abbrev sRi : Stmt := top 11
abbrev sLaw : Stmt := top 12

section
variable {P : Program} {w : World} {K : PySem.W.Frag} {mg : Str → Option Value} {base : Heap} {f : Addr} {fd : FuncData}
/-! ### programs -/
inductive Stp | ask (a b : Nat) | chance (a b : Nat) | set (v : Nat) | iff (a b : Nat) | call (k : Nat) | back | mark
abbrev Pt := Nat × Nat
abbrev Prg := List (List Stp)
def Stp.word : Stp → Str
  | .ask _ _ => "ask" | .chance _ _ => "chance" | .set _ => "set" | .iff _ _ => "if" | .call _ => "call" | .back => "back" | .mark => "mark"
def Stp.args : Stp → List Nat
  | .ask a b => [a, b] | .chance a b => [a, b] | .set v => [v] | .iff a b => [a, b] | .call k => [k] | .back => [] | .mark => []
def natD (n : Nat) : PyData := .int n
def Stp.D (s : Stp) : PyData := .tuple (.str s.word :: s.args.map natD)
def prcD (p : List Stp) : PyData := .tuple (p.map Stp.D)
def prgD (sw : Nat) (ps : Prg) : PyData := .tuple [natD sw, .tuple (ps.map prcD)]
def ptD (q : Pt) : PyData := .tuple [natD q.1, natD q.2]
def pileD (l : List Pt) : PyData := .tuple (l.map ptD)
def stepAt (ps : Prg) (q : Pt) : Option Stp := match ps[q.1]? with
  | some p => p[q.2]?
  | none => none
def wordD (ps : Prg) (q : Pt) : PyData := match stepAt ps q with
  | some s => .str s.word
  | none => .none
def PtOk (ps : Prg) (q : Pt) : Prop := ∃ p, ps[q.1]? = some p ∧ q.2 ≤ p.length
def strip (ps : Prg) : List Pt → List Pt
  | [] => []
  | q :: r => match stepAt ps q with
    | some _ => q :: r
    | none => strip ps r
theorem strip_ok {ps : Prg} : ∀ {l : List Pt}, (∀ q ∈ l, PtOk ps q) → ∀ q ∈ strip ps l, PtOk ps q
  | [], h => h
  | q :: r, h => by
    unfold strip
    split
    · exact h
    · exact strip_ok fun x hx => h x (List.mem_cons_of_mem _ hx)
theorem strip_len {ps : Prg} : ∀ (l : List Pt), (strip ps l).length ≤ l.length
  | [] => Nat.le_refl _
  | q :: r => by
    unfold strip
    split
    · exact Nat.le_refl _
    · exact Nat.le_succ_of_le (strip_len r)
theorem strip_head {ps : Prg} : ∀ {l : List Pt} {q : Pt} {r : List Pt}, strip ps l = q :: r → ∃ s, stepAt ps q = some s
  | [], _, _, h => by simp [strip] at h
  | x :: l, q, r, h => by
    unfold strip at h
    split at h
    · rename_i s e
      cases h; exact ⟨s, e⟩
    · exact strip_head h
theorem step_of {ps : Prg} {q : Pt} {s : Stp} (h : stepAt ps q = some s) : ∃ p, ps[q.1]? = some p ∧ p[q.2]? = some s := by
  unfold stepAt at h
  split at h
  · rename_i p e; exact ⟨p, e, h⟩
  · cases h
/-- where a point goes on -/
def goL (ps : Prg) (a : Nat) (q : Pt) : List AV := match stepAt ps q with
  | none => [.D (.tuple [natD a, .tuple []])]
  | some .back => [.D (.tuple [natD a, .tuple []])]
  | some (.call k) => [.D (.tuple [natD a, .tuple [ptD (k, 0), ptD (q.1, q.2 + 1)]])]
  | some (.set v) => [.D (.tuple [natD v, .tuple [ptD (q.1, q.2 + 1)]])]
  | some (.iff x y) => [.D (.tuple [natD a, .tuple [ptD (q.1, if a = 1 then x else y)]])]
  | some (.ask x y) => [.D (.tuple [natD a, .tuple [ptD (q.1, x)]]), .D (.tuple [natD a, .tuple [ptD (q.1, y)]])]
  | some (.chance x y) => [.D (.tuple [natD a, .tuple [ptD (q.1, x)]]), .D (.tuple [natD a, .tuple [ptD (q.1, y)]])]
  | some .mark => []
theorem wOk (s : Stp) : PyData.canLay0 (.str s.word) = true := by cases s <;> (show PyData.canLay0 (.str (Str.ofString _)) = true) <;> decide +kernel
theorem wEq {s : Stp} {b : Str} {T F : Prop} (h : PyData.eqv (.str s.word) (.str b) = true) (q : T) (hb : PyData.canLay0 (.str b) = true := by decide +kernel) : EqOk (.str s.word) ∧ EqOk (.str b) ∧ brP (PyData.eqv (.str s.word) (.str b)) T F := ⟨eqOk_str (wOk s), eqOk_str hb, brT h q⟩
theorem wNe {s : Stp} {b : Str} {T F : Prop} (h : PyData.eqv (.str s.word) (.str b) = false) (q : F) (hb : PyData.canLay0 (.str b) = true := by decide +kernel) : EqOk (.str s.word) ∧ EqOk (.str b) ∧ brP (PyData.eqv (.str s.word) (.str b)) T F := ⟨eqOk_str (wOk s), eqOk_str hb, brF h q⟩
theorem e_ask_ask : PyData.eqv (.str "ask") (.str "ask") = true := by decide +kernel
theorem n_ask_chance : PyData.eqv (.str "ask") (.str "chance") = false := by decide +kernel
theorem n_ask_set : PyData.eqv (.str "ask") (.str "set") = false := by decide +kernel
theorem n_ask_if : PyData.eqv (.str "ask") (.str "if") = false := by decide +kernel
theorem n_ask_call : PyData.eqv (.str "ask") (.str "call") = false := by decide +kernel
theorem n_ask_back : PyData.eqv (.str "ask") (.str "back") = false := by decide +kernel
theorem n_ask_mark : PyData.eqv (.str "ask") (.str "mark") = false := by decide +kernel
theorem c_ask : ([PyData.str "ask", .str "chance"].any fun e => PyData.eqv e (.str "ask")) = true := by decide +kernel
theorem n_chance_ask : PyData.eqv (.str "chance") (.str "ask") = false := by decide +kernel
theorem e_chance_chance : PyData.eqv (.str "chance") (.str "chance") = true := by decide +kernel
theorem n_chance_set : PyData.eqv (.str "chance") (.str "set") = false := by decide +kernel
theorem n_chance_if : PyData.eqv (.str "chance") (.str "if") = false := by decide +kernel
theorem n_chance_call : PyData.eqv (.str "chance") (.str "call") = false := by decide +kernel
theorem n_chance_back : PyData.eqv (.str "chance") (.str "back") = false := by decide +kernel
theorem n_chance_mark : PyData.eqv (.str "chance") (.str "mark") = false := by decide +kernel
theorem c_chance : ([PyData.str "ask", .str "chance"].any fun e => PyData.eqv e (.str "chance")) = true := by decide +kernel
theorem n_set_ask : PyData.eqv (.str "set") (.str "ask") = false := by decide +kernel
theorem n_set_chance : PyData.eqv (.str "set") (.str "chance") = false := by decide +kernel
theorem e_set_set : PyData.eqv (.str "set") (.str "set") = true := by decide +kernel
theorem n_set_if : PyData.eqv (.str "set") (.str "if") = false := by decide +kernel
theorem n_set_call : PyData.eqv (.str "set") (.str "call") = false := by decide +kernel
theorem n_set_back : PyData.eqv (.str "set") (.str "back") = false := by decide +kernel
theorem n_set_mark : PyData.eqv (.str "set") (.str "mark") = false := by decide +kernel
theorem c_set : ([PyData.str "ask", .str "chance"].any fun e => PyData.eqv e (.str "set")) = false := by decide +kernel
theorem n_if_ask : PyData.eqv (.str "if") (.str "ask") = false := by decide +kernel
theorem n_if_chance : PyData.eqv (.str "if") (.str "chance") = false := by decide +kernel
theorem n_if_set : PyData.eqv (.str "if") (.str "set") = false := by decide +kernel
theorem e_if_if : PyData.eqv (.str "if") (.str "if") = true := by decide +kernel
theorem n_if_call : PyData.eqv (.str "if") (.str "call") = false := by decide +kernel
theorem n_if_back : PyData.eqv (.str "if") (.str "back") = false := by decide +kernel
theorem n_if_mark : PyData.eqv (.str "if") (.str "mark") = false := by decide +kernel
theorem c_if : ([PyData.str "ask", .str "chance"].any fun e => PyData.eqv e (.str "if")) = false := by decide +kernel
theorem n_call_ask : PyData.eqv (.str "call") (.str "ask") = false := by decide +kernel
theorem n_call_chance : PyData.eqv (.str "call") (.str "chance") = false := by decide +kernel
theorem n_call_set : PyData.eqv (.str "call") (.str "set") = false := by decide +kernel
theorem n_call_if : PyData.eqv (.str "call") (.str "if") = false := by decide +kernel
theorem e_call_call : PyData.eqv (.str "call") (.str "call") = true := by decide +kernel
theorem n_call_back : PyData.eqv (.str "call") (.str "back") = false := by decide +kernel
theorem n_call_mark : PyData.eqv (.str "call") (.str "mark") = false := by decide +kernel
theorem c_call : ([PyData.str "ask", .str "chance"].any fun e => PyData.eqv e (.str "call")) = false := by decide +kernel
theorem n_back_ask : PyData.eqv (.str "back") (.str "ask") = false := by decide +kernel
theorem n_back_chance : PyData.eqv (.str "back") (.str "chance") = false := by decide +kernel
theorem n_back_set : PyData.eqv (.str "back") (.str "set") = false := by decide +kernel
theorem n_back_if : PyData.eqv (.str "back") (.str "if") = false := by decide +kernel
theorem n_back_call : PyData.eqv (.str "back") (.str "call") = false := by decide +kernel
theorem e_back_back : PyData.eqv (.str "back") (.str "back") = true := by decide +kernel
theorem n_back_mark : PyData.eqv (.str "back") (.str "mark") = false := by decide +kernel
theorem c_back : ([PyData.str "ask", .str "chance"].any fun e => PyData.eqv e (.str "back")) = false := by decide +kernel
theorem n_mark_ask : PyData.eqv (.str "mark") (.str "ask") = false := by decide +kernel
theorem n_mark_chance : PyData.eqv (.str "mark") (.str "chance") = false := by decide +kernel
theorem n_mark_set : PyData.eqv (.str "mark") (.str "set") = false := by decide +kernel
theorem n_mark_if : PyData.eqv (.str "mark") (.str "if") = false := by decide +kernel
theorem n_mark_call : PyData.eqv (.str "mark") (.str "call") = false := by decide +kernel
theorem n_mark_back : PyData.eqv (.str "mark") (.str "back") = false := by decide +kernel
theorem e_mark_mark : PyData.eqv (.str "mark") (.str "mark") = true := by decide +kernel
theorem c_mark : ([PyData.str "ask", .str "chance"].any fun e => PyData.eqv e (.str "mark")) = false := by decide +kernel
abbrev nWo : List Str := ["program", "point", "procedure"]
theorem scWo : FnScope nWo ["program", "point"] (defScope sWo) := ⟨rfl, rfl, rfl, by decide +kernel, rfl, by decide +kernel, by decide +kernel⟩
def spWo : ASp := fun xs μ R => ∃ sw ps q, xs = [.D (prgD sw ps), .D (ptD q)] ∧ PtOk ps q ∧ R (.D (wordD ps q)) μ
theorem ok_wo {n : Nat} (F : Fun K "word_at" "word_at" sWo f fd) (m_len : mg "len" = none) : FnOk P w K mg base CX0 (n + 1) f fd ["program", "point"] (cSp K 2 spWo) := by
  refine F.vok scWo fun cdv A outer s H E hr => ⟨_, (vss_cons (vs_set (i := 2) scWo.nd rfl (Or.inl rfl) (ve_ix i_ix (ve_ix i_ix (vv 0) ve_int) (ve_ix i_ix (vv 1) ve_int)))
      (vss_one (vs_ret (ve_ifExp (vt_cmp o_lt (ve_ix i_ix (vv 1) ve_int) (ve_callB c_len rfl m_len PySem.boot_len (va_cons (vv 2) va_nil)) (nomark _)) (ve_ix i_ix (ve_ix i_ix (vv 2) (ve_ix i_ix (vv 1) ve_int)) ve_int) ve_non)))), ?_⟩
  rintro xs μ R _ ⟨sw, ps, q, rfl, ⟨p, hp, hi⟩, h⟩
  refine opt_i rfl (opt_i rfl (opt_i (atI_nat (by rw [List.getElem?_map, hp]; rfl)) ?_))
  refine opt_i rfl (dif (fun c => ?_) (fun c => ?_))
  · have hlt : q.2 < p.length := by simpa using c
    have e : stepAt ps q = some p[q.2] := by unfold stepAt; rw [hp]; exact List.getElem?_eq_getElem hlt
    unfold wordD at h
    rw [e] at h
    have i2 : atI (p.map Stp.D) (q.2 : Int) = some p[q.2].D := atI_nat (by rw [List.getElem?_map, List.getElem?_eq_getElem hlt]; rfl)
    exact opt_i rfl (opt_i i2 (opt_i (atI_nat (j := 0) rfl) ⟨μ, Sub.refl, h⟩))
  · have hlt : ¬ q.2 < p.length := by simpa using c
    have e : stepAt ps q = none := by unfold stepAt; rw [hp]; exact List.getElem?_eq_none_iff.mpr (by omega)
    unfold wordD at h
    rw [e] at h
    exact ⟨μ, Sub.refl, h⟩
abbrev nWe : List Str := ["program", "pile"]
theorem scWe : FnScope nWe ["program", "pile"] (defScope sWe) := ⟨rfl, rfl, rfl, by decide +kernel, rfl, by decide +kernel, by decide +kernel⟩
def spWe : ASp := fun xs μ R => ∃ sw ps l, xs = [.D (prgD sw ps), .D (pileD l)] ∧ (∀ q ∈ l, PtOk ps q) ∧ R (.D (pileD (strip ps l))) μ
end

section
variable {P : Program} {w : World} {K : PySem.W.Frag} {mg : Str → Option Value} {base : Heap} {f : Addr} {fd : FuncData}
theorem ok_we {n : Nat} (F : Fun K "without_ends" "without_ends" sWe f fd) (cWo : VCal P w K mg base n "word_at" ["program", "point"] spWo) (m_len : mg "len" = none) : FnOk P w K mg base CX0 (n + 1) f fd ["program", "pile"] (cSp K 2 spWe) := by
  refine F.vok scWe fun cdv A outer s H E hr => ⟨_, (vss_cons (vs_while PassesOwn.never (VW.pt (vw_and (vt_cmp o_gt (ve_callB c_len rfl m_len PySem.boot_len (va_cons (vv 1) va_nil)) ve_int (nomark _)) (vw_and1 (vt_cmp o_isN (ve_call cWo hr rfl (va_cons (vv 0) (va_cons (ve_ix i_ix (vv 1) ve_int) va_nil))) ve_non (nomark _))))) (vss_one (vs_set (i := 1) scWe.nd rfl (Or.inl rfl) (ve_slice (vv 1) (vo_some ve_int) vo_none))))
      (vss_one (vs_ret (vv 1)))), ?_⟩
  rintro xs μ R _ ⟨sw, ps, l, rfl, hl, h⟩
  refine while_i (fun m τ μ' => ∃ r, m = r.length ∧ τ = [some (.D (prgD sw ps)), some (.D (pileD r))] ∧ μ' = μ ∧ (∀ q ∈ r, PtOk ps q) ∧ strip ps r = strip ps l) l.length ⟨l, rfl, rfl, rfl, hl, rfl⟩ ?_
  rintro m τ μ' W ⟨r, rfl, rfl, rfl, hr', e⟩ hW
  cases r with
  | nil =>
    refine dif (fun c => absurd c (by decide)) (fun c => brF rfl ⟨μ', Sub.refl, ?_⟩)
    rw [← e] at h
    exact h
  | cons q r =>
    refine dif (fun c => ?_) (fun c => absurd (show (0 : Int) < ((r.map ptD).length + 1 : Nat) by omega) c)
    refine opt_i (atI_nat (j := 0) rfl) ⟨sw, ps, q, rfl, hr' q List.mem_cons_self, ?_⟩
    cases e2 : stepAt ps q with
    | none =>
      have hw : wordD ps q = .none := by unfold wordD; rw [e2]
      rw [hw]
      refine brT rfl (hW r.length _ _ (Nat.lt_succ_self _) ⟨r, rfl, ?_, rfl, fun x hx => hr' x (List.mem_cons_of_mem _ hx), ?_⟩)
      · show [some (AV.D (prgD sw ps)), some (AV.D (.tuple (cutD (ptD q :: r.map ptD) (some 1) none)))] = _
        rw [cut1]; rfl
      · rw [← e]
        show _ = strip ps (q :: r)
        rw [strip, e2]
    | some st =>
      have hw : wordD ps q = .str st.word := by unfold wordD; rw [e2]
      rw [hw]
      refine brF rfl ⟨μ', Sub.refl, ?_⟩
      rw [← e, strip, e2] at h
      exact h
abbrev nGo : List Str := ["program", "answer", "point", "word", "step", "beneath", "steps"]
theorem scGo : FnScope nGo ["program", "answer", "point"] (defScope sGo) := ⟨rfl, rfl, rfl, by decide +kernel, rfl, by decide +kernel, by decide +kernel⟩
theorem ndGo1 : (["to", "answer", "point"] : List Str).Nodup := by decide +kernel
def spGo : ASp := fun xs μ R => ∃ (sw : Nat) (ps : Prg) (a : Nat) (q : Pt), xs = [.D (prgD sw ps), .D (natD a), .D (ptD q)] ∧ PtOk ps q ∧ ∀ p, μ p = none → R (.R p) (updM μ p (.lst (goL ps a q)))
theorem ok_go {n : Nat} (F : Fun K "goings_on" "goings_on" sGo f fd) (cWo : VCal P w K mg base n "word_at" ["program", "point"] spWo) : FnOk P w K mg base CX0 (n + 1) f fd ["program", "answer", "point"] (cSp K 3 spGo) := by
  refine F.vok scGo fun cdv A outer s H E hr => ⟨_, (vss_cons (vs_set (i := 3) scGo.nd rfl (Or.inl rfl) (ve_call cWo hr rfl (va_cons (vv 0) (va_cons (vv 2) va_nil))))
      (vss_cons (vs_if (VW.pt (vw_or (vt_cmp o_isN (vv 3) ve_non (nomark _)) (vw_or1 (vt_cmp (o_eq hr) (vv 3) ve_str (nomark _))))) (vss_one (vs_ret (ve_lst (va_cons (ve_tup (va_cons (vv 1) (va_cons (ve_tup va_nil) va_nil))) va_nil)))) vss_nil)
      (vss_cons (vs_set (i := 4) scGo.nd rfl (Or.inl rfl) (ve_ix i_ix (ve_ix i_ix (ve_ix i_ix (vv 0) ve_int) (ve_ix i_ix (vv 2) ve_int)) (ve_ix i_ix (vv 2) ve_int)))
      (vss_cons (vs_set (i := 5) scGo.nd rfl (Or.inl rfl) (ve_tup (va_cons (ve_ix i_ix (vv 2) ve_int) (va_cons (ve_op o_add (ve_ix i_ix (vv 2) ve_int) ve_int) va_nil))))
      (vss_cons (vs_if (vt_cmp (o_eq hr) (vv 3) ve_str (nomark _)) (vss_one (vs_ret (ve_lst (va_cons (ve_tup (va_cons (vv 1) (va_cons (ve_tup (va_cons (ve_tup (va_cons (ve_ix i_ix (vv 4) ve_int) (va_cons ve_int va_nil))) (va_cons (vv 5) va_nil))) va_nil))) va_nil)))) vss_nil)
      (vss_cons (vs_if (vt_cmp (o_eq hr) (vv 3) ve_str (nomark _)) (vss_one (vs_ret (ve_lst (va_cons (ve_tup (va_cons (ve_ix i_ix (vv 4) ve_int) (va_cons (ve_tup (va_cons (vv 5) va_nil)) va_nil))) va_nil)))) vss_nil)
      (vss_cons (vs_set (i := 6) scGo.nd rfl (Or.inl rfl) (ve_slice (vv 4) (vo_some ve_int) vo_none))
      (vss_cons (vs_if (vt_cmp (o_eq hr) (vv 3) ve_str (nomark _)) (vss_one (vs_set (i := 6) scGo.nd rfl (Or.inl rfl) (ve_tup (va_cons (ve_ifExp (vt_cmp (o_eq hr) (vv 1) ve_int (nomark _)) (ve_ix i_ix (vv 4) ve_int) (ve_ix i_ix (vv 4) ve_int)) va_nil)))) vss_nil)
      (vss_one (vs_ret (ve_comp (N' := ["to", "answer", "point"]) (mp := [none, some 1, some 2]) rfl (vi_seq (vv 6)) (fun _ _ _ _ => (vg_name (i := 0) ndGo1 rfl (Or.inl rfl) (Or.inr rfl))) (fun _ _ _ _ => vifs_nil) (fun _ _ _ _ => (ve_tup (va_cons (vv 1) (va_cons (ve_tup (va_cons (ve_tup (va_cons (ve_ix i_ix (vv 2) ve_int) (va_cons (vv 0) va_nil))) va_nil)) va_nil)))) (compOk_of (N := nGo) (pn := (defScope sGo).names) (by decide +kernel))))))))))))), ?_⟩
  rintro xs μ R _ ⟨sw, ps, a, q, rfl, hq, h⟩
  refine ⟨sw, ps, q, rfl, hq, ?_⟩
  cases e : stepAt ps q with
  | none =>
    rw [show wordD ps q = .none by unfold wordD; rw [e]]
    unfold goL at h
    rw [e] at h
    exact brT rfl (brT rfl fun p hp => ⟨_, Sub.refl, h p hp⟩)
  | some st =>
    rw [show wordD ps q = .str st.word by unfold wordD; rw [e]]
    unfold goL at h
    rw [e] at h
    obtain ⟨pr, e1, e2⟩ := step_of e
    have i1 : atI (ps.map prcD) (q.1 : Int) = some (prcD pr) := atI_nat (by rw [List.getElem?_map, e1]; rfl)
    have i2 : atI (pr.map Stp.D) (q.2 : Int) = some st.D := atI_nat (by rw [List.getElem?_map, e2]; rfl)
    refine brF rfl ?_
    cases st with
    | back => exact wEq e_back_back fun p hp => ⟨_, Sub.refl, h p hp⟩
    | call k =>
      refine wNe n_call_back (opt_i rfl (opt_i rfl (opt_i i1 (opt_i rfl (opt_i i2 (opt_i rfl (opt_i rfl ?_)))))))
      exact wEq e_call_call (opt_i (atI_nat (j := 1) rfl) fun p hp => ⟨_, Sub.refl, h p hp⟩)
    | set v =>
      refine wNe n_set_back (opt_i rfl (opt_i rfl (opt_i i1 (opt_i rfl (opt_i i2 (opt_i rfl (opt_i rfl ?_)))))))
      exact wNe n_set_call (wEq e_set_set (opt_i (atI_nat (j := 1) rfl) fun p hp => ⟨_, Sub.refl, h p hp⟩))
    | iff x y =>
      refine wNe n_if_back (opt_i rfl (opt_i rfl (opt_i i1 (opt_i rfl (opt_i i2 (opt_i rfl (opt_i rfl ?_)))))))
      refine wNe n_if_call (wNe n_if_set (wEq e_if_if ⟨eqOk_int _, eqOk_int _, ?_⟩))
      have e3 : PyData.eqv (.int a) (.int 1) = decide (a = 1) := by
        show ((a : Int) == 1) = _
        rw [Bool.eq_iff_iff]; simp; omega
      refine br (fun c => ?_) (fun c => ?_)
      · dsimp only at h
        rw [if_pos (of_decide_eq_true (e3 ▸ c))] at h
        exact opt_i (atI_nat (j := 1) rfl) (opt_i rfl fun p hp => ⟨rfl, brT rfl (opt_i rfl ⟨updM_same, by decide, rfl, _, Sub.refl, by rw [updM_updM]; exact h p hp⟩)⟩)
      · dsimp only at h
        rw [if_neg (of_decide_eq_false (e3 ▸ c))] at h
        exact opt_i (atI_nat (j := 2) rfl) (opt_i rfl fun p hp => ⟨rfl, brT rfl (opt_i rfl ⟨updM_same, by decide, rfl, _, Sub.refl, by rw [updM_updM]; exact h p hp⟩)⟩)
    | ask x y =>
      refine wNe n_ask_back (opt_i rfl (opt_i rfl (opt_i i1 (opt_i rfl (opt_i i2 (opt_i rfl (opt_i rfl ?_)))))))
      refine wNe n_ask_call (wNe n_ask_set (wNe n_ask_if (opt_i rfl fun p hp => ⟨rfl, brT rfl (opt_i rfl ⟨updM_same, by decide, rfl, brT rfl (opt_i rfl ⟨updM_same, (show 1 < sizeLine by decide), rfl, _, Sub.refl, ?_⟩)⟩)⟩)))
      rw [updM_updM, updM_updM]
      exact h p hp
    | chance x y =>
      refine wNe n_chance_back (opt_i rfl (opt_i rfl (opt_i i1 (opt_i rfl (opt_i i2 (opt_i rfl (opt_i rfl ?_)))))))
      refine wNe n_chance_call (wNe n_chance_set (wNe n_chance_if (opt_i rfl fun p hp => ⟨rfl, brT rfl (opt_i rfl ⟨updM_same, by decide, rfl, brT rfl (opt_i rfl ⟨updM_same, (show 1 < sizeLine by decide), rfl, _, Sub.refl, ?_⟩)⟩)⟩)))
      rw [updM_updM, updM_updM]
      exact h p hp
    | mark =>
      refine wNe n_mark_back (opt_i rfl (opt_i rfl (opt_i i1 (opt_i rfl (opt_i i2 (opt_i rfl (opt_i rfl ?_)))))))
      exact wNe n_mark_call (wNe n_mark_set (wNe n_mark_if (opt_i rfl fun p hp => ⟨rfl, _, Sub.refl, h p hp⟩)))
end

section
variable {P : Program} {w : World} {K : PySem.W.Frag} {mg : Str → Option Value} {base : Heap} {f : Addr} {fd : FuncData}
/-! ### a run -/
def StpOk (n m : Nat) : Stp → Prop
  | .ask a b => a < m ∧ b < m
  | .chance a b => a < m ∧ b < m
  | .iff a b => a < m ∧ b < m
  | .set v => v ≤ 1
  | .call k => k < n
  | .back => True
  | .mark => True
def PrgOk (ps : Prg) : Prop := ∀ p ∈ ps, ∀ s ∈ p, StpOk ps.length p.length s
def goR (ps : Prg) : Nat → Nat → List Pt → List Nat → Nat → Str × Nat
  | _, _, [], _, st => ("over", st)
  | 0, _, _ :: _, _, st => ("more", st)
  | n + 1, a, q :: r, cs, st => match stepAt ps q with
    | none => ("over", st)
    | some .mark => ("marked", st + 1)
    | some (.ask x y) => match cs with
      | [] => ("lacks", st)
      | c :: cs => goR ps n a (strip ps ((q.1, if c = 0 then x else y) :: r)) cs (st + 1)
    | some (.chance x y) => match cs with
      | [] => ("lacks", st)
      | c :: cs => goR ps n a (strip ps ((q.1, if c = 0 then x else y) :: r)) cs (st + 1)
    | some (.iff x y) => goR ps n a (strip ps ((q.1, if a = 1 then x else y) :: r)) cs (st + 1)
    | some (.set v) => goR ps n v (strip ps ((q.1, q.2 + 1) :: r)) cs (st + 1)
    | some (.call k) => goR ps n a (strip ps ((k, 0) :: (q.1, q.2 + 1) :: r)) cs (st + 1)
    | some .back => goR ps n a (strip ps r) cs (st + 1)
def resD (x : Str × Nat) : PyData := .tuple [.str x.1, natD x.2]
def runD (ps : Prg) (cs : List Nat) (most : Nat) : PyData := resD (goR ps most 0 (strip ps [(0, 0)]) cs 0)
/-- points stay points that are there -/
theorem pt_to {ps : Prg} {q : Pt} {p : List Stp} {x : Nat} (h : ps[q.1]? = some p) (hx : x < p.length) : PtOk ps (q.1, x) := ⟨p, h, Nat.le_of_lt hx⟩
theorem pt_next {ps : Prg} {q : Pt} {p : List Stp} {s : Stp} (h : ps[q.1]? = some p) (hs : p[q.2]? = some s) : PtOk ps (q.1, q.2 + 1) := ⟨p, h, (List.getElem?_eq_some_iff.mp hs).1⟩
theorem pt_call {ps : Prg} {k : Nat} (h : k < ps.length) : PtOk ps (k, 0) := ⟨ps[k], List.getElem?_eq_getElem h, Nat.zero_le _⟩
theorem ok_of {ps : Prg} {q : Pt} {p : List Stp} {s : Stp} (ok : PrgOk ps) (h : ps[q.1]? = some p) (hs : p[q.2]? = some s) : StpOk ps.length p.length s := ok p (List.mem_of_getElem? h) s (List.mem_of_getElem? hs)
theorem all_cons {ps : Prg} {q : Pt} {r : List Pt} (h : PtOk ps q) (hr : ∀ x ∈ r, PtOk ps x) : ∀ x ∈ q :: r, PtOk ps x := fun x hx => by
  rcases List.mem_cons.mp hx with rfl | hx
  · exact h
  · exact hr x hx
theorem strip_strip {ps : Prg} : ∀ (l : List Pt), strip ps (strip ps l) = strip ps l
  | [] => rfl
  | q :: r => by
    cases e : stepAt ps q with
    | none => rw [show strip ps (q :: r) = strip ps r by rw [strip, e]]; exact strip_strip r
    | some s => rw [show strip ps (q :: r) = q :: r by rw [strip, e]]; rw [strip, e]
theorem okAC : EqOk (.tuple [.str "ask", .str "chance"]) := ⟨by decide +kernel, by simp [PyData.depth, PyData.depthAll]⟩
abbrev nRp : List Str := ["program", "choices", "most", "answer", "pile", "asked", "steps", "word", "chosen", "further"]
theorem scRp : FnScope nRp ["program", "choices", "most"] (defScope sRp) := ⟨rfl, rfl, rfl, by decide +kernel, rfl, by decide +kernel, by decide +kernel⟩
structure RunIn (ps : Prg) (cs : List Nat) (most : Nat) : Prop where
  ok : PrgOk ps
  ne : 0 < ps.length
  cs : ∀ c ∈ cs, c ≤ 1
  most : most ≤ 60
def chD (cs : List Nat) : PyData := .tuple (cs.map natD)
def spRp : ASp := fun xs μ R => ∃ (sw : Nat) (ps : Prg) (cs : List Nat) (most : Nat), xs = [.D (prgD sw ps), .D (chD cs), .D (natD most)] ∧ RunIn ps cs most ∧ R (.D (runD ps cs most)) μ
theorem len_pos {α β : Type} {f : α → β} {x : α} {r : List α} : (0 : Int) < (((x :: r).map f).length : Nat) := by simp
theorem drop_cons {cs : List Nat} {i c : Nat} {r : List Nat} (h : cs.drop i = c :: r) : cs[i]? = some c ∧ cs.drop (i + 1) = r := by
  have h1 : (cs.drop i)[0]? = some c := by rw [h]; rfl
  rw [List.getElem?_drop] at h1
  refine ⟨by simpa using h1, ?_⟩
  have : (cs.drop i).drop 1 = r := by rw [h]; rfl
  rwa [List.drop_drop] at this
theorem ok_rp {n : Nat} {cw : Addr} (F : Fun K "run_program" "run_program" sRp f fd) (cWe : VCal P w K mg base n "without_ends" ["program", "pile"] spWe) (cWo : VCal P w K mg base n "word_at" ["program", "point"] spWo)
    (cGo : VCal P w K mg base n "goings_on" ["program", "answer", "point"] spGo) (m_len : mg "len" = none) (mCW : mg "CHOOSING_WORDS" = some (.ref cw)) (hCW : ∀ H, Dk K H (.tuple [.str "ask", .str "chance"]) (.ref cw)) : FnOk P w K mg base CX0 (n + 1) f fd ["program", "choices", "most"] (cSp K 3 spRp) := by
  refine F.vok scRp fun cdv A outer s H E hr => ⟨_, (vss_cons (vs_set (i := 3) scRp.nd rfl (Or.inl rfl) ve_int)
      (vss_cons (vs_set (i := 4) scRp.nd rfl (Or.inl rfl) (ve_call cWe hr rfl (va_cons (vv 0) (va_cons (ve_tup (va_cons (ve_tup (va_cons ve_int (va_cons ve_int va_nil))) va_nil)) va_nil))))
      (vss_cons (vs_set (i := 5) scRp.nd rfl (Or.inl rfl) ve_int)
      (vss_cons (vs_set (i := 6) scRp.nd rfl (Or.inl rfl) ve_int)
      (vss_cons (vs_while PassesOwn.never (VW.pt (vw_and (vt_cmp o_gt (ve_callB c_len rfl m_len PySem.boot_len (va_cons (vv 4) va_nil)) ve_int (nomark _)) (vw_and1 (vt_cmp o_lt (vv 6) (vv 2) (nomark _))))) (vss_cons (vs_set (i := 7) scRp.nd rfl (Or.inl rfl) (ve_call cWo hr rfl (va_cons (vv 0) (va_cons (ve_ix i_ix (vv 4) ve_int) va_nil))))
      (vss_cons (vs_if (vt_cmp (o_eq hr) (vv 7) ve_str (nomark _)) (vss_one (vs_ret (ve_tup (va_cons ve_str (va_cons (ve_op o_add (vv 6) ve_int) va_nil))))) vss_nil)
      (vss_cons (vs_set (i := 8) scRp.nd rfl (Or.inl rfl) ve_int)
      (vss_cons (vs_if (vt_cmp (o_in hr) (vv 7) (ve_glob rfl mCW (v := .ref cw) rfl hCW) (by with_unfolding_all rfl)) (vss_cons (vs_if (vt_cmp (o_eq hr) (vv 5) (ve_callB c_len rfl m_len PySem.boot_len (va_cons (vv 1) va_nil)) (nomark _)) (vss_one (vs_ret (ve_tup (va_cons ve_str (va_cons (vv 6) va_nil))))) vss_nil)
      (vss_cons (vs_set (i := 8) scRp.nd rfl (Or.inl rfl) (ve_ix i_ix (vv 1) (vv 5)))
      (vss_one (vs_set (i := 5) scRp.nd rfl (Or.inl rfl) (ve_op o_add (vv 5) ve_int))))) vss_nil)
      (vss_cons (vs_set (i := 9) scRp.nd rfl (Or.inl rfl) (ve_ix i_ix (ve_call cGo hr rfl (va_cons (vv 0) (va_cons (vv 3) (va_cons (ve_ix i_ix (vv 4) ve_int) va_nil)))) (vv 8)))
      (vss_cons (vs_set (i := 3) scRp.nd rfl (Or.inl rfl) (ve_ix i_ix (vv 9) ve_int))
      (vss_cons (vs_set (i := 4) scRp.nd rfl (Or.inl rfl) (ve_call cWe hr rfl (va_cons (vv 0) (va_cons (ve_op o_add (ve_ix i_ix (vv 9) ve_int) (ve_slice (vv 4) (vo_some ve_int) vo_none)) va_nil))))
      (vss_one (vs_set (i := 6) scRp.nd rfl (Or.inl rfl) (ve_op o_add (vv 6) ve_int)))))))))))
      (vss_one (vs_ret (ve_ifExp (vt_cmp o_gt (ve_callB c_len rfl m_len PySem.boot_len (va_cons (vv 4) va_nil)) ve_int (nomark _)) (ve_tup (va_cons ve_str (va_cons (vv 6) va_nil))) (ve_tup (va_cons ve_str (va_cons (vv 6) va_nil))))))))))), ?_⟩
  rintro xs μ R _ ⟨sw, ps, cs, most, rfl, hin, h⟩
  refine ⟨sw, ps, [(0, 0)], rfl, all_cons (pt_call hin.ne) (fun _ z => nomatch z), ?_⟩
  refine while_i (fun m τ μ' => ∃ (a : Nat) (l : List Pt) (i st : Nat) (o1 o2 o3 : Option AV), τ = [some (.D (prgD sw ps)), some (.D (chD cs)), some (.D (natD most)), some (.D (natD a)), some (.D (pileD l)), some (.D (natD i)), some (.D (natD st)), o1, o2, o3] ∧
    Sub μ μ' ∧ st + m = most ∧ i ≤ cs.length ∧ (∀ q ∈ l, PtOk ps q) ∧ strip ps l = l ∧ l.length ≤ st + 1 ∧ runD ps cs most = resD (goR ps m a l (cs.drop i) st)) most ⟨0, strip ps [(0, 0)], 0, 0, none, none, none, rfl, Sub.refl, Nat.zero_add _, Nat.zero_le _, ?_, ?_, ?_, ?_⟩ ?_
  · exact strip_ok (all_cons (pt_call hin.ne) (fun _ z => nomatch z))
  · exact strip_strip _
  · exact strip_len _
  · rfl
  rintro m τ μ' W ⟨a, l, i, st, o1, o2, o3, rfl, hs, em, hi, hl, el, hlen, er⟩ hW
  rw [er] at h
  cases l with
  | nil =>
    refine dif (fun c => absurd c (by decide)) (fun c => brF rfl (dif (fun c => absurd c (by decide)) (fun c => ⟨μ, hs, ?_⟩)))
    cases m <;> exact h
  | cons q r =>
    refine dif (fun _ => ?_) (fun c => absurd len_pos c)
    cases m with
    | zero =>
      exact dif (fun c => absurd (show (st : Int) < most from c) (by omega)) (fun _ => dif (fun _ => ⟨μ, hs, h⟩) (fun c => absurd len_pos c))
    | succ m =>
      refine dif (fun _ => ?_) (fun c => absurd (show (st : Int) < (most : Int) by omega) c)
      refine opt_i (atI_nat (j := 0) rfl) ⟨sw, ps, q, rfl, hl q List.mem_cons_self, ?_⟩
      obtain ⟨s, e⟩ : ∃ s, stepAt ps q = some s := strip_head el
      obtain ⟨pr, e1, e2⟩ := step_of e
      have hso := ok_of hin.ok e1 e2
      rw [show wordD ps q = .str s.word by unfold wordD; rw [e]]
      cases s with
      | mark =>
        rw [goR, e] at h
        exact wEq e_mark_mark ⟨μ, hs, h⟩
      | back =>
        refine wNe n_back_mark (seq_d (asg_c ?_))
        refine seq_i (fun τ μ2 => ∃ (ch a2 i2 : Nat) (pts : List Pt), τ = [some (.D (prgD sw ps)), some (.D (chD cs)), some (.D (natD most)), some (.D (natD a)), some (.D (pileD (q :: r))), some (.D (natD i2)), some (.D (natD st)), some (.D (.str "back")), some (.D (natD ch)), o3] ∧
          μ2 = μ' ∧ atI (goL ps a q) (ch : Int) = some (.D (.tuple [natD a2, .tuple (pts.map ptD)])) ∧ (∀ x ∈ pts, PtOk ps x) ∧ pts.length ≤ 2 ∧ i2 ≤ cs.length ∧ goR ps (m + 1) a (q :: r) (cs.drop i) st = goR ps m a2 (strip ps (pts ++ r)) (cs.drop i2) (st + 1)) (fun W' hW' => ?_) ?_
        · refine opt_i rfl ⟨eqOk_str (wOk _), okAC, brF c_back (hW' _ _ ⟨0, a, i, [], rfl, rfl, by unfold goL; rw [e]; rfl, ?_, (Nat.le_of_ble_eq_true rfl), hi, by rw [goR, e]; rfl⟩)⟩
          exact (fun _ z => nomatch z)
        · rintro τ μ2 ⟨ch, a2, i2, pts, rfl, rfl, hat, hok, hpl, hi2, hgo⟩
          have hr2 : ∀ x ∈ pts ++ r, PtOk ps x := fun x hx => by
            rcases List.mem_append.mp hx with hx | hx
            · exact hok x hx
            · exact hl x (List.mem_cons_of_mem _ hx)
          have ecut : pts.map ptD ++ cutD (ptD q :: r.map ptD) (some 1) none = (pts ++ r).map ptD := by rw [cut1, List.map_append]
          refine opt_i (atI_nat (j := 0) rfl) ⟨sw, ps, a, q, rfl, hl q List.mem_cons_self, fun p hp => ?_⟩
          refine opt_i updM_same (opt_i hat (opt_i rfl (opt_i rfl ⟨?_, sw, ps, pts ++ r, ?_, hr2, ?_⟩)))
          · have : (pts.map ptD).length + (cutD (ptD q :: r.map ptD) (some 1) none).length ≤ 1000 := by
              rw [cut1, List.length_map, List.length_map]
              have := hin.most
              simp at hlen
              omega
            exact Nat.le_of_lt (small1000 this)
          · show [AV.D (prgD sw ps), AV.D (.tuple (pts.map ptD ++ cutD (ptD q :: r.map ptD) (some 1) none))] = _
            rw [ecut]; rfl
          · refine hW m _ _ (Nat.lt_succ_self _) ⟨a2, strip ps (pts ++ r), i2, st + 1, _, _, _, rfl, hs.new (hs.none hp), by omega, hi2, strip_ok hr2, strip_strip _, ?_, by rw [er, hgo]⟩
            have := strip_len (ps := ps) (pts ++ r)
            rw [List.length_append] at this
            simp at hlen
            omega
      | call k =>
        refine wNe n_call_mark (seq_d (asg_c ?_))
        refine seq_i (fun τ μ2 => ∃ (ch a2 i2 : Nat) (pts : List Pt), τ = [some (.D (prgD sw ps)), some (.D (chD cs)), some (.D (natD most)), some (.D (natD a)), some (.D (pileD (q :: r))), some (.D (natD i2)), some (.D (natD st)), some (.D (.str "call")), some (.D (natD ch)), o3] ∧
          μ2 = μ' ∧ atI (goL ps a q) (ch : Int) = some (.D (.tuple [natD a2, .tuple (pts.map ptD)])) ∧ (∀ x ∈ pts, PtOk ps x) ∧ pts.length ≤ 2 ∧ i2 ≤ cs.length ∧ goR ps (m + 1) a (q :: r) (cs.drop i) st = goR ps m a2 (strip ps (pts ++ r)) (cs.drop i2) (st + 1)) (fun W' hW' => ?_) ?_
        · refine opt_i rfl ⟨eqOk_str (wOk _), okAC, brF c_call (hW' _ _ ⟨0, a, i, [(k, 0), (q.1, q.2 + 1)], rfl, rfl, by unfold goL; rw [e]; rfl, ?_, (Nat.le_of_ble_eq_true rfl), hi, by rw [goR, e]; rfl⟩)⟩
          exact all_cons (pt_call hso) (all_cons (pt_next e1 e2) (fun _ z => nomatch z))
        · rintro τ μ2 ⟨ch, a2, i2, pts, rfl, rfl, hat, hok, hpl, hi2, hgo⟩
          have hr2 : ∀ x ∈ pts ++ r, PtOk ps x := fun x hx => by
            rcases List.mem_append.mp hx with hx | hx
            · exact hok x hx
            · exact hl x (List.mem_cons_of_mem _ hx)
          have ecut : pts.map ptD ++ cutD (ptD q :: r.map ptD) (some 1) none = (pts ++ r).map ptD := by rw [cut1, List.map_append]
          refine opt_i (atI_nat (j := 0) rfl) ⟨sw, ps, a, q, rfl, hl q List.mem_cons_self, fun p hp => ?_⟩
          refine opt_i updM_same (opt_i hat (opt_i rfl (opt_i rfl ⟨?_, sw, ps, pts ++ r, ?_, hr2, ?_⟩)))
          · have : (pts.map ptD).length + (cutD (ptD q :: r.map ptD) (some 1) none).length ≤ 1000 := by
              rw [cut1, List.length_map, List.length_map]
              have := hin.most
              simp at hlen
              omega
            exact Nat.le_of_lt (small1000 this)
          · show [AV.D (prgD sw ps), AV.D (.tuple (pts.map ptD ++ cutD (ptD q :: r.map ptD) (some 1) none))] = _
            rw [ecut]; rfl
          · refine hW m _ _ (Nat.lt_succ_self _) ⟨a2, strip ps (pts ++ r), i2, st + 1, _, _, _, rfl, hs.new (hs.none hp), by omega, hi2, strip_ok hr2, strip_strip _, ?_, by rw [er, hgo]⟩
            have := strip_len (ps := ps) (pts ++ r)
            rw [List.length_append] at this
            simp at hlen
            omega
      | set v =>
        refine wNe n_set_mark (seq_d (asg_c ?_))
        refine seq_i (fun τ μ2 => ∃ (ch a2 i2 : Nat) (pts : List Pt), τ = [some (.D (prgD sw ps)), some (.D (chD cs)), some (.D (natD most)), some (.D (natD a)), some (.D (pileD (q :: r))), some (.D (natD i2)), some (.D (natD st)), some (.D (.str "set")), some (.D (natD ch)), o3] ∧
          μ2 = μ' ∧ atI (goL ps a q) (ch : Int) = some (.D (.tuple [natD a2, .tuple (pts.map ptD)])) ∧ (∀ x ∈ pts, PtOk ps x) ∧ pts.length ≤ 2 ∧ i2 ≤ cs.length ∧ goR ps (m + 1) a (q :: r) (cs.drop i) st = goR ps m a2 (strip ps (pts ++ r)) (cs.drop i2) (st + 1)) (fun W' hW' => ?_) ?_
        · refine opt_i rfl ⟨eqOk_str (wOk _), okAC, brF c_set (hW' _ _ ⟨0, v, i, [(q.1, q.2 + 1)], rfl, rfl, by unfold goL; rw [e]; rfl, ?_, (Nat.le_of_ble_eq_true rfl), hi, by rw [goR, e]; rfl⟩)⟩
          exact all_cons (pt_next e1 e2) (fun _ z => nomatch z)
        · rintro τ μ2 ⟨ch, a2, i2, pts, rfl, rfl, hat, hok, hpl, hi2, hgo⟩
          have hr2 : ∀ x ∈ pts ++ r, PtOk ps x := fun x hx => by
            rcases List.mem_append.mp hx with hx | hx
            · exact hok x hx
            · exact hl x (List.mem_cons_of_mem _ hx)
          have ecut : pts.map ptD ++ cutD (ptD q :: r.map ptD) (some 1) none = (pts ++ r).map ptD := by rw [cut1, List.map_append]
          refine opt_i (atI_nat (j := 0) rfl) ⟨sw, ps, a, q, rfl, hl q List.mem_cons_self, fun p hp => ?_⟩
          refine opt_i updM_same (opt_i hat (opt_i rfl (opt_i rfl ⟨?_, sw, ps, pts ++ r, ?_, hr2, ?_⟩)))
          · have : (pts.map ptD).length + (cutD (ptD q :: r.map ptD) (some 1) none).length ≤ 1000 := by
              rw [cut1, List.length_map, List.length_map]
              have := hin.most
              simp at hlen
              omega
            exact Nat.le_of_lt (small1000 this)
          · show [AV.D (prgD sw ps), AV.D (.tuple (pts.map ptD ++ cutD (ptD q :: r.map ptD) (some 1) none))] = _
            rw [ecut]; rfl
          · refine hW m _ _ (Nat.lt_succ_self _) ⟨a2, strip ps (pts ++ r), i2, st + 1, _, _, _, rfl, hs.new (hs.none hp), by omega, hi2, strip_ok hr2, strip_strip _, ?_, by rw [er, hgo]⟩
            have := strip_len (ps := ps) (pts ++ r)
            rw [List.length_append] at this
            simp at hlen
            omega
      | iff x y =>
        refine wNe n_if_mark (seq_d (asg_c ?_))
        refine seq_i (fun τ μ2 => ∃ (ch a2 i2 : Nat) (pts : List Pt), τ = [some (.D (prgD sw ps)), some (.D (chD cs)), some (.D (natD most)), some (.D (natD a)), some (.D (pileD (q :: r))), some (.D (natD i2)), some (.D (natD st)), some (.D (.str "if")), some (.D (natD ch)), o3] ∧
          μ2 = μ' ∧ atI (goL ps a q) (ch : Int) = some (.D (.tuple [natD a2, .tuple (pts.map ptD)])) ∧ (∀ x ∈ pts, PtOk ps x) ∧ pts.length ≤ 2 ∧ i2 ≤ cs.length ∧ goR ps (m + 1) a (q :: r) (cs.drop i) st = goR ps m a2 (strip ps (pts ++ r)) (cs.drop i2) (st + 1)) (fun W' hW' => ?_) ?_
        · refine opt_i rfl ⟨eqOk_str (wOk _), okAC, brF c_if (hW' _ _ ⟨0, a, i, [(q.1, if a = 1 then x else y)], rfl, rfl, by unfold goL; rw [e]; rfl, ?_, (Nat.le_of_ble_eq_true rfl), hi, by rw [goR, e]; rfl⟩)⟩
          refine all_cons ?_ (fun _ z => nomatch z)
          split
          · exact pt_to e1 hso.1
          · exact pt_to e1 hso.2
        · rintro τ μ2 ⟨ch, a2, i2, pts, rfl, rfl, hat, hok, hpl, hi2, hgo⟩
          have hr2 : ∀ x ∈ pts ++ r, PtOk ps x := fun x hx => by
            rcases List.mem_append.mp hx with hx | hx
            · exact hok x hx
            · exact hl x (List.mem_cons_of_mem _ hx)
          have ecut : pts.map ptD ++ cutD (ptD q :: r.map ptD) (some 1) none = (pts ++ r).map ptD := by rw [cut1, List.map_append]
          refine opt_i (atI_nat (j := 0) rfl) ⟨sw, ps, a, q, rfl, hl q List.mem_cons_self, fun p hp => ?_⟩
          refine opt_i updM_same (opt_i hat (opt_i rfl (opt_i rfl ⟨?_, sw, ps, pts ++ r, ?_, hr2, ?_⟩)))
          · have : (pts.map ptD).length + (cutD (ptD q :: r.map ptD) (some 1) none).length ≤ 1000 := by
              rw [cut1, List.length_map, List.length_map]
              have := hin.most
              simp at hlen
              omega
            exact Nat.le_of_lt (small1000 this)
          · show [AV.D (prgD sw ps), AV.D (.tuple (pts.map ptD ++ cutD (ptD q :: r.map ptD) (some 1) none))] = _
            rw [ecut]; rfl
          · refine hW m _ _ (Nat.lt_succ_self _) ⟨a2, strip ps (pts ++ r), i2, st + 1, _, _, _, rfl, hs.new (hs.none hp), by omega, hi2, strip_ok hr2, strip_strip _, ?_, by rw [er, hgo]⟩
            have := strip_len (ps := ps) (pts ++ r)
            rw [List.length_append] at this
            simp at hlen
            omega
      | ask x y =>
        refine wNe n_ask_mark (seq_d (asg_c ?_))
        refine seq_i (fun τ μ2 => ∃ (ch a2 i2 : Nat) (pts : List Pt), τ = [some (.D (prgD sw ps)), some (.D (chD cs)), some (.D (natD most)), some (.D (natD a)), some (.D (pileD (q :: r))), some (.D (natD i2)), some (.D (natD st)), some (.D (.str "ask")), some (.D (natD ch)), o3] ∧
          μ2 = μ' ∧ atI (goL ps a q) (ch : Int) = some (.D (.tuple [natD a2, .tuple (pts.map ptD)])) ∧ (∀ x ∈ pts, PtOk ps x) ∧ pts.length ≤ 2 ∧ i2 ≤ cs.length ∧ goR ps (m + 1) a (q :: r) (cs.drop i) st = goR ps m a2 (strip ps (pts ++ r)) (cs.drop i2) (st + 1)) (fun W' hW' => ?_) ?_
        · refine opt_i rfl ⟨eqOk_str (wOk _), okAC, brT c_ask ⟨eqOk_int _, eqOk_int _, ?_⟩⟩
          cases ec : cs.drop i with
          | nil =>
            have e0 : i = cs.length := by have := List.drop_eq_nil_iff.mp ec; omega
            refine brT ?_ ⟨μ, hs, ?_⟩
            · rw [e0]
              show PyData.eqv (.int _) (.int ((cs.map natD).length : Nat)) = true
              rw [eqv_int]; simp
            · rw [ec, goR, e] at h
              exact h
          | cons c cr =>
            obtain ⟨hc, hcr⟩ := drop_cons ec
            have hlt : i < cs.length := (List.getElem?_eq_some_iff.mp hc).1
            have hc1 := hin.cs c (List.mem_of_getElem? hc)
            have ich : atI (cs.map natD) (i : Int) = some (natD c) := atI_nat (by rw [List.getElem?_map, hc]; rfl)
            refine brF ?_ (opt_i ich (hW' _ _ ⟨c, a, i + 1, [(q.1, if c = 0 then x else y)], rfl, rfl, ?_, ?_, (Nat.le_of_ble_eq_true rfl), hlt, ?_⟩))
            · show PyData.eqv (.int _) (.int ((cs.map natD).length : Nat)) = false
              rw [eqv_int, List.length_map]; exact decide_eq_false (by omega)
            · unfold goL; rw [e]
              have : c = 0 ∨ c = 1 := by omega
              rcases this with rfl | rfl <;> rfl
            · refine all_cons ?_ (fun _ z => nomatch z)
              split
              · exact pt_to e1 hso.1
              · exact pt_to e1 hso.2
            · rw [ec, hcr, goR, e]; rfl
        · rintro τ μ2 ⟨ch, a2, i2, pts, rfl, rfl, hat, hok, hpl, hi2, hgo⟩
          have hr2 : ∀ x ∈ pts ++ r, PtOk ps x := fun x hx => by
            rcases List.mem_append.mp hx with hx | hx
            · exact hok x hx
            · exact hl x (List.mem_cons_of_mem _ hx)
          have ecut : pts.map ptD ++ cutD (ptD q :: r.map ptD) (some 1) none = (pts ++ r).map ptD := by rw [cut1, List.map_append]
          refine opt_i (atI_nat (j := 0) rfl) ⟨sw, ps, a, q, rfl, hl q List.mem_cons_self, fun p hp => ?_⟩
          refine opt_i updM_same (opt_i hat (opt_i rfl (opt_i rfl ⟨?_, sw, ps, pts ++ r, ?_, hr2, ?_⟩)))
          · have : (pts.map ptD).length + (cutD (ptD q :: r.map ptD) (some 1) none).length ≤ 1000 := by
              rw [cut1, List.length_map, List.length_map]
              have := hin.most
              simp at hlen
              omega
            exact Nat.le_of_lt (small1000 this)
          · show [AV.D (prgD sw ps), AV.D (.tuple (pts.map ptD ++ cutD (ptD q :: r.map ptD) (some 1) none))] = _
            rw [ecut]; rfl
          · refine hW m _ _ (Nat.lt_succ_self _) ⟨a2, strip ps (pts ++ r), i2, st + 1, _, _, _, rfl, hs.new (hs.none hp), by omega, hi2, strip_ok hr2, strip_strip _, ?_, by rw [er, hgo]⟩
            have := strip_len (ps := ps) (pts ++ r)
            rw [List.length_append] at this
            simp at hlen
            omega
      | chance x y =>
        refine wNe n_chance_mark (seq_d (asg_c ?_))
        refine seq_i (fun τ μ2 => ∃ (ch a2 i2 : Nat) (pts : List Pt), τ = [some (.D (prgD sw ps)), some (.D (chD cs)), some (.D (natD most)), some (.D (natD a)), some (.D (pileD (q :: r))), some (.D (natD i2)), some (.D (natD st)), some (.D (.str "chance")), some (.D (natD ch)), o3] ∧
          μ2 = μ' ∧ atI (goL ps a q) (ch : Int) = some (.D (.tuple [natD a2, .tuple (pts.map ptD)])) ∧ (∀ x ∈ pts, PtOk ps x) ∧ pts.length ≤ 2 ∧ i2 ≤ cs.length ∧ goR ps (m + 1) a (q :: r) (cs.drop i) st = goR ps m a2 (strip ps (pts ++ r)) (cs.drop i2) (st + 1)) (fun W' hW' => ?_) ?_
        · refine opt_i rfl ⟨eqOk_str (wOk _), okAC, brT c_chance ⟨eqOk_int _, eqOk_int _, ?_⟩⟩
          cases ec : cs.drop i with
          | nil =>
            have e0 : i = cs.length := by have := List.drop_eq_nil_iff.mp ec; omega
            refine brT ?_ ⟨μ, hs, ?_⟩
            · rw [e0]
              show PyData.eqv (.int _) (.int ((cs.map natD).length : Nat)) = true
              rw [eqv_int]; simp
            · rw [ec, goR, e] at h
              exact h
          | cons c cr =>
            obtain ⟨hc, hcr⟩ := drop_cons ec
            have hlt : i < cs.length := (List.getElem?_eq_some_iff.mp hc).1
            have hc1 := hin.cs c (List.mem_of_getElem? hc)
            have ich : atI (cs.map natD) (i : Int) = some (natD c) := atI_nat (by rw [List.getElem?_map, hc]; rfl)
            refine brF ?_ (opt_i ich (hW' _ _ ⟨c, a, i + 1, [(q.1, if c = 0 then x else y)], rfl, rfl, ?_, ?_, (Nat.le_of_ble_eq_true rfl), hlt, ?_⟩))
            · show PyData.eqv (.int _) (.int ((cs.map natD).length : Nat)) = false
              rw [eqv_int, List.length_map]; exact decide_eq_false (by omega)
            · unfold goL; rw [e]
              have : c = 0 ∨ c = 1 := by omega
              rcases this with rfl | rfl <;> rfl
            · refine all_cons ?_ (fun _ z => nomatch z)
              split
              · exact pt_to e1 hso.1
              · exact pt_to e1 hso.2
            · rw [ec, hcr, goR, e]; rfl
        · rintro τ μ2 ⟨ch, a2, i2, pts, rfl, rfl, hat, hok, hpl, hi2, hgo⟩
          have hr2 : ∀ x ∈ pts ++ r, PtOk ps x := fun x hx => by
            rcases List.mem_append.mp hx with hx | hx
            · exact hok x hx
            · exact hl x (List.mem_cons_of_mem _ hx)
          have ecut : pts.map ptD ++ cutD (ptD q :: r.map ptD) (some 1) none = (pts ++ r).map ptD := by rw [cut1, List.map_append]
          refine opt_i (atI_nat (j := 0) rfl) ⟨sw, ps, a, q, rfl, hl q List.mem_cons_self, fun p hp => ?_⟩
          refine opt_i updM_same (opt_i hat (opt_i rfl (opt_i rfl ⟨?_, sw, ps, pts ++ r, ?_, hr2, ?_⟩)))
          · have : (pts.map ptD).length + (cutD (ptD q :: r.map ptD) (some 1) none).length ≤ 1000 := by
              rw [cut1, List.length_map, List.length_map]
              have := hin.most
              simp at hlen
              omega
            exact Nat.le_of_lt (small1000 this)
          · show [AV.D (prgD sw ps), AV.D (.tuple (pts.map ptD ++ cutD (ptD q :: r.map ptD) (some 1) none))] = _
            rw [ecut]; rfl
          · refine hW m _ _ (Nat.lt_succ_self _) ⟨a2, strip ps (pts ++ r), i2, st + 1, _, _, _, rfl, hs.new (hs.none hp), by omega, hi2, strip_ok hr2, strip_strip _, ?_, by rw [er, hgo]⟩
            have := strip_len (ps := ps) (pts ++ r)
            rw [List.length_append] at this
            simp at hlen
            omega
end

section
variable {P : Program} {w : World} {K : PySem.W.Frag} {mg : Str → Option Value} {base : Heap} {f : Addr} {fd : FuncData}
/-! ### the pot, and draws of it -/
def intA (i : Int) : AV := .D (.int i)
structure PotAt (μ : M) (a l : Addr) (sd nm : Int) (ns : List Int) : Prop where
  ha : μ a = some (.lst [.D (.int sd), .D (.int nm), .R l])
  hl : μ l = some (.lst (ns.map intA))
  s0 : 0 ≤ sd
  s1 : sd < 2147483648
  n0 : 0 ≤ nm
  p0 : ∀ n ∈ ns, 0 ≤ n
  ne : a ≠ l
def Pot (μ : M) (a l : Addr) : Prop := ∃ sd nm ns, PotAt μ a l sd nm ns
/-- what was known is known still, but at the pot -/
def Ext2 (a l : Addr) (μ μ' : M) : Prop := ∀ b m, b ≠ a → b ≠ l → μ b = some m → μ' b = some m
theorem Ext2.refl {a l : Addr} {μ : M} : Ext2 a l μ μ := fun _ _ _ _ h => h
theorem Ext2.trans {a l : Addr} {μ ν ρ : M} (h : Ext2 a l μ ν) (k : Ext2 a l ν ρ) : Ext2 a l μ ρ := fun b m h1 h2 e => k b m h1 h2 (h b m h1 h2 e)
theorem Ext2.new {a l p : Addr} {μ ν : M} {o : MO} (h : Ext2 a l μ ν) (e : ν p = none) : Ext2 a l μ (updM ν p o) := fun b m h1 h2 q => by
  have := h b m h1 h2 q
  rw [updM_ne (by intro z; subst z; rw [e] at this; cases this)]; exact this
theorem Ext2.put {a l p : Addr} {μ ν : M} {o : MO} (h : Ext2 a l μ ν) (e : μ p = none) : Ext2 a l μ (updM ν p o) := fun b m h1 h2 q => by
  rw [updM_ne (by intro z; subst z; rw [e] at q; cases q)]; exact h b m h1 h2 q
theorem Ext2.a {a l : Addr} {μ ν : M} {o : MO} (h : Ext2 a l μ ν) : Ext2 a l μ (updM ν a o) := fun b m h1 h2 q => by rw [updM_ne h1]; exact h b m h1 h2 q
theorem Ext2.l {a l : Addr} {μ ν : M} {o : MO} (h : Ext2 a l μ ν) : Ext2 a l μ (updM ν l o) := fun b m h1 h2 q => by rw [updM_ne h2]; exact h b m h1 h2 q
theorem Ext2.none {a l p : Addr} {μ ν : M} (h : Ext2 a l μ ν) (h1 : a ≠ p) (h2 : l ≠ p) (e : ν p = none) : μ p = none := by
  cases q : μ p with
  | none => rfl
  | some m => rw [h p m h1.symm h2.symm q] at e; cases e
theorem PotAt.other {μ : M} {a l p : Addr} {sd nm : Int} {ns : List Int} {o : MO} (h : PotAt μ a l sd nm ns) (h1 : a ≠ p) (h2 : l ≠ p) : PotAt (updM μ p o) a l sd nm ns :=
  ⟨by rw [updM_ne h1]; exact h.ha, by rw [updM_ne h2]; exact h.hl, h.s0, h.s1, h.n0, h.p0, h.ne⟩
theorem Pot.other {μ : M} {a l p : Addr} {o : MO} (h : Pot μ a l) (h1 : a ≠ p) (h2 : l ≠ p) : Pot (updM μ p o) a l := let ⟨sd, nm, ns, h⟩ := h; ⟨sd, nm, ns, h.other h1 h2⟩
theorem Pot.ne {μ : M} {a l p : Addr} (h : Pot μ a l) (e : μ p = none) : a ≠ p ∧ l ≠ p := by
  obtain ⟨sd, nm, ns, h⟩ := h
  exact ⟨fun z => by (subst z; rw [h.ha] at e; cases e), fun z => by (subst z; rw [h.hl] at e; cases e)⟩
theorem Pot.new {μ : M} {a l p : Addr} {o : MO} (h : Pot μ a l) (e : μ p = none) : Pot (updM μ p o) a l := h.other (h.ne e).1 (h.ne e).2
abbrev nDr : List Str := ["_law_pot_here", "_law_many", "_law_digit", "_law_one"]
theorem scDr : FnScope nDr ["_law_pot_here", "_law_many"] (defScope sDr) := ⟨rfl, rfl, rfl, by decide +kernel, rfl, by decide +kernel, by decide +kernel⟩
def spDr : ASp := fun xs μ R => ∃ (a l : Addr) (many : Nat), xs = [.R a, .D (.int many)] ∧ Pot μ a l ∧ 0 < many ∧ many < 1000000 ∧ ∀ (v : Nat) (μ' : M), v < many → Pot μ' a l → Ext2 a l μ μ' → R (.D (.int v)) μ'
theorem nat_of {v : Int} {many : Nat} (h0 : 0 ≤ v) (h1 : v < many) : ∃ n : Nat, v = n ∧ n < many := ⟨v.toNat, by omega, by omega⟩
theorem ok_dr {n : Nat} (F : Fun K "_law_draw" "_law_draw" sDr f fd) (m_len : mg "len" = none) : FnOk P w K mg base CX0 (n + 1) f fd ["_law_pot_here", "_law_many"] (cSp K 2 spDr) := by
  refine F.vok scDr fun cdv A outer s H E hr => ⟨_, (vss_cons (vs_while PassesOwn.never (VW.pt (vw_and (vt_cmp (o_eq hr) (ve_ix i_ix (vv 0) ve_int) ve_int (nomark _)) (vw_and1 (vt_cmp o_gt (ve_callB c_len rfl m_len PySem.boot_len (va_cons (ve_ix i_ix (vv 0) ve_int) va_nil)) ve_int (nomark _))))) (vss_one (vs_asg (ve_ml PySem.F.slot_list_pop PySem.F.type_list_pop m_popAt (ve_ix i_ix (vv 0) ve_int) (va_cons ve_int va_nil)) (vg_sub (vv 0) ve_int))))
      (vss_cons (vs_if (vt_cmp o_gt (ve_ix i_ix (vv 0) ve_int) ve_int (nomark _)) (vss_cons (vs_set (i := 2) scDr.nd rfl (Or.inl rfl) (ve_op o_mod (ve_ix i_ix (vv 0) ve_int) (vv 1)))
      (vss_cons (vs_asg (ve_op o_fdiv (ve_ix i_ix (vv 0) ve_int) (vv 1)) (vg_sub (vv 0) ve_int))
      (vss_one (vs_ret (vv 2))))) vss_nil)
      (vss_cons (vs_set (i := 3) scDr.nd rfl (Or.inl rfl) (ve_op o_mod (ve_op o_add (ve_op o_mul (ve_ix i_ix (vv 0) ve_int) ve_int) ve_int) ve_int))
      (vss_cons (vs_asg (ve_op o_add (ve_op o_mod (ve_op o_add (ve_op o_mul (vv 3) ve_int) ve_int) ve_int) ve_int) (vg_sub (vv 0) ve_int))
      (vss_one (vs_ret (ve_op o_mod (ve_op o_fdiv (ve_op o_add (ve_op o_mul (ve_op o_mod (ve_op o_mul (vv 3) (vv 3)) ve_int) ve_int) (ve_ix i_ix (vv 0) ve_int)) ve_int) (vv 1)))))))), ?_⟩
  rintro xs μ R _ ⟨a, l, many, rfl, ⟨sd, nm, ns, D0⟩, h0, h1, q⟩
  refine seq_i (fun τ μ' => ∃ sd nm ns, τ = [some (.R a), some (.D (.int many)), none, none] ∧ PotAt μ' a l sd nm ns ∧ Ext2 a l μ μ') (fun W' hW' => ?_) ?_
  · refine while_i (fun m τ μ' => ∃ sd nm ns, τ = [some (.R a), some (.D (.int many)), none, none] ∧ m = ns.length ∧ PotAt μ' a l sd nm ns ∧ Ext2 a l μ μ') ns.length ⟨sd, nm, ns, rfl, rfl, D0, Ext2.refl⟩ ?_
    rintro m τ μ' W ⟨sd, nm, ns, rfl, rfl, D, S⟩ hW
    refine opt_i D.ha (opt_i rfl (ieq (fun c => ?_) (fun c => brF rfl (hW' _ _ ⟨sd, nm, ns, rfl, D, S⟩))))
    refine opt_i D.ha (opt_i rfl (opt_i D.hl (dif (fun c2 => ?_) (fun c2 => hW' _ _ ⟨sd, nm, ns, rfl, D, S⟩))))
    cases ns with
    | nil => exact absurd c2 (by decide)
    | cons x ns =>
      have ha2 : updM μ' l (.lst (((x :: ns).map intA).eraseIdx 0)) a = some (.lst [.D (.int sd), .D (.int nm), .R l]) := by rw [updM_ne D.ne]; exact D.ha
      have ix : seqIndex? 0 ((x :: ns).map intA).length = some 0 := by
        rw [List.length_map]
        unfold seqIndex?
        simp
      refine opt_i D.ha (opt_i rfl ⟨opt_i D.hl trivial, opt_i D.hl ⟨⟨by decide, by decide⟩, opt_i ix (opt_i rfl (opt_i ha2 (opt_i rfl (hW ns.length _ _ (Nat.lt_succ_self _) ⟨sd, x, ns, rfl, rfl, ?_, S.l.a⟩))))⟩⟩)
      refine ⟨updM_same, by rw [updM_ne D.ne.symm, updM_same]; rfl, D.s0, D.s1, D.p0 x List.mem_cons_self, fun z hz => D.p0 z (List.mem_cons_of_mem _ hz), D.ne⟩
  · rintro τ μ' ⟨sd, nm, ns, rfl, D, S⟩
    have b0 := D.s0
    have b1 := D.s1
    refine opt_i D.ha (opt_i rfl (dif (fun c => ?_) (fun c => ?_)))
    · refine opt_i D.ha (opt_i rfl ⟨(by show (0 : Int) < _; omega), opt_i D.ha (opt_i rfl ⟨⟨by omega, by omega⟩, opt_i D.ha (opt_i rfl ⟨_, Sub.refl, ?_⟩)⟩)⟩)
      obtain ⟨v, ev, hv⟩ := nat_of (Int.emod_nonneg nm (show (many : Int) ≠ 0 by omega)) (Int.emod_lt_of_pos nm (show 0 < (many : Int) by omega))
      dsimp only
      rw [ev]
      exact q v _ hv ⟨sd, nm / many, ns, updM_same, by rw [updM_ne D.ne.symm]; exact D.hl, b0, b1, Int.ediv_nonneg D.n0 (by omega), D.p0, D.ne⟩ S.a
    · refine opt_i D.ha (opt_i rfl ⟨.inr ⟨by decide, by decide⟩, (by show (0 : Int) < _; decide), ?_⟩)
      dsimp only
      have e1 := Int.emod_nonneg (sd * 48271 + 7919) (show (2147483647 : Int) ≠ 0 by decide)
      have e2 := Int.emod_lt_of_pos (sd * 48271 + 7919) (show (0 : Int) < 2147483647 by decide)
      generalize (sd * 48271 + 7919) % 2147483647 = one at e1 e2 ⊢
      refine ⟨.inr ⟨by decide, by decide⟩, (by show (0 : Int) < _; decide), opt_i D.ha (opt_i rfl ?_)⟩
      dsimp only
      have e3 := Int.emod_nonneg (one * 40692 + 12345) (show (2147483399 : Int) ≠ 0 by decide)
      have e4 := Int.emod_lt_of_pos (one * 40692 + 12345) (show (0 : Int) < 2147483399 by decide)
      generalize (one * 40692 + 12345) % 2147483399 = two at e3 e4 ⊢
      refine ⟨.inl ⟨by omega, by omega⟩, (by show (0 : Int) < _; decide), ⟨.inr ⟨by decide, by decide⟩, opt_i updM_same (opt_i rfl ⟨⟨by decide, by decide⟩, (by show (0 : Int) < _; omega), _, Sub.refl, ?_⟩)⟩⟩
      dsimp only
      obtain ⟨v, ev, hv⟩ := nat_of (Int.emod_nonneg ((one * one % 2147483629 * 31 + (two + 1)) / 64) (show (many : Int) ≠ 0 by omega)) (Int.emod_lt_of_pos ((one * one % 2147483629 * 31 + (two + 1)) / 64) (show 0 < (many : Int) by omega))
      rw [ev]
      exact q v _ hv ⟨two + 1, nm, ns, updM_same, by rw [updM_ne D.ne.symm]; exact D.hl, by omega, by omega, D.n0, D.p0, D.ne⟩ S.a
abbrev nPo : List Str := ["_law_script", "_law_base", "_law_seed", "_law_left", "_law_cell"]
theorem scPo : FnScope nPo ["_law_script", "_law_base"] (defScope sPo) := ⟨rfl, rfl, rfl, by decide +kernel, rfl, by decide +kernel, by decide +kernel⟩
def scrD (ns : List Int) : PyData := .list (ns.map .int)
theorem scr_items (μ : M) (ns : List Int) : items μ (.D (scrD ns)) = some (ns.map intA) := by
  show some ((ns.map PyData.int).map AV.D) = _
  rw [List.map_map]; rfl
theorem cutA_map {α : Type} (g : α → AV) (xs : List α) (lo hi : Option Int) : ∃ ys : List α, cutA (xs.map g) lo hi = ys.map g ∧ ys.length ≤ xs.length := by
  refine ⟨(xs.drop (HT.sIx (xs.map g).length 0 lo)).take (HT.sIx (xs.map g).length (xs.map g).length hi - HT.sIx (xs.map g).length 0 lo), ?_, ?_⟩
  · unfold cutA
    rw [← List.map_drop, ← List.map_take]
  · rw [List.length_take, List.length_drop]; omega
def spPo : ASp := fun xs μ R => ∃ (ns : List Int) (b : Nat), xs = [.D (scrD ns), .D (.int b)] ∧ b < 1000 ∧ ns.length ≤ 63 ∧ ∀ (a l : Addr) (μ' : M), μ a = none → μ l = none → Pot μ' a l → Sub μ μ' → R (.R a) μ'
theorem ok_po {n : Nat} (F : Fun K "_law_pot" "_law_pot" sPo f fd) : FnOk P w K mg base CX0 (n + 1) f fd ["_law_script", "_law_base"] (cSp K 2 spPo) := by
  refine F.vok scPo fun cdv A outer s H E hr => ⟨_, (vss_cons (vs_set (i := 2) scPo.nd rfl (Or.inl rfl) (ve_op o_add (ve_op o_mul ve_int (vv 1)) ve_int))
      (vss_cons (vs_set (i := 3) scPo.nd rfl (Or.inl rfl) (ve_lst va_nil))
      (vss_cons (vs_for PassesOwn.never rfl (vi_seq (ve_slice (vv 0) (vo_some (vv 1)) (vo_some ve_int))) (vg_name (i := 4) scPo.nd rfl (Or.inl rfl)) (vss_cons (vs_set (i := 2) scPo.nd rfl (Or.inl rfl) (ve_op o_mod (ve_op o_add (ve_op o_add (ve_op o_mul (vv 2) ve_int) (ve_op o_mod (vv 4) ve_int)) ve_int) ve_int))
      (vss_one (vs_if (vt_cmp o_ge (vv 4) (ve_op o_pow ve_int ve_int) (nomark _)) (vss_one (vs_expr (ve_ml PySem.F.slot_list_append PySem.F.type_list_append m_append (vv 3) (va_cons (vv 4) va_nil)))) vss_nil))))
      (vss_one (vs_ret (ve_lst (va_cons (vv 2) (va_cons ve_int (va_cons (vv 3) va_nil))))))))), ?_⟩
  rintro xs μ R _ ⟨ns, b, rfl, hb, hn, q⟩
  refine ⟨.inl ⟨by decide, by decide⟩, ?_⟩
  intro l hl
  obtain ⟨cs, ecs, hcl⟩ := cutA_map intA ns (some (b : Int)) (some 63)
  refine seq_i (fun τ μ' => ∃ (o : Option AV) (sd : Int) (ls : List Int), τ = [some (.D (scrD ns)), some (.D (.int b)), some (.D (.int sd)), some (.R l), o] ∧ μ' l = some (.lst (ls.map intA)) ∧ Sub μ μ' ∧ (∀ z ∈ ls, 0 ≤ z) ∧ 0 ≤ sd ∧ sd < 2147483648) (fun W' hW' => ?_) ?_
  · refine opt_i (scr_items _ ns) fun p hp => ?_
    rw [ecs]
    have hpl : l ≠ p := by intro z; subst z; rw [updM_same] at hp; cases hp
    have hpn : μ p = none := by rw [updM_ne hpl.symm] at hp; exact hp
    refine opt_i (x := cs.map intA) (by show (match updM _ p _ p with | some (MO.lst xs) => some xs | _ => none) = _; rw [updM_same]) ?_
    refine for_i (fun i τ μ' => ∃ (o : Option AV) (sd : Int) (ls : List Int), τ = [some (.D (scrD ns)), some (.D (.int b)), some (.D (.int sd)), some (.R l), o] ∧ μ' l = some (.lst (ls.map intA)) ∧ μ' p = some (.lst (cs.map intA)) ∧ Sub μ μ' ∧ (∀ z ∈ ls, 0 ≤ z) ∧ ls.length ≤ i ∧ 0 ≤ sd ∧ sd < 2147483648)
      ⟨none, 7919 * b + 104729, [], rfl, by rw [updM_ne hpl, updM_same]; rfl, updM_same, (Sub.refl.new hl).new hpn, (fun _ z => nomatch z), Nat.zero_le _, by omega, by omega⟩ ?_ ?_ ?_
    · rintro i τ μ' ⟨o, sd, ls, rfl, h1, h2, _⟩
      show (match μ' p with | some (MO.lst xs) => some xs | _ => none) = _
      rw [h2]
    · rintro i y τ μ' W hy ⟨o, sd, ls, rfl, h1, h2, h3, h4, h5, h6, h7⟩ hW
      rw [List.getElem?_map] at hy
      obtain ⟨c, hc, rfl⟩ := Option.map_eq_some_iff.mp hy
      have hi : i < cs.length := (List.getElem?_eq_some_iff.mp hc).1
      refine ⟨.inr ⟨by decide, by decide⟩, (by show (0 : Int) < _; decide), (by show (0 : Int) < _; decide), ?_⟩
      dsimp only
      have e1 := Int.emod_nonneg (sd * 48271 + c % 2147483629 + 1) (show (2147483647 : Int) ≠ 0 by decide)
      have e2 := Int.emod_lt_of_pos (sd * 48271 + c % 2147483629 + 1) (show (0 : Int) < 2147483647 by decide)
      generalize (sd * 48271 + c % 2147483629 + 1) % 2147483647 = s2 at e1 e2 ⊢
      refine ⟨⟨by decide, by decide, by decide⟩, dif (fun c2 => ?_) (fun c2 => hW _ _ ⟨_, s2, ls, rfl, h1, h2, h3, h4, by omega, by omega, by omega⟩)⟩
      refine ⟨opt_i h1 trivial, opt_i h1 ⟨by rw [List.length_map]; exact small1000 (by omega), hW _ _ ⟨_, s2, ls ++ [c], rfl, ?_, by rw [updM_ne hpl.symm]; exact h2, ?_, ?_, by simp; omega, by omega, by omega⟩⟩⟩
      · rw [updM_same, List.map_append]; rfl
      · intro b m e
        rw [updM_ne (by intro z; subst z; rw [hl] at e; cases e)]; exact h3 b m e
      · intro z hz
        rcases List.mem_append.mp hz with hz | hz
        · exact h4 z hz
        · rw [List.mem_singleton.mp hz]
          have : (10 ^ (18 : Int).toNat : Int) ≤ c := c2
          have h18 : (0 : Int) ≤ 10 ^ (18 : Int).toNat := by decide
          omega
    · rintro τ μ' ⟨o, sd, ls, rfl, h1, h2, h3, h4, h5, h6, h7⟩
      exact hW' _ _ ⟨o, sd, ls, rfl, h1, h3, h4, h6, h7⟩
  · rintro τ μ' ⟨o, sd, ls, rfl, h1, h3, h4, h6, h7⟩
    intro a ha
    have hal : a ≠ l := by intro z; subst z; rw [h1] at ha; cases ha
    have han := h3.none ha
    exact ⟨_, Sub.refl, q a l _ han hl ⟨sd, 0, ls, updM_same, by rw [updM_ne hal.symm]; exact h1, h6, h7, Int.le_refl 0, h4, hal⟩ (h3.new han)⟩
end

section
variable {P : Program} {w : World} {K : PySem.W.Frag} {mg : Str → Option Value} {base : Heap} {f : Addr} {fd : FuncData}
/-! ### a program that is let by, drawn -/
def natA (n : Nat) : AV := .D (natD n)
def prcA (p : List Stp) : AV := .D (prcD p)
def stpA (s : Stp) : AV := .D s.D
theorem okA3 : EqOk (.tuple [.str "ask", .str "chance", .str "if"]) := ⟨by decide +kernel, by simp [PyData.depth, PyData.depthAll]⟩
theorem d_ask : ([PyData.str "ask", .str "chance", .str "if"].any fun e => PyData.eqv e (.str "ask")) = true := by decide +kernel
theorem d_chance : ([PyData.str "ask", .str "chance", .str "if"].any fun e => PyData.eqv e (.str "chance")) = true := by decide +kernel
theorem d_set : ([PyData.str "ask", .str "chance", .str "if"].any fun e => PyData.eqv e (.str "set")) = false := by decide +kernel
theorem d_if : ([PyData.str "ask", .str "chance", .str "if"].any fun e => PyData.eqv e (.str "if")) = true := by decide +kernel
theorem d_call : ([PyData.str "ask", .str "chance", .str "if"].any fun e => PyData.eqv e (.str "call")) = false := by decide +kernel
theorem d_back : ([PyData.str "ask", .str "chance", .str "if"].any fun e => PyData.eqv e (.str "back")) = false := by decide +kernel
theorem d_mark : ([PyData.str "ask", .str "chance", .str "if"].any fun e => PyData.eqv e (.str "mark")) = false := by decide +kernel
theorem dats_prc (ps : List (List Stp)) : dats (ps.map prcA) = some (ps.map prcD) := by
  rw [show ps.map prcA = (ps.map prcD).map .D by rw [List.map_map]; rfl]; exact dats_map _
theorem dats_stp (ps : List Stp) : dats (ps.map stpA) = some (ps.map Stp.D) := by
  rw [show ps.map stpA = (ps.map Stp.D).map .D by rw [List.map_map]; rfl]; exact dats_map _
abbrev nPr : List Str := ["_law_pot_here", "_law_switches", "_law_sizes", "_law_procedures", "_law_many", "_law_steps", "_law_at", "_law_words", "_law_word", "_law_step"]
theorem scPr : FnScope nPr ["_law_pot_here"] (defScope sPr) := ⟨rfl, rfl, rfl, by decide +kernel, rfl, by decide +kernel, by decide +kernel⟩
theorem ndPr1 : (["_law_k", "_law_pot_here"] : List Str).Nodup := by decide +kernel
def spPr : ASp := fun xs μ R => ∃ a l, xs = [.R a] ∧ Pot μ a l ∧ ∀ (sw : Nat) (ps : Prg) (μ' : M), PrgOk ps → 0 < ps.length → Pot μ' a l → Ext2 a l μ μ' → R (.D (prgD sw ps)) μ'
theorem ne_kn {μ : M} {p b : Addr} {m : MO} (h : μ b = some m) (e : μ p = none) : b ≠ p := by intro z; subst z; rw [h] at e; cases e
theorem ok_pr {n : Nat} (F : Fun K "_law_program" "_law_program" sPr f fd) (cDr : VCal P w K mg base n "_law_draw" ["_law_pot_here", "_law_many"] spDr) (m_range : mg "range" = none) (m_len : mg "len" = none) (m_tuple : mg "tuple" = none) : FnOk P w K mg base CX0 (n + 1) f fd ["_law_pot_here"] (cSp K 1 spPr) := by
  refine F.vok scPr fun cdv A outer s H E hr => ⟨_, (vss_cons (vs_set (i := 1) scPr.nd rfl (Or.inl rfl) (ve_call cDr hr rfl (va_cons (vv 0) (va_cons ve_int va_nil))))
      (vss_cons (vs_setC (i := 2) (N' := ["_law_k", "_law_pot_here"]) (mp := [none, some 0]) rfl scPr.nd rfl rfl (vi_range1 rfl m_range (va_cons (ve_op o_add ve_int (ve_call cDr hr rfl (va_cons (vv 0) (va_cons ve_int va_nil)))) va_nil)) (fun _ _ _ _ => (vg_name (i := 0) ndPr1 rfl (Or.inl rfl) (Or.inr rfl))) (fun _ _ _ _ => vifs_nil) (fun _ _ _ _ => (ve_op o_add ve_int (ve_call cDr hr rfl (va_cons (vv 1) (va_cons ve_int va_nil))))) (compOk_of (N := nPr) (pn := (defScope sPr).names) (by decide +kernel)))
      (vss_cons (vs_set (i := 3) scPr.nd rfl (Or.inl rfl) (ve_lst va_nil))
      (vss_cons (vs_for PassesOwn.never rfl (vi_seq (vv 2)) (vg_name (i := 4) scPr.nd rfl (Or.inl rfl)) (vss_cons (vs_set (i := 5) scPr.nd rfl (Or.inl rfl) (ve_lst va_nil))
      (vss_cons (vs_for PassesOwn.never rfl (vi_range1 rfl m_range (va_cons (vv 4) va_nil)) (vg_name (i := 6) scPr.nd rfl (Or.inl rfl)) (vss_cons (vs_set (i := 7) scPr.nd rfl (Or.inl rfl) (ve_lst (va_cons ve_str (va_cons ve_str (va_cons ve_str (va_cons ve_str (va_cons ve_str (va_cons ve_str (va_cons ve_str (va_cons ve_str (va_cons ve_str va_nil)))))))))))
      (vss_cons (vs_set (i := 8) scPr.nd rfl (Or.inl rfl) (ve_ix i_ix (vv 7) (ve_call cDr hr rfl (va_cons (vv 0) (va_cons (ve_op o_add ve_int (ve_op o_mul ve_int (vv 1))) va_nil)))))
      (vss_cons (vs_set (i := 9) scPr.nd rfl (Or.inl rfl) (ve_tup (va_cons (vv 8) va_nil)))
      (vss_cons (vs_if (vt_cmp (o_in hr) (vv 8) (ve_tup (va_cons ve_str (va_cons ve_str (va_cons ve_str va_nil)))) (by with_unfolding_all rfl)) (vss_one (vs_set (i := 9) scPr.nd rfl (Or.inl rfl) (ve_tup (va_cons (vv 8) (va_cons (ve_call cDr hr rfl (va_cons (vv 0) (va_cons (vv 4) va_nil))) (va_cons (ve_call cDr hr rfl (va_cons (vv 0) (va_cons (vv 4) va_nil))) va_nil)))))) vss_nil)
      (vss_cons (vs_if (vt_cmp (o_eq hr) (vv 8) ve_str (nomark _)) (vss_one (vs_set (i := 9) scPr.nd rfl (Or.inl rfl) (ve_tup (va_cons (vv 8) (va_cons (ve_call cDr hr rfl (va_cons (vv 0) (va_cons (ve_callB c_len rfl m_len PySem.boot_len (va_cons (vv 2) va_nil)) va_nil))) va_nil))))) vss_nil)
      (vss_cons (vs_if (vt_cmp (o_eq hr) (vv 8) ve_str (nomark _)) (vss_one (vs_set (i := 9) scPr.nd rfl (Or.inl rfl) (ve_tup (va_cons (vv 8) (va_cons (ve_call cDr hr rfl (va_cons (vv 0) (va_cons ve_int va_nil))) va_nil))))) vss_nil)
      (vss_one (vs_expr (ve_ml PySem.F.slot_list_append PySem.F.type_list_append m_append (vv 5) (va_cons (vv 9) va_nil)))))))))))
      (vss_one (vs_expr (ve_ml PySem.F.slot_list_append PySem.F.type_list_append m_append (vv 3) (va_cons (ve_callTy c_tuple rfl m_tuple PyProof.Rows.boot_tuple (va_cons (vv 5) va_nil)) va_nil)))))))
      (vss_one (vs_ret (ve_tup (va_cons (vv 1) (va_cons (ve_callTy c_tuple rfl m_tuple PyProof.Rows.boot_tuple (va_cons (vv 3) va_nil)) va_nil))))))))), ?_⟩
  rintro xs μ R _ ⟨a, l, rfl, hP, q⟩
  refine ⟨a, l, 2, rfl, hP, by decide, by decide, fun sw μ1 hsw P1 S1 => ?_⟩
  refine seq_i (fun τ μ' => ∃ (pz : Addr) (zs : List Nat), τ = [some (.R a), some (natA sw), some (.R pz), none, none, none, none, none, none, none] ∧ μ' pz = some (.lst (zs.map natA)) ∧ a ≠ pz ∧ l ≠ pz ∧ 0 < zs.length ∧ zs.length ≤ 3 ∧ (∀ z ∈ zs, 1 ≤ z ∧ z ≤ 4) ∧ Pot μ' a l ∧ Ext2 a l μ μ') (fun W' hW' => ?_) ?_
  · refine ⟨a, l, 3, rfl, P1, by decide, by decide, fun c μ2 hc P2 S2 => ⟨by omega, by omega, fun pz hpz => ?_⟩⟩
    have hne := P2.ne hpz
    have hlen : (rngA 0 ((1 : Int) + (c : Int)).toNat).length = 1 + c := by rw [rngA_length]; omega
    refine comp_i (fun i acc τ μ' => ∃ (o : Option AV) (zs : List Nat), τ = [o, some (.R a)] ∧ acc = zs.map natA ∧ zs.length = i ∧ (∀ z ∈ zs, 1 ≤ z ∧ z ≤ 4) ∧ μ' pz = some (.lst acc) ∧ Pot μ' a l ∧ Ext2 a l μ μ') ⟨none, [], rfl, rfl, rfl, (fun _ z => nomatch z), updM_same, P2.new hpz, (S1.trans S2).new hpz⟩ (fun _ _ _ _ _ => trivial) ?_ ?_
    · rintro i x acc τ μ' W hx ⟨o, zs, rfl, rfl, hzl, hz, hm, P3, S3⟩ hW
      have hi : i < 1 + c := by rw [← hlen]; exact (List.getElem?_eq_some_iff.mp hx).1
      refine brT rfl ⟨a, l, 4, rfl, P3, by decide, by decide, fun v μ4 hv P4 S4 => ?_⟩
      have hm4 := S4 pz _ hne.1.symm hne.2.symm hm
      refine ⟨hm4, by rw [List.length_map]; exact small1000 (by omega), hW _ _ _ ⟨_, zs ++ [1 + v], rfl, by rw [List.map_append]; rfl, by rw [List.length_append, hzl]; rfl, ?_, updM_same, P4.other hne.1 hne.2, ?_⟩⟩
      · intro z h
        rcases List.mem_append.mp h with h | h
        · exact hz z h
        · rw [List.mem_singleton.mp h]; omega
      · exact (S3.trans S4).put ((S1.trans S2).none hne.1 hne.2 hpz)
    · rintro acc τ μ' ⟨o, zs, rfl, rfl, hzl, hz, hm, P3, S3⟩
      exact hW' _ _ ⟨pz, zs, rfl, hm, hne.1, hne.2, by omega, by omega, hz, P3, S3⟩
  rintro τ μ2 ⟨pz, zs, rfl, hz, ha, hl, hz0, hz3, hzs, P2, S2⟩
  intro pp hpp
  have hpp1 := P2.ne hpp
  have hppz : pz ≠ pp := ne_kn hz hpp
  refine seq_i (fun τ μ' => ∃ (o4 o5 o6 o7 o8 o9 : Option AV) (ps : Prg), τ = [some (.R a), some (natA sw), some (.R pz), some (.R pp), o4, o5, o6, o7, o8, o9] ∧ μ' pp = some (.lst (ps.map prcA)) ∧ ps.length = zs.length ∧ (∀ p ∈ ps, ∀ s ∈ p, StpOk zs.length p.length s) ∧ Pot μ' a l ∧ Ext2 a l μ μ') (fun W' hW' => ?_) ?_
  · refine opt_i (items_R (by rw [updM_ne hppz]; exact hz)) ?_
    refine for_i (fun i τ μ' => ∃ (o4 o5 o6 o7 o8 o9 : Option AV) (ps : Prg), τ = [some (.R a), some (natA sw), some (.R pz), some (.R pp), o4, o5, o6, o7, o8, o9] ∧ μ' pp = some (.lst (ps.map prcA)) ∧ ps.length = i ∧ (∀ p ∈ ps, ∀ s ∈ p, StpOk zs.length p.length s) ∧ μ' pz = some (.lst (zs.map natA)) ∧ Pot μ' a l ∧ Ext2 a l μ μ')
      ⟨none, none, none, none, none, none, [], rfl, updM_same, rfl, (fun _ z => nomatch z), by rw [updM_ne hppz]; exact hz, P2.new hpp, S2.new hpp⟩ ?_ ?_ ?_
    · rintro i τ μ' ⟨o4, o5, o6, o7, o8, o9, ps, rfl, h1, h2, h3, h4, h5, h6⟩
      exact items_R h4
    · rintro i x τ μ' W hx ⟨o4, o5, o6, o7, o8, o9, ps, rfl, h1, h2, h3, h4, h5, h6⟩ hW
      rw [List.getElem?_map] at hx
      obtain ⟨z, hzi, rfl⟩ := Option.map_eq_some_iff.mp hx
      have hi : i < zs.length := (List.getElem?_eq_some_iff.mp hzi).1
      have hz14 := hzs z (List.mem_of_getElem? hzi)
      intro pst hpst
      have hst1 := h5.ne hpst
      have hstz : pz ≠ pst := ne_kn h4 hpst
      have hstp : pp ≠ pst := ne_kn h1 hpst
      refine seq_i (fun τ μ'' => ∃ (o6 o7 o8 o9 : Option AV) (st : List Stp), τ = [some (.R a), some (natA sw), some (.R pz), some (.R pp), some (natA z), some (.R pst), o6, o7, o8, o9] ∧ μ'' pst = some (.lst (st.map stpA)) ∧ st.length = z ∧ (∀ s ∈ st, StpOk zs.length z s) ∧ Pot μ'' a l ∧ Ext2 a l μ' μ'') (fun W3 hW3 => ?_) ?_
      · refine ⟨by omega, by omega, ?_⟩
        have hlen : (rngA 0 (z : Int).toNat).length = z := by rw [rngA_length]; omega
        refine for_i (fun j τ μ'' => ∃ (o6 o7 o8 o9 : Option AV) (st : List Stp), τ = [some (.R a), some (natA sw), some (.R pz), some (.R pp), some (natA z), some (.R pst), o6, o7, o8, o9] ∧ μ'' pst = some (.lst (st.map stpA)) ∧ st.length = j ∧ (∀ s ∈ st, StpOk zs.length z s) ∧ Pot μ'' a l ∧ Ext2 a l μ' μ'')
          ⟨o6, o7, o8, o9, [], rfl, updM_same, rfl, (fun _ z => nomatch z), h5.new hpst, Ext2.refl.new hpst⟩ (fun _ _ _ _ => trivial) ?_ ?_
        · rintro j x τ μ3 W4 hx ⟨o6, o7, o8, o9, st, rfl, k1, k2, k3, k4, k5⟩ hW4
          have hj : j < z := by rw [← hlen]; exact (List.getElem?_eq_some_iff.mp hx).1
          intro pw hpw
          have hpw1 := k4.ne hpw
          have hstw : pst ≠ pw := ne_kn k1 hpw
          have fin : ∀ (s : Stp) (μ4 : M) (o6 o7 o8 o9 : Option AV), StpOk zs.length z s → Pot μ4 a l → Ext2 a l (updM μ3 pw (.lst [.D (.str "ask"), .D (.str "call"), .D (.str "chance"), .D (.str "back"), .D (.str "mark"), .D (.str "call"), .D (.str "set"), .D (.str "if"), .D (.str "set")])) μ4 →
              (isLst μ4 (.R pst) ∧ opt (μ4 pst) fun m => match m with
                | .lst ys => ys.length < sizeLine ∧ W4 [some (.R a), some (natA sw), some (.R pz), some (.R pp), some (natA z), some (.R pst), o6, o7, o8, o9] (updM μ4 pst (.lst (ys ++ [stpA s])))
                | _ => False) := by
            intro s μ4 o6 o7 o8 o9 hs p4 s4
            have g1 := s4 pst _ hst1.1.symm hst1.2.symm (by rw [updM_ne hstw]; exact k1)
            refine ⟨opt_i g1 trivial, opt_i g1 ⟨by rw [List.length_map]; exact small1000 (by omega), hW4 _ _ ⟨o6, o7, o8, o9, st ++ [s], rfl, by rw [updM_same, List.map_append]; rfl, by rw [List.length_append, k2]; rfl, ?_, p4.other hst1.1 hst1.2, ?_⟩⟩⟩
            · intro t ht
              rcases List.mem_append.mp ht with ht | ht
              · exact k3 t ht
              · rw [List.mem_singleton.mp ht]; exact hs
            · exact ((k5.new hpw).trans s4).put hpst
          refine seq_i (fun τ μ4 => ∃ (o9 : Option AV) (wd : Stp), τ = [some (.R a), some (natA sw), some (.R pz), some (.R pp), some (natA z), some (.R pst), some x, some (.R pw), some (.D (.str wd.word)), o9] ∧ Pot μ4 a l ∧ Ext2 a l (updM μ3 pw (.lst [.D (.str "ask"), .D (.str "call"), .D (.str "chance"), .D (.str "back"), .D (.str "mark"), .D (.str "call"), .D (.str "set"), .D (.str "if"), .D (.str "set")])) μ4) (fun W5 hW5 => ?_) ?_
          · refine ⟨.inl ⟨by decide, by decide⟩, a, l, 6 + 3 * sw, rfl, k4.new hpw, by omega, by omega, fun v μ5 hv P5 S5 => ?_⟩
            have g1 := S5 pw _ hpw1.1.symm hpw1.2.symm updM_same
            refine opt_i g1 ?_
            have hv9 : v = 0 ∨ v = 1 ∨ v = 2 ∨ v = 3 ∨ v = 4 ∨ v = 5 ∨ v = 6 ∨ v = 7 ∨ v = 8 := by omega
            rcases hv9 with rfl | rfl | rfl | rfl | rfl | rfl | rfl | rfl | rfl
            · exact opt_i rfl (hW5 _ _ ⟨o9, .ask 0 0, rfl, P5, S5⟩)
            · exact opt_i rfl (hW5 _ _ ⟨o9, .call 0, rfl, P5, S5⟩)
            · exact opt_i rfl (hW5 _ _ ⟨o9, .chance 0 0, rfl, P5, S5⟩)
            · exact opt_i rfl (hW5 _ _ ⟨o9, .back, rfl, P5, S5⟩)
            · exact opt_i rfl (hW5 _ _ ⟨o9, .mark, rfl, P5, S5⟩)
            · exact opt_i rfl (hW5 _ _ ⟨o9, .call 0, rfl, P5, S5⟩)
            · exact opt_i rfl (hW5 _ _ ⟨o9, .set 0, rfl, P5, S5⟩)
            · exact opt_i rfl (hW5 _ _ ⟨o9, .iff 0 0, rfl, P5, S5⟩)
            · exact opt_i rfl (hW5 _ _ ⟨o9, .set 0, rfl, P5, S5⟩)
          · rintro τ μ4 ⟨o9, wd, rfl, P4, S4⟩
            cases wd with
            | ask _ _ =>
              refine opt_i rfl ⟨eqOk_str (wOk _), okA3, brT d_ask ⟨a, l, z, rfl, P4, by omega, by omega, fun x1 μ5 hx1 P5 S5 => ⟨a, l, z, rfl, P5, by omega, by omega, fun x2 μ6 hx2 P6 S6 => ?_⟩⟩⟩
              exact wNe n_ask_call (wNe n_ask_set (fin (.ask x1 x2) _ _ _ _ _ ⟨hx1, hx2⟩ P6 ((S4.trans S5).trans S6)))
            | chance _ _ =>
              refine opt_i rfl ⟨eqOk_str (wOk _), okA3, brT d_chance ⟨a, l, z, rfl, P4, by omega, by omega, fun x1 μ5 hx1 P5 S5 => ⟨a, l, z, rfl, P5, by omega, by omega, fun x2 μ6 hx2 P6 S6 => ?_⟩⟩⟩
              exact wNe n_chance_call (wNe n_chance_set (fin (.chance x1 x2) _ _ _ _ _ ⟨hx1, hx2⟩ P6 ((S4.trans S5).trans S6)))
            | iff _ _ =>
              refine opt_i rfl ⟨eqOk_str (wOk _), okA3, brT d_if ⟨a, l, z, rfl, P4, by omega, by omega, fun x1 μ5 hx1 P5 S5 => ⟨a, l, z, rfl, P5, by omega, by omega, fun x2 μ6 hx2 P6 S6 => ?_⟩⟩⟩
              exact wNe n_if_call (wNe n_if_set (fin (.iff x1 x2) _ _ _ _ _ ⟨hx1, hx2⟩ P6 ((S4.trans S5).trans S6)))
            | call _ =>
              have gz0 := k5 pz _ ha.symm hl.symm h4
              have gz : μ4 pz = some (.lst (zs.map natA)) := S4 pz _ ha.symm hl.symm (by rw [updM_ne (ne_kn gz0 hpw)]; exact gz0)
              refine opt_i rfl ⟨eqOk_str (wOk _), okA3, brF d_call (wEq e_call_call (opt_i gz ⟨a, l, zs.length, ?_, P4, hz0, by omega, fun x1 μ5 hx1 P5 S5 => ?_⟩))⟩
              · rw [List.length_map]
              · exact wNe n_call_set (fin (.call x1) _ _ _ _ _ hx1 P5 (S4.trans S5))
            | set _ =>
              refine opt_i rfl ⟨eqOk_str (wOk _), okA3, brF d_set (wNe n_set_call (wEq e_set_set ⟨a, l, 2, rfl, P4, by decide, by decide, fun x1 μ5 hx1 P5 S5 => ?_⟩))⟩
              exact fin (.set x1) _ _ _ _ _ (show x1 ≤ 1 by omega) P5 (S4.trans S5)
            | back => exact opt_i rfl ⟨eqOk_str (wOk _), okA3, brF d_back (wNe n_back_call (wNe n_back_set (fin .back _ _ _ _ _ trivial P4 S4)))⟩
            | mark => exact opt_i rfl ⟨eqOk_str (wOk _), okA3, brF d_mark (wNe n_mark_call (wNe n_mark_set (fin .mark _ _ _ _ _ trivial P4 S4)))⟩
        · rintro τ μ3 ⟨o6, o7, o8, o9, st, rfl, k1, k2, k3, k4, k5⟩
          rw [hlen] at k2
          exact hW3 _ _ ⟨o6, o7, o8, o9, st, rfl, k1, k2, k3, k4, k5⟩
      · rintro τ μ3 ⟨o6, o7, o8, o9, st, rfl, k1, k2, k3, k4, k5⟩
        have g1 := k5 pp _ hpp1.1.symm hpp1.2.symm h1
        refine ⟨opt_i g1 trivial, opt_i (items_R k1) (opt_i (dats_stp st) (opt_i g1 ⟨by rw [List.length_map]; exact small1000 (by omega), hW _ _ ⟨_, _, _, _, _, _, ps ++ [st], rfl, by rw [updM_same, List.map_append]; rfl, by rw [List.length_append, h2]; rfl, ?_, by rw [updM_ne hppz]; exact k5 pz _ ha.symm hl.symm h4, k4.other hpp1.1 hpp1.2, ?_⟩⟩))⟩
        · intro p hp
          rcases List.mem_append.mp hp with hp | hp
          · exact h3 p hp
          · rw [List.mem_singleton.mp hp, k2]; exact k3
        · exact (h6.trans k5).put (S2.none hpp1.1 hpp1.2 hpp)
    · rintro τ μ' ⟨o4, o5, o6, o7, o8, o9, ps, rfl, h1, h2, h3, h4, h5, h6⟩
      rw [List.length_map] at h2
      exact hW' _ _ ⟨o4, o5, o6, o7, o8, o9, ps, rfl, h1, h2, h3, h5, h6⟩
  · rintro τ μ' ⟨o4, o5, o6, o7, o8, o9, ps, rfl, h1, h2, h3, h5, h6⟩
    refine opt_i (items_R h1) (opt_i (dats_prc ps) ⟨_, Sub.refl, q sw ps _ ?_ (by omega) h5 h6⟩)
    intro p hp s hs
    rw [h2]; exact h3 p hp s hs
end

section
variable {P : Program} {w : World} {K : PySem.W.Frag} {mg : Str → Option Value} {base : Heap} {f : Addr} {fd : FuncData}
theorem ixN_last {α : Type} {xs : List α} {x : α} : ixN (xs ++ [x]).length (-1) = some xs.length := by
  unfold ixN
  rw [if_neg (by decide), if_pos (by rw [List.length_append]; simp; omega)]
  congr 1
  rw [List.length_append]; simp; omega
theorem set_last {α : Type} {xs : List α} {x y : α} : (xs ++ [x]).set xs.length y = xs ++ [y] := by simp
theorem get_last {α : Type} {xs : List α} {x : α} : (xs ++ [x])[(xs ++ [x]).length - 1]? = some x := by simp
/-! ### how a run goes, by the law -/
def ptA (q : Pt) : AV := .D (ptD q)
def hereL (l : List Pt) : List AV := l.reverse.map ptA
theorem hereL_cons (q : Pt) (r : List Pt) : hereL (q :: r) = hereL r ++ [ptA q] := by unfold hereL; rw [List.reverse_cons, List.map_append]; rfl
theorem hereL_len (l : List Pt) : (hereL l).length = l.length := by unfold hereL; rw [List.length_map, List.length_reverse]
theorem okSC : EqOk (.tuple [.str "set", .str "call"]) := ⟨by decide +kernel, by simp [PyData.depth, PyData.depthAll]⟩
theorem s_ask : ([PyData.str "set", .str "call"].any fun e => PyData.eqv e (.str "ask")) = false := by decide +kernel
theorem s_chance : ([PyData.str "set", .str "call"].any fun e => PyData.eqv e (.str "chance")) = false := by decide +kernel
theorem s_set : ([PyData.str "set", .str "call"].any fun e => PyData.eqv e (.str "set")) = true := by decide +kernel
theorem s_if : ([PyData.str "set", .str "call"].any fun e => PyData.eqv e (.str "if")) = false := by decide +kernel
theorem s_call : ([PyData.str "set", .str "call"].any fun e => PyData.eqv e (.str "call")) = true := by decide +kernel
theorem s_back : ([PyData.str "set", .str "call"].any fun e => PyData.eqv e (.str "back")) = false := by decide +kernel
theorem s_mark : ([PyData.str "set", .str "call"].any fun e => PyData.eqv e (.str "mark")) = false := by decide +kernel
abbrev nRu : List Str := ["_law_program_here", "_law_choices", "_law_most", "_law_procedures", "_law_switch", "_law_used", "_law_steps", "_law_here", "_law_k", "_law_at", "_law_step"]
theorem scRu : FnScope nRu ["_law_program_here", "_law_choices", "_law_most"] (defScope sRu) := ⟨rfl, rfl, rfl, by decide +kernel, rfl, by decide +kernel, by decide +kernel⟩
def procsD (ps : Prg) : PyData := .tuple (ps.map prcD)
def tauR (sw : Nat) (ps : Prg) (cs : List Nat) (most a i st : Nat) (ph : Addr) (o8 o9 o10 : Option AV) : ASt := [some (.D (prgD sw ps)), some (.D (chD cs)), some (.D (natD most)), some (.D (procsD ps)), some (.D (natD a)), some (.D (natD i)), some (.D (natD st)), some (.R ph), o8, o9, o10]
theorem ok_ru {n : Nat} (F : Fun K "_law_run" "_law_run" sRu f fd) (m_len : mg "len" = none) : FnOk P w K mg base CX0 (n + 1) f fd ["_law_program_here", "_law_choices", "_law_most"] (cSp K 3 spRp) := by
  refine F.vok scRu fun cdv A outer s H E hr => ⟨_, (vss_cons (vs_set (i := 3) scRu.nd rfl (Or.inl rfl) (ve_ix i_ix (vv 0) ve_int))
      (vss_cons (vs_set (i := 4) scRu.nd rfl (Or.inl rfl) ve_int)
      (vss_cons (vs_set (i := 5) scRu.nd rfl (Or.inl rfl) ve_int)
      (vss_cons (vs_set (i := 6) scRu.nd rfl (Or.inl rfl) ve_int)
      (vss_cons (vs_set (i := 7) scRu.nd rfl (Or.inl rfl) (ve_lst (va_cons (ve_tup (va_cons ve_int (va_cons ve_int va_nil))) va_nil)))
      (vss_one (vs_while PassesOwn.never (vt_val ve_bl) (vss_cons (vs_while PassesOwn.never (VW.pt (vw_and (vt_cmp o_gt (ve_callB c_len rfl m_len PySem.boot_len (va_cons (vv 7) va_nil)) ve_int (nomark _)) (vw_and1 (vt_cmp (o_eq hr) (ve_ix i_ix (ve_ix i_ix (vv 7) (ve_neg ve_int)) ve_int) (ve_callB c_len rfl m_len PySem.boot_len (va_cons (ve_ix i_ix (vv 3) (ve_ix i_ix (ve_ix i_ix (vv 7) (ve_neg ve_int)) ve_int)) va_nil)) (nomark _))))) (vss_one (vs_expr (ve_ml0 PySem.F.slot_list_pop PySem.F.type_list_pop m_pop (vv 7)))))
      (vss_cons (vs_if (vt_cmp (o_eq hr) (ve_callB c_len rfl m_len PySem.boot_len (va_cons (vv 7) va_nil)) ve_int (nomark _)) (vss_one (vs_ret (ve_tup (va_cons ve_str (va_cons (vv 6) va_nil))))) vss_nil)
      (vss_cons (vs_if (vt_cmp (o_eq hr) (vv 6) (vv 2) (nomark _)) (vss_one (vs_ret (ve_tup (va_cons ve_str (va_cons (vv 6) va_nil))))) vss_nil)
      (vss_cons (vs_asg (ve_ix i_ix (vv 7) (ve_neg ve_int)) (vg_tup (n := 2) rfl (vgs_cons (vg_name (i := 8) scRu.nd rfl (Or.inl rfl)) (vgs_cons (vg_name (i := 9) scRu.nd rfl (Or.inl rfl)) vgs_nil))))
      (vss_cons (vs_set (i := 10) scRu.nd rfl (Or.inl rfl) (ve_ix i_ix (ve_ix i_ix (vv 3) (vv 8)) (vv 9)))
      (vss_cons (vs_if (vt_cmp (o_in hr) (ve_ix i_ix (vv 10) ve_int) (ve_tup (va_cons ve_str (va_cons ve_str va_nil))) (by with_unfolding_all rfl)) (vss_cons (vs_if (vt_cmp (o_eq hr) (vv 5) (ve_callB c_len rfl m_len PySem.boot_len (va_cons (vv 1) va_nil)) (nomark _)) (vss_one (vs_ret (ve_tup (va_cons ve_str (va_cons (vv 6) va_nil))))) vss_nil)
      (vss_cons (vs_asg (ve_tup (va_cons (vv 8) (va_cons (ve_ix i_ix (vv 10) (ve_op o_add ve_int (ve_ix i_ix (vv 1) (vv 5)))) va_nil))) (vg_sub (vv 7) (ve_neg ve_int)))
      (vss_one (vs_set (i := 5) scRu.nd rfl (Or.inl rfl) (ve_op o_add (vv 5) ve_int))))) vss_nil)
      (vss_cons (vs_set (i := 6) scRu.nd rfl (Or.inl rfl) (ve_op o_add (vv 6) ve_int))
      (vss_cons (vs_if (vt_cmp (o_eq hr) (ve_ix i_ix (vv 10) ve_int) ve_str (nomark _)) (vss_one (vs_ret (ve_tup (va_cons ve_str (va_cons (vv 6) va_nil))))) vss_nil)
      (vss_cons (vs_if (vt_cmp (o_eq hr) (ve_ix i_ix (vv 10) ve_int) ve_str (nomark _)) (vss_one (vs_asg (ve_tup (va_cons (vv 8) (va_cons (ve_ix i_ix (ve_lst (va_cons (ve_ix i_ix (vv 10) ve_int) (va_cons (ve_ix i_ix (vv 10) ve_int) va_nil))) (vv 4)) va_nil))) (vg_sub (vv 7) (ve_neg ve_int)))) vss_nil)
      (vss_cons (vs_if (vt_cmp (o_eq hr) (ve_ix i_ix (vv 10) ve_int) ve_str (nomark _)) (vss_one (vs_set (i := 4) scRu.nd rfl (Or.inl rfl) (ve_ix i_ix (vv 10) ve_int))) vss_nil)
      (vss_cons (vs_if (vt_cmp (o_in hr) (ve_ix i_ix (vv 10) ve_int) (ve_tup (va_cons ve_str (va_cons ve_str va_nil))) (by with_unfolding_all rfl)) (vss_one (vs_asg (ve_tup (va_cons (vv 8) (va_cons (ve_op o_add (vv 9) ve_int) va_nil))) (vg_sub (vv 7) (ve_neg ve_int)))) vss_nil)
      (vss_cons (vs_if (vt_cmp (o_eq hr) (ve_ix i_ix (vv 10) ve_int) ve_str (nomark _)) (vss_one (vs_expr (ve_ml PySem.F.slot_list_append PySem.F.type_list_append m_append (vv 7) (va_cons (ve_tup (va_cons (ve_ix i_ix (vv 10) ve_int) (va_cons ve_int va_nil))) va_nil)))) vss_nil)
      (vss_one (vs_if (vt_cmp (o_eq hr) (ve_ix i_ix (vv 10) ve_int) ve_str (nomark _)) (vss_one (vs_expr (ve_ml0 PySem.F.slot_list_pop PySem.F.type_list_pop m_pop (vv 7)))) vss_nil))))))))))))))))))))), ?_⟩
  rintro xs μ R _ ⟨sw, ps, cs, most, rfl, hin, h⟩
  refine opt_i rfl ?_
  intro ph hph
  refine while_i (fun m τ μ' => ∃ (a : Nat) (l : List Pt) (i st : Nat) (o8 o9 o10 : Option AV), τ = tauR sw ps cs most a i st ph o8 o9 o10 ∧ μ' ph = some (.lst (hereL l)) ∧
    Sub μ μ' ∧ st + m = most ∧ i ≤ cs.length ∧ a ≤ 1 ∧ (∀ q ∈ l, PtOk ps q) ∧ l.length ≤ st + 1 ∧ runD ps cs most = resD (goR ps m a (strip ps l) (cs.drop i) st)) most ⟨0, [(0, 0)], 0, 0, none, none, none, rfl, updM_same, Sub.refl.new hph, Nat.zero_add _, Nat.zero_le _, Nat.zero_le _, all_cons (pt_call hin.ne) (fun _ z => nomatch z), Nat.le_refl _, rfl⟩ ?_
  rintro m τ μ' W ⟨a, l, i, st, o8, o9, o10, rfl, hh, hs, em, hi, ha1, hl, hlen, er⟩ hW
  rw [er] at h
  refine brT rfl ?_
  refine seq_i (fun τ μ2 => τ = tauR sw ps cs most a i st ph o8 o9 o10 ∧ μ2 ph = some (.lst (hereL (strip ps l))) ∧ Sub μ μ2) (fun W' hW' => ?_) ?_
  · refine while_i (fun m2 τ μ2 => ∃ r, m2 = r.length ∧ τ = tauR sw ps cs most a i st ph o8 o9 o10 ∧ μ2 ph = some (.lst (hereL r)) ∧ Sub μ μ2 ∧ strip ps r = strip ps l ∧ (∀ q ∈ r, PtOk ps q)) l.length ⟨l, rfl, rfl, hh, hs, rfl, hl⟩ ?_
    rintro m2 τ μ2 W2 ⟨r, rfl, rfl, g1, g2, g3, g4⟩ hW2
    cases r with
    | nil =>
      refine opt_i g1 (dif (fun c => absurd c (by decide)) (fun c => brF rfl (hW' _ _ ⟨rfl, ?_, g2⟩)))
      rw [← g3]; exact g1
    | cons q r =>
      rw [hereL_cons] at g1
      refine opt_i g1 (dif (fun _ => ?_) (fun c => absurd (show (0 : Int) < ((hereL r ++ [ptA q]).length : Nat) by simp) c))
      obtain ⟨p, e1, e2⟩ := g4 q List.mem_cons_self
      have i1 : atI (ps.map prcD) (q.1 : Int) = some (prcD p) := atI_nat (by rw [List.getElem?_map, e1]; rfl)
      refine opt_i g1 (opt_i (atI_last _ _) (opt_i rfl (opt_i g1 (opt_i (atI_last _ _) (opt_i rfl (opt_i i1 (ieq (fun c => ?_) (fun c => ?_))))))))
      · have c : q.2 = p.length := by
          have c : (q.2 : Int) = ((p.map Stp.D).length : Nat) := c
          rw [List.length_map] at c; omega
        have en : stepAt ps q = none := by unfold stepAt; rw [e1]; exact List.getElem?_eq_none_iff.mpr (by omega)
        refine ⟨opt_i g1 trivial, opt_i g1 (opt_i get_last (hW2 r.length _ _ (Nat.lt_succ_self _) ⟨r, rfl, rfl, ?_, ?_, ?_, fun x hx => g4 x (List.mem_cons_of_mem _ hx)⟩))⟩
        · rw [updM_same, List.dropLast_concat]
        · intro b m e
          rw [updM_ne (by intro z; subst z; rw [hph] at e; cases e)]; exact g2 b m e
        · rw [← g3, strip, en]
      · have c : ¬ q.2 = p.length := by
          have c : (q.2 : Int) ≠ ((p.map Stp.D).length : Nat) := c
          rw [List.length_map] at c; omega
        have en : stepAt ps q = some (p[q.2]'(by omega)) := by unfold stepAt; rw [e1]; exact List.getElem?_eq_getElem (by omega)
        refine hW' _ _ ⟨rfl, ?_, g2⟩
        rw [← g3, strip, en, hereL_cons]; exact g1
  rintro τ μ2 ⟨rfl, g1, g2⟩
  have hl2 := strip_ok hl
  have hlen2 := strip_len (ps := ps) l
  have hhd := @strip_head ps l
  generalize strip ps l = l2 at g1 h hl2 hlen2 er hhd
  cases l2 with
  | nil =>
    refine opt_i g1 (ieq (fun _ => ⟨μ, g2, ?_⟩) (fun c => absurd rfl c))
    cases m <;> exact h
  | cons q r =>
    rw [hereL_cons] at g1
    refine opt_i g1 (ieq (fun c => absurd c (by show ((hereL r ++ [ptA q]).length : Int) ≠ 0; simp; omega)) (fun _ => ?_))
    cases m with
    | zero => exact ieq (fun _ => ⟨μ, g2, h⟩) (fun c => absurd (show (st : Int) = most by omega) c)
    | succ m =>
      refine ieq (fun c => absurd c (show (st : Int) ≠ most by omega)) (fun _ => ?_)
      obtain ⟨s, e⟩ := hhd rfl
      obtain ⟨p, e1, e2⟩ := step_of e
      have hso := ok_of hin.ok e1 e2
      have i1 : atI (ps.map prcD) (q.1 : Int) = some (prcD p) := atI_nat (by rw [List.getElem?_map, e1]; rfl)
      have i2 : atI (p.map Stp.D) (q.2 : Int) = some s.D := atI_nat (by rw [List.getElem?_map, e2]; rfl)
      have hr2 : ∀ x ∈ r, PtOk ps x := fun x hx => hl2 x (List.mem_cons_of_mem _ hx)
      have put : ∀ (μ3 : M) (xs : List AV), Sub μ μ3 → Sub μ (updM μ3 ph (.lst xs)) := fun μ3 xs S b m e => by
        rw [updM_ne (by intro z; subst z; rw [hph] at e; cases e)]; exact S b m e
      refine opt_i g1 (opt_i (atI_last _ _) ⟨rfl, opt_i i1 (opt_i i2 ?_)⟩)
      have again : ∀ (a2 i3 : Nat) (pts : List Pt) (μ3 : M) (o8 o9 o10 : Option AV), μ3 ph = some (.lst (hereL (pts ++ r))) → Sub μ μ3 → i3 ≤ cs.length → a2 ≤ 1 → (∀ x ∈ pts, PtOk ps x) → pts.length ≤ 2 → goR ps (m + 1) a (q :: r) (cs.drop i) st = goR ps m a2 (strip ps (pts ++ r)) (cs.drop i3) (st + 1) →
          W (tauR sw ps cs most a2 i3 (st + 1) ph o8 o9 o10) μ3 := fun a2 i3 pts μ3 o8 o9 o10 w1 w2 w3 w4 w5 w6 w7 => by
        refine hW m _ _ (Nat.lt_succ_self _) ⟨a2, pts ++ r, i3, st + 1, o8, o9, o10, rfl, w1, w2, by omega, w3, w4, ?_, ?_, by rw [er, w7]⟩
        · intro x hx
          rcases List.mem_append.mp hx with hx | hx
          · exact w5 x hx
          · exact hr2 x hx
        · rw [List.length_append]; simp at hlen2; omega
      cases s with
      | mark =>
        rw [goR, e] at h
        exact opt_i (atI_nat (j := 0) rfl) (opt_i rfl ⟨eqOk_str (wOk _), okAC, brF c_mark (opt_i (atI_nat (j := 0) rfl) (wEq e_mark_mark ⟨μ, g2, h⟩))⟩)
      | back =>
        refine opt_i (atI_nat (j := 0) rfl) (opt_i rfl ⟨eqOk_str (wOk _), okAC, brF c_back (opt_i (atI_nat (j := 0) rfl) (wNe n_back_mark (opt_i (atI_nat (j := 0) rfl) (wNe n_back_if (opt_i (atI_nat (j := 0) rfl) (wNe n_back_set (opt_i (atI_nat (j := 0) rfl) (opt_i rfl ⟨eqOk_str (wOk _), okSC, brF s_back (opt_i (atI_nat (j := 0) rfl) (wNe n_back_call (opt_i (atI_nat (j := 0) rfl) (wEq e_back_back ⟨opt_i g1 trivial, opt_i g1 (opt_i get_last ?_)⟩))))⟩))))))))⟩)
        refine again a i [] _ _ _ _ ?_ (put _ _ g2) hi ha1 (fun _ z => nomatch z) (Nat.le_of_ble_eq_true rfl) (by rw [goR, e]; rfl)
        rw [updM_same, List.dropLast_concat]; rfl
      | set v =>
        refine opt_i (atI_nat (j := 0) rfl) (opt_i rfl ⟨eqOk_str (wOk _), okAC, brF c_set (opt_i (atI_nat (j := 0) rfl) (wNe n_set_mark (opt_i (atI_nat (j := 0) rfl) (wNe n_set_if (opt_i (atI_nat (j := 0) rfl) (wEq e_set_set (opt_i (atI_nat (j := 1) rfl) (opt_i (atI_nat (j := 0) rfl) (opt_i rfl ⟨eqOk_str (wOk _), okSC, brT s_set (opt_i g1 (opt_i ixN_last (opt_i (atI_nat (j := 0) rfl) (wNe n_set_call (opt_i (atI_nat (j := 0) rfl) (wNe n_set_back (?_)))))))⟩)))))))))⟩)
        refine again v i [(q.1, q.2 + 1)] _ _ _ _ ?_ (put _ _ g2) hi hso (all_cons (pt_next e1 e2) (fun _ z => nomatch z)) (Nat.le_of_ble_eq_true rfl) (by rw [goR, e]; rfl)
        rw [updM_same, set_last]; exact congrArg (fun x => some (MO.lst x)) (hereL_cons (q.1, q.2 + 1) r).symm
      | call k =>
        have g3 : ∀ x, updM μ2 ph x ph = some x := fun _ => updM_same
        refine opt_i (atI_nat (j := 0) rfl) (opt_i rfl ⟨eqOk_str (wOk _), okAC, brF c_call (opt_i (atI_nat (j := 0) rfl) (wNe n_call_mark (opt_i (atI_nat (j := 0) rfl) (wNe n_call_if (opt_i (atI_nat (j := 0) rfl) (wNe n_call_set (opt_i (atI_nat (j := 0) rfl) (opt_i rfl ⟨eqOk_str (wOk _), okSC, brT s_call (opt_i g1 (opt_i ixN_last (opt_i (atI_nat (j := 0) rfl) (wEq e_call_call ⟨opt_i (g3 _) trivial, opt_i (atI_nat (j := 1) rfl) (opt_i (g3 _) ⟨?_, opt_i (atI_nat (j := 0) rfl) (wNe n_call_back (?_))⟩)⟩))))⟩))))))))⟩)
        · rw [set_last]; exact small1000 (by rw [List.length_append, hereL_len]; simp at hlen2 ⊢; have := hin.most; omega)
        refine again a i [(k, 0), (q.1, q.2 + 1)] _ _ _ _ ?_ (put _ _ (put _ _ g2)) hi ha1 (all_cons (pt_call hso) (all_cons (pt_next e1 e2) (fun _ z => nomatch z))) (Nat.le_of_ble_eq_true rfl) (by rw [goR, e]; rfl)
        rw [updM_same, set_last]
        refine congrArg (fun x => some (MO.lst x)) ?_
        show _ = hereL ((k, 0) :: (q.1, q.2 + 1) :: r)
        rw [hereL_cons, hereL_cons]; rfl
      | iff x y =>
        refine opt_i (atI_nat (j := 0) rfl) (opt_i rfl ⟨eqOk_str (wOk _), okAC, brF c_if (opt_i (atI_nat (j := 0) rfl) (wNe n_if_mark (opt_i (atI_nat (j := 0) rfl) (wEq e_if_if (opt_i (atI_nat (j := 2) rfl) (opt_i (atI_nat (j := 1) rfl) ?_))))))⟩)
        intro pl hpl
        have hpl2 : ph ≠ pl := ne_kn g1 hpl
        have g3 : updM μ2 pl (.lst [.D (natD y), .D (natD x)]) ph = some (.lst (hereL r ++ [ptA q])) := by rw [updM_ne hpl2]; exact g1
        have ix : atI [AV.D (natD y), AV.D (natD x)] (a : Int) = some (.D (natD (if a = 1 then x else y))) := by
          have : a = 0 ∨ a = 1 := by omega
          rcases this with rfl | rfl <;> rfl
        refine opt_i updM_same (opt_i ix (opt_i g3 (opt_i ixN_last (opt_i (atI_nat (j := 0) rfl) (wNe n_if_set (opt_i (atI_nat (j := 0) rfl) (opt_i rfl ⟨eqOk_str (wOk _), okSC, brF s_if (opt_i (atI_nat (j := 0) rfl) (wNe n_if_call (opt_i (atI_nat (j := 0) rfl) (wNe n_if_back (?_)))))⟩)))))))
        refine again a i [(q.1, if a = 1 then x else y)] _ _ _ _ ?_ (put _ _ (g2.new (g2.none hpl))) hi ha1 (all_cons ?_ (fun _ z => nomatch z)) (Nat.le_of_ble_eq_true rfl) (by rw [goR, e]; rfl)
        · rw [updM_same, set_last]; exact congrArg (fun x => some (MO.lst x)) (hereL_cons (q.1, if a = 1 then x else y) r).symm
        · split
          · exact pt_to e1 hso.1
          · exact pt_to e1 hso.2
      | ask x y =>
        refine opt_i (atI_nat (j := 0) rfl) (opt_i rfl ⟨eqOk_str (wOk _), okAC, brT c_ask ?_⟩)
        cases ec : cs.drop i with
        | nil =>
          have e0 : i = cs.length := by have := List.drop_eq_nil_iff.mp ec; omega
          refine ieq (fun _ => ⟨μ, g2, ?_⟩) (fun c => absurd (show (i : Int) = ((cs.map natD).length : Nat) by rw [List.length_map, e0]) c)
          rw [ec, goR, e] at h
          exact h
        | cons c cr =>
          obtain ⟨hc, hcr⟩ := drop_cons ec
          have hlt : i < cs.length := (List.getElem?_eq_some_iff.mp hc).1
          have hc1 := hin.cs c (List.mem_of_getElem? hc)
          have ich : atI (cs.map natD) (i : Int) = some (natD c) := atI_nat (by rw [List.getElem?_map, hc]; rfl)
          have ix : atI (PyData.str "ask" :: [x, y].map natD) (1 + (c : Int)) = some (natD (if c = 0 then x else y)) := by
            have : c = 0 ∨ c = 1 := by omega
            rcases this with rfl | rfl <;> rfl
          refine ieq (fun z => absurd (show (i : Int) = ((cs.map natD).length : Nat) from z) (by rw [List.length_map]; omega)) (fun _ => ?_)
          refine opt_i ich (opt_i ix (opt_i g1 (opt_i ixN_last (opt_i (atI_nat (j := 0) rfl) (wNe n_ask_mark (opt_i (atI_nat (j := 0) rfl) (wNe n_ask_if (opt_i (atI_nat (j := 0) rfl) (wNe n_ask_set (opt_i (atI_nat (j := 0) rfl) (opt_i rfl ⟨eqOk_str (wOk _), okSC, brF s_ask (opt_i (atI_nat (j := 0) rfl) (wNe n_ask_call (opt_i (atI_nat (j := 0) rfl) (wNe n_ask_back (?_)))))⟩)))))))))))
          refine again a (i + 1) [(q.1, if c = 0 then x else y)] _ _ _ _ ?_ (put _ _ g2) hlt ha1 (all_cons ?_ (fun _ z => nomatch z)) (Nat.le_of_ble_eq_true rfl) (by rw [ec, hcr, goR, e]; rfl)
          · rw [updM_same, set_last]; exact congrArg (fun x => some (MO.lst x)) (hereL_cons (q.1, if c = 0 then x else y) r).symm
          · split
            · exact pt_to e1 hso.1
            · exact pt_to e1 hso.2
      | chance x y =>
        refine opt_i (atI_nat (j := 0) rfl) (opt_i rfl ⟨eqOk_str (wOk _), okAC, brT c_chance ?_⟩)
        cases ec : cs.drop i with
        | nil =>
          have e0 : i = cs.length := by have := List.drop_eq_nil_iff.mp ec; omega
          refine ieq (fun _ => ⟨μ, g2, ?_⟩) (fun c => absurd (show (i : Int) = ((cs.map natD).length : Nat) by rw [List.length_map, e0]) c)
          rw [ec, goR, e] at h
          exact h
        | cons c cr =>
          obtain ⟨hc, hcr⟩ := drop_cons ec
          have hlt : i < cs.length := (List.getElem?_eq_some_iff.mp hc).1
          have hc1 := hin.cs c (List.mem_of_getElem? hc)
          have ich : atI (cs.map natD) (i : Int) = some (natD c) := atI_nat (by rw [List.getElem?_map, hc]; rfl)
          have ix : atI (PyData.str "chance" :: [x, y].map natD) (1 + (c : Int)) = some (natD (if c = 0 then x else y)) := by
            have : c = 0 ∨ c = 1 := by omega
            rcases this with rfl | rfl <;> rfl
          refine ieq (fun z => absurd (show (i : Int) = ((cs.map natD).length : Nat) from z) (by rw [List.length_map]; omega)) (fun _ => ?_)
          refine opt_i ich (opt_i ix (opt_i g1 (opt_i ixN_last (opt_i (atI_nat (j := 0) rfl) (wNe n_chance_mark (opt_i (atI_nat (j := 0) rfl) (wNe n_chance_if (opt_i (atI_nat (j := 0) rfl) (wNe n_chance_set (opt_i (atI_nat (j := 0) rfl) (opt_i rfl ⟨eqOk_str (wOk _), okSC, brF s_chance (opt_i (atI_nat (j := 0) rfl) (wNe n_chance_call (opt_i (atI_nat (j := 0) rfl) (wNe n_chance_back (?_)))))⟩)))))))))))
          refine again a (i + 1) [(q.1, if c = 0 then x else y)] _ _ _ _ ?_ (put _ _ g2) hlt ha1 (all_cons ?_ (fun _ z => nomatch z)) (Nat.le_of_ble_eq_true rfl) (by rw [ec, hcr, goR, e]; rfl)
          · rw [updM_same, set_last]; exact congrArg (fun x => some (MO.lst x)) (hereL_cons (q.1, if c = 0 then x else y) r).symm
          · split
            · exact pt_to e1 hso.1
            · exact pt_to e1 hso.2
end

section
variable {P : Program} {w : World} {K : PySem.W.Frag} {mg : Str → Option Value} {base : Heap} {f : Addr} {fd : FuncData}
/-! ### the law -/
theorem kits_of {K : PySem.W.Frag} {T : String} (h : ∀ S ∈ ["NoneType", "bool", "int", "str", "list", "tuple", "dict"], PySem.W.kitOne K (.type S) (.type T) = some (kit S T)) : Kits K T := h
theorem kits_tuple {K : PySem.W.Frag} : Kits K "tuple" := by
  intro S hS
  simp only [List.mem_cons, List.not_mem_nil, or_false] at hS
  rcases hS with rfl | rfl | rfl | rfl | rfl | rfl | rfl <;> rfl
theorem kits_str {K : PySem.W.Frag} : Kits K "str" := by
  intro S hS
  simp only [List.mem_cons, List.not_mem_nil, or_false] at hS
  rcases hS with rfl | rfl | rfl | rfl | rfl | rfl | rfl <;> rfl
theorem kits_int {K : PySem.W.Frag} : Kits K "int" := by
  intro S hS
  simp only [List.mem_cons, List.not_mem_nil, or_false] at hS
  rcases hS with rfl | rfl | rfl | rfl | rfl | rfl | rfl <;> rfl
theorem kits_bool {K : PySem.W.Frag} : Kits K "bool" := by
  intro S hS
  simp only [List.mem_cons, List.not_mem_nil, or_false] at hS
  rcases hS with rfl | rfl | rfl | rfl | rfl | rfl | rfl <;> rfl
theorem k_tt : (!kit "tuple" "tuple") = false := by decide
theorem k_ss : kit "str" "str" = true := by decide
theorem k_ii : kit "int" "int" = true := by decide
theorem k_ib : (!kit "int" "bool") = true := by decide
theorem goR_word {ps : Prg} : ∀ (n a : Nat) (l : List Pt) (cs : List Nat) (st : Nat), PyData.canLay0 (.str (goR ps n a l cs st).1) = true ∧ (goR ps n a l cs st).2 ≤ st + n := by
  have k1 : PyData.canLay0 (.str "over") = true := by decide +kernel
  have k2 : PyData.canLay0 (.str "more") = true := by decide +kernel
  have k3 : PyData.canLay0 (.str "marked") = true := by decide +kernel
  have k4 : PyData.canLay0 (.str "lacks") = true := by decide +kernel
  intro n
  induction n with
  | zero =>
    intro a l cs st
    cases l with
    | nil => exact ⟨k1, Nat.le_refl _⟩
    | cons q r => exact ⟨k2, Nat.le_refl _⟩
  | succ n ih =>
    intro a l cs st
    cases l with
    | nil => exact ⟨k1, by show st ≤ _; omega⟩
    | cons q r =>
      have go : ∀ a l cs, PyData.canLay0 (.str (goR ps n a l cs (st + 1)).1) = true ∧ (goR ps n a l cs (st + 1)).2 ≤ st + (n + 1) := fun a l cs => ⟨(ih a l cs (st + 1)).1, by have := (ih a l cs (st + 1)).2; omega⟩
      rw [goR]
      split
      · exact ⟨k1, by show st ≤ _; omega⟩
      · exact ⟨k3, by show st + 1 ≤ _; omega⟩
      · split
        · exact ⟨k4, by show st ≤ _; omega⟩
        · exact go _ _ _
      · split
        · exact ⟨k4, by show st ≤ _; omega⟩
        · exact go _ _ _
      · exact go _ _ _
      · exact go _ _ _
      · exact go _ _ _
      · exact go _ _ _
theorem run_ok (ps : Prg) (cs : List Nat) (most : Nat) : EqOk (runD ps cs most) := by
  have h := (goR_word (ps := ps) most 0 (strip ps [(0, 0)]) cs 0).1
  unfold runD resD
  constructor
  · simp only [PyData.canLay0, PyData.canLayAll0, natD] at h ⊢
    rw [h]; rfl
  · simp [PyData.depth, PyData.depthAll, natD]
theorem run_eqv (ps : Prg) (cs : List Nat) (most : Nat) : PyData.eqv (runD ps cs most) (runD ps cs most) = true := by
  unfold runD resD
  simp [PyData.eqv, PyData.eqvAll, natD]
abbrev nRi : List Str := ["_law_program_here", "_law_choices", "_law_most", "_law_found"]
theorem scRi : FnScope nRi ["_law_program_here", "_law_choices", "_law_most"] (defScope sRi) := ⟨rfl, rfl, rfl, by decide +kernel, rfl, by decide +kernel, by decide +kernel⟩
def spRi : ASp := fun xs μ R => ∃ (sw : Nat) (ps : Prg) (cs : List Nat) (most : Nat), xs = [.D (prgD sw ps), .D (chD cs), .D (natD most)] ∧ RunIn ps cs most ∧ R (.D (.bool true)) μ
theorem ok_ri {n : Nat} (F : Fun K "_law_right" "_law_right" sRi f fd) (cRp : VCal P w K mg base n "run_program" ["program", "choices", "most"] spRp) (cRu : VCal P w K mg base n "_law_run" ["_law_program_here", "_law_choices", "_law_most"] spRp)
    (m_isinstance : mg "isinstance" = none) (m_tuple : mg "tuple" = none) (m_str : mg "str" = none) (m_int : mg "int" = none) (m_bool : mg "bool" = none) : FnOk P w K mg base CX0 (n + 1) f fd ["_law_program_here", "_law_choices", "_law_most"] (cSp K 3 spRi) := by
  refine F.vok scRi fun cdv A outer s H E hr => ⟨_, (vss_cons (vs_set (i := 3) scRi.nd rfl (Or.inl rfl) (ve_call cRp hr rfl (va_cons (vv 0) (va_cons (vv 1) (va_cons (vv 2) va_nil)))))
      (vss_cons (vs_if (VW.pt (vw_or (vt_not (vt_val (ve_isT rfl m_isinstance rfl m_tuple PyProof.Rows.boot_tuple kits_tuple (vv 3)))) (vw_or1 (vt_cmp (o_ne hr) (vv 3) (ve_call cRu hr rfl (va_cons (vv 0) (va_cons (vv 1) (va_cons (vv 2) va_nil)))) (nomark _))))) (vss_one (vs_ret ve_bl)) vss_nil)
      (vss_one (vs_ret (ve_and (ve_isT rfl m_isinstance rfl m_str PyProof.Rows.boot_str kits_str (ve_ix i_ix (vv 3) ve_int)) (ve_and (ve_isT rfl m_isinstance rfl m_int PyProof.Rows.boot_int kits_int (ve_ix i_ix (vv 3) ve_int)) (ve_one (ve_not (ve_isT rfl m_isinstance rfl m_bool PyProof.Rows.boot_bool kits_bool (ve_ix i_ix (vv 3) ve_int)))))))))), ?_⟩
  rintro xs μ R _ ⟨sw, ps, cs, most, rfl, hin, h⟩
  refine ⟨sw, ps, cs, most, rfl, hin, ?_⟩
  refine opt_i (x := "tuple") rfl (brF k_tt ⟨sw, ps, cs, most, rfl, hin, run_ok _ _ _, run_ok _ _ _, brF (by rw [run_eqv]; rfl) ?_⟩)
  refine opt_i rfl (opt_i (x := "str") rfl (brT k_ss (opt_i rfl (opt_i (x := "int") rfl (brT k_ii (opt_i rfl (opt_i (x := "int") rfl ⟨μ, Sub.refl, ?_⟩)))))))
  rw [k_ib]; exact h
end

section
variable {P : Program} {w : World} {K : PySem.W.Frag} {mg : Str → Option Value} {base : Heap} {f : Addr} {fd : FuncData}
abbrev Ask := List Nat × Nat
def askA (x : Ask) : AV := .D (.tuple [chD x.1, natD x.2])
def AskOk (x : Ask) : Prop := (∀ c ∈ x.1, c ≤ 1) ∧ x.2 ≤ 60
theorem dats_nat (ns : List Nat) : dats (ns.map natA) = some (ns.map natD) := by
  rw [show ns.map natA = (ns.map natD).map .D by rw [List.map_map]; rfl]; exact dats_map _
theorem app_ok {as : List Ask} {bs : List Ask} (h : ∀ x ∈ as, AskOk x) (k : ∀ x ∈ bs, AskOk x) : ∀ x ∈ as ++ bs, AskOk x := fun x hx => by
  rcases List.mem_append.mp hx with hx | hx
  · exact h x hx
  · exact k x hx
theorem one_ok {x : Ask} (h : AskOk x) : ∀ y ∈ [x], AskOk y := fun y hy => by rw [List.mem_singleton.mp hy]; exact h
def boolA (b : Bool) : AV := .D (.bool b)
theorem bools_rep (n : Nat) : bools ((List.replicate n true).map boolA) = some (List.replicate n true) := bools_map _
/-- choices, drawn -/
theorem draws {mp : List (Option Nat)} {kp : M → Prop} {a l pc : Addr} {μ0 μ1 : M} {c : Nat} {W : M → Prop} {τ0 : ASt} {te : AE} (hτ : τ0 = [none, some (.R a)]) (hc : c ≤ 60) (P1 : Pot μ1 a l) (S1 : Ext2 a l μ0 μ1) (hpc : μ1 pc = none) (hk : ∀ μ, kp μ)
    (hte : ∀ (x : AV) (μ : M) (R : AV → M → Prop), Pot μ a l → (∀ (v : Nat) (μ' : M), v < 2 → Pot μ' a l → Ext2 a l μ μ' → R (.D (.int v)) μ') → te [some x, some (.R a)] μ R)
    (hW : ∀ (cs : List Nat) (μ : M), (∀ c ∈ cs, c ≤ 1) → μ pc = some (.lst (cs.map natA)) → Pot μ a l → Ext2 a l μ0 μ → W μ) : cl pc (wName 0) vYes te kp W (rngA 0 (c : Int).toNat) [] τ0 (updM μ1 pc (.lst [])) := by
  have hne := P1.ne hpc
  have hlen : (rngA 0 (c : Int).toNat).length = c := by rw [rngA_length]; omega
  subst hτ
  refine comp_i (fun i acc τ μ' => ∃ (o : Option AV) (cs : List Nat), τ = [o, some (.R a)] ∧ acc = cs.map natA ∧ cs.length = i ∧ (∀ c ∈ cs, c ≤ 1) ∧ μ' pc = some (.lst acc) ∧ Pot μ' a l ∧ Ext2 a l μ0 μ') ⟨none, [], rfl, rfl, rfl, (fun _ z => nomatch z), updM_same, P1.new hpc, S1.new hpc⟩ (fun _ _ _ _ _ => hk _) ?_ ?_
  · rintro i x acc τ μ' W' hx ⟨o, cs, rfl, rfl, hcl, hcs, hm, P3, S3⟩ hW'
    have hi : i < c := by rw [← hlen]; exact (List.getElem?_eq_some_iff.mp hx).1
    refine brT rfl (hte x μ' _ P3 fun v μ4 hv P4 S4 => ?_)
    have hm4 := S4 pc _ hne.1.symm hne.2.symm hm
    refine ⟨hm4, by rw [List.length_map]; exact small1000 (by omega), hW' _ _ _ ⟨_, cs ++ [v], rfl, by rw [List.map_append]; rfl, by rw [List.length_append, hcl]; rfl, ?_, updM_same, P4.other hne.1 hne.2, (S3.trans S4).put (S1.none hne.1 hne.2 hpc)⟩⟩
    intro z h
    rcases List.mem_append.mp h with h | h
    · exact hcs z h
    · rw [List.mem_singleton.mp h]; omega
  · rintro acc τ μ' ⟨o, cs, rfl, rfl, hcl, hcs, hm, P3, S3⟩
    exact hW cs μ' hcs hm P3 S3
abbrev nLaw : List Str := ["_law_script", "_law_pot_here", "_law_program_here", "_law_asked", "_law_k", "_law_choices", "_law_most", "_law_steps"]
theorem scLaw : FnScope nLaw ["_law_script"] (defScope sLaw) := ⟨rfl, rfl, rfl, by decide +kernel, rfl, by decide +kernel, by decide +kernel⟩
theorem ndLaw1 : (["_law_j", "_law_pot_here"] : List Str).Nodup := by decide +kernel
theorem ndLaw2 : (["_law_upto", "_law_choices"] : List Str).Nodup := by decide +kernel
theorem ndLaw3 : (["_law_j", "_law_pot_here"] : List Str).Nodup := by decide +kernel
theorem ndLaw4 : (["_law_choices", "_law_most", "_law_program_here"] : List Str).Nodup := by decide +kernel
def spL : ASp := fun xs _ R => ∃ ns : List Int, xs = [.D (scrD ns)] ∧ ns.length ≤ 63 ∧ ∀ μ', R (.D (.bool true)) μ'
theorem mem_cut {α : Type} {xs : List AV} {lo hi : Option Int} {x : AV} (h : x ∈ cutA xs lo hi) : x ∈ xs := by
  unfold cutA at h
  exact List.mem_of_mem_drop (List.mem_of_mem_take h)
theorem cut_len {xs : List AV} {lo hi : Option Int} : (cutA xs lo hi).length ≤ xs.length := by
  unfold cutA
  rw [List.length_take, List.length_drop]; omega
theorem ok_lawV {n : Nat} (F : Fun K "law" "law" sLaw f fd) (cPo : VCal P w K mg base n "_law_pot" ["_law_script", "_law_base"] spPo) (cPr : VCal P w K mg base n "_law_program" ["_law_pot_here"] spPr) (cDr : VCal P w K mg base n "_law_draw" ["_law_pot_here", "_law_many"] spDr)
    (cRu : VCal P w K mg base n "_law_run" ["_law_program_here", "_law_choices", "_law_most"] spRp) (cRi : VCal P w K mg base n "_law_right" ["_law_program_here", "_law_choices", "_law_most"] spRi) (m_range : mg "range" = none) (m_tuple : mg "tuple" = none) (m_all : mg "all" = none) : FnOk P w K mg base CX0 (n + 1) f fd ["_law_script"] (cSp K 1 spL) := by
  refine F.vok scLaw fun cdv A outer s H E hr => ⟨_, (vss_cons (vs_set (i := 1) scLaw.nd rfl (Or.inr rfl) (ve_call cPo hr rfl (va_cons (vv 0) (va_cons ve_int va_nil))))
      (vss_cons (vs_set (i := 2) scLaw.nd rfl (Or.inr rfl) (ve_call cPr hr rfl (va_cons (vv 1) va_nil)))
      (vss_cons (vs_set (i := 3) scLaw.nd rfl (Or.inl rfl) (ve_lst va_nil))
      (vss_cons (vs_for PassesOwn.never rfl (vi_range1 rfl m_range (va_cons ve_int va_nil)) (vg_name (i := 4) scLaw.nd rfl (Or.inl rfl)) (vss_cons (vs_set (i := 5) scLaw.nd rfl (Or.inr rfl) (ve_callTy c_tuple rfl m_tuple PyProof.Rows.boot_tuple (va_cons (ve_comp (N' := ["_law_j", "_law_pot_here"]) (mp := [none, some 1]) rfl (vi_range1 rfl m_range (va_cons (ve_call cDr hr rfl (va_cons (vv 1) (va_cons ve_int va_nil))) va_nil)) (fun _ _ _ _ => (vg_name (i := 0) ndLaw1 rfl (Or.inl rfl) (Or.inr rfl))) (fun _ _ _ _ => vifs_nil) (fun _ _ _ _ => (ve_call cDr hr rfl (va_cons (vv 1) (va_cons ve_int va_nil)))) (compOk_of (N := nLaw) (pn := (defScope sLaw).names) (by decide +kernel))) va_nil)))
      (vss_cons (vs_set (i := 6) scLaw.nd rfl (Or.inl rfl) (ve_op o_add ve_int (ve_call cDr hr rfl (va_cons (vv 1) (va_cons (ve_ix i_ix (ve_lst (va_cons ve_int (va_cons ve_int va_nil))) (ve_call cDr hr rfl (va_cons (vv 1) (va_cons ve_int va_nil)))) va_nil)))))
      (vss_cons (vs_set (i := 7) scLaw.nd rfl (Or.inl rfl) (ve_ix i_ix (ve_call cRu hr rfl (va_cons (vv 2) (va_cons (vv 5) (va_cons ve_int va_nil)))) ve_int))
      (vss_cons (vs_expr (ve_ml PySem.F.slot_list_extend PySem.F.type_list_extend m_extend (vv 3) (va_cons (ve_lst (va_cons (ve_tup (va_cons (vv 5) (va_cons (vv 6) va_nil))) (va_cons (ve_tup (va_cons (vv 5) (va_cons ve_int va_nil))) va_nil))) va_nil)))
      (vss_one (vs_expr (ve_ml PySem.F.slot_list_extend PySem.F.type_list_extend m_extend (vv 3) (va_cons (ve_comp (N' := ["_law_upto", "_law_choices"]) (mp := [none, some 5]) rfl (vi_seq (ve_tup (va_cons (ve_op o_sub (vv 7) ve_int) (va_cons (vv 7) (va_cons (ve_op o_add (vv 7) ve_int) va_nil))))) (fun _ _ _ _ => (vg_name (i := 0) ndLaw2 rfl (Or.inl rfl) (Or.inr rfl))) (fun _ _ _ _ => (vifs_one (vt_chain o_lt o_lt ve_int (vv 0) ve_int))) (fun _ _ _ _ => (ve_tup (va_cons (vv 1) (va_cons (vv 0) va_nil)))) (compOk_of (N := nLaw) (pn := (defScope sLaw).names) (by decide +kernel))) va_nil)))))))))
      (vss_cons (vs_expr (ve_ml PySem.F.slot_list_append PySem.F.type_list_append m_append (vv 3) (va_cons (ve_tup (va_cons (ve_callTy c_tuple rfl m_tuple PyProof.Rows.boot_tuple (va_cons (ve_comp (N' := ["_law_j", "_law_pot_here"]) (mp := [none, some 1]) rfl (vi_range1 rfl m_range (va_cons ve_int va_nil)) (fun _ _ _ _ => (vg_name (i := 0) ndLaw3 rfl (Or.inl rfl) (Or.inr rfl))) (fun _ _ _ _ => vifs_nil) (fun _ _ _ _ => (ve_call cDr hr rfl (va_cons (vv 1) (va_cons ve_int va_nil)))) (compOk_of (N := nLaw) (pn := (defScope sLaw).names) (by decide +kernel))) va_nil)) (va_cons ve_int va_nil))) va_nil)))
      (vss_one (vs_ret (ve_callB (c_all rfl) rfl m_all PyProof.Rows.boot_all (va_cons (ve_comp (N' := ["_law_choices", "_law_most", "_law_program_here"]) (mp := [none, none, some 2]) rfl (vi_seq (ve_op o_add (vv 3) (ve_slice (vv 3) vo_none (vo_some ve_int)))) (fun _ _ _ _ => (vg_tup (n := 2) rfl (vgs_cons (vg_name (i := 0) ndLaw4 rfl (Or.inl rfl) (Or.inr rfl)) (vgs_cons (vg_name (i := 1) ndLaw4 rfl (Or.inl rfl) (Or.inr rfl)) vgs_nil)))) (fun _ _ _ _ => vifs_nil) (fun _ _ _ _ => (ve_call cRi hr rfl (va_cons (vv 2) (va_cons (vv 0) (va_cons (vv 1) va_nil))))) (compOk_of (N := nLaw) (pn := (defScope sLaw).names) (by decide +kernel))) va_nil))))))))), ?_⟩
  rintro xs μ R _ ⟨ns, rfl, hns, q⟩
  refine ⟨ns, 0, rfl, by decide, hns, fun a l μ1 _ _ P1 _ => ⟨a, l, rfl, P1, fun sw ps μ2 hok hne P2 S2 => ?_⟩⟩
  intro pa hpa
  have hpa1 := P2.ne hpa
  refine seq_i (fun τ μ' => ∃ (o4 o5 o6 o7 : Option AV) (as : List Ask), τ = [some (.D (scrD ns)), some (.R a), some (.D (prgD sw ps)), some (.R pa), o4, o5, o6, o7] ∧ μ' pa = some (.lst (as.map askA)) ∧ as.length ≤ 20 ∧ (∀ x ∈ as, AskOk x) ∧ Pot μ' a l) (fun W' hW' => ?_) ?_
  · refine ⟨by decide, by decide, ?_⟩
    refine for_i (fun i τ μ' => ∃ (o4 o5 o6 o7 : Option AV) (as : List Ask), τ = [some (.D (scrD ns)), some (.R a), some (.D (prgD sw ps)), some (.R pa), o4, o5, o6, o7] ∧ μ' pa = some (.lst (as.map askA)) ∧ as.length ≤ 5 * i ∧ (∀ x ∈ as, AskOk x) ∧ Pot μ' a l) ⟨none, none, none, none, [], rfl, updM_same, Nat.le_refl _, (fun _ z => nomatch z), P2.new hpa⟩ (fun _ _ _ _ => trivial) ?_ ?_
    · rintro i x τ μ3 W hx ⟨o4, o5, o6, o7, as, rfl, h1, h2, h3, h4⟩ hW
      have hi : i < 4 := (List.getElem?_eq_some_iff.mp hx).1
      refine seq_i (fun τ μ' => ∃ (o6 o7 : Option AV) (cs : List Nat), τ = [some (.D (scrD ns)), some (.R a), some (.D (prgD sw ps)), some (.R pa), some x, some (.D (chD cs)), o6, o7] ∧ (∀ c ∈ cs, c ≤ 1) ∧ Pot μ' a l ∧ Ext2 a l μ3 μ') (fun W3 hW3 => ?_) ?_
      · refine ⟨a, l, 13, rfl, h4, by decide, by decide, fun c μ4 hc P4 S4 => ⟨by omega, by omega, fun pc hpc => ?_⟩⟩
        refine draws (mp := []) (l := l) rfl (by omega) P4 S4 hpc (fun _ => trivial) (fun x μ R p k => ⟨a, l, 2, rfl, p, by decide, by decide, k⟩) fun cs μ5 hcs hm P5 S5 => ?_
        exact opt_i (items_R hm) (opt_i (dats_nat cs) (hW3 _ _ ⟨o6, o7, cs, rfl, hcs, P5, S5⟩))
      rintro τ μ4 ⟨o6, o7, cs, rfl, hcs, P4, S4⟩
      refine seq_i (fun τ μ' => ∃ (o7 : Option AV) (mo : Nat), τ = [some (.D (scrD ns)), some (.R a), some (.D (prgD sw ps)), some (.R pa), some x, some (.D (chD cs)), some (.D (natD mo)), o7] ∧ mo ≤ 60 ∧ Pot μ' a l ∧ Ext2 a l μ3 μ') (fun W3 hW3 => ?_) ?_
      · intro pl hpl
        have hpl1 := P4.ne hpl
        refine ⟨a, l, 2, rfl, P4.new hpl, by decide, by decide, fun v μ5 hv P5 S5 => ?_⟩
        have g := S5 pl _ hpl1.1.symm hpl1.2.symm updM_same
        have hv2 : v = 0 ∨ v = 1 := by omega
        rcases hv2 with rfl | rfl
        · refine opt_i g (opt_i rfl ⟨a, l, 8, rfl, P5, by decide, by decide, fun u μ6 hu P6 S6 => hW3 _ _ ⟨o7, 1 + u, rfl, by omega, P6, ((S4.new hpl).trans S5).trans S6⟩⟩)
        · refine opt_i g (opt_i rfl ⟨a, l, 60, rfl, P5, by decide, by decide, fun u μ6 hu P6 S6 => hW3 _ _ ⟨o7, 1 + u, rfl, by omega, P6, ((S4.new hpl).trans S5).trans S6⟩⟩)
      rintro τ μ5 ⟨o7, mo, rfl, hmo, P5, S5⟩
      have hin : ∀ m, m ≤ 60 → RunIn ps cs m := fun m hm => ⟨hok, hne, hcs, hm⟩
      refine ⟨sw, ps, cs, 60, rfl, hin 60 (Nat.le_refl _), opt_i rfl ?_⟩
      have g5 := S5 pa _ hpa1.1.symm hpa1.2.symm h1
      generalize hst : (goR ps 60 0 (strip ps [(0, 0)]) cs 0).2 = st
      refine seq_i (fun τ μ' => ∃ (as6 : List Ask), τ = [some (.D (scrD ns)), some (.R a), some (.D (prgD sw ps)), some (.R pa), some x, some (.D (chD cs)), some (.D (natD mo)), some (.D (natD st))] ∧ μ' pa = some (.lst (as6.map askA)) ∧ as6.length ≤ 5 * i + 2 ∧ (∀ x ∈ as6, AskOk x) ∧ Pot μ' a l) (fun W3 hW3 => ⟨opt_i g5 trivial, fun pl hpl => ?_⟩) ?_
      · have hpl2 : pa ≠ pl := ne_kn g5 hpl
        have hpl1 := P5.ne hpl
        refine opt_i (x := MO.lst (as.map askA)) (by rw [updM_ne hpl2]; exact g5) (opt_i updM_same ⟨by rw [List.length_map]; exact Nat.le_of_lt (small1000 (by show as.length + 2 ≤ _; omega)), hW3 _ _ ⟨as ++ [(cs, mo), (cs, 60)], rfl, by rw [updM_same, List.map_append]; rfl, by rw [List.length_append]; show as.length + 2 ≤ _; omega, app_ok h3 fun x hx => ?_, (P5.new hpl).other hpa1.1 hpa1.2⟩⟩)
        rcases List.mem_cons.mp hx with rfl | hx
        · exact ⟨hcs, hmo⟩
        · rw [List.mem_singleton.mp hx]; exact ⟨hcs, Nat.le_refl _⟩
      rintro τ μ6 ⟨as6, rfl, g6, len6, ok6, P6⟩
      refine ⟨opt_i g6 trivial, opt_i rfl fun pc hpc => ?_⟩
      have hpc2 : pa ≠ pc := ne_kn g6 hpc
      refine comp_i (fun j acc τ μ' => ∃ (o : Option AV) (bs : List Ask), τ = [o, some (.D (chD cs))] ∧ acc = bs.map askA ∧ bs.length ≤ j ∧ (∀ x ∈ bs, AskOk x) ∧ μ' = updM μ6 pc (.lst acc)) ⟨none, [], rfl, rfl, Nat.le_refl _, (fun _ z => nomatch z), rfl⟩ (fun _ _ _ _ _ => rfl) ?_ ?_
      · rintro j y acc τ μ' W4 hy ⟨o, bs, rfl, rfl, b1, b2, rfl⟩ hW4
        obtain ⟨t, rfl⟩ : ∃ t : Int, y = .D (.int t) := by
          match j, hy with
          | 0, hy => exact ⟨_, (Option.some.inj hy).symm⟩
          | 1, hy => exact ⟨_, (Option.some.inj hy).symm⟩
          | 2, hy => exact ⟨_, (Option.some.inj hy).symm⟩
          | j + 3, hy => cases hy
        have hj3 : j < 3 := (List.getElem?_eq_some_iff.mp hy).1
        refine dif (fun c1 => dif (fun c2 => ?_) (fun _ => hW4 _ _ _ ⟨_, bs, rfl, rfl, by omega, b2, rfl⟩)) (fun _ => brF rfl (hW4 _ _ _ ⟨_, bs, rfl, rfl, by omega, b2, rfl⟩))
        obtain ⟨u, eu, hu⟩ := nat_of (many := 61) (show 0 ≤ t by omega) c2
        subst eu
        exact ⟨updM_same, by rw [List.length_map]; exact small1000 (by omega), hW4 _ _ _ ⟨_, bs ++ [(cs, u)], rfl, by rw [List.map_append]; rfl, by rw [List.length_append]; show bs.length + 1 ≤ _; omega, app_ok b2 (one_ok ⟨hcs, by show u ≤ 60; omega⟩), updM_updM⟩⟩
      · rintro acc τ μ' ⟨o, bs, rfl, rfl, b1, b2, rfl⟩
        refine opt_i (x := MO.lst (as6.map askA)) (by rw [updM_ne hpc2]; exact g6) (opt_i updM_same ⟨?_, hW _ _ ⟨_, _, _, _, as6 ++ bs, rfl, by rw [updM_same, List.map_append], ?_, app_ok ok6 b2, (P6.new hpc).other hpa1.1 hpa1.2⟩⟩)
        · rw [List.length_map, List.length_map]
          have : bs.length ≤ 3 := b1
          exact Nat.le_of_lt (small1000 (by omega))
        · have : bs.length ≤ 3 := b1
          rw [List.length_append]; omega
    · rintro τ μ' ⟨o4, o5, o6, o7, as, rfl, h1, h2, h3, h4⟩
      exact hW' _ _ ⟨o4, o5, o6, o7, as, rfl, h1, h2, h3, h4⟩
  · rintro τ μ3 ⟨o4, o5, o6, o7, as, rfl, h1, h2, h3, h4⟩
    refine seq_i (fun τ μ' => ∃ (as : List Ask), τ = [some (.D (scrD ns)), some (.R a), some (.D (prgD sw ps)), some (.R pa), o4, o5, o6, o7] ∧ μ' pa = some (.lst (as.map askA)) ∧ as.length ≤ 21 ∧ (∀ x ∈ as, AskOk x)) (fun W' hW' => ?_) ?_
    · refine ⟨opt_i h1 trivial, by decide, by decide, fun pc hpc => ?_⟩
      refine draws (mp := []) (l := l) (c := 60) rfl (Nat.le_refl _) h4 Ext2.refl hpc (fun _ => trivial) (fun x μ R p k => ⟨a, l, 2, rfl, p, by decide, by decide, k⟩) fun cs μ5 hcs hm P5 S5 => ?_
      have g5 := S5 pa _ hpa1.1.symm hpa1.2.symm h1
      refine opt_i (items_R hm) (opt_i (dats_nat cs) (opt_i g5 ⟨by rw [List.length_map]; exact small1000 (by omega), hW' _ _ ⟨as ++ [(cs, 60)], rfl, by rw [updM_same, List.map_append]; rfl, by rw [List.length_append]; show as.length + 1 ≤ _; omega, app_ok h3 (one_ok ⟨hcs, Nat.le_refl _⟩)⟩⟩))
    rintro τ μ4 ⟨as, rfl, h1, h2, h3⟩
    refine opt_i (items_R h1) fun p1 hp1 => ?_
    have hp1a : pa ≠ p1 := ne_kn h1 hp1
    have hcl : (cutA (as.map askA) none (some 1)).length ≤ 21 := Nat.le_trans cut_len (by rw [List.length_map]; exact h2)
    refine opt_i (x := MO.lst (as.map askA)) (by rw [updM_ne hp1a]; exact h1) (opt_i updM_same ⟨Nat.le_of_lt (small1000 (by rw [List.length_map]; omega)), fun p2 hp2 => opt_i (items_R updM_same) fun pc hpc => ?_⟩)
    have hall : ∀ x ∈ as.map askA ++ cutA (as.map askA) none (some 1), ∃ k, x = askA k ∧ AskOk k := fun x hx => by
      have hx : x ∈ as.map askA := by
        rcases List.mem_append.mp hx with hx | hx
        · exact hx
        · exact mem_cut (α := Nat) hx
      obtain ⟨k, hk, rfl⟩ := List.mem_map.mp hx
      exact ⟨k, rfl, h3 k hk⟩
    have hL : (as.map askA ++ cutA (as.map askA) none (some 1)).length ≤ 1000 := by rw [List.length_append, List.length_map]; omega
    have hpc2 : p2 ≠ pc := ne_kn updM_same hpc
    have hk2 : ∀ o : MO, items (updM (updM (updM μ4 p1 (.lst (cutA (as.map askA) none (some 1)))) p2 (.lst (as.map askA ++ cutA (as.map askA) none (some 1)))) pc o) (.R p2) = some (as.map askA ++ cutA (as.map askA) none (some 1)) := fun o => items_R (by rw [updM_ne hpc2]; exact updM_same)
    generalize as.map askA ++ cutA (as.map askA) none (some 1) = L at hall hL hk2 hpc ⊢
    generalize updM (updM μ4 p1 (.lst (cutA (as.map askA) none (some 1)))) p2 (.lst L) = μ5 at hk2 ⊢
    refine comp_i (fun j acc τ μ' => ∃ (o1 o2 : Option AV), τ = [o1, o2, some (.D (prgD sw ps))] ∧ acc = (List.replicate j true).map boolA ∧ μ' = updM μ5 pc (.lst acc)) ⟨none, none, rfl, rfl, rfl⟩ ?_ ?_ ?_
    · rintro j acc τ μ' ⟨o1, o2, rfl, rfl, rfl⟩
      exact hk2 _
    · rintro j y acc τ μ' W hy ⟨o1, o2, rfl, rfl, rfl⟩ hW
      obtain ⟨⟨cs, m⟩, rfl, hcs, hm⟩ := hall y (List.mem_of_getElem? hy)
      have hj : j < L.length := (List.getElem?_eq_some_iff.mp hy).1
      refine ⟨rfl, brT rfl ⟨sw, ps, cs, m, rfl, ⟨hok, hne, hcs, hm⟩, updM_same, by rw [List.length_map, List.length_replicate]; exact small1000 (by omega), hW _ _ _ ⟨_, _, rfl, ?_, updM_updM⟩⟩⟩
      rw [List.replicate_succ', List.map_append]; rfl
    · rintro acc τ μ' ⟨o1, o2, rfl, rfl, rfl⟩
      refine opt_i updM_same (opt_i (bools_rep _) ⟨_, Sub.refl, ?_⟩)
      rw [show (List.replicate L.length true).all id = true by simp]
      exact q _
def spLaw (K : PySem.W.Frag) : Sp := fun vs H Q _ => ∃ (a : Addr) (ns : List Int), vs = [.ref a] ∧ SqL K H a (ns.map V.int) ∧ Only H ∧ ns.length ≤ 63 ∧ ∀ H', Q (.bl true) H'
theorem dk_ints {H : Hp} : ∀ (ns : List Int), DkAll K H (ns.map .int) (ns.map V.int)
  | [] => dks_nil
  | n :: ns => dks_cons dk_int (dk_ints ns)
theorem ok_law {n : Nat} (F : Fun K "law" "law" sLaw f fd) (cPo : VCal P w K mg base n "_law_pot" ["_law_script", "_law_base"] spPo) (cPr : VCal P w K mg base n "_law_program" ["_law_pot_here"] spPr) (cDr : VCal P w K mg base n "_law_draw" ["_law_pot_here", "_law_many"] spDr)
    (cRu : VCal P w K mg base n "_law_run" ["_law_program_here", "_law_choices", "_law_most"] spRp) (cRi : VCal P w K mg base n "_law_right" ["_law_program_here", "_law_choices", "_law_most"] spRi) (m_range : mg "range" = none) (m_tuple : mg "tuple" = none) (m_all : mg "all" = none) : FnOk P w K mg base CX0 (n + 1) f fd ["_law_script"] (spLaw K) := by
  refine (ok_lawV F cPo cPr cDr cRu cRi m_range m_tuple m_all).imp ?_
  rintro vs H Q E ⟨a, ns, rfl, hS, hO, hl, q⟩
  refine ⟨[.D (scrD ns)], fun _ => none, fun v _ => v = .D (.bool true), rfl, .cons ?_ .nil, (fun _ _ z => nomatch z), ⟨ns, rfl, hl, fun _ => rfl⟩, ?_⟩
  · refine dk_lst (xs := ns.map V.int) ?_ (dk_ints ns)
    rcases hS with (h | h) | h
    · rcases hO a with z | ⟨o, xs, z⟩
      · rw [z] at h; cases h
      · rw [z] at h; cases h
    · exact .inl h
    · exact .inr h
  · rintro x μ v H' _ _ rx rfl
    cases RelA.bl rx
    exact q _
end

theorem all_mk {l : PySem.W.OpenLaw} {w : World} {K : PySem.W.Frag} {h : Heap} {mg : Str → Option Value} {fa f1 f2 f3 f4 f5 f6 f7 f8 f9 f10 : Addr} (X : K.In h) (G : h.Ns mainGlobals mg) (hfa : mg "law" = some (.ref fa))
    {od1 an1 od2 an2 od3 an3 od4 an4 od5 an5 od6 an6 od7 an7 od8 an8 od9 an9 od10 an10 : Option Addr} {sl1 sl2 sl3 sl4 sl5 sl6 sl7 sl8 sl9 sl10 : Array (Option Value)} {oc1 kV1 dc1 pm1 cd1 ct1 oc2 kV2 dc2 pm2 cd2 ct2 oc3 kV3 dc3 pm3 cd3 ct3 oc4 kV4 dc4 pm4 cd4 ct4 oc5 kV5 dc5 pm5 cd5 ct5 oc6 kV6 dc6 pm6 cd6 ct6 oc7 kV7 dc7 pm7 cd7 ct7 oc8 kV8 dc8 pm8 cd8 ct8 oc9 kV9 dc9 pm9 cd9 ct9 oc10 kV10 dc10 pm10 cd10 ct10 : Value}
    {cw : Addr} {kd : Option Addr} {kn : Nat} {ks : Array (Option Value)} {q1 q2 : Tok}
    (a1 : PySem.W.nsIn K mainGlobals "word_at" = some (some (.ref f1))) (l1 : K.lookup f1 = some ⟨oc1, od1, .func (PySem.W.fnOf "word_at" "word_at" (defArgs sWo) (defBody sWo) (defScope sWo) .none kV1 dc1 pm1 an1 cd1 ct1), sl1⟩) (c1 : PySem.W.codeIn K cd1 "word_at" = true) (k1 : PySem.W.keepIn K (.ref f1) = true)
    (a2 : PySem.W.nsIn K mainGlobals "goings_on" = some (some (.ref f2))) (l2 : K.lookup f2 = some ⟨oc2, od2, .func (PySem.W.fnOf "goings_on" "goings_on" (defArgs sGo) (defBody sGo) (defScope sGo) .none kV2 dc2 pm2 an2 cd2 ct2), sl2⟩) (c2 : PySem.W.codeIn K cd2 "goings_on" = true) (k2 : PySem.W.keepIn K (.ref f2) = true)
    (a3 : PySem.W.nsIn K mainGlobals "run_program" = some (some (.ref f3))) (l3 : K.lookup f3 = some ⟨oc3, od3, .func (PySem.W.fnOf "run_program" "run_program" (defArgs sRp) (defBody sRp) (defScope sRp) .none kV3 dc3 pm3 an3 cd3 ct3), sl3⟩) (c3 : PySem.W.codeIn K cd3 "run_program" = true) (k3 : PySem.W.keepIn K (.ref f3) = true)
    (a4 : PySem.W.nsIn K mainGlobals "without_ends" = some (some (.ref f4))) (l4 : K.lookup f4 = some ⟨oc4, od4, .func (PySem.W.fnOf "without_ends" "without_ends" (defArgs sWe) (defBody sWe) (defScope sWe) .none kV4 dc4 pm4 an4 cd4 ct4), sl4⟩) (c4 : PySem.W.codeIn K cd4 "without_ends" = true) (k4 : PySem.W.keepIn K (.ref f4) = true)
    (a5 : PySem.W.nsIn K mainGlobals "_law_pot" = some (some (.ref f5))) (l5 : K.lookup f5 = some ⟨oc5, od5, .func (PySem.W.fnOf "_law_pot" "_law_pot" (defArgs sPo) (defBody sPo) (defScope sPo) .none kV5 dc5 pm5 an5 cd5 ct5), sl5⟩) (c5 : PySem.W.codeIn K cd5 "_law_pot" = true) (k5 : PySem.W.keepIn K (.ref f5) = true)
    (a6 : PySem.W.nsIn K mainGlobals "_law_draw" = some (some (.ref f6))) (l6 : K.lookup f6 = some ⟨oc6, od6, .func (PySem.W.fnOf "_law_draw" "_law_draw" (defArgs sDr) (defBody sDr) (defScope sDr) .none kV6 dc6 pm6 an6 cd6 ct6), sl6⟩) (c6 : PySem.W.codeIn K cd6 "_law_draw" = true) (k6 : PySem.W.keepIn K (.ref f6) = true)
    (a7 : PySem.W.nsIn K mainGlobals "_law_program" = some (some (.ref f7))) (l7 : K.lookup f7 = some ⟨oc7, od7, .func (PySem.W.fnOf "_law_program" "_law_program" (defArgs sPr) (defBody sPr) (defScope sPr) .none kV7 dc7 pm7 an7 cd7 ct7), sl7⟩) (c7 : PySem.W.codeIn K cd7 "_law_program" = true) (k7 : PySem.W.keepIn K (.ref f7) = true)
    (a8 : PySem.W.nsIn K mainGlobals "_law_run" = some (some (.ref f8))) (l8 : K.lookup f8 = some ⟨oc8, od8, .func (PySem.W.fnOf "_law_run" "_law_run" (defArgs sRu) (defBody sRu) (defScope sRu) .none kV8 dc8 pm8 an8 cd8 ct8), sl8⟩) (c8 : PySem.W.codeIn K cd8 "_law_run" = true) (k8 : PySem.W.keepIn K (.ref f8) = true)
    (a9 : PySem.W.nsIn K mainGlobals "_law_right" = some (some (.ref f9))) (l9 : K.lookup f9 = some ⟨oc9, od9, .func (PySem.W.fnOf "_law_right" "_law_right" (defArgs sRi) (defBody sRi) (defScope sRi) .none kV9 dc9 pm9 an9 cd9 ct9), sl9⟩) (c9 : PySem.W.codeIn K cd9 "_law_right" = true) (k9 : PySem.W.keepIn K (.ref f9) = true)
    (a10 : PySem.W.nsIn K mainGlobals "law" = some (some (.ref f10))) (l10 : K.lookup f10 = some ⟨oc10, od10, .func (PySem.W.fnOf "law" "law" (defArgs sLaw) (defBody sLaw) (defScope sLaw) .none kV10 dc10 pm10 an10 cd10 ct10), sl10⟩) (c10 : PySem.W.codeIn K cd10 "law" = true) (k10 : PySem.W.keepIn K (.ref f10) = true)
    (z_len : PySem.W.nsIn K mainGlobals "len" = some none)
    (z_range : PySem.W.nsIn K mainGlobals "range" = some none)
    (z_tuple : PySem.W.nsIn K mainGlobals "tuple" = some none)
    (z_isinstance : PySem.W.nsIn K mainGlobals "isinstance" = some none)
    (z_str : PySem.W.nsIn K mainGlobals "str" = some none)
    (z_int : PySem.W.nsIn K mainGlobals "int" = some none)
    (z_bool : PySem.W.nsIn K mainGlobals "bool" = some none)
    (z_all : PySem.W.nsIn K mainGlobals "all" = some none)
    (y1 : PySem.W.nsIn K mainGlobals "CHOOSING_WORDS" = some (some (.ref cw))) (y2 : K.lookup cw = some ⟨.type "tuple", kd, .seq #[.str "ask" q1, .str "chance" q2] kn, ks⟩) :
    ∃ fd : FuncData, (∀ (s : Shared) (v : Value), BindsTo s fd ⟨[v], []⟩ [("_law_script", v)]) ∧ ∀ base : Heap, K.In base → base.Ns mainGlobals mg → FnOk l.prog w K mg base CX0 65 fa fd ["_law_script"] (spLaw K) := by
  have e := hfa.symm.trans (PySem.W.mg_of X G a10)
  cases e
  have F1 := fun_mk (st := sWo) l1 c1 k1
  have F2 := fun_mk (st := sGo) l2 c2 k2
  have F3 := fun_mk (st := sRp) l3 c3 k3
  have F4 := fun_mk (st := sWe) l4 c4 k4
  have F5 := fun_mk (st := sPo) l5 c5 k5
  have F6 := fun_mk (st := sDr) l6 c6 k6
  have F7 := fun_mk (st := sPr) l7 c7 k7
  have F8 := fun_mk (st := sRu) l8 c8 k8
  have F9 := fun_mk (st := sRi) l9 c9 k9
  have F10 := fun_mk (st := sLaw) l10 c10 k10
  have b1 := F1.binds (ps := ["program", "point"]) fun _ _ _ _ _ _ us hl => match us, hl with | [_, _], _ => rfl
  have b2 := F2.binds (ps := ["program", "answer", "point"]) fun _ _ _ _ _ _ us hl => match us, hl with | [_, _, _], _ => rfl
  have b3 := F3.binds (ps := ["program", "choices", "most"]) fun _ _ _ _ _ _ us hl => match us, hl with | [_, _, _], _ => rfl
  have b4 := F4.binds (ps := ["program", "pile"]) fun _ _ _ _ _ _ us hl => match us, hl with | [_, _], _ => rfl
  have b5 := F5.binds (ps := ["_law_script", "_law_base"]) fun _ _ _ _ _ _ us hl => match us, hl with | [_, _], _ => rfl
  have b6 := F6.binds (ps := ["_law_pot_here", "_law_many"]) fun _ _ _ _ _ _ us hl => match us, hl with | [_, _], _ => rfl
  have b7 := F7.binds (ps := ["_law_pot_here"]) fun _ _ _ _ _ _ us hl => match us, hl with | [_], _ => rfl
  have b8 := F8.binds (ps := ["_law_program_here", "_law_choices", "_law_most"]) fun _ _ _ _ _ _ us hl => match us, hl with | [_, _, _], _ => rfl
  have b9 := F9.binds (ps := ["_law_program_here", "_law_choices", "_law_most"]) fun _ _ _ _ _ _ us hl => match us, hl with | [_, _, _], _ => rfl
  have m_len := PySem.W.mg_none_of X G z_len
  have m_range := PySem.W.mg_none_of X G z_range
  have m_tuple := PySem.W.mg_none_of X G z_tuple
  have m_isinstance := PySem.W.mg_none_of X G z_isinstance
  have m_str := PySem.W.mg_none_of X G z_str
  have m_int := PySem.W.mg_none_of X G z_int
  have m_bool := PySem.W.mg_none_of X G z_bool
  have m_all := PySem.W.mg_none_of X G z_all
  have hCW : ∀ H, Dk K H (.tuple [.str "ask", .str "chance"]) (.ref cw) := fun H => dk_tup (xs := [.str "ask", .str "chance"]) (.inr ⟨_, _, kn, y2, rfl, rfl, (show 2 ≤ sizeLine by decide), .cons ⟨q1, rfl⟩ (.cons ⟨q2, rfl⟩ .nil)⟩) (dks_cons dk_str (dks_cons dk_str dks_nil))
  refine ⟨PySem.W.fnOf "law" "law" (defArgs sLaw) (defBody sLaw) (defScope sLaw) .none kV10 dc10 pm10 an10 cd10 ct10, fun s v => .of_eq rfl, fun base _ _ => ?_⟩
  have g1 := ok_wo (P := l.prog) (w := w) (mg := mg) (base := base) (n := 0) F1 m_len
  have q1 : Cal l.prog w K mg base 1 "word_at" ["program", "point"] _ := ⟨_, _, g1, b1, k1, PySem.W.mg_of X G a1⟩
  have g2 := ok_go (P := l.prog) (w := w) (mg := mg) (base := base) (n := 1) F2 (q1.mono (by decide))
  have q2 : Cal l.prog w K mg base 2 "goings_on" ["program", "answer", "point"] _ := ⟨_, _, g2, b2, k2, PySem.W.mg_of X G a2⟩
  have g4 := ok_we (P := l.prog) (w := w) (mg := mg) (base := base) (n := 1) F4 (q1.mono (by decide)) m_len
  have q4 : Cal l.prog w K mg base 2 "without_ends" ["program", "pile"] _ := ⟨_, _, g4, b4, k4, PySem.W.mg_of X G a4⟩
  have g3 := ok_rp (P := l.prog) (w := w) (mg := mg) (base := base) (n := 2) F3 (q4.mono (by decide)) (q1.mono (by decide)) (q2.mono (by decide)) m_len (PySem.W.mg_of X G y1) hCW
  have q3 : Cal l.prog w K mg base 3 "run_program" ["program", "choices", "most"] _ := ⟨_, _, g3, b3, k3, PySem.W.mg_of X G a3⟩
  have g5 := ok_po (P := l.prog) (w := w) (mg := mg) (base := base) (n := 0) F5
  have q5 : Cal l.prog w K mg base 1 "_law_pot" ["_law_script", "_law_base"] _ := ⟨_, _, g5, b5, k5, PySem.W.mg_of X G a5⟩
  have g6 := ok_dr (P := l.prog) (w := w) (mg := mg) (base := base) (n := 0) F6 m_len
  have q6 : Cal l.prog w K mg base 1 "_law_draw" ["_law_pot_here", "_law_many"] _ := ⟨_, _, g6, b6, k6, PySem.W.mg_of X G a6⟩
  have g7 := ok_pr (P := l.prog) (w := w) (mg := mg) (base := base) (n := 1) F7 (q6.mono (by decide)) m_range m_len m_tuple
  have q7 : Cal l.prog w K mg base 2 "_law_program" ["_law_pot_here"] _ := ⟨_, _, g7, b7, k7, PySem.W.mg_of X G a7⟩
  have g8 := ok_ru (P := l.prog) (w := w) (mg := mg) (base := base) (n := 0) F8 m_len
  have q8 : Cal l.prog w K mg base 1 "_law_run" ["_law_program_here", "_law_choices", "_law_most"] _ := ⟨_, _, g8, b8, k8, PySem.W.mg_of X G a8⟩
  have g9 := ok_ri (P := l.prog) (w := w) (mg := mg) (base := base) (n := 3) F9 (q3.mono (by decide)) (q8.mono (by decide)) m_isinstance m_tuple m_str m_int m_bool
  have q9 : Cal l.prog w K mg base 4 "_law_right" ["_law_program_here", "_law_choices", "_law_most"] _ := ⟨_, _, g9, b9, k9, PySem.W.mg_of X G a9⟩
  have g10 := ok_law (P := l.prog) (w := w) (mg := mg) (base := base) (n := 4) F10 (q5.mono (by decide)) (q7.mono (by decide)) (q6.mono (by decide)) (q8.mono (by decide)) (q9.mono (by decide)) m_range m_tuple m_all
  exact g10.mono (by decide)
theorem walk {l : PySem.W.OpenLaw} {q : Program} {loose : List Str} {XP : (Str → Option Value) → Heap → Prop} {YP : World → Heap → Prop} {d : DefRec} {K : Params → PySem.W.Frag} (hn : l.most = some 63) (hdf : d.params.defaults = [])
    (hY : ∀ (w : World) (h : Heap), YP w h → (K w.params).In h)
    (F : ∀ (w : World) (mg : Str → Option Value) (fa : Addr) (h : Heap), (K w.params).In h → h.Ns mainGlobals mg → mg d.name = some (.ref fa) →
      ∃ fd : FuncData, (∀ (s : Shared) (u : Value), BindsTo s fd ⟨[u], []⟩ [("_law_script", u)]) ∧ ∀ base : Heap, (K w.params).In base → base.Ns mainGlobals mg → FnOk l.prog w (K w.params) mg base CX0 65 fa fd ["_law_script"] (spLaw (K w.params))) :
    PySem.W.WalkO q loose XP YP l.row.toRowW d [] (fun f vs => PySem.call f vs) :=
  L2.walk_of (n := 63) (k := 65) (x := "_law_script") (CX := fun _ => CX0) (sp := fun w => spLaw (K w.params)) hn (by decide) hdf ⟨rfl, by decide, by decide, rfl⟩ hY F (fun _ _ a ns hl hO hS => ⟨a, ns, rfl, hS, hO, hl, fun _ => rfl⟩) fun _ _ _ _ _ z => z
end K53
open PySem PySem.W PyProof.Rows
set_option maxRecDepth 100000 in
set_option maxHeartbeats 0 in
theorem PySem.Challenge.cw_pileduel_k53_runs_of_programs_holds : PySem.Challenge.rw_pileduel_k53_runs_of_programs.Holds := by
  w_on; o_law; k_head; (case hw => w_witness2)
  k_fill
  refine K53.walk (l := PySem.Challenge.rw_pileduel_k53_runs_of_programs) rfl rfl (fun w h Y => PySem.W.kIn_of Y) ?F
  case F =>
    intro w mg fa h KX G hmg
    refine' K53.all_mk KX G hmg ?a1 ?l1 ?c1 ?k1 ?a2 ?l2 ?c2 ?k2 ?a3 ?l3 ?c3 ?k3 ?a4 ?l4 ?c4 ?k4 ?a5 ?l5 ?c5 ?k5 ?a6 ?l6 ?c6 ?k6 ?a7 ?l7 ?c7 ?k7 ?a8 ?l8 ?c8 ?k8 ?a9 ?l9 ?c9 ?k9 ?a10 ?l10 ?c10 ?k10 ?z_len ?z_range ?z_tuple ?z_isinstance ?z_str ?z_int ?z_bool ?z_all ?y1 ?y2
    (case a1 => k_is)
    (case l1 => k_is)
    (case c1 => k_is)
    (case k1 => k_is)
    (case a2 => k_is)
    (case l2 => k_is)
    (case c2 => k_is)
    (case k2 => k_is)
    (case a3 => k_is)
    (case l3 => k_is)
    (case c3 => k_is)
    (case k3 => k_is)
    (case a4 => k_is)
    (case l4 => k_is)
    (case c4 => k_is)
    (case k4 => k_is)
    (case a5 => k_is)
    (case l5 => k_is)
    (case c5 => k_is)
    (case k5 => k_is)
    (case a6 => k_is)
    (case l6 => k_is)
    (case c6 => k_is)
    (case k6 => k_is)
    (case a7 => k_is)
    (case l7 => k_is)
    (case c7 => k_is)
    (case k7 => k_is)
    (case a8 => k_is)
    (case l8 => k_is)
    (case c8 => k_is)
    (case k8 => k_is)
    (case a9 => k_is)
    (case l9 => k_is)
    (case c9 => k_is)
    (case k9 => k_is)
    (case a10 => k_is)
    (case l10 => k_is)
    (case c10 => k_is)
    (case k10 => k_is)
    (case z_len => k_is)
    (case z_range => k_is)
    (case z_tuple => k_is)
    (case z_isinstance => k_is)
    (case z_str => k_is)
    (case z_int => k_is)
    (case z_bool => k_is)
    (case z_all => k_is)
    (case y1 => k_is)
    (case y2 => k_is)
